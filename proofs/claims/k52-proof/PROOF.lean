import PyProof.Rows.All
import Wide.All
import OpenK.AllK
import Wide.FinOn
import Lean
import PyProof.EqAt
import PyProof.EqKinds
import PyProof.TupleCall
import PyProof.NeKinds
import PyProof.Draws
import PyProof.SumWalkG
import PyProof.ListRange
import PyProof.ZipIter
import PyProof.Rows.SortRev
import KE.IntBitsLaws
import PyProof.ListMulRoad
import PyProof.TupleKey
import PyProof.ReprRoads
import PyProof.ReprLen
import PyProof.CallStr
import PyProof.Rows.RuleIs
import PyProof.StrLawsRepr
import PyProof.Rows.SortShellK
import KE.KSortTup
import PyProof.Rows.SeqMore2
import KE.KRevIter
import PyProof.RulesTry
import PyProof.StationsW
import PyProof.RulesAs
import PyProof.NsDelKeeps
import PyProof.Rows.Own
import PyProof.Rows.Catch
import KE.KTryMore
import KE.KIsNot
import OpenK.KDescr
import PyProof.ExcAttrAll.ValueError
import PyProof.FString
import PyProof.InstStoreFacts
import OpenK.KMake
import KE.KItemsList
import KE.KPairComp
import PyProof.DictWalks
import KE.KDictSum
import PyProof.Rows.TupAdd
import PyProof.Rows.StrJoin2
import PySem.Challenge.RW_fewreels_k52_whole_levels_come_to_one_ro
set_option Elab.async false
set_option linter.all false
set_option maxRecDepth 100000
namespace L2
open PySem PySem.Spec PyProof.Rows
abbrev Key:=Sum Int Str
def keyIs:Key->Value->Bool
  | .inl k,v=>Value.isInt k v
  | .inr x,v=>Value.isStrOf x v
def keyH (w:World):Key->Int
  | .inl k=>hashInt k
  | .inr x=>hashStr w x
theorem keyIs_shape:∀ {k:Key}{v:Value},keyIs k v=true->(∃ i t,k=Sum.inl i/\v=Value.int i t)∨(∃ x t,k=Sum.inr x/\v=Value.str x t)
  | .inl i,v,h=>by
    obtain⟨t,e⟩:=Value.isInt_shape (k:=i) (v:=v) h
    exact .inl ⟨i,t,rfl,e⟩
  | .inr x,v,h=>by
    obtain⟨t,e⟩:=Value.isStrOf_shape (x:=x) (v:=v) h
    exact .inr ⟨x,t,rfl,e⟩
theorem key_ll (a b:Int):decide ((Sum.inl a:Key)=Sum.inl b)=(a == b):=by
  by_cases e:a=b
  · subst e; simp
  · have h:¬ (Sum.inl a:Key)=Sum.inl b:=fun q=>e (Sum.inl.inj q)
    rw[decide_eq_false h]
    exact (beq_eq_false_iff_ne.mpr e).symm
theorem key_rr (a b:Str):decide ((Sum.inr a:Key)=Sum.inr b)=decide (a=b):=by
  by_cases e:a=b
  · subst e; simp
  · have h:¬ (Sum.inr a:Key)=Sum.inr b:=fun q=>e (Sum.inr.inj q)
    rw[decide_eq_false h,decide_eq_false e]
theorem key_lr (a:Int) (b:Str):decide ((Sum.inl a:Key)=Sum.inr b)=false:=decide_eq_false (fun q=>nomatch q)
theorem key_rl (a:Str) (b:Int):decide ((Sum.inr a:Key)=Sum.inl b)=false:=decide_eq_false (fun q=>nomatch q)
def mixKind (prog:Program) (w:World):PySem.KeyKind prog w Key where
  is:=keyIs
  hash:=keyH w
  inj:=fun v a b ha hb=>by
    rcases keyIs_shape ha with ⟨i,t,rfl,rfl⟩ | ⟨x,t,rfl,rfl⟩
    · rcases keyIs_shape hb with ⟨j,u,rfl,e⟩ | ⟨y,u,rfl,e⟩
      · injection e with e1 _; rw[e1]
      · exact nomatch e
    · rcases keyIs_shape hb with ⟨j,u,rfl,e⟩ | ⟨y,u,rfl,e⟩
      · exact nomatch e
      · injection e with e1 _; rw[e1]
  byValue:=fun k v h=>by
    rcases keyIs_shape h with ⟨i,t,rfl,rfl⟩ | ⟨x,t,rfl,rfl⟩ <;> rfl
  pyHash:=fun hv h=>by
    rcases keyIs_shape hv with ⟨i,t,rfl,rfl⟩ | ⟨x,t,rfl,rfl⟩
    · exact wpAny_pyHash_int h
    · exact wpAny_pyHash_str h
  eqBool:=fun hu hv h=>by
    rcases keyIs_shape hu with ⟨i,t,rfl,rfl⟩ | ⟨x,t,rfl,rfl⟩
    · rcases keyIs_shape hv with ⟨j,u,rfl,rfl⟩ | ⟨y,u,rfl,rfl⟩
      · rw[key_ll] at h; exact wpAny_eqBool_int h
      · rw[key_lr] at h; exact SeqAt.EqAt.int_str i t y u _ _ _ _ h
    · rcases keyIs_shape hv with ⟨j,u,rfl,rfl⟩ | ⟨y,u,rfl,rfl⟩
      · rw[key_rl] at h; exact SeqAt.EqAt.str_int x t j u _ _ _ _ h
      · rw[key_rr] at h; exact wpAny_eqBool_str h
  «strs»:=fun k x t v h=>by
    rcases keyIs_shape h with ⟨i,u,rfl,e⟩ | ⟨y,u,rfl,e⟩
    · exact nomatch e
    · injection e with e1 _
      subst e1
      cases v <;> rfl
end L2
namespace L2
open PySem PySem.Spec PyProof.Rows
inductive V where
  | non | bl (b:Bool) | int (i:Int) | str (x:Str) | byt (b:Array UInt8) | flt (b:UInt64) | ref (a:Addr) | ty (n:String)
  deriving DecidableEq
def RelV:V->Value->Prop
  | .non,u=>u=Value.none
  | .bl b,u=>u=Value.bool b
  | .int i,u=>∃ t,u=Value.int i t
  | .str x,u=>∃ t,u=Value.str x t
  | .byt b,u=>∃ t,u=Value.bytes b t
  | .flt b,u=>∃ t,u=Value.float b t
  | .ref a,u=>u=Value.ref a
  | .ty n,u=>u=Value.type n
abbrev Vals:List V->List Value->Prop:=Paired RelV
theorem Vals.length {xs:List V}{us:List Value} (r:Vals xs us):xs.length=us.length:=Paired.length r
theorem Vals.get:∀ {xs:List V}{us:List Value}{i:Nat}{x:V},Vals xs us->xs[i]?=some x->∃ u,us[i]?=some u/\RelV x u
  | _,_,_,_,.nil,e=>by simp at e
  | _,_,0,_,.cons r _,e=>by simp at e; subst e; exact⟨_,rfl,r⟩
  | _,_,i+1,x,.cons _ t,e=>by
    obtain⟨u,h1,h2⟩:=Vals.get (i:=i) (x:=x) t (by simpa using e)
    exact⟨u,by simpa using h1,h2⟩
theorem Vals.set {x:V}{u:Value} (r:RelV x u):∀ {xs:List V}{us:List Value} (i:Nat),Vals xs us->Vals (xs.set i x) (us.set i u)
  | _,_,_,.nil=>.nil
  | _,_,0,.cons _ t=>.cons r t
  | _,_,i+1,.cons q t=>.cons q (Vals.set r i t)
theorem Vals.append:∀ {xs ys:List V}{us ws:List Value},Vals xs us->Vals ys ws->Vals (xs++ys) (us++ws)
  | _,_,_,_,.nil,s=>s
  | _,_,_,_,.cons r t,s=>.cons r (Vals.append t s)
theorem Vals.take:∀ {xs:List V}{us:List Value} (n:Nat),Vals xs us->Vals (xs.take n) (us.take n)
  | _,_,0,_=>.nil
  | _,_,_+1,.nil=>.nil
  | _,_,n+1,.cons r t=>.cons r (Vals.take n t)
theorem Vals.drop:∀ {xs:List V}{us:List Value} (n:Nat),Vals xs us->Vals (xs.drop n) (us.drop n)
  | _,_,0,r=>r
  | _,_,_+1,.nil=>.nil
  | _,_,n+1,.cons _ t=>Vals.drop n t
theorem Vals.none_of:∀ {xs:List V}{us:List Value}{i:Nat},Vals xs us->xs[i]?=none->us[i]?=none:=fun {xs us i} r e=>by
  have h1:=r.length
  have h2:xs.length<=i:=List.getElem?_eq_none_iff.mp e
  exact List.getElem?_eq_none_iff.mpr (by omega)
def RelO:Option V->Option Value->Prop
  | some v,some u=>RelV v u
  | none,none=>True
  | _,_=>False
def KV {κ:Type}:List (κ × V)->List (κ × Value)->Prop:=Paired fun (p:κ × V) (q:κ × Value)=>p.1=q.1/\RelV p.2 q.2
def kV:Key->V
  | .inl i=>.int i
  | .inr x=>.str x
inductive HO where
  | lst (xs:List V)
  | tup (xs:List V)
  | dK (kvs:List (Key × V)) | dT (kvs:List (List Key × V))
  | set (S:Int->Bool) (n:Nat)
  | ins (C dx:Addr) (fs:List (Str × V))
  | own (x:Addr)
  | xd (fs:List (Str × V))
  | met (f x:Addr)
  | rng (lo hi:Int)
  | frz (o:Obj) (u:HO)
  | tbl (ps:Array Value)
  | ext (φ:Heap->Prop)
abbrev Hp:=Addr->Option HO
def upd (H:Hp) (a:Addr) (o:HO):Hp:=fun b=>if b=a then some o else H b
theorem upd_same {H:Hp}{a:Addr}{o:HO}:upd H a o a=some o:=by unfold upd; rw[if_pos rfl]
theorem upd_ne {H:Hp}{a b:Addr}{o:HO} (h:b≠a):upd H a o b=H b:=by unfold upd; rw[if_neg h]
theorem ne_of_none {H:Hp}{a b:Addr}{o:HO} (h:H a=some o) (h':H b=none):a≠b:=by
  intro e; subst e; rw[h] at h'; cases h'
def IsTupD (h:Heap) (a:Addr) (items:Array Value):Prop:=∃ o,h.get? a=some o/\o.cls=.type "tuple"/\o.dict=none/\∃ n,o.data=.seq items n
theorem IsTupD.tup {h:Heap}{a:Addr}{items:Array Value} (x:IsTupD h a items):IsTup h a items:=let ⟨o,e,c,_,d⟩:=x; ⟨o,e,c,d⟩
theorem IsTupD.new (h:Heap) (items:Array Value):IsTupD (h.push { cls:=.type "tuple",data:=.seq items }) h.objs.size items:=⟨_,Heap.get?_push_size _ rfl,rfl,rfl,_,rfl⟩
section
variable (P:Program) (w:World)
def ObjOk (H:Hp) (h:Heap) (a:Addr):HO->Prop
  | .lst xs=>xs.length<=sizeLine/\∃ (its:List Value) (n:Nat),Vals xs its/\h.get? a=some { cls:=.type "list",data:=.seq its.toArray n }
  | .tup xs=>xs.length<=sizeLine/\∃ its:List Value,Vals xs its/\IsTupD h a its.toArray
  | .dK kvs=>kvs.length<=sizeLine/\(a == sysModules)=false/\∃ vs,KV kvs vs/\h.DictOf (mixKind P w) a vs
  | .dT kvs => kvs.length ≤ sizeLine ∧ (a == sysModules) = false ∧ ∃ xs : List (List Key × Addr × Value),
      Paired (fun (p:List Key × V) (q:List Key × Addr × Value)=>p.1=q.1/\H q.2.1=some (.tup (p.1.map kV))/\RelV p.2 q.2.2) kvs xs /\
      ∃ o es ep,h.get? a=some o/\o.ExactDict/\o.data=.dict es ep/\es.toList=xs.map (entryOfKey (tupleKind (mixKind P w)))/\(xs.map (·.1)).Nodup
  | .set S n=>h.SetOf (intKind P w) a S n
  | .ins C dx fs => H dx = some (.own a) ∧ fs.length ≤ 1000 ∧ dx ≠ a ∧ h.get? a = some (PySem.W.instObj C dx) ∧
      ∃ mA,h.Ns1 dx mA/\(∀ f,RelO (fs.lookup f) (mA f))/\PySem.Within mA (fs.map (·.1))
  | .own _=>∃ o,h.get? a=some o
  | .xd fs=>∃ mA,h.Ns1 a mA/\∀ f,RelO (fs.lookup f) (mA f)
  | .rng lo hi=>∃ t u v,h.get? a=some { cls:=.type "range",data:=.fields #[.int lo t,.int hi u,.int 1 v] }
  | .frz o u=>h.get? a=some o/\ObjOk H h a u
  | .tbl ps=>h.get? a=some { cls:=.none,data:=.fields ps }
  | .met f x=>h.get? a=some (PySem.W.methodObj (.ref f) (.ref x))
  | .ext φ=>φ h/\(∃ o,h.get? a=some o)/\∀ h1 h2:Heap,φ h1->(∀ o,h1.get? a=some o->h2.get? a=some o)->φ h2
def HOk (H:Hp) (h:Heap):Prop:=∀ a o,H a=some o->ObjOk P w H h a o
end
section
variable {P:Program}{w:World}{H H':Hp}{h h':Heap}{a:Addr}{o:HO}
theorem ObjOk.lt (x:ObjOk P w H h a o):a<h.objs.size:=by
  cases o with
  | lst xs=>obtain⟨_,_,_,_,e⟩:=x; exact Heap.lt_size e
  | tup xs=>obtain⟨_,_,_,p⟩:=x; exact p.tup.lt
  | dK kvs=>obtain⟨_,_,_,_,o,_,_,e,_⟩:=x; exact Heap.lt_size e
  | dT kvs=>obtain⟨_,_,_,_,o,_,_,e,_⟩:=x; exact Heap.lt_size e
  | set S n=>obtain⟨o,_,_,_,e,_⟩:=x; exact Heap.lt_size e
  | ins C dx fs=>obtain⟨_,_,_,e,_⟩:=x; exact Heap.lt_size e
  | own y=>obtain⟨_,e⟩:=x; exact Heap.lt_size e
  | xd fs=>obtain⟨_,⟨_,_,_,e,_⟩,_⟩:=x; exact Heap.lt_size e
  | rng lo hi=>obtain⟨_,_,_,e⟩:=x; exact Heap.lt_size e
  | frz ob u=>obtain⟨e,_⟩:=x; exact Heap.lt_size e
  | tbl ps=>exact Heap.lt_size (show h.get? a=some _ from x)
  | met f y=>exact Heap.lt_size (show h.get? a=some _ from x)
  | ext φ=>obtain⟨_,⟨_,e⟩,_⟩:=x; exact Heap.lt_size e
theorem Paired.mapP {α β:Type}{F G:α->β->Prop}:∀ {l₁:List α}{l₂:List β},Paired F l₁ l₂->(∀ a b,F a b->G a b)->Paired G l₁ l₂
  | _,_,.nil,_=>.nil
  | _,_,.cons r t,f=>.cons (f _ _ r) (Paired.mapP t f)
theorem ObjOk.stay (x : ObjOk P w H h a o) (k : ∀ b u, (b = a ∨ H b = some (.own a)) → h.get? b = some u → h'.get? b = some u)
    (ho:∀ b,H b=some (.own a)->H' b=some (.own a)) (ht:∀ b xs,H b=some (.tup xs)->H' b=some (.tup xs)):ObjOk P w H' h' a o:=by
  induction o with
  | lst xs=>obtain⟨z,its,n,r,e⟩:=x; exact⟨z,its,n,r,k _ _ (.inl rfl) e⟩
  | tup xs=>obtain⟨z,its,r,ob,e,c⟩:=x; exact⟨z,its,r,ob,k _ _ (.inl rfl) e,c⟩
  | dK kvs=>obtain⟨z,y,vs,r,ob,es,ep,e,c⟩:=x; exact⟨z,y,vs,r,ob,es,ep,k _ _ (.inl rfl) e,c⟩
  | dT kvs=>
    obtain⟨z,y,xs,r,ob,es,ep,e,c⟩:=x
    exact⟨z,y,xs,Paired.mapP r fun p q z=>⟨z.1,ht _ _ z.2.1,z.2.2⟩,ob,es,ep,k _ _ (.inl rfl) e,c⟩
  | set S n=>obtain⟨ob,es,ep,t,e,c⟩:=x; exact⟨ob,es,ep,t,k _ _ (.inl rfl) e,c⟩
  | ins C dx fs=>
    obtain⟨d,z,ne,e,mA,⟨od,es,ep,e2,c⟩,r⟩:=x
    exact⟨ho _ d,z,ne,k _ _ (.inl rfl) e,mA,⟨od,es,ep,k _ _ (.inr d) e2,c⟩,r⟩
  | own y=>obtain⟨ob,e⟩:=x; exact⟨ob,k _ _ (.inl rfl) e⟩
  | xd fs=>obtain⟨mA,⟨od,es,ep,e,c⟩,r⟩:=x; exact⟨mA,⟨od,es,ep,k _ _ (.inl rfl) e,c⟩,r⟩
  | rng lo hi=>obtain⟨t,u,v,e⟩:=x; exact⟨t,u,v,k _ _ (.inl rfl) e⟩
  | frz ob u ih=>obtain⟨e,q⟩:=x; exact⟨k _ _ (.inl rfl) e,ih q⟩
  | tbl ps=>
    have e:h.get? a=some { cls:=.none,data:=.fields ps }:=x
    show h'.get? a=some { cls:=.none,data:=.fields ps }
    exact k a _ (.inl rfl) e
  | met f y=>
    have e:h.get? a=some (PySem.W.methodObj (.ref f) (.ref y)):=x
    show h'.get? a=some (PySem.W.methodObj (.ref f) (.ref y))
    exact k a _ (.inl rfl) e
  | ext φ=>obtain⟨p,⟨o,e⟩,st⟩:=x; exact⟨st _ _ p fun o q=>k _ _ (.inl rfl) q,⟨o,k _ _ (.inl rfl) e⟩,st⟩
theorem HOk.lt (x:HOk P w H h) (e:H a=some o):a<h.objs.size:=(x a o e).lt
theorem HOk.fresh (x:HOk P w H h) (e:h.objs.size<=a):H a=none:=by
  cases q:H a with
  | none=>rfl
  | some u=>exact absurd (Nat.lt_of_lt_of_le (x.lt q) e) (Nat.lt_irrefl _)
theorem HOk.kept (x:HOk P w H h) (k:∀ b u,h.get? b=some u->h'.get? b=some u):HOk P w H h':=fun a o e=>
  (x a o e).stay (fun b u _ q=>k b u q) (fun _ q=>q) fun _ _ q=>q
theorem HOk.laid (x:HOk P w H h) (k:∀ b u,h.get? b=some u->h'.get? b=some u) (hp:h.objs.size<=a) (new:ObjOk P w (upd H a o) h' a o):HOk P w (upd H a o) h':=fun b u e=>by
  have hn:=x.fresh hp
  by_cases hb:b=a
  · subst hb; rw[upd_same] at e; cases e; exact new
  · rw[upd_ne hb] at e
    exact (x b u e).stay (fun c v _ q=>k c v q) (fun c q=>by rw[upd_ne (ne_of_none q hn)]; exact q) fun c xs q=>by rw[upd_ne (ne_of_none q hn)]; exact q
end
def Rd (H:Hp) (a:Addr) (u:HO):Prop:=H a=some u∨∃ o,H a=some (.frz o u)
theorem Rd.ok {P:Program}{w:World}{H:Hp}{h:Heap}{a:Addr}{u:HO} (r:Rd H a u) (x:HOk P w H h):ObjOk P w H h a u:=by
  rcases r with r | ⟨o,r⟩
  · exact x a u r
  · obtain⟨_,q⟩:=x a _ r
    exact q
def Mut:Option HO->Prop
  | some (.lst _)=>True
  | some (.dK _)=>True
  | some (.dT _)=>True
  | some (.set _ _)=>True
  | some (.ins _ _ _)=>True
  | some (.ext _)=>True
  | _=>False
section
variable {P:Program}{w:World}{H:Hp}{h h':Heap}{x e:Addr}{o':HO}
theorem HOk.write (ok : HOk P w H h) (mu : Mut (H x)) (he : e = x ∨ H e = some (.own x)) (k : ∀ b u, b ≠ e → h.get? b = some u → h'.get? b = some u) (heo : ∃ u, h'.get? e = some u)
    (new:ObjOk P w (upd H x o') h' x o'):HOk P w (upd H x o') h':=fun b u q=>by
  have nown:∀ c y,H c=some (.own y)->c≠x:=fun c y r z=>by subst z; rw[r] at mu; exact mu
  have ntup:∀ c xs,H c=some (.tup xs)->c≠x:=fun c xs r z=>by subst z; rw[r] at mu; exact mu
  by_cases hb:b=x
  · subst hb; rw[upd_same] at q; cases q; exact new
  · rw[upd_ne hb] at q
    by_cases hbe:b=e
    · have q' : H b = some (.own x) := by
        rcases he with z | z
        · exact absurd (hbe.trans z) hb
        · rw[hbe]; exact z
      rw[q] at q'; cases q'
      obtain⟨v,hv⟩:=heo
      exact⟨v,by rw[hbe]; exact hv⟩
    · refine (ok b u q).stay (fun c v hc r=>k c v ?_ r) (fun c r=>by rw[upd_ne (nown c b r)]; exact r) fun c xs r=>by rw[upd_ne (ntup c xs r)]; exact r
      rcases hc with rfl | hc
      · exact hbe
      · rintro rfl
        rcases he with z | z
        · exact nown c b hc z
        · rw[hc] at z; cases z; exact hb rfl
end
structure Un (fs ex:List Addr) (H H':Hp) (h h':Heap):Prop where
  keep:∀ b o,h.get? b=some o->H b=none->b ∉ fs->b ∉ ex->h'.get? b=some o
  slot:∀ b o,h.get? b=some o->H b=none->b∈fs->b ∉ ex->∃ sl,h'.get? b=some { o with slots:=sl }
  free:∀ b o,h.get? b=some o->H b=none->b ∉ ex->H' b=none
  there:∀ b o,h.get? b=some o->b ∉ ex->∃ o',h'.get? b=some o'
  tups:∀ b xs,H b=some (.tup xs)->H' b=some (.tup xs)
  frzs:∀ b o u,H b=some (.frz o u)->H' b=some (.frz o u)
  tbls:∀ b ps,H b=some (.tbl ps)->∃ more,H' b=some (.tbl (ps++more))
section
variable {fs fs' ex ex':List Addr}{H H1 H2:Hp}{h h1 h2 h':Heap}{a x e:Addr}{o:HO}
theorem Un.any (u:Un fs ex H H1 h h1) {b:Addr}{ob:Obj} (q:h.get? b=some ob) (n:H b=none) (hx:b ∉ ex):∃ sl,h1.get? b=some { ob with slots:=sl }:=by
  by_cases hb:b∈fs
  · exact u.slot b ob q n hb hx
  · exact⟨ob.slots,u.keep b ob q n hb hx⟩
theorem Un.kept (k:∀ b u,h.get? b=some u->h'.get? b=some u):Un fs ex H H h h' :=
  ⟨fun b ob q _ _ _=>k b ob q,fun b ob q _ _ _=>⟨ob.slots,k b ob q⟩,fun _ _ _ n _=>n,fun b ob q _=>⟨ob,k b ob q⟩,fun _ _ q=>q,fun _ _ _ q=>q,fun _ ps q=>⟨#[],by rw[q]; simp⟩⟩
theorem Un.refl:Un fs ex H H h h:=Un.kept fun _ _ q=>q
theorem Un.laid (k:∀ b u,h.get? b=some u->h'.get? b=some u) (hp:h.objs.size<=a) (hn:H a=none):Un fs ex H (upd H a o) h h' where
  keep:=fun b u q _ _ _=>k b u q
  slot:=fun b u q _ _ _=>⟨u.slots,k b u q⟩
  free:=fun b u q n _=>by rw[upd_ne (Nat.ne_of_lt (Nat.lt_of_lt_of_le (Heap.lt_size q) hp))]; exact n
  there:=fun b u q _=>⟨u,k b u q⟩
  tups:=fun b xs q=>by rw[upd_ne (ne_of_none q hn)]; exact q
  frzs:=fun b u xs q=>by rw[upd_ne (ne_of_none q hn)]; exact q
  tbls:=fun b ps q=>⟨#[],by rw[upd_ne (ne_of_none q hn),q]; simp⟩
theorem Un.write (mu:Mut (H x)) (he:e=x∨H e=some (.own x)) (k:∀ b u,b≠e->h.get? b=some u->h'.get? b=some u) (heo:∃ u,h'.get? e=some u):Un fs ex H (upd H x o) h h':=by
  have hx:∀ b,H b=none->b≠x:=fun b n z=>by subst z; rw[n] at mu; exact mu
  have hb:∀ b,H b=none->b≠e:=fun b n z=>by
    subst z
    rcases he with r | r
    · exact hx b n r
    · rw[n] at r; cases r
  have hm:∀ b u,H b=some u->¬ Mut (some u)->b≠x:=fun b u q nm z=>by subst z; rw[q] at mu; exact nm mu
  refine⟨fun b u q n _ _=>k b u (hb b n) q,fun b u q n _ _=>⟨u.slots,k b u (hb b n) q⟩,fun b u q n _=>by rw[upd_ne (hx b n)]; exact n,fun b u q _=>?_,
    fun b xs q=>by rw[upd_ne (hm b _ q fun z=>z)]; exact q,fun b u xs q=>by rw[upd_ne (hm b _ q fun z=>z)]; exact q,fun b ps q=>⟨#[],by rw[upd_ne (hm b _ q fun z=>z),q]; simp⟩⟩
  by_cases hbe:b=e
  · subst hbe; exact heo
  · exact⟨u,k b u hbe q⟩
end
def trk (h:Heap) (H:Hp):List Addr:=(List.range h.objs.size).filter fun a=>(H a).isSome
def hidT (h:Heap) (H:Hp):Heap:=PySem.W.hideAll h (trk h H)
theorem hidT_size (h:Heap) (H:Hp):(hidT h H).objs.size=h.objs.size:=PySem.W.hideAll_size _ _
theorem hidT_get {h:Heap}{H:Hp}{b:Addr}{o:Obj} (e:h.get? b=some o) (n:H b=none):(hidT h H).get? b=some o :=
  PySem.W.hideAll_get _ e fun hm=>by
    have q:(H b).isSome=true:=(List.mem_filter.mp hm).2
    rw[n] at q; simp at q
theorem of_hidT {h:Heap}{H:Hp}{b:Addr}{o:Obj} (e:(hidT h H).get? b=some o):h.get? b=some o/\H b=none:=by
  have e':h.get? b=some o:=PySem.W.of_hideAll (trk h H) e
  refine⟨e',?_⟩
  cases q:H b with
  | none=>rfl
  | some x=>
    have hm:b∈trk h H:=List.mem_filter.mpr ⟨List.mem_range.mpr (Heap.lt_size e'),by simp[q]⟩
    have z:(hidT h H).get? b=none:=PySem.W.hideAll_none (trk h H) hm
    rw[z] at e; cases e
def allNews (g h:Heap) (L:Addr):List (Addr × Obj):=(List.range h.objs.size).filterMap fun a=>if a=L∨(g.get? a).isSome=true then none else (h.get? a).map fun o=>(a,o)
def rest (g h:Heap) (L d:Addr):List (Addr × Obj):=(allNews g h L).filter fun p=>decide (p.1≠d)
end L2
namespace L2
open PySem PySem.Spec PyProof.Rows
structure Mod (K:PySem.W.Frag) (mg:Str->Option Value) (base:Heap):Prop where
  kin:K.In base
  glob:base.Ns mainGlobals mg
  blt:∃ mb,base.Ns builtinsNs mb/\∀ x:Str,x≠"__name__"->mb x=bootBuiltins x
  nolimit:base.NoLimit
structure Cx where
  prog:Program
  w:World
  K:PySem.W.Frag
  mg:Str->Option Value
  base:Heap
  A:Around
  N:List Str
  s₀:Shared
  H₀:Hp
  env:Env
  outer:List Env
  stack:List Env
  ex:List Addr
  fn:Str->Bool
  calm:Bool
  pn:List (Addr × Obj)
  xe:Value->Shared->Prop
def frs (l:List Env):List Addr:=l.filterMap (·.frame)
abbrev Cx.fs (X:Cx):List Addr:=frs X.outer
def Vis (sc:Scope) (x:Str):Prop:=sc.names.lookup x=some .local ∨ sc.names.lookup x=some .cell∨sc.names.lookup x=some .free
def Loc (sc:Scope) (x:Str):Prop:=sc.names.lookup x=some .local ∨ sc.names.lookup x=some .cell
def Look (env:Env) (h:Heap) (m:Str->Option Value) (x:Str) (u:Value):Prop :=
  (env.kindOf x=some .local /\ m x=some u)∨((env.kindOf x=some .cell∨env.kindOf x=some .free)/\∃ c,env.cells.lookup x=some c/\h.IsCell c (some u))
structure Cx.Ok (X:Cx):Prop where
  mod:Mod X.K X.mg X.base
  kind:X.env.scope.kind=.function
  glob:X.env.globals=mainGlobals
  blt:X.env.builtins=builtinsNs
  above:X.s₀.heap.objs.size<=X.env.locals
  inj:∀ x y c,X.env.cells.lookup x=some c->X.env.cells.lookup y=some c->x=y
  has:∀ x,(X.env.kindOf x=some .cell∨X.env.kindOf x=some .free)->∃ c,X.env.cells.lookup x=some c
  cab:∀ x c,X.fn x=true->X.env.cells.lookup x=some c->X.s₀.heap.objs.size<=c
  hd:X.calm=true->X.A.handled=none
  frames:X.A.frames=some X.stack
  stk:X.stack=X.outer∨(X.stack=X.env::X.outer/\X.env.frame=some X.env.locals)
  exf:∀ b∈X.ex,b≠X.env.locals/\∀ x c,X.env.cells.lookup x=some c->c≠b
  bs:∀ b o,X.base.get? b=some o->X.s₀.heap.get? b=some o/\X.H₀ b=none
  bsz:X.base.objs.size<=X.s₀.heap.objs.size
  noex:∀ b o,X.base.get? b=some o->b ∉ X.ex
  exfs:∀ b∈X.ex,b ∉ X.fs
  funs:X.s₀.heap.FunFrames X.base X.outer
  frf:∀ b∈X.fs,X.H₀ b=none
structure Inv (X:Cx) (pins:List (Addr × Obj)) (σ:List (Option V)) (H:Hp) (s:Shared):Prop where
  ok:X.Ok
  os:s.os=X.s₀.os
  bare:AllBare s.gens
  base:Un X.fs X.ex X.H₀ H X.s₀.heap s.heap
  loc:∃ m,s.heap.Ns X.env.locals m/\∀ (i:Nat) (x:Str) (v:V),X.N[i]?=some x->σ[i]?=some (some v)->Vis X.env.scope x->∃ u,RelV v u/\Look X.env s.heap m x u
  cell:∀ x c,X.env.cells.lookup x=some c->∃ v,s.heap.IsCell c v
  free:H X.env.locals=none
  freeC:∀ x c,X.env.cells.lookup x=some c->H c=none
  pin:∀ p∈X.pn++pins,s.heap.get? p.1=some p.2/\H p.1=none/\p.1≠X.env.locals/\p.1 ∉ X.fs/\∀ v,p.2.data≠.cell v
  hok:HOk X.prog X.w H s.heap
  len:σ.length=X.N.length
section
variable {X:Cx}{pins:List (Addr × Obj)}{σ:List (Option V)}{H H':Hp}{s:Shared}{h':Heap}
theorem Cx.Ok.nofr (ok:X.Ok) {b:Addr}{o:Obj} (e:X.base.get? b=some o):b ∉ X.fs:=fun hb=>by
  have:=(ok.funs.mem hb).1
  rw[e] at this; cases this
theorem Inv.bs (I:Inv X pins σ H s):∀ b o,X.base.get? b=some o->s.heap.get? b=some o/\H b=none:=fun b o e=>
  ⟨I.base.keep b o (I.ok.bs b o e).1 (I.ok.bs b o e).2 (I.ok.nofr e) (I.ok.noex b o e),I.base.free b o (I.ok.bs b o e).1 (I.ok.bs b o e).2 (I.ok.noex b o e)⟩
theorem Inv.bk (I:Inv X pins σ H s):∀ b o,X.base.get? b=some o->s.heap.get? b=some o:=fun b o e=>(I.bs b o e).1
theorem Inv.mod (I:Inv X pins σ H s):Mod X.K X.mg X.base:=I.ok.mod
theorem Inv.kIn (I:Inv X pins σ H s):X.K.In s.heap:=I.ok.mod.kin.keeps I.bk
theorem Inv.lt (I:Inv X pins σ H s):X.env.locals<s.heap.objs.size:=let ⟨_,hn,_⟩:=I.loc; hn.lt
theorem Inv.sz (I:Inv X pins σ H s):X.s₀.heap.objs.size<=s.heap.objs.size:=Nat.le_trans I.ok.above (Nat.le_of_lt I.lt)
theorem Inv.nofs (I:Inv X pins σ H s) {a:Addr} (h:s.heap.objs.size<=a):a ∉ X.fs:=fun hb=>by
  obtain⟨_,o,ho,_⟩:=I.ok.funs.mem hb
  exact absurd (Nat.lt_of_lt_of_le (Heap.lt_size ho) (Nat.le_trans I.sz h)) (Nat.lt_irrefl _)
theorem Inv.cne (I:Inv X pins σ H s):∀ x c,X.env.cells.lookup x=some c->c≠X.env.locals:=fun x c e z=>by
  obtain⟨v,o,ho,hd⟩:=I.cell x c e
  obtain⟨m,⟨o',es,ep,ho',hd',_⟩,_⟩:=I.loc
  rw[z,ho'] at ho; cases ho; rw[hd'] at hd; cases hd
theorem Inv.funs (I:Inv X pins σ H s):s.heap.FunFrames X.base X.outer:=by
  have all:∀ (l:List Env),(∀ b∈frs l,b∈X.fs)->X.s₀.heap.FunFrames X.base l->s.heap.FunFrames X.base l:=by
    intro l
    induction l with
    | nil=>intro _ _; trivial
    | cons env r ih=>
      intro hs hl
      obtain⟨hk,⟨L,o,hf,hn,ho,hd⟩,hr⟩:=hl
      have hL:L∈X.fs:=hs L (by unfold frs; rw[List.filterMap_cons,hf]; exact List.mem_cons_self)
      obtain⟨sl,e⟩:=I.base.slot L o ho (I.ok.frf L hL) hL fun z=>I.ok.exfs L z hL
      exact⟨hk,⟨L,_,hf,hn,e,hd⟩,ih (fun b hb=>hs b (by unfold frs; rw[List.filterMap_cons,hf]; exact List.mem_cons_of_mem _ hb)) hr⟩
  exact all X.outer (fun _ hb=>hb) I.ok.funs
theorem Inv.stack (I:Inv X pins σ H s):s.heap.FunFrames X.base X.stack:=by
  rcases I.ok.stk with e | ⟨e,hf⟩
  · rw[e]; exact I.funs
  · rw[e]
    obtain⟨m,hn,_⟩:=I.loc
    refine .cons (by rw[I.ok.kind]; decide) hf hn ?_ I.funs
    exact Heap.get?_none_of_le (Nat.le_trans I.ok.bsz I.ok.above)
theorem Inv.stkSub (I:Inv X pins σ H s):∀ b∈frs X.stack,b∈X.env.locals::X.fs:=fun b hb=>by
  rcases I.ok.stk with e | ⟨e,hf⟩
  · rw[e] at hb; exact List.mem_cons_of_mem _ hb
  · rw[e] at hb
    unfold frs at hb
    rw[List.filterMap_cons,hf] at hb
    exact hb
theorem Inv.stkFree (I:Inv X pins σ H s):∀ b∈frs X.stack,H b=none:=fun b hb=>by
  rcases List.mem_cons.mp (I.stkSub b hb) with e | hb
  · rw[e]; exact I.free
  · obtain⟨_,o,ho,_⟩:=I.ok.funs.mem hb
    exact I.base.free b o ho (I.ok.frf b hb) fun z=>I.ok.exfs b z hb
theorem Inv.step {g' : Array GenState} {t' : Nat} {d' : Drawn} {ch : List Addr} (I : Inv X pins σ H s)
    (hch:∀ b∈ch,(b∈X.ex∨X.s₀.heap.objs.size<=b)/\b≠X.env.locals/\(∀ x c,X.env.cells.lookup x=some c->c≠b)/\∀ p∈X.pn++pins,p.1≠b)
    (keep:∀ b o,b≠X.env.locals->b ∉ X.fs->b ∉ ch->s.heap.get? b=some o->H b=none->h'.get? b=some o)
    (slot:∀ b o,b≠X.env.locals->b∈X.fs->b ∉ ch->s.heap.get? b=some o->H b=none->∃ sl,h'.get? b=some { o with slots:=sl }) (free:∀ b o,b ∉ ch->s.heap.get? b=some o->H b=none->H' b=none)
    (there:∀ b o,b ∉ ch->s.heap.get? b=some o->∃ o',h'.get? b=some o')
    (tups:∀ b xs,H b=some (.tup xs)->H' b=some (.tup xs)) (frzs:∀ b o u,H b=some (.frz o u)->H' b=some (.frz o u)) (tbls:∀ b ps,H b=some (.tbl ps)->∃ more,H' b=some (.tbl (ps++more)))
    (ns:∀ m,s.heap.Ns X.env.locals m->h'.Ns X.env.locals m) (hok:HOk X.prog X.w H' h') (hg:AllBare g') :
    Inv X pins σ H' { s with heap:=h',gens:=g',drawn:=d',toks:=t' }:=by
  have neL:∀ b o,X.s₀.heap.get? b=some o->b≠X.env.locals:=fun b o e=>Nat.ne_of_lt (Nat.lt_of_lt_of_le (Heap.lt_size e) I.ok.above)
  have neC:∀ b o,X.s₀.heap.get? b=some o->b ∉ X.ex->b ∉ ch:=fun b o e hx hb=>by
    rcases (hch b hb).1 with z | z
    · exact hx z
    · exact absurd (Nat.lt_of_lt_of_le (Heap.lt_size e) z) (Nat.lt_irrefl _)
  have cellK:∀ x c,X.env.cells.lookup x=some c->∀ v,s.heap.IsCell c v->h'.IsCell c v:=fun x c e v ⟨o,ho,hd⟩=>by
    have nch:c ∉ ch:=fun z=>(hch c z).2.2.1 x c e rfl
    by_cases hc:c∈X.fs
    · obtain⟨sl,q⟩:=slot c o (I.cne x c e) hc nch ho (I.freeC x c e)
      exact⟨_,q,hd⟩
    · exact⟨o,keep c o (I.cne x c e) hc nch ho (I.freeC x c e),hd⟩
  refine⟨I.ok,I.os,hg,⟨fun b o e n hb hx=>?_,fun b o e n hb hx=>?_,fun b o e n hx=>?_,fun b o e hx=>?_,fun b xs e=>tups b xs (I.base.tups b xs e),fun b o xs e=>frzs b o xs (I.base.frzs b o xs e),fun b ps e=>?_⟩,?_,fun x c e=>?_,?_,fun x c e=>?_,fun p hp=>?_,hok,I.len⟩
  · exact keep b o (neL b o e) hb (neC b o e hx) (I.base.keep b o e n hb hx) (I.base.free b o e n hx)
  · obtain⟨sl,e1⟩:=I.base.slot b o e n hb hx
    obtain⟨sl',e2⟩:=slot b _ (neL b o e) hb (neC b o e hx) e1 (I.base.free b o e n hx)
    exact⟨sl',e2⟩
  · obtain⟨o',e1⟩:=I.base.there b o e hx
    exact free b o' (neC b o e hx) e1 (I.base.free b o e n hx)
  · obtain⟨o',e1⟩:=I.base.there b o e hx
    exact there b o' (neC b o e hx) e1
  · obtain⟨m1,e1⟩:=I.base.tbls b ps e
    obtain⟨m2,e2⟩:=tbls b _ e1
    exact⟨m1++m2,by rw[e2,Array.append_assoc]⟩
  · obtain⟨m,hn,hl⟩:=I.loc
    refine⟨m,ns m hn,fun i x v e1 e2 e3=>?_⟩
    obtain⟨u,r,l⟩:=hl i x v e1 e2 e3
    refine⟨u,r,?_⟩
    rcases l with l | ⟨k,c,e,z⟩
    · exact .inl l
    · exact .inr ⟨k,c,e,cellK x c e _ z⟩
  · obtain⟨v,z⟩:=I.cell x c e
    exact⟨v,cellK x c e v z⟩
  · obtain⟨m,⟨o,_,_,ho,_⟩,_⟩:=I.loc
    exact free _ o (fun z=>(hch _ z).2.1 rfl) ho I.free
  · obtain⟨v,o,ho,hd⟩:=I.cell x c e
    exact free c o (fun z=>(hch c z).2.2.1 x c e rfl) ho (I.freeC x c e)
  · obtain⟨e,n,ne,nf,d⟩:=I.pin p hp
    have nch:p.1 ∉ ch:=fun z=>(hch p.1 z).2.2.2 p hp rfl
    exact⟨keep p.1 p.2 ne nf nch e n,free p.1 p.2 nch e n,ne,nf,d⟩
theorem Inv.un {t':Nat} (I:Inv X pins σ H s) (u:Un X.fs [] H H' s.heap h') (hok:HOk X.prog X.w H' h'):Inv X pins σ H' { s with heap:=h',toks:=t' }:=by
  obtain⟨m,⟨o,es,ep,ho,r⟩,_⟩:=id I.loc
  obtain⟨sl,hL⟩:=u.any ho I.free (by simp)
  exact I.step (g':=s.gens) (d':=s.drawn) (ch:=[]) (fun _ z=>nomatch z) (fun b o _ hb _ e n=>u.keep b o e n hb (by simp)) (fun b o _ hb _ e n=>u.slot b o e n hb (by simp)) (fun b o _ e n=>u.free b o e n (by simp)) (fun b o _ e=>u.there b o e (by simp)) u.tups u.frzs u.tbls (fun m' hm=>by
    obtain⟨o',es',ep',ho',r'⟩:=hm
    rw[ho] at ho'; cases ho'
    exact⟨_,es',ep',hL,r'⟩) hok I.bare
theorem Inv.call {g' : Array GenState} {t' : Nat} {d' : Drawn} {ch : List Addr} (I : Inv X pins σ H s) (u : Un (frs X.stack) ch H H' s.heap h') (hok : HOk X.prog X.w H' h') (hg : AllBare g')
    (hch:∀ b∈ch,(b∈X.ex∨X.s₀.heap.objs.size<=b)/\b≠X.env.locals/\(∀ x c,X.env.cells.lookup x=some c->c≠b)/\∀ p∈X.pn++pins,p.1≠b) :
    Inv X pins σ H' { s with heap:=h',gens:=g',drawn:=d',toks:=t' }:=by
  obtain⟨m,⟨o,es,ep,ho,r⟩,_⟩:=id I.loc
  obtain⟨sl,hL⟩:=u.any ho I.free fun z=>(hch _ z).2.1 rfl
  exact I.step (ch:=ch) hch (fun b o hL hb hc e n=>u.keep b o e n (fun z=>(List.mem_cons.mp (I.stkSub b z)).elim hL hb) hc) (fun b o _ _ hc e n=>u.any e n hc) (fun b o hc e n=>u.free b o e n hc) (fun b o hc e=>u.there b o e hc) u.tups u.frzs u.tbls (fun m' hm=>by
    obtain⟨o',es',ep',ho',r'⟩:=hm
    rw[ho] at ho'; cases ho'
    exact⟨_,es',ep',hL,r'⟩) hok hg
theorem Inv.turned {t' : Nat} {it : Addr} (I : Inv X pins σ H s) (k : ∀ b o, b ≠ it → s.heap.get? b = some o → h'.get? b = some o) (hn : H it = none) (hL : it ≠ X.env.locals)
    (h1:it∈X.ex∨X.s₀.heap.objs.size<=it) (h2:∀ x c,X.env.cells.lookup x=some c->c≠it) (h3:∀ p∈X.pn++pins,p.1≠it):Inv X pins σ H { s with heap:=h',toks:=t' }:=by
  have nit:∀ b u,H b=some u->b≠it:=fun b u e z=>by rw[z,hn] at e; cases e
  refine I.step (g':=s.gens) (d':=s.drawn) (ch:=[it]) (fun b hb=>?_) (fun b o _ _ hc e _=>k b o (fun z=>hc (by simp[z])) e) (fun b o _ _ hc e _=>⟨o.slots,k b o (fun z=>hc (by simp[z])) e⟩) (fun _ _ _ _ n=>n)
    (fun b o hc e=>⟨o,k b o (fun z=>hc (by simp[z])) e⟩) (fun _ _ e=>e) (fun _ _ _ e=>e) (fun b ps e=>⟨#[],by rw[e]; simp⟩) (fun m hm=>?_) (fun b u e=>?_) I.bare
  · have e:b=it:=by simpa using hb
    subst e
    exact⟨h1,hL,h2,h3⟩
  · obtain⟨o,es,ep,ho,r⟩:=hm
    exact⟨o,es,ep,k _ o (Ne.symm hL) ho,r⟩
  · refine (I.hok b u e).stay (fun c v hc q=>k c v ?_ q) (fun _ q=>q) fun _ _ q=>q
    rcases hc with z | z
    · rw[z]; exact nit b u e
    · exact nit c _ z
theorem Inv.tok (I:Inv X pins σ H s) (t:Nat):Inv X pins σ H { s with toks:=t }:=I.un (h':=s.heap) (t':=t) Un.refl I.hok
theorem Inv.kept {t':Nat} (I:Inv X pins σ H s) (k:∀ b u,s.heap.get? b=some u->h'.get? b=some u):Inv X pins σ H { s with heap:=h',toks:=t' }:=I.un (Un.kept k) (I.hok.kept k)
theorem Inv.laid {a : Addr} {o : HO} {t' : Nat} (I : Inv X pins σ H s) (k : ∀ b u, s.heap.get? b = some u → h'.get? b = some u) (hp : s.heap.objs.size ≤ a) (new : ObjOk X.prog X.w (upd H a o) h' a o) :
    Inv X pins σ (upd H a o) { s with heap:=h',toks:=t' }:=I.un (Un.laid k hp (I.hok.fresh hp)) (I.hok.laid k hp new)
theorem Inv.write {x e : Addr} {o : HO} {t' : Nat} (I : Inv X pins σ H s) (mu : Mut (H x)) (he : e = x ∨ H e = some (.own x)) (k : ∀ b u, b ≠ e → s.heap.get? b = some u → h'.get? b = some u) (heo : ∃ u, h'.get? e = some u)
    (new:ObjOk X.prog X.w (upd H x o) h' x o):Inv X pins σ (upd H x o) { s with heap:=h',toks:=t' }:=I.un (Un.write mu he k heo) (I.hok.write mu he k heo new)
theorem Inv.weak {σ':List (Option V)} (I:Inv X pins σ H s) (hl:σ'.length=σ.length) (w:∀ (i:Nat) v,σ'[i]?=some (some v)->σ[i]?=some (some v)):Inv X pins σ' H s :=
  ⟨I.ok,I.os,I.bare,I.base,let ⟨m,hn,hl'⟩:=I.loc; ⟨m,hn,fun i x v e1 e2 e3=>hl' i x v e1 (w i v e2) e3⟩,I.cell,I.free,I.freeC,I.pin,I.hok,hl.trans I.len⟩
theorem Inv.pins_of {pins':List (Addr × Obj)} (I:Inv X pins σ H s) (h:∀ p∈pins',s.heap.get? p.1=some p.2/\H p.1=none/\p.1≠X.env.locals/\p.1 ∉ X.fs/\∀ v,p.2.data≠.cell v):Inv X pins' σ H s :=
  ⟨I.ok,I.os,I.bare,I.base,I.loc,I.cell,I.free,I.freeC,fun p hp=>(List.mem_append.mp hp).elim (fun z=>I.pin p (List.mem_append_left _ z)) (h p),I.hok,I.len⟩
theorem nodup_ix {N:List Str} (hN:N.Nodup) {i j:Nat}{x:Str} (a:N[i]?=some x) (b:N[j]?=some x):i=j:=by
  obtain⟨h1,e1⟩:=List.getElem?_eq_some_iff.mp a
  obtain⟨h2,e2⟩:=List.getElem?_eq_some_iff.mp b
  exact (List.getElem_inj hN).mp (e1.trans e2.symm)
theorem store_ok2 {M : Model} {A : Around} {E : Value → Shared → Prop} {i : Nat} {x : Str} {v : V} {u : Value} {Q : Unit → Shared → Prop} (I : Inv X pins σ H s) (hN : X.N.Nodup) (hi : X.N[i]? = some x) (hx : Loc X.env.scope x) (r : RelV v u)
    (h:∀ s',Inv X pins (σ.set i (some v)) H s'->(∃ a,Heap.SameBut a s.heap s'.heap/\(a=X.env.locals∨X.env.cells.lookup x=some a))->Q () s') (hf:X.fn x=true∨X.env.scope.names.lookup x=some .local:=by first | exact .inl rfl | exact .inr rfl | assumption):wpAny M A (storeName X.env x u) Q E s:=by
  obtain⟨m,hn,hl⟩:=id I.loc
  have hcls:(X.env.scope.kind == .class || (X.env.scope.kind == .module && X.env.locals != X.env.globals))=false:=by rw[I.ok.kind]; rfl
  have hiσ:i<σ.length:=by rw[I.len]; exact (List.getElem?_eq_some_iff.mp hi).1
  have cne:=I.cne
  have tracked:∀ {a:Addr}{h':Heap},(∃ o,s.heap.get? a=some o/\H a=none)->Heap.SameBut a s.heap h'->HOk X.prog X.w H h':=fun {a h'} ha hs b ob e=>by
    obtain⟨_,_,hfree⟩:=ha
    refine (I.hok b ob e).stay (fun c w' hc q=>(hs.2 c ?_).trans q) (fun _ q=>q) fun _ _ q=>q
    rintro rfl
    rcases hc with rfl | hc
    · rw[hfree] at e; cases e
    · rw[hfree] at hc; cases hc
  rcases hx with hk | hk
  · refine wpAny_storeName_local hk hn (fun h' hn' hs=>?_) hcls
    obtain⟨oL,_,_,hoL,_⟩:=id hn
    refine h _ ⟨I.ok,I.os,I.bare,⟨fun b o e n hb hx=>?_,fun b o e n hb hx=>?_,I.base.free,fun b o e hx=>?_,I.base.tups,I.base.frzs,I.base.tbls⟩,⟨_,hn',fun j y v' e1 e2 e3=>?_⟩,fun y c e=>?_,I.free,I.freeC,fun p hp=>?_,tracked ⟨oL,hoL,I.free⟩ hs,by simpa using I.len⟩ ⟨_,hs,.inl rfl⟩
    · exact (hs.2 b (Nat.ne_of_lt (Nat.lt_of_lt_of_le (Heap.lt_size e) I.ok.above))).trans (I.base.keep b o e n hb hx)
    · obtain⟨sl,e1⟩:=I.base.slot b o e n hb hx
      exact⟨sl,(hs.2 b (Nat.ne_of_lt (Nat.lt_of_lt_of_le (Heap.lt_size e) I.ok.above))).trans e1⟩
    · obtain⟨o',e1⟩:=I.base.there b o e hx
      exact⟨o',(hs.2 b (Nat.ne_of_lt (Nat.lt_of_lt_of_le (Heap.lt_size e) I.ok.above))).trans e1⟩
    · by_cases hj:j=i
      · subst hj
        rw[hi] at e1; cases e1
        rw[List.getElem?_set_self hiσ] at e2
        cases e2
        exact⟨u,r,.inl ⟨hk,by simp⟩⟩
      · rw[List.getElem?_set_ne (Ne.symm hj)] at e2
        obtain⟨u',r',q⟩:=hl j y v' e1 e2 e3
        refine⟨u',r',?_⟩
        rcases q with ⟨k,e⟩ | ⟨k,c,e,z⟩
        · refine .inl ⟨k,?_⟩
          have:y≠x:=fun e=>hj (nodup_ix hN e1 (e ▸ hi))
          simp[this,e]
        · exact .inr ⟨k,c,e,z.sameBut hs (cne y c e)⟩
    · obtain⟨w',z⟩:=I.cell y c e
      exact⟨w',z.sameBut hs (cne y c e)⟩
    · obtain⟨e,n,ne,nf,d⟩:=I.pin p hp
      exact⟨(hs.2 p.1 ne).trans e,n,ne,nf,d⟩
  · have hfn : X.fn x = true := by
      rcases hf with z | z
      · exact z
      · rw[z] at hk; cases hk
    obtain⟨c,hc⟩:=I.ok.has x (.inl hk)
    obtain⟨w',z⟩:=I.cell x c hc
    refine wpAny_storeName_cell I.ok.kind hk hc z (fun h' hc' hs=>?_)
    obtain⟨oc,hoc,hocd⟩:=id z
    refine h { s with heap:=h' } ⟨I.ok,I.os,I.bare,⟨fun b o e n hb hx=>?_,fun b o e n hb hx=>?_,I.base.free,fun b o e hx=>?_,I.base.tups,I.base.frzs,I.base.tbls⟩,⟨m,hn.sameBut hs (Ne.symm (cne x c hc)),fun j y v' e1 e2 e3=>?_⟩,fun y c' e=>?_,I.free,I.freeC,fun p hp=>?_,tracked ⟨oc,hoc,I.freeC x c hc⟩ hs,by simpa using I.len⟩ ⟨c,hs,.inr hc⟩
    · exact (hs.2 b (Nat.ne_of_lt (Nat.lt_of_lt_of_le (Heap.lt_size e) (I.ok.cab x c hfn hc)))).trans (I.base.keep b o e n hb hx)
    · obtain⟨sl,e1⟩:=I.base.slot b o e n hb hx
      exact⟨sl,(hs.2 b (Nat.ne_of_lt (Nat.lt_of_lt_of_le (Heap.lt_size e) (I.ok.cab x c hfn hc)))).trans e1⟩
    · obtain⟨o',e1⟩:=I.base.there b o e hx
      exact⟨o',(hs.2 b (Nat.ne_of_lt (Nat.lt_of_lt_of_le (Heap.lt_size e) (I.ok.cab x c hfn hc)))).trans e1⟩
    · by_cases hj:j=i
      · subst hj
        rw[hi] at e1; cases e1
        rw[List.getElem?_set_self hiσ] at e2
        cases e2
        exact⟨u,r,.inr ⟨.inl hk,c,hc,hc'⟩⟩
      · rw[List.getElem?_set_ne (Ne.symm hj)] at e2
        obtain⟨u',r',q⟩:=hl j y v' e1 e2 e3
        refine⟨u',r',?_⟩
        rcases q with q | ⟨k,c',e,z'⟩
        · exact .inl q
        · refine .inr ⟨k,c',e,z'.sameBut hs ?_⟩
          rintro rfl
          exact hj (nodup_ix hN e1 (I.ok.inj _ _ _ e hc ▸ hi))
    · by_cases hcc:c'=c
      · subst hcc; exact⟨_,hc'⟩
      · obtain⟨w2,z2⟩:=I.cell y c' e
        exact⟨w2,z2.sameBut hs hcc⟩
    · obtain⟨e,n,ne,nf,d⟩:=I.pin p hp
      refine⟨(hs.2 p.1 ?_).trans e,n,ne,nf,d⟩
      intro q
      rw[q,hoc] at e
      have q':oc=p.2:=Option.some.inj e
      exact d w' (by rw[<- q']; exact hocd)
theorem store_ok {M : Model} {A : Around} {E : Value → Shared → Prop} {i : Nat} {x : Str} {v : V} {u : Value} {Q : Unit → Shared → Prop} (I : Inv X pins σ H s) (hN : X.N.Nodup) (hi : X.N[i]? = some x) (hx : Loc X.env.scope x) (r : RelV v u)
    (h:∀ s',Inv X pins (σ.set i (some v)) H s'->Q () s') (hf:X.fn x=true∨X.env.scope.names.lookup x=some .local:=by first | exact .inl rfl | exact .inr rfl | assumption):wpAny M A (storeName X.env x u) Q E s :=
  store_ok2 I hN hi hx r (fun s' I' _=>h s' I') hf
theorem Inv.call' {s' : Shared} {ch : List Addr} (I : Inv X pins σ H s) (ho : s'.os = s.os) (u : Un (frs X.stack) ch H H' s.heap s'.heap) (hok : HOk X.prog X.w H' s'.heap) (hg : AllBare s'.gens)
    (hch:∀ b∈ch,(b∈X.ex∨X.s₀.heap.objs.size<=b)/\b≠X.env.locals/\(∀ x c,X.env.cells.lookup x=some c->c≠b)/\∀ p∈X.pn++pins,p.1≠b):Inv X pins σ H' s':=by
  obtain⟨h',g',d',t',o'⟩:=s'
  have e:o'=s.os:=ho
  subst e
  exact I.call (g':=g') (t':=t') (d':=d') u hok hg hch
end
abbrev XK:=Value->Option Addr->Hp->Prop
abbrev St:=List (Option V)
abbrev VK:=V->Hp->Prop
abbrev TE:=St->Hp->VK->Prop
abbrev TT:=St->Hp->(Bool->Hp->Prop)->Prop
abbrev TA:=St->Hp->(List V->Hp->Prop)->Prop
structure Ends where
  nx:St->Hp->Prop
  rt:VK
  bk:St->Hp->Prop:=fun _ _=>False
  ct:St->Hp->Prop:=fun _ _=>False
abbrev TS:=Ends->St->Hp->Prop
def EP (X:Cx) (pins:List (Addr × Obj)) (σ:St) (Q:VK) (u:Value) (s':Shared):Prop:=∃ v H',Inv X pins σ H' s'/\RelV v u/\Q v H'
def TP (X:Cx) (pins:List (Addr × Obj)) (σ:St) (Q:Bool->Hp->Prop) (b:Bool) (s':Shared):Prop:=∃ H',Inv X pins σ H' s'/\Q b H'
def AP (X:Cx) (pins:List (Addr × Obj)) (σ:St) (Q:List V->Hp->Prop) (us:List Value) (s':Shared):Prop:=∃ vs H',Inv X pins σ H' s'/\Vals vs us/\Q vs H'
def SP (X:Cx) (pins:List (Addr × Obj)) (D:Ends) (f:Flow) (s':Shared):Prop :=
  match f with
  | .next=>∃ σ' H',Inv X pins σ' H' s'/\D.nx σ' H'
  | .brk=>∃ σ' H',Inv X pins σ' H' s'/\D.bk σ' H'
  | .cont=>∃ σ' H',Inv X pins σ' H' s'/\D.ct σ' H'
  | .ret u=>∃ v σ' H',Inv X pins σ' H' s'/\RelV v u/\D.rt v H'
def PE (X:Cx) (e:Expr) (t:TE):Prop :=
  ∀ (pins:List (Addr × Obj)) (s:Shared) (σ:St) (H:Hp) (Q:VK),Inv X pins σ H s->t σ H Q->wpAny (model X.prog X.w) X.A (eval e X.env) (EP X pins σ Q) X.xe s
def PT (X:Cx) (e:Expr) (t:TT):Prop :=
  ∀ (pins:List (Addr × Obj)) (s:Shared) (σ:St) (H:Hp) (Q:Bool->Hp->Prop),Inv X pins σ H s->t σ H Q->wpAny (model X.prog X.w) X.A (isTrue e X.env (eval e X.env)) (TP X pins σ Q) X.xe s
def PW (X:Cx) (e:Expr) (t:TT):Prop :=
  ∀ (whole:Sem Value) (pins:List (Addr × Obj)) (s:Shared) (σ:St) (H:Hp) (Q:Bool->Hp->Prop),Inv X pins σ H s->t σ H Q->wpAny (model X.prog X.w) X.A (isTrue e X.env whole) (TP X pins σ Q) X.xe s
theorem PW.pt {X:Cx}{e:Expr}{t:TT} (h:PW X e t):PT X e t:=h _
def PA (X:Cx) (es:List Expr) (t:TA):Prop :=
  ∀ (pos:Pos) (pins:List (Addr × Obj)) (s:Shared) (σ:St) (H:Hp) (Q:List V->Hp->Prop),Inv X pins σ H s->t σ H Q->wpAny (model X.prog X.w) X.A (spliced (backTo pos (starEach es X.env))) (AP X pins σ Q) X.xe s
def PS (X:Cx) (st:Stmt) (t:TS):Prop :=
  ∀ (pins:List (Addr × Obj)) (s:Shared) (σ:St) (H:Hp) (D:Ends),Inv X pins σ H s->t D σ H->wpAny (model X.prog X.w) X.A (exec st X.env) (SP X pins D) X.xe s
def PSs (X:Cx) (st:List Stmt) (t:TS):Prop :=
  ∀ (pins:List (Addr × Obj)) (s:Shared) (σ:St) (H:Hp) (D:Ends),Inv X pins σ H s->t D σ H->wpAny (model X.prog X.w) X.A (execs st X.env) (SP X pins D) X.xe s
theorem thn {α:Type}{t:Sem α}{Q Q':α->Shared->Prop}{M:Model}{A:Around}{E:Value->Shared->Prop}{s:Shared} (h:wpAny M A t Q E s) (hQ:∀ a s,Q a s->Q' a s):wpAny M A t Q' E s:=wpAny_mono h hQ fun _ _ x=>x
end L2
namespace L2
open PySem PySem.Spec PyProof.Rows
section
variable {X:Cx}
def tVar (i:Nat):TE:=fun σ H Q=>∃ v,σ[i]?=some (some v)/\Q v H
def tC (v:V):TE:=fun _ H Q=>Q v H
theorem pe_var {i:Nat}{x:Str}{pos:Pos} (hN:X.N[i]?=some x) (hv:Vis X.env.scope x) (hd:(x == ("__debug__":Str))=false:=by decide) (hcd:(x == ("__classdict__":Str))=false:=by decide):PE X (.Name x pos) (tVar i):=by
  intro pins s σ H Q I h
  obtain⟨v,e,h⟩:=h
  obtain⟨m,hn,hl⟩:=I.loc
  obtain⟨u,r,l⟩:=hl i x v hN e hv
  have fin:EP X pins σ Q u s:=⟨v,H,I,r,h⟩
  rcases l with ⟨hk,hm⟩ | ⟨hk,c,hc,hcell⟩
  · exact wpAny_Name (wpAny_loadName_local I.ok.kind hk hn hm fin) hd
  · rcases hk with hk | hk
    · exact wpAny_Name (wpAny_loadName_cell I.ok.kind hk hc hcell fin) hd
    · exact wpAny_Name (wpAny_loadName_free I.ok.kind hk hc hcell fin hcd) hd
theorem pe_int {i j pos}:PE X (.Constant (.int i) j pos) (tC (.int i)):=fun _ _ _ H _ I h=>wpAny_Constant_int ⟨.int i,H,I.tok _,⟨_,rfl⟩,h⟩
theorem pe_bl {b j pos}:PE X (.Constant (.bool b) j pos) (tC (.bl b)):=fun _ _ _ H _ I h=>Constant_bool ⟨.bl b,H,I,rfl,h⟩
theorem pe_non {j pos}:PE X (.Constant .none j pos) (tC .non):=fun _ _ _ H _ I h=>Constant_none ⟨.non,H,I,rfl,h⟩
def Gl (X:Cx) (x:Str):Prop:=X.env.kindOf x=some .globalImplicit
theorem ld_glob {E : Value → Shared → Prop} {pins : List (Addr × Obj)} {s : Shared} {σ : St} {H : Hp} {x : Str} {u : Value} {pos : Pos} {Q : Value → Shared → Prop} (I : Inv X pins σ H s) (hg : Gl X x) (hm : X.mg x = some u) (h : Q u s)
    (hd:(x == ("__debug__":Str))=false:=by decide):wpAny (model X.prog X.w) X.A (eval (.Name x pos) X.env) Q E s :=
  Calls.Name_function_global I.ok.kind hg (Calls.loadGlobal_global (by rw[I.ok.glob]; exact I.mod.glob.keeps I.bk) hm h) hd
theorem ld_blt {E : Value → Shared → Prop} {pins : List (Addr × Obj)} {s : Shared} {σ : St} {H : Hp} {x : Str} {u : Value} {pos : Pos} {Q : Value → Shared → Prop} (I : Inv X pins σ H s) (hg : Gl X x) (hm : X.mg x = none) (hv : bootBuiltins x = some u) (h : Q u s)
    (hn:x≠"__name__":=by decide) (hd:(x == ("__debug__":Str))=false:=by decide):wpAny (model X.prog X.w) X.A (eval (.Name x pos) X.env) Q E s:=by
  obtain⟨mb,h1,h2⟩:=I.mod.blt
  exact Calls.Name_function_global I.ok.kind hg (Calls.loadGlobal_builtin (by rw[I.ok.glob]; exact I.mod.glob.keeps I.bk) hm (by rw[I.ok.blt]; exact h1.keeps I.bk) ((h2 x hn).trans hv) h) hd
theorem pe_glob {x:Str}{v:V}{u:Value}{pos:Pos} (hg:Gl X x) (hm:X.mg x=some u) (r:RelV v u) (hd:(x == ("__debug__":Str))=false:=by decide):PE X (.Name x pos) (tC v) :=
  fun _ _ _ H _ I h=>ld_glob I hg hm ⟨v,H,I,r,h⟩ hd
theorem pe_bltn {x:Str}{v:V}{u:Value}{pos:Pos} (hg:Gl X x) (hm:X.mg x=none) (hv:bootBuiltins x=some u) (r:RelV v u) (hn:x≠"__name__":=by decide) (hd:(x == ("__debug__":Str))=false:=by decide):PE X (.Name x pos) (tC v) :=
  fun _ _ _ H _ I h=>ld_blt I hg hm hv ⟨v,H,I,r,h⟩ hn hd
variable {a b:Expr}{ta tb:TE}{pos:Pos}
def tB (t:TE):TT:=fun σ H Q=>t σ H fun x H1=>∃ c,x=.bl c/\Q c H1
theorem pt_val {e:Expr}{t:TE} (h:PE X e t) (he:∀ whole,isTrue e X.env whole=(do let v <- whole; standAt e.pos; holding [v] (truthy v)):=by intro _; rfl):PT X e (tB t):=by
  intro pins s σ H Q I hw
  refine isTrue_plain (thn (h pins s σ H _ I hw) fun v s1 ⟨x,H1,I1,r1,q1⟩=>?_) (he _)
  obtain⟨d,rfl,q⟩:=q1
  cases r1
  exact wpAny_truthy_bool ⟨H1,I1,q⟩
variable {tA tB':TT}{rest:List Expr}
def tOr (t u:TT):TT:=fun σ H Q=>t σ H fun c H1=>if c=true then Q true H1 else u σ H1 Q
def tNot (t:TT):TT:=fun σ H Q=>t σ H fun c H1=>Q (!c) H1
theorem pw_or1 (ha:PT X a tA):PW X (.BoolOp .Or [a] pos) tA:=by
  intro wh pins s σ H Q I h
  refine isTrue_or (thn (ha pins s σ H Q I h) fun c s1 e=>?_)
  cases c with
  | false=>exact isTrue_or_nil e
  | true=>exact e
theorem pw_or (ha:PT X a tA) (hb:PW X (.BoolOp .Or (b::rest) pos) tB'):PW X (.BoolOp .Or (a::b::rest) pos) (tOr tA tB'):=by
  intro wh pins s σ H Q I h
  refine isTrue_or (thn (ha pins s σ H _ I h) fun c s1 ⟨H1,I1,q1⟩=>?_)
  cases c with
  | true=>exact⟨H1,I1,q1⟩
  | false=>exact hb wh pins s1 σ H1 Q I1 q1
theorem pt_not (ha:PT X a tA):PT X (.UnaryOp .Not a pos) (tNot tA):=by
  intro pins s σ H Q I h
  exact isTrue_not (ha pins s σ H (fun c H1=>Q (!c) H1) I h)
def tAndV (ta tb:TE):TE:=fun σ H Q=>ta σ H fun x H1=>∃ c,x=.bl c/\if c=true then tb σ H1 Q else Q (.bl false) H1
def tNotV (ta:TE):TE:=fun σ H Q=>ta σ H fun x H1=>∃ c,x=.bl c/\Q (.bl (!c)) H1
theorem pe_one {op}{t:TE} (h:PE X a t):PE X (.BoolOp op [a] pos) t:=fun pins s σ H Q I hw=>BoolOp_one (h pins s σ H Q I hw)
theorem pe_and (ha:PE X a ta) (hb:PE X (.BoolOp .And (b::rest) pos) tb):PE X (.BoolOp .And (a::b::rest) pos) (tAndV ta tb):=by
  intro pins s σ H Q I h
  refine BoolOp_and (thn (ha pins s σ H _ I h) fun v s1 ⟨x,H1,I1,r1,q1⟩=>?_)
  obtain⟨c,rfl,q1⟩:=q1
  cases r1
  refine wpAny_truthy_bool ?_
  cases c with
  | true=>exact hb pins s1 σ H1 Q I1 q1
  | false=>exact⟨.bl false,H1,I1,rfl,q1⟩
theorem pe_not (ha:PE X a ta):PE X (.UnaryOp .Not a pos) (tNotV ta):=by
  intro pins s σ H Q I h
  refine UnaryOp_ (thn (ha pins s σ H _ I h) fun v s1 ⟨x,H1,I1,r1,q1⟩=>?_)
  obtain⟨c,rfl,q1⟩:=q1
  cases r1
  exact not_of (wpAny_truthy_bool ⟨.bl (!c),H1,I1,rfl,q1⟩)
def tIf (t:TT) (ta tb:TE):TE:=fun σ H Q=>t σ H fun c H1=>if c=true then ta σ H1 Q else tb σ H1 Q
theorem pe_ifExp {c:Expr} (hc:PT X c tA) (ha:PE X a ta) (hb:PE X b tb):PE X (.IfExp c a b pos) (tIf tA ta tb):=by
  intro pins s σ H Q I h
  refine wpAny_IfExp (thn (hc pins s σ H _ I h) fun d s1 ⟨H1,I1,q1⟩=>?_)
  cases d with
  | true=>exact ha pins s1 σ H1 Q I1 q1
  | false=>exact hb pins s1 σ H1 Q I1 q1
end
end L2
namespace L2
open PySem PySem.Spec PyProof.Rows
def SqL (K:PySem.W.Frag) (H:Hp) (a:Addr) (xs:List V):Prop :=
  Rd H a (.lst xs) ∨
    ∃ (o:Obj) (its:Array Value) (n:Nat),K.lookup a=some o/\o.cls=.type "list"/\o.dict=none/\o.data=.seq its n/\its.size<=sizeLine/\Vals xs its.toList
def SqT (K:PySem.W.Frag) (H:Hp) (a:Addr) (xs:List V):Prop :=
  Rd H a (.tup xs) ∨
    ∃ (o:Obj) (its:Array Value) (n:Nat),K.lookup a=some o/\o.cls=.type "tuple"/\o.data=.seq its n/\its.size<=sizeLine/\Vals xs its.toList
def absV:Value->Option V
  | .none=>some .non
  | .bool b=>some (.bl b)
  | .int i _=>some (.int i)
  | .str x _=>some (.str x)
  | .bytes b _=>some (.byt b)
  | .float b _=>some (.flt b)
  | .ref a=>some (.ref a)
  | .type n=>some (.ty n)
  | _=>none
theorem RelV.abs {x:V}{u:Value} (r:RelV x u):absV u=some x:=by
  cases x with
  | non=>cases r; rfl
  | bl _=>cases r; rfl
  | int _=>obtain⟨t,rfl⟩:=r; rfl
  | str _=>obtain⟨t,rfl⟩:=r; rfl
  | byt _=>obtain⟨t,rfl⟩:=r; rfl
  | flt _=>obtain⟨t,rfl⟩:=r; rfl
  | ref _=>cases r; rfl
  | ty _=>cases r; rfl
theorem RelV.inj {x y:V}{u:Value} (r:RelV x u) (q:RelV y u):x=y:=Option.some.inj (r.abs.symm.trans q.abs)
theorem Vals.inj:∀ {xs ys:List V}{us:List Value},Vals xs us->Vals ys us->xs=ys
  | _,_,_,.nil,.nil=>rfl
  | _,_,_,.cons r t,.cons r' t'=>by rw[r.inj r',Vals.inj t t']
section
variable {X:Cx}{pins:List (Addr × Obj)}{σ:St}{H:Hp}{s:Shared}{a:Addr}{xs ys:List V}
theorem SqL.of {K:PySem.W.Frag} (h:H a=some (.lst xs)):SqL K H a xs:=.inl (.inl h)
theorem SqT.of {K:PySem.W.Frag} (h:H a=some (.tup xs)):SqT K H a xs:=.inl (.inl h)
theorem Inv.list (I:Inv X pins σ H s) (h:SqL X.K H a xs):∃ its:List Value,Vals xs its/\PlainL s.heap a its.toArray/\xs.length<=sizeLine:=by
  rcases h with h | ⟨o,its,n,hk,hc,hd,hs,hz,r⟩
  · obtain⟨z,its,n,r,e⟩:=h.ok I.hok
    exact⟨its,r,⟨_,n,e,rfl,rfl,rfl⟩,z⟩
  · refine⟨its.toList,r,⟨o,n,I.kIn a o hk,hc,hd,by simpa using hs⟩,?_⟩
    have e:=r.length
    simp only[Array.length_toList] at e
    omega
theorem Inv.tuple (I:Inv X pins σ H s) (h:SqT X.K H a xs):∃ its:List Value,Vals xs its/\IsTup s.heap a its.toArray/\xs.length<=sizeLine:=by
  rcases h with h | ⟨o,its,n,hk,hc,hs,hz,r⟩
  · obtain⟨z,its,r,p⟩:=h.ok I.hok
    exact⟨its,r,p.tup,z⟩
  · refine⟨its.toList,r,⟨o,I.kIn a o hk,hc,n,by simpa using hs⟩,?_⟩
    have e:=r.length
    simp only[Array.length_toList] at e
    omega
theorem Inv.list_inj (I:Inv X pins σ H s) (h:SqL X.K H a xs) (h':SqL X.K H a ys):xs=ys:=by
  obtain⟨its,r,⟨o,n,e,_,_,d⟩,_⟩:=I.list h
  obtain⟨its',r',⟨o',n',e',_,_,d'⟩,_⟩:=I.list h'
  rw[e] at e'; cases e'
  rw[d] at d'
  injection d' with d1 _
  have:its=its':=by simpa using congrArg Array.toList d1
  subst this
  exact r.inj r'
theorem Inv.tuple_inj (I:Inv X pins σ H s) (h:SqT X.K H a xs) (h':SqT X.K H a ys):xs=ys:=by
  obtain⟨its,r,⟨o,e,_,n,d⟩,_⟩:=I.tuple h
  obtain⟨its',r',⟨o',e',_,n',d'⟩,_⟩:=I.tuple h'
  rw[e] at e'; cases e'
  rw[d] at d'
  injection d' with d1 _
  have:its=its':=by simpa using congrArg Array.toList d1
  subst this
  exact r.inj r'
end
abbrev Cx.wish (X:Cx) (E:Value->Shared->Prop):Cx:={ X with xe:=E }
abbrev Cx.nox (X:Cx):Cx:=X.wish fun _ _=>False
theorem Cx.Ok.wish {X:Cx} (ok:X.Ok) (E:Value->Shared->Prop):(X.wish E).Ok :=
  ⟨ok.mod,ok.kind,ok.glob,ok.blt,ok.above,ok.inj,ok.has,ok.cab,ok.hd,ok.frames,ok.stk,ok.exf,ok.bs,ok.bsz,ok.noex,ok.exfs,ok.funs,ok.frf⟩
theorem Cx.Ok.unwish {X:Cx}{E:Value->Shared->Prop} (ok:(X.wish E).Ok):X.Ok :=
  ⟨ok.mod,ok.kind,ok.glob,ok.blt,ok.above,ok.inj,ok.has,ok.cab,ok.hd,ok.frames,ok.stk,ok.exf,ok.bs,ok.bsz,ok.noex,ok.exfs,ok.funs,ok.frf⟩
section
variable {X:Cx}{pins:List (Addr × Obj)}{σ:St}{H:Hp}{s:Shared}{E:Value->Shared->Prop}
theorem Inv.wish (I:Inv X pins σ H s) (E:Value->Shared->Prop):Inv (X.wish E) pins σ H s:=⟨I.ok.wish E,I.os,I.bare,I.base,I.loc,I.cell,I.free,I.freeC,I.pin,I.hok,I.len⟩
theorem Inv.unwish (I:Inv (X.wish E) pins σ H s):Inv X pins σ H s:=⟨I.ok.unwish,I.os,I.bare,I.base,I.loc,I.cell,I.free,I.freeC,I.pin,I.hok,I.len⟩
theorem SP.unwish {D:Ends}{f:Flow}{s':Shared} (h:SP (X.wish E) pins D f s'):SP X pins D f s':=by
  cases f with
  | next=>obtain⟨σ',H',I,q⟩:=h; exact⟨σ',H',I.unwish,q⟩
  | brk=>obtain⟨σ',H',I,q⟩:=h; exact⟨σ',H',I.unwish,q⟩
  | cont=>obtain⟨σ',H',I,q⟩:=h; exact⟨σ',H',I.unwish,q⟩
  | ret u=>obtain⟨v,σ',H',I,r,q⟩:=h; exact⟨v,σ',H',I.unwish,r,q⟩
theorem PSs.nox {st:List Stmt}{t:TS} (h:PSs X.nox st t):PSs X st t:=fun pins s σ H D I hw=>
  wpAny_mono (h pins s σ H D (I.wish _) hw) (fun _ _ q=>q.unwish) fun _ _ z=>False.elim z
end
section
variable {X:Cx}{st:Stmt}{rest:List Stmt}{t u:TS}{e:Expr}{te:TE}{pos:Pos}
def tNext:TS:=fun D σ H=>D.nx σ H
def tSeq (t u:TS):TS:=fun D σ H=>t { D with nx:=u D } σ H
theorem pss_nil:PSs X [] tNext:=fun _ _ σ H _ I h=>wpAny_execs_nil ⟨σ,H,I,h⟩
theorem pss_cons (h1:PS X st t) (h2:PSs X rest u):PSs X (st::rest) (tSeq t u):=by
  intro pins s σ H D I h
  refine wpAny_execs_cons (thn (h1 pins s σ H { D with nx:=u D } I h) fun f s1 q=>?_)
  cases f with
  | next=>
    obtain⟨σ',H',I',q⟩:=q
    exact h2 pins s1 σ' H' D I' q
  | ret v=>exact q
  | brk=>exact q
  | cont=>exact q
theorem pss_one (h1:PS X st t):PSs X [st] t:=by
  intro pins s σ H D I h
  refine wpAny_execs_cons (thn (h1 pins s σ H D I h) fun f s1 q=>?_)
  cases f with
  | next=>exact wpAny_execs_nil q
  | ret v=>exact q
  | brk=>exact q
  | cont=>exact q
theorem Inv.quiet {pins:List (Addr × Obj)}{σ:St}{H:Hp}{s:Shared} (I:Inv X pins σ H s):interactive X.env=false:=by simp[interactive,I.ok.kind]
def tDrop (te:TE):TS:=fun D σ H=>te σ H fun _ H1=>D.nx σ H1
theorem ps_expr (he:PE X e te) (hs:swapsWith e none pos.line X.env=pure false:=by rfl):PS X (.Expr e pos) (tDrop te):=by
  intro pins s σ H D I h
  exact wpAny_Expr_any (thn (he pins s σ H _ I h) fun v s1 ⟨x,H1,I1,r1,q1⟩=>⟨σ,H1,I1,q1⟩) I.quiet hs
def tRet (te:TE):TS:=fun D σ H=>te σ H D.rt
theorem ps_ret (he:PE X e te):PS X (.Return (some e) pos) (tRet te):=by
  intro pins s σ H D I h
  exact wpAny_Return_some (thn (he pins s σ H _ I h) fun v s1 ⟨x,H1,I1,r1,q1⟩=>⟨x,σ,H1,I1,r1,q1⟩)
def tIfS (c:TT) (t u:TS):TS:=fun D σ H=>c σ H fun b H1=>if b=true then t D σ H1 else u D σ H1
theorem ps_if {c:Expr}{a b:List Stmt}{tc:TT} (hc:PT X c tc) (ha:PSs X a t) (hb:PSs X b u):PS X (.If c a b pos) (tIfS tc t u):=by
  intro pins s σ H D I h
  refine wpAny_If (thn (hc pins s σ H _ I h) fun d s1 ⟨H1,I1,q1⟩=>?_)
  cases d with
  | true=>exact ha pins s1 σ H1 D I1 q1
  | false=>exact hb pins s1 σ H1 D I1 q1
def tNever:TS:=fun _ _ _=>False
theorem pss_never {sts:List Stmt}:PSs X sts tNever:=fun _ _ _ _ _ _ h=>h.elim
end
abbrev TG:=V->St->Hp->(St->Hp->Prop)->Prop
abbrev TGs:=List V->St->Hp->(St->Hp->Prop)->Prop
def PG (X:Cx) (target:Expr) (t:TG):Prop :=
  ∀ (pins:List (Addr × Obj)) (s:Shared) (σ:St) (H:Hp) (v:V) (u:Value) (Q:St->Hp->Prop),Inv X pins σ H s->RelV v u->t v σ H Q ->
    wpAny (model X.prog X.w) X.A (assign target X.env u) (fun _ s'=>∃ σ' H',Inv X pins σ' H' s'/\Q σ' H') X.xe s
def PGs (X:Cx) (ts:List Expr) (t:TGs):Prop :=
  ∀ (pins:List (Addr × Obj)) (s:Shared) (σ:St) (H:Hp) (vs:List V) (us:List Value) (Q:St->Hp->Prop),Inv X pins σ H s->Vals vs us->t vs σ H Q ->
    wpAny (model X.prog X.w) X.A (assignInOrder ((assignEach ts X.env).map (·.2)) us) (fun _ s'=>∃ σ' H',Inv X pins σ' H' s'/\Q σ' H') X.xe s
abbrev TSet:=V->V->V->Hp->(Hp->Prop)->Prop
def PSet (X:Cx) (t:TSet):Prop :=
  ∀ (pins:List (Addr × Obj)) (s:Shared) (σ:St) (H:Hp) (o i v:V) (ov iv u:Value) (Q:Hp->Prop),Inv X pins σ H s->RelV o ov->RelV i iv->RelV v u->t o i v H Q ->
    wpAny (model X.prog X.w) X.A (setItem ov iv u) (fun _ s'=>∃ H',Inv X pins σ H' s'/\Q H') X.xe s
abbrev TIp:=V->V->Hp->VK->Prop
def PIp (X:Cx) (op:Operator) (t:TIp):Prop :=
  ∀ (pins:List (Addr × Obj)) (s:Shared) (σ:St) (H:Hp) (x y:V) (v u:Value) (Q:VK),Inv X pins σ H s->RelV x v->RelV y u->t x y H Q ->
    wpAny (model X.prog X.w) X.A (inplaceOp op v u) (EP X pins σ Q) X.xe s
section
variable {X:Cx}{pos:Pos}
def gName (i:Nat):TG:=fun v σ H Q=>Q (σ.set i (some v)) H
theorem pg_name {i:Nat}{x:Str} (hN:X.N.Nodup) (hi:X.N[i]?=some x) (hx:Loc X.env.scope x) (hf:X.fn x=true∨X.env.scope.names.lookup x=some .local:=by first | exact .inl rfl | exact .inr rfl | assumption):PG X (.Name x pos) (gName i):=by
  intro pins s σ H v u Q I r h
  exact wpAny_assign_Name (store_ok I hN hi hx r (fun s' I'=>⟨_,H,I',h⟩) hf)
def gNil:TGs:=fun vs σ H Q=>vs=[]/\Q σ H
def gCons (t:TG) (u:TGs):TGs:=fun vs σ H Q=>∃ v r,vs=v::r/\t v σ H fun σ' H'=>u r σ' H' Q
theorem pgs_nil:PGs X [] gNil:=by
  intro pins s σ H vs us Q I r h
  obtain⟨e,h⟩:=h
  subst e
  cases r
  exact assignInOrder_nil ⟨σ,H,I,h⟩
theorem pgs_cons {e : Expr} {es : List Expr} {t : TG} {u : TGs} (h1 : PG X e t) (h2 : PGs X es u)
    (hs:(assignEach (e::es) X.env).map (·.2)=assign e X.env::(assignEach es X.env).map (·.2):=by rfl):PGs X (e::es) (gCons t u):=by
  intro pins s σ H vs us Q I r h
  obtain⟨v,vr,e1,h⟩:=h
  subst e1
  cases r with
  | cons r rr=>
    rw[hs]
    refine assignInOrder_cons (thn (h1 pins s σ H _ _ _ I r h) fun _ s1 ⟨σ1,H1,I1,q1⟩=>?_)
    exact h2 pins s1 σ1 H1 _ _ Q I1 rr q1
def gTup (K:PySem.W.Frag) (n:Nat) (t:TGs):TG:=fun v σ H Q=>∃ a xs,v=.ref a/\SqT K H a xs/\xs.length=n/\t xs σ H Q
theorem pg_tup {es : List Expr} {k : Nat} {t : TGs} {n : Nat} (hc : X.calm = true) (h : PGs X es t)
    (hn:(assignEach es X.env).length=n:=by rfl) (hst:(assignEach es X.env).findIdx? (·.1)=none:=by rfl):PG X (.Tuple es k pos) (gTup X.K n t):=by
  intro pins s σ H v u Q I r hw
  obtain⟨a,xs,e1,hq,hl,hw⟩:=hw
  subst e1
  cases r
  obtain⟨its,rv,ht,hz⟩:=I.tuple hq
  refine assign_Tuple_tuple (I.ok.hd hc) ht (by simp[hn,<- hl,rv.length]) hst fun h' hx=>?_
  have I1:Inv X pins σ H { s with heap:=h' }:=I.kept (t':=s.toks) fun b o e=>hx b o (Nat.ne_of_lt (Heap.lt_size e)) e
  exact h pins _ σ H xs _ Q I1 (by simpa using rv) hw
def gSub (to ti:TE) (t:TSet):TG:=fun v σ H Q=>to σ H fun o H1=>ti σ H1 fun i H2=>t o i v H2 fun H3=>Q σ H3
theorem pg_sub {o i : Expr} {to ti : TE} {t : TSet} (ho : PE X o to) (hi : PE X i ti) (hs : PSet X t)
    (ha:∀ v,assign (.Subscript o i pos) X.env v=(do
      let ov <- holding [v] (eval o X.env)
      let iv <- holding [v,ov] (eval i X.env)
      standAt pos
      holding [v,ov,iv] (setItem ov iv v)
      release [v,ov,iv] []):=by intro _; rfl):PG X (.Subscript o i pos) (gSub to ti t):=by
  intro pins s σ H v u Q I r h
  rw[ha]
  refine wpAny_bind (wpAny_holding (thn (ho pins s σ H _ I h) fun ov s1 ⟨x,H1,I1,r1,q1⟩=>?_))
  refine wpAny_bind (wpAny_holding (thn (hi pins s1 σ H1 _ I1 q1) fun iv s2 ⟨y,H2,I2,r2,q2⟩=>?_))
  refine wpAny_bind (wpAny_standAt (wpAny_bind (wpAny_holding (thn (hs pins s2 σ H2 x y v ov iv u _ I2 r1 r2 r q2) fun _ s3 ⟨H3,I3,q3⟩=>?_))))
  exact wpAny_release ⟨σ,H3,I3,q3⟩
def tAsg (te:TE) (g:TG):TS:=fun D σ H=>te σ H fun x H1=>g x σ H1 D.nx
theorem ps_asg {tg e : Expr} {te : TE} {g : TG} (he : PE X e te) (hg : PG X tg g) (hs : swapsWithSole [tg] e pos.line X.env = pure false := by rfl) (hw : swappedStores [tg] e X.env = pure none := by rfl)
    (h1:(assignEach [tg] X.env).map (·.2)=[assign tg X.env]:=by rfl):PS X (.Assign [tg] e pos) (tAsg te g):=by
  intro pins s σ H D I h
  refine wpAny_Assign_stores (thn (he pins s σ H _ I h) fun v s1 ⟨x,H1,I1,r1,q1⟩=>?_) hs hw
  rw[h1]
  exact thn (hg pins s1 σ H1 x v _ I1 r1 q1) fun _ s2 q=>q
theorem ps_set {i : Nat} {x : Str} {e : Expr} {te : TE} {pos' : Pos} (hN : X.N.Nodup) (hi : X.N[i]? = some x) (hx : Loc X.env.scope x) (he : PE X e te) (hs : swapsWith e (some (.Name x pos')) pos.line X.env = pure false := by rfl) (hf : X.fn x = true ∨ X.env.scope.names.lookup x = some .local := by first | exact .inl rfl | exact .inr rfl | assumption) :
    PS X (.Assign [.Name x pos'] e pos) (tAsg te (gName i)):=by
  intro pins s σ H D I h
  refine wpAny_Assign_Name (thn (he pins s σ H _ I h) fun v s1 ⟨y,H1,I1,r1,q1⟩=>?_) hs
  exact store_ok I1 hN hi hx r1 (fun s2 I2=>⟨_,H1,I2,q1⟩) hf
def tAug (i:Nat) (te:TE) (ti:TIp):TS:=fun D σ H=>∃ x,σ[i]?=some (some x)/\te σ H fun y H1=>ti x y H1 fun z H2=>D.nx (σ.set i (some z)) H2
theorem ps_aug {i : Nat} {x : Str} {e : Expr} {te : TE} {op : Operator} {ti : TIp} {pos' : Pos} (hN : X.N.Nodup) (hi : X.N[i]? = some x) (hx : Loc X.env.scope x) (he : PE X e te) (ho : PIp X op ti) (hf : X.fn x = true ∨ X.env.scope.names.lookup x = some .local := by first | exact .inl rfl | exact .inr rfl | assumption) :
    PS X (.AugAssign (.Name x pos') op e pos) (tAug i te ti):=by
  intro pins s σ H D I h
  obtain⟨v,e1,h⟩:=h
  obtain⟨m,hn,hl⟩:=I.loc
  have vis:Vis X.env.scope x:=by rcases hx with k | k; exact .inl k; exact .inr (.inl k)
  obtain⟨u,r,l⟩:=hl i x v hi e1 vis
  refine wpAny_AugAssign_Name ?_
  have go:wpAny (model X.prog X.w) X.A (eval e X.env) (fun w s₂=>wpAny (model X.prog X.w) X.A (inplaceOp op u w) (fun r s₃=>wpAny (model X.prog X.w) X.A (storeName X.env x r) (fun _=>SP X pins D .next) X.xe s₃) X.xe s₂) X.xe s:=by
    refine thn (he pins s σ H _ I h) fun w s1 ⟨y,H1,I1,r1,q1⟩=>?_
    refine thn (ho pins s1 σ H1 v y u w _ I1 r r1 q1) fun z s2 ⟨zv,H2,I2,r2,q2⟩=>?_
    exact store_ok I2 hN hi hx r2 (fun s3 I3=>⟨_,H2,I3,q2⟩) hf
  rcases l with ⟨hk,hm⟩ | ⟨hk,c,hc,hcell⟩
  · exact wpAny_loadName_local I.ok.kind hk hn hm go
  · rcases hk with hk | hk
    · exact wpAny_loadName_cell I.ok.kind hk hc hcell go
    · rcases hx with k | k
      · have:X.env.scope.names.lookup x=some .free:=hk
        rw[k] at this; cases this
      · have:X.env.scope.names.lookup x=some .free:=hk
        rw[k] at this; cases this
def ipI (f:Int->Int->Int):TIp:=fun x y H Q=>∃ i j,x=.int i/\y=.int j/\Q (.int (f i j)) H
theorem ip_add:PIp X .Add (ipI fun i j=>i+j):=by
  intro pins s σ H x y v u Q I r1 r2 h
  obtain⟨i,j,e1,e2,q⟩:=h
  subst e1; subst e2
  obtain⟨t,rfl⟩:=r1
  obtain⟨t',rfl⟩:=r2
  exact iadd_int ⟨.int _,H,I.tok _,⟨_,rfl⟩,q⟩
end
section
variable {X:Cx}{pos:Pos}
end
structure It where
  go:Nat->Hp->Prop
  yld:Nat->Hp->V->Hp->Prop
  stop:Nat->Hp->Prop
def FpOk (X:Cx) (pins:List (Addr × Obj)) (H:Hp) (b:Addr):Prop :=
  H b=none/\b≠X.env.locals/\b ∉ X.fs/\(b∈X.ex∨X.s₀.heap.objs.size<=b)/\(∀ x c,X.env.cells.lookup x=some c->c≠b)/\∀ p∈X.pn++pins,p.1≠b
theorem Inv.fpOk {X:Cx}{pins:List (Addr × Obj)}{σ:St}{H H':Hp}{s:Shared}{b:Addr} (I:Inv X pins σ H s) (hb:s.heap.objs.size<=b) (hn:H' b=none):FpOk X pins H' b:=by
  refine⟨hn,Nat.ne_of_gt (Nat.lt_of_lt_of_le I.lt hb),I.nofs hb,.inr (Nat.le_trans I.sz hb),fun x c e z=>?_,fun p hp z=>?_⟩
  · obtain⟨v,q⟩:=I.cell x c e
    exact absurd (Nat.lt_of_lt_of_le q.lt (by rw[z]; exact hb)) (Nat.lt_irrefl _)
  · exact absurd (Nat.lt_of_lt_of_le (Heap.lt_size (I.pin p hp).1) (by rw[z]; exact hb)) (Nat.lt_irrefl _)
structure Turn (P:Program) (w:World) (K:PySem.W.Frag) (tg:Expr) (J:It) (fp:List Addr) (it:Addr) (tn:Nat->Heap->Prop):Prop where
  mem:it∈fp
  obj:∀ i h,tn i h->∀ b∈fp,∃ o,h.get? b=some o/\∀ v,o.data≠.cell v
  keep:∀ i h h',tn i h->(∀ b∈fp,∀ o,h.get? b=some o->h'.get? b=some o)->tn i h'
  item:∀ (X:Cx),X.prog=P->X.w=w->X.K=K->X.calm=true->∀ (i:Nat) (pins:List (Addr × Obj)) (s:Shared) (σ:St) (H:Hp) (E:Value->Shared->Prop),Inv X pins σ H s->(∀ b∈fp,FpOk X pins H b)->tn i s.heap->J.go i H ->
    wpAny (model P w) X.A (pyNext (.ref it)) (fun r s1=>∃ u,r=some u /\
      wpAny (model P w) X.A (letOwnedTupleGo tg (.ref it) u) (fun _ s2=>∃ x H',Inv X pins σ H' s2/\RelV x u/\J.yld i H x H'/\tn (i+1) s2.heap/\∀ b∈fp,H' b=none) E s1) E s
  done:∀ (X:Cx),X.prog=P->X.w=w->X.K=K->X.calm=true->∀ (i:Nat) (pins:List (Addr × Obj)) (s:Shared) (σ:St) (H:Hp) (E:Value->Shared->Prop),Inv X pins σ H s->(∀ b∈fp,FpOk X pins H b)->tn i s.heap->J.stop i H ->
    wpAny (model P w) X.A (pyNext (.ref it)) (fun r s1=>r=none/\Inv X pins σ H s1) E s
  self:∀ (A:Around) (i:Nat) (s:Shared) (Q:Value->Shared->Prop) (E:Value->Shared->Prop),tn i s.heap->Q (.ref it) s->wpAny (model P w) A (pyIter (.ref it)) Q E s
abbrev TI:=St->Hp->(It->Hp->Prop)->Prop
def PIE (X:Cx) (pins:List (Addr × Obj)) (σ:St) (tg:Expr) (R:It->Hp->Prop) (itv:Value) (s2:Shared):Prop :=
  ∃ (it:Addr) (fp:List Addr) (tn:Nat->Heap->Prop) (J:It) (H':Hp),itv=.ref it/\Inv X pins σ H' s2/\Turn X.prog X.w X.K tg J fp it tn/\tn 0 s2.heap/\(∀ b∈fp,FpOk X pins H' b)/\R J H'
def PI (X:Cx) (tg iter:Expr) (wi:TI):Prop :=
  ∀ (pins:List (Addr × Obj)) (s:Shared) (σ:St) (H:Hp) (R:It->Hp->Prop),Inv X pins σ H s->wi σ H R ->
    wpAny (model X.prog X.w) X.A (eval iter X.env) (fun v s1=>wpAny (model X.prog X.w) X.A (pyIter v) (PIE X pins σ tg R) X.xe s1) X.xe s
theorem go_of {M : Model} {A : Around} {E : Value → Shared → Prop} {s : Shared} {tg : Expr} {it : Addr} {u : Value} {o : Obj} {n : String} {vs : Array Value} {Q : Unit → Shared → Prop} (ho : s.heap.get? it = some o) (hc : o.cls = .type n) (hd : o.data = .fields vs)
    (hn:["enumerate","zip","dict_itemiterator","dict_reverseitemiterator","odict_iterator","itertools.zip_longest","itertools.pairwise"].contains n=false) (hQ:Q () s):wpAny M A (letOwnedTupleGo tg (.ref it) u) Q E s:=by
  unfold letOwnedTupleGo
  cases tg <;> first
    | exact wpAny_pure hQ
    | (cases u <;> first
        | exact wpAny_pure hQ
        | (refine wpAny_bind (wpAny_load ho ?_)
           rw[hc,hd]
           show wpAny M A (if (["enumerate","zip","dict_itemiterator","dict_reverseitemiterator","odict_iterator","itertools.zip_longest","itertools.pairwise"].contains n && vs[0]? == some (rawInt _))=true then _ else _) Q E s
           rw[if_neg (by intro h; rw[hn,Bool.false_and] at h; cases h)]
           exact wpAny_pure hQ))
def Itl (K:PySem.W.Frag) (a:Addr):It :=
  ⟨fun i H=>∃ xs x,SqL K H a xs/\xs[i]?=some x,fun i H x H'=>H'=H/\∀ xs,SqL K H a xs->xs[i]?=some x,fun i H=>∃ xs,SqL K H a xs/\xs.length<=i⟩
def Itt (K:PySem.W.Frag) (a:Addr):It :=
  ⟨fun i H=>∃ xs x,SqT K H a xs/\xs[i]?=some x,fun i H x H'=>H'=H/\∀ xs,SqT K H a xs->xs[i]?=some x,fun i H=>∃ xs,SqT K H a xs/\xs.length<=i⟩
def Itr (lo:Int) (n:Nat):It:=⟨fun i _=>i<n,fun i H x H'=>H'=H/\x=.int (lo+i),fun i _=>n<=i⟩
theorem turn_list {P:Program}{w:World}{K:PySem.W.Frag}{tg:Expr} (a it:Addr):Turn P w K tg (Itl K a) [it] it (fun i h=>h.IsListIter it a i) where
  mem:=by simp
  obj:=fun i h st b hb=>by
    have e:b=it:=by simpa using hb
    subst e
    obtain⟨o,e,c,d⟩:=st
    exact⟨o,e,fun v z=>by rw[d] at z; cases z⟩
  keep:=fun i h h' st k=>st.at fun o e=>k it (by simp) o e
  item:=by
    intro X hP hw hK hc i pins s σ H E I hf st hg
    subst hP hw hK
    obtain⟨xs,x,hq,hx⟩:=hg
    obtain⟨its,rv,p,hz⟩:=I.list hq
    obtain⟨u,hu,ru⟩:=rv.get hx
    obtain⟨f0,f1,f2,f3,f4,f5⟩:=hf it (by simp)
    refine wpAny_pyNext_list_item st p.isList (x:=u) (by simpa using hu) fun h' st' sb=>?_
    have I1:Inv X pins σ H { s with heap:=h' }:=I.turned (t':=s.toks) (fun b o hb e=>(sb.2 b hb).trans e) f0 f1 f3 f4 f5
    obtain⟨o,e,c,d⟩:=id st'
    exact⟨u,rfl,go_of (s:={ s with heap:=h' }) e c d (by decide) ⟨x,H,I1,ru,⟨rfl,fun ys hy=>by rw[I.list_inj hy hq]; exact hx⟩,st',fun b hb=>(hf b hb).1⟩⟩
  done:=by
    intro X hP hw hK hc i pins s σ H E I hf st hg
    subst hP hw hK
    obtain⟨xs,hq,hx⟩:=hg
    obtain⟨its,rv,p,hz⟩:=I.list hq
    obtain⟨f0,f1,f2,f3,f4,f5⟩:=hf it (by simp)
    have hl:=rv.length
    exact wpAny_pyNext_list_end (I.ok.hd hc) st p.isList (by simp; omega) fun h' eb=>⟨rfl,I.turned (t':=s.toks) (fun b o hb e=>eb b o hb e) f0 f1 f3 f4 f5⟩
  self:=fun _ _ _ _ _ st h=>wpAny_pyIter_listiter st h
theorem turn_tuple {P:Program}{w:World}{K:PySem.W.Frag}{tg:Expr} (a it:Addr):Turn P w K tg (Itt K a) [it] it (fun i h=>h.IsTupleIter it a i) where
  mem:=by simp
  obj:=fun i h st b hb=>by
    have e:b=it:=by simpa using hb
    subst e
    obtain⟨o,e,c,d⟩:=st
    exact⟨o,e,fun v z=>by rw[d] at z; cases z⟩
  keep:=fun i h h' st k=>st.at fun o e=>k it (by simp) o e
  item:=by
    intro X hP hw hK hc i pins s σ H E I hf st hg
    subst hP hw hK
    obtain⟨xs,x,hq,hx⟩:=hg
    obtain⟨its,rv,p,hz⟩:=I.tuple hq
    obtain⟨u,hu,ru⟩:=rv.get hx
    obtain⟨f0,f1,f2,f3,f4,f5⟩:=hf it (by simp)
    refine wpAny_pyNext_tuple_item st (show s.heap.IsTuple a its.toArray from p) (x:=u) (by simpa using hu) fun h' st' sb=>?_
    have I1:Inv X pins σ H { s with heap:=h' }:=I.turned (t':=s.toks) (fun b o hb e=>(sb.2 b hb).trans e) f0 f1 f3 f4 f5
    obtain⟨o,e,c,d⟩:=id st'
    exact⟨u,rfl,go_of (s:={ s with heap:=h' }) e c d (by decide) ⟨x,H,I1,ru,⟨rfl,fun ys hy=>by rw[I.tuple_inj hy hq]; exact hx⟩,st',fun b hb=>(hf b hb).1⟩⟩
  done:=by
    intro X hP hw hK hc i pins s σ H E I hf st hg
    subst hP hw hK
    obtain⟨xs,hq,hx⟩:=hg
    obtain⟨its,rv,p,hz⟩:=I.tuple hq
    obtain⟨f0,f1,f2,f3,f4,f5⟩:=hf it (by simp)
    have hl:=rv.length
    exact wpAny_pyNext_tuple_end (I.ok.hd hc) st (show s.heap.IsTuple a its.toArray from p) (by simp; omega) fun h' eb=>⟨rfl,I.turned (t':=s.toks) (fun b o hb e=>eb b o hb e) f0 f1 f3 f4 f5⟩
  self:=fun _ _ _ _ _ st h=>wpAny_pyIter_tupleiter st h
theorem turn_range {P:Program}{w:World}{K:PySem.W.Frag}{tg:Expr} (it:Addr) (lo:Int) (n:Nat):Turn P w K tg (Itr lo n) [it] it (fun i h=>IsRangeIter h it (lo+(i:Nat)*1) ((n:Int) - (i:Nat)) 1) where
  mem:=by simp
  obj:=fun i h st b hb=>by
    have e:b=it:=by simpa using hb
    subst e
    exact⟨_,st,fun v z=>by
      have z':Data.fields _=Data.cell v:=z
      cases z'⟩
  keep:=fun i h h' st k=>k it (by simp) _ st
  item:=by
    intro X hP hw hK hc i pins s σ H E I hf st hg
    subst hP hw hK
    obtain⟨f0,f1,f2,f3,f4,f5⟩:=hf it (by simp)
    have W:=Walks.range (prog:=X.prog) (w:=X.w) (I.ok.hd hc) it lo 1 n
    refine W.item i s _ _ hg st fun v h' tk hv st' kk=>?_
    obtain⟨t,rfl⟩:=hv
    have I1:Inv X pins σ H { s with heap:=h',toks:=tk }:=I.turned (fun b o hb e=>kk b o (by simpa using hb) e) f0 f1 f3 f4 f5
    refine⟨_,rfl,go_of (s:={ s with heap:=h',toks:=tk }) (n:="range_iterator") st' rfl rfl (by decide) ⟨.int (lo+i),H,I1,⟨t,?_⟩,⟨rfl,rfl⟩,st',fun b hb=>(hf b hb).1⟩⟩
    rw[Int.mul_one]
  done:=by
    intro X hP hw hK hc i pins s σ H E I hf st hg
    subst hP hw hK
    obtain⟨f0,f1,f2,f3,f4,f5⟩:=hf it (by simp)
    exact wpAny_pyNext_range_end (I.ok.hd hc) st (by have:n<=i:=hg; omega) fun h' eb=>⟨rfl,I.turned (t':=s.toks) (fun b o hb e=>eb b o hb e) f0 f1 f3 f4 f5⟩
  self:=fun _ _ _ _ _ st h=>wpAny_pyIter_rangeiter st h
end L2
namespace L2
open PySem PySem.Spec PyProof.Rows
section
variable {X:Cx}{tg:Expr}
def iList (K:PySem.W.Frag) (tl:TE):TI:=fun σ H R=>tl σ H fun x H1=>∃ a,x=.ref a/\(∃ xs,SqL K H1 a xs)/\R (Itl K a) H1
def iTup (K:PySem.W.Frag) (tl:TE):TI:=fun σ H R=>tl σ H fun x H1=>∃ a,x=.ref a/\(∃ xs,SqT K H1 a xs)/\R (Itt K a) H1
theorem pi_list {l:Expr}{tl:TE} (hl:PE X l tl):PI X tg l (iList X.K tl):=by
  intro pins s σ H R I h
  refine thn (hl pins s σ H _ I h) fun v s1 ⟨x,H1,I1,r1,q1⟩=>?_
  obtain⟨a,e,⟨xs,hq⟩,q⟩:=q1
  subst e
  cases r1
  obtain⟨its,rv,p,hz⟩:=I1.list hq
  refine wpAny_pyIter_list p.isList ?_
  refine⟨s1.heap.objs.size,[s1.heap.objs.size],_,_,H1,rfl,I1.kept (t':=s1.toks) fun b o e=>Heap.get?_push_of_some _ e,turn_list a _,⟨_,Heap.get?_push_size _ rfl,rfl,rfl⟩,fun b hb=>?_,q⟩
  have e:b=s1.heap.objs.size:=by simpa using hb
  subst e
  exact I1.fpOk (Nat.le_refl _) (I1.hok.fresh (Nat.le_refl _))
theorem pi_tup {l:Expr}{tl:TE} (hl:PE X l tl):PI X tg l (iTup X.K tl):=by
  intro pins s σ H R I h
  refine thn (hl pins s σ H _ I h) fun v s1 ⟨x,H1,I1,r1,q1⟩=>?_
  obtain⟨a,e,⟨xs,hq⟩,q⟩:=q1
  subst e
  cases r1
  obtain⟨its,rv,p,hz⟩:=I1.tuple hq
  refine wpAny_pyIter_tuple (show s1.heap.IsTuple a its.toArray from p) ?_
  refine⟨s1.heap.objs.size,[s1.heap.objs.size],_,_,H1,rfl,I1.kept (t':=s1.toks) fun b o e=>Heap.get?_push_of_some _ e,turn_tuple a _,⟨_,Heap.get?_push_size _ rfl,rfl,rfl⟩,fun b hb=>?_,q⟩
  have e:b=s1.heap.objs.size:=by simpa using hb
  subst e
  exact I1.fpOk (Nat.le_refl _) (I1.hok.fresh (Nat.le_refl _))
theorem range_it {pins : List (Addr × Obj)} {σ : St} {H : Hp} {s : Shared} {R : It → Hp → Prop} {E : Value → Shared → Prop} {lo hi : Int} {t u v : Tok} {tk : Nat} (I : Inv X pins σ H s) (h1 : -(2 ^ 62) ≤ lo) (h2 : lo < 2 ^ 62) (h3 : -(2 ^ 62) ≤ hi) (h4 : hi < 2 ^ 62)
    (q:R (Itr lo (hi - lo).toNat) H):wpAny (model X.prog X.w) X.A (pyIter (.ref s.heap.objs.size)) (PIE X pins σ tg R) E { s with heap:=s.heap.push { cls:=.type "range",data:=.fields #[.int lo t,.int hi u,.int 1 v] },toks:=tk }:=by
  refine wpAny_pyIter_range (IsRange.new ..) (small_one h1 h2 h3 h4) ?_
  have I1:Inv X pins σ H { s with heap:=s.heap.push { cls:=.type "range",data:=.fields #[.int lo t,.int hi u,.int 1 v] },toks:=tk }:=I.kept fun b o e=>Heap.get?_push_of_some _ e
  refine⟨(s.heap.push { cls:=.type "range",data:=.fields #[.int lo t,.int hi u,.int 1 v] }).objs.size,[(s.heap.push { cls:=.type "range",data:=.fields #[.int lo t,.int hi u,.int 1 v] }).objs.size],_,_,H,rfl,
    I1.kept (t':=tk) fun b o e=>Heap.get?_push_of_some _ e,turn_range _ lo (hi - lo).toNat,?_,fun b hb=>?_,q⟩
  · have e1:lo+((0:Nat):Int)*1=lo:=by simp
    have e2:(((hi - lo).toNat:Nat):Int) - ((0:Nat):Int)=Builtin.Range.rangeSize lo hi 1:=by rw[rangeSize_one]; split <;> omega
    show IsRangeIter _ _ (lo+((0:Nat):Int)*1) ((((hi - lo).toNat:Nat):Int) - ((0:Nat):Int)) 1
    rw[e1,e2]
    exact Heap.get?_push_size _ rfl
  · have e:b=(s.heap.push { cls:=.type "range",data:=.fields #[.int lo t,.int hi u,.int 1 v] }).objs.size:=by simpa using hb
    subst e
    exact I1.fpOk (Nat.le_refl _) (I1.hok.fresh (Nat.le_refl _))
def iRng1 (ta:TA):TI:=fun σ H R=>ta σ H fun vs H1=>∃ j:Int,vs=[.int j]/\-(2 ^ 62)<=j/\j<2 ^ 62/\R (Itr 0 j.toNat) H1
theorem pi_range1 {a:Expr}{ta:TA}{p pos:Pos} (hg:Gl X "range") (hm:X.mg "range"=none) (ha:PA X [a] ta) (hs:starEach [a] X.env=[(false,eval a X.env)]:=by rfl):PI X tg (.Call (.Name "range" p) [a] [] pos) (iRng1 ta):=by
  intro pins s σ H R I h
  refine Call_ (ld_blt I hg hm boot_range (PyProof.Rows.callWith_type1 (thn (ha pos pins s σ H _ I h) fun us s1 ⟨vs,H1,I1,r1,q1⟩=>?_) hs rfl))
  obtain⟨j,e,q1,q2,q⟩:=q1
  subst e
  cases r1 with
  | cons r rr=>
    cases rr
    obtain⟨t,rfl⟩:=r
    exact call_range_1 (range_it I1 (by omega) (by omega) q1 q2 (by simpa using q))
def tFor (wi:TI) (g:TG) (tb:TS):TS:=fun D σ H=>wi σ H fun J H1=>∃ W:Nat->Nat->St->Hp->Prop,(∃ m,W 0 m σ H1)/\∀ i m σ H,W i m σ H ->
  (J.stop i H/\D.nx σ H)∨(J.go i H/\∃ N:St->Hp->Prop,(∀ σ' H',N σ' H'->∃ m',m'<m/\W (i+1) m' σ' H')/\∀ x H',J.yld i H x H'->g x σ H' fun σ2 H2=>tb { D with nx:=N,ct:=N,bk:=D.nx } σ2 H2)
def pinsAt (fp:List Addr) (h:Heap):List (Addr × Obj):=fp.filterMap fun b=>(h.get? b).map fun o=>(b,o)
theorem mem_pinsAt {fp:List Addr}{h:Heap}{b:Addr}{o:Obj} (hb:b∈fp) (e:h.get? b=some o):(b,o)∈pinsAt fp h:=List.mem_filterMap.mpr ⟨b,hb,by rw[e]; rfl⟩
theorem of_pinsAt {fp:List Addr}{h:Heap}{p:Addr × Obj} (hp:p∈pinsAt fp h):p.1∈fp/\h.get? p.1=some p.2:=by
  obtain⟨b,hb,e⟩:=List.mem_filterMap.mp hp
  cases q:h.get? b with
  | none=>rw[q] at e; cases e
  | some o=>
    rw[q] at e
    have e':(b,o)=p:=Option.some.inj e
    subst e'
    exact⟨hb,q⟩
theorem Inv.pinned {pins:List (Addr × Obj)}{σ:St}{H:Hp}{s:Shared}{fp:List Addr} (I:Inv X pins σ H s) (hf:∀ b∈fp,FpOk X pins H b) (ho:∀ b∈fp,∃ o,s.heap.get? b=some o/\∀ v,o.data≠.cell v):Inv X (pins++pinsAt fp s.heap) σ H s :=
  I.pins_of fun p hp=>(List.mem_append.mp hp).elim (fun z=>I.pin p (List.mem_append_right _ z)) fun z=>by
    obtain⟨hb,e⟩:=of_pinsAt z
    obtain⟨f0,f1,f2,_⟩:=hf p.1 hb
    obtain⟨o,e',d⟩:=ho p.1 hb
    rw[e] at e'; cases e'
    exact⟨e,f0,f1,f2,d⟩
theorem Inv.unpinned {pins pl:List (Addr × Obj)}{σ:St}{H:Hp}{s:Shared} (I:Inv X (pins++pl) σ H s):Inv X pins σ H s:=I.pins_of fun p hp=>I.pin p (List.mem_append_right _ (List.mem_append_left _ hp))
theorem ps_for {iter : Expr} {body : List Stmt} {wi : TI} {g : TG} {tb : TS} {pos : Pos} (hp : PassesOwn (model X.prog X.w) X.A X.env X.xe) (hc : X.calm = true) (hi : PI X tg iter wi) (hg : PG X tg g) (hb : PSs X body tb)
    (hs:∀ x,foldedSetIterable iter X.env x=pure x:=by intro _; rfl):PS X (.For tg iter body [] pos) (tFor wi g tb):=by
  intro pins s σ H D I h
  refine wpAny_For (thn (hi pins s σ H _ I h) fun v s1 h1=>thn h1 fun itv s2 h2=>?_) hs
  obtain⟨it,fp,tn,J,H2,e,I2,T,st2,f2,W,⟨m0,w0⟩,turn⟩:=h2
  subst e
  have stat:∀ {H':Hp},(∀ b∈fp,H' b=none)->∀ b∈fp,FpOk X pins H' b:=fun hn b hb=>⟨hn b hb,(f2 b hb).2⟩
  refine codeAny_forLoop_any (fun n s'=>∃ i σ' H',Inv X pins σ' H' s'/\tn i s'.heap/\(∀ b∈fp,H' b=none)/\W i n σ' H') ?_ m0 ⟨0,σ,H2,I2,st2,fun b hb=>(f2 b hb).1,w0⟩
  rintro n s3 ⟨i,σ3,H3,I3,st3,fr3,w3⟩
  rcases turn i n σ3 H3 w3 with ⟨stop,qn⟩ | ⟨go,N,hN,step⟩
  · refine wpAny_passesOwn hp (thn (T.done X rfl rfl rfl hc i pins s3 σ3 H3 X.xe I3 (stat fr3) st3 stop) fun r s4 ⟨hr,I4⟩=>?_)
    subst hr
    exact wpAny_execs_nil ⟨σ3,H3,I4,qn⟩
  · refine wpAny_passesOwn hp (thn (T.item X rfl rfl rfl hc i pins s3 σ3 H3 X.xe I3 (stat fr3) st3 go) fun r s4 ⟨u,hr,h4⟩=>?_)
    subst hr
    refine wpAny_passesOwn hp (thn h4 fun _ s5 ⟨x,H5,I5,r5,y5,st5,fr5⟩=>?_)
    have I5':=I5.pinned (stat fr5) (T.obj _ _ st5)
    refine wpAny_passesOwn hp (thn (hg _ s5 σ3 H5 x u _ I5' r5 (step x H5 y5)) fun _ s6 ⟨σ6,H6,I6,q6⟩=>?_)
    refine wpAny_passesOwn hp (thn (hb _ s6 σ6 H6 _ I6 q6) fun f s7 q7=>?_)
    have again:∀ {σ7:St}{H7:Hp},Inv X (pins++pinsAt fp s5.heap) σ7 H7 s7->N σ7 H7->∃ m,m<n/\∃ i σ' H',Inv X pins σ' H' s7/\tn i s7.heap/\(∀ b∈fp,H' b=none)/\W i m σ' H':=fun {σ7 H7} I7 n7=>by
      obtain⟨m',hm,w7⟩:=hN σ7 H7 n7
      refine⟨m',hm,i+1,σ7,H7,I7.unpinned,T.keep _ _ _ st5 fun b hb o e=>(I7.pin (b,o) (List.mem_append_right _ (List.mem_append_right _ (mem_pinsAt hb e)))).1,fun b hb=>?_,w7⟩
      obtain⟨o,e,d⟩:=T.obj _ _ st5 b hb
      exact (I7.pin (b,o) (List.mem_append_right _ (List.mem_append_right _ (mem_pinsAt hb e)))).2.1
    cases f with
    | next=>obtain⟨σ7,H7,I7,n7⟩:=q7; exact again I7 n7
    | cont=>obtain⟨σ7,H7,I7,n7⟩:=q7; exact again I7 n7
    | brk=>obtain⟨σ7,H7,I7,q7⟩:=q7; exact⟨σ7,H7,I7.unpinned,q7⟩
    | ret v=>obtain⟨x7,σ7,H7,I7,r7,q7⟩:=q7; exact⟨x7,σ7,H7,I7.unpinned,r7,q7⟩
end
theorem for_tup {K : PySem.W.Frag} {a : Addr} {xs : List V} {g : TG} {tb : TS} {D : Ends} {σ : St} {H : Hp} (Pv : Nat → St → Hp → Prop) (h0 : Pv 0 σ H) (hl : ∀ i σ H, i ≤ xs.length → Pv i σ H → SqT K H a xs)
    (hs:∀ i x σ H,xs[i]?=some x->Pv i σ H->g x σ H fun σ2 H2=>tb { D with nx:=Pv (i+1),ct:=Pv (i+1),bk:=D.nx } σ2 H2) (hd:∀ σ H,Pv xs.length σ H->D.nx σ H) :
    ∃ W:Nat->Nat->St->Hp->Prop,(∃ m,W 0 m σ H)/\∀ i m σ H,W i m σ H ->
      ((Itt K a).stop i H/\D.nx σ H)∨((Itt K a).go i H/\∃ N:St->Hp->Prop,(∀ σ' H',N σ' H'->∃ m',m'<m/\W (i+1) m' σ' H')/\∀ x H',(Itt K a).yld i H x H'->g x σ H' fun σ2 H2=>tb { D with nx:=N,ct:=N,bk:=D.nx } σ2 H2):=by
  refine⟨fun i m σ H=>m=xs.length - i/\i<=xs.length/\Pv i σ H,⟨xs.length,by simp,Nat.zero_le _,h0⟩,?_⟩
  rintro i m σ H ⟨rfl,hi,p⟩
  have q:=hl i σ H hi p
  by_cases hlt:i<xs.length
  · refine .inr ⟨⟨xs,xs[i],q,by simp[hlt]⟩,Pv (i+1),fun σ' H' p'=>⟨xs.length - (i+1),by omega,rfl,hlt,p'⟩,fun x H' y=>?_⟩
    obtain⟨e,y⟩:=y
    subst e
    exact hs i x σ _ (y xs q) p
  · have e:i=xs.length:=by omega
    subst e
    exact .inl ⟨⟨xs,q,Nat.le_refl _⟩,hd σ H p⟩
theorem for_range {lo : Int} {n : Nat} {g : TG} {tb : TS} {D : Ends} {σ : St} {H : Hp} (Pv : Nat → St → Hp → Prop) (h0 : Pv 0 σ H)
    (hs:∀ i σ H,i<n->Pv i σ H->g (.int (lo+i)) σ H fun σ2 H2=>tb { D with nx:=Pv (i+1),ct:=Pv (i+1),bk:=D.nx } σ2 H2) (hd:∀ σ H,Pv n σ H->D.nx σ H) :
    ∃ W:Nat->Nat->St->Hp->Prop,(∃ m,W 0 m σ H)/\∀ i m σ H,W i m σ H ->
      ((Itr lo n).stop i H/\D.nx σ H)∨((Itr lo n).go i H/\∃ N:St->Hp->Prop,(∀ σ' H',N σ' H'->∃ m',m'<m/\W (i+1) m' σ' H')/\∀ x H',(Itr lo n).yld i H x H'->g x σ H' fun σ2 H2=>tb { D with nx:=N,ct:=N,bk:=D.nx } σ2 H2):=by
  refine⟨fun i m σ H=>m=n - i/\i<=n/\Pv i σ H,⟨n,by simp,Nat.zero_le _,h0⟩,?_⟩
  rintro i m σ H ⟨rfl,hi,p⟩
  by_cases hlt:i<n
  · refine .inr ⟨hlt,Pv (i+1),fun σ' H' p'=>⟨n - (i+1),by omega,rfl,hlt,p'⟩,fun x H' y=>?_⟩
    obtain⟨e,y⟩:=y
    subst e y
    exact hs i σ _ hlt p
  · have e:i=n:=by omega
    subst e
    exact .inl ⟨Nat.le_refl _,hd σ H p⟩
end L2
namespace L2
open PySem PySem.Spec PyProof.Rows
abbrev R2:=V->V->Hp->VK->Prop
def OpR (X:Cx) (f:Value->Value->Sem Value) (r:R2):Prop :=
  ∀ (pins:List (Addr × Obj)) (s:Shared) (σ:St) (H:Hp) (x y:V) (v u:Value) (Q:VK),Inv X pins σ H s->RelV x v->RelV y u->r x y H Q ->
    wpAny (model X.prog X.w) X.A (f v u) (EP X pins σ Q) X.xe s
def UnR (X:Cx) (f:Value->Sem Value) (r:V->Hp->VK->Prop):Prop :=
  ∀ (pins:List (Addr × Obj)) (s:Shared) (σ:St) (H:Hp) (x:V) (v:Value) (Q:VK),Inv X pins σ H s->RelV x v->r x H Q ->
    wpAny (model X.prog X.w) X.A (f v) (EP X pins σ Q) X.xe s
def CallR (X:Cx) (f:Value) (r:List V->Hp->VK->Prop):Prop :=
  ∀ (pins:List (Addr × Obj)) (s:Shared) (σ:St) (H:Hp) (xs:List V) (us:List Value) (Q:VK),Inv X pins σ H s->Vals xs us->r xs H Q ->
    wpAny (model X.prog X.w) X.A (call f us) (EP X pins σ Q) X.xe s
def TruR (X:Cx) (r:V->Hp->(Bool->Hp->Prop)->Prop):Prop :=
  ∀ (pins:List (Addr × Obj)) (s:Shared) (σ:St) (H:Hp) (x:V) (v:Value) (Q:Bool->Hp->Prop),Inv X pins σ H s->RelV x v->r x H Q ->
    wpAny (model X.prog X.w) X.A (truthy v) (TP X pins σ Q) X.xe s
def tOp (r:R2) (ta tb:TE):TE:=fun σ H Q=>ta σ H fun x H1=>tb σ H1 fun y H2=>r x y H2 Q
def tUn (r:V->Hp->VK->Prop) (ta:TE):TE:=fun σ H Q=>ta σ H fun x H1=>r x H1 Q
def rI (C:Int->Int->Prop) (g:Int->Int->V):R2:=fun x y H Q=>∃ i j,x=.int i/\y=.int j/\C i j/\Q (g i j) H
def rI0 (g:Int->Int->V):R2:=fun x y H Q=>∃ i j,x=.int i/\y=.int j/\Q (g i j) H
def rU (g:Int->V):V->Hp->VK->Prop:=fun x H Q=>∃ i,x=.int i/\Q (g i) H
section
variable {X:Cx}{a b c:Expr}{ta tb tc:TE}{pos:Pos}
theorem binT (ha : PE X a ta) (hb : PE X b tb) {pins : List (Addr × Obj)} {s : Shared} {σ : St} {H : Hp} {R : V → V → Hp → Prop} (I : Inv X pins σ H s)
    (h:ta σ H fun x H1=>tb σ H1 fun y H2=>R x y H2) {Q:Value->Shared->Prop}{f:Value->Value->Sem Value}
    (hf:∀ v u s2 x y H2,Inv X pins σ H2 s2->RelV x v->RelV y u->R x y H2->wpAny (model X.prog X.w) X.A (f v u) Q X.xe s2) :
    wpAny (model X.prog X.w) X.A (eval a X.env) (fun v s₁=>wpAny (model X.prog X.w) X.A (eval b X.env) (fun u s₂=>wpAny (model X.prog X.w) X.A (f v u) Q X.xe s₂) X.xe s₁) X.xe s:=by
  refine thn (ha pins s σ H _ I h) fun v s1 ⟨x,H1,I1,r1,q1⟩=>?_
  refine thn (hb pins s1 σ H1 _ I1 q1) fun u s2 ⟨y,H2,I2,r2,q2⟩=>?_
  exact hf v u s2 x y H2 I2 r1 r2 q2
theorem pe_op {op:Operator}{r:R2} (ho:OpR X (binaryOp op) r) (ha:PE X a ta) (hb:PE X b tb):PE X (.BinOp a op b pos) (tOp r ta tb):=by
  intro pins s σ H Q I h
  exact wpAny_BinOp (binT ha hb I h fun v u s2 x y H2 I2 rx ry q=>ho pins s2 σ H2 x y v u Q I2 rx ry q)
theorem pe_un {op:UnaryOp}{r:V->Hp->VK->Prop} (ho:UnR X (unaryOp op) r) (ha:PE X a ta):PE X (.UnaryOp op a pos) (tUn r ta):=by
  intro pins s σ H Q I h
  exact UnaryOp_ (thn (ha pins s σ H _ I h) fun v s1 ⟨x,H1,I1,r1,q1⟩=>ho pins s1 σ H1 x v Q I1 r1 q1)
theorem opI {f : Value → Value → Sem Value} {C : Int → Int → Prop} {g : Int → Int → Int}
    (rule:∀ (i j:Int) (t u:Tok) (s:Shared) (Q:Value->Shared->Prop) (E:Value->Shared->Prop),C i j->Q (.int (g i j) s.toks) { s with toks:=s.toks+1 }->wpAny (model X.prog X.w) X.A (f (.int i t) (.int j u)) Q E s) :
    OpR X f (rI C fun i j=>.int (g i j)):=by
  intro pins s σ H x y v u Q I rx ry h
  obtain⟨i,j,rfl,rfl,hc,q⟩:=h
  obtain⟨t,rfl⟩:=rx
  obtain⟨t',rfl⟩:=ry
  exact rule i j t t' s _ _ hc ⟨.int (g i j),H,I.tok _,⟨_,rfl⟩,q⟩
theorem opI0 {f : Value → Value → Sem Value} {g : Int → Int → Int}
    (rule:∀ (i j:Int) (t u:Tok) (s:Shared) (Q:Value->Shared->Prop) (E:Value->Shared->Prop),Q (.int (g i j) s.toks) { s with toks:=s.toks+1 }->wpAny (model X.prog X.w) X.A (f (.int i t) (.int j u)) Q E s) :
    OpR X f (rI0 fun i j=>.int (g i j)):=by
  intro pins s σ H x y v u Q I rx ry h
  obtain⟨i,j,rfl,rfl,q⟩:=h
  obtain⟨t,rfl⟩:=rx
  obtain⟨t',rfl⟩:=ry
  exact rule i j t t' s _ _ ⟨.int (g i j),H,I.tok _,⟨_,rfl⟩,q⟩
theorem opB0 {f : Value → Value → Sem Value} {g : Int → Int → Bool}
    (rule:∀ (i j:Int) (t u:Tok) (s:Shared) (Q:Value->Shared->Prop) (E:Value->Shared->Prop),Q (.bool (g i j)) s->wpAny (model X.prog X.w) X.A (f (.int i t) (.int j u)) Q E s) :
    OpR X f (rI0 fun i j=>.bl (g i j)):=by
  intro pins s σ H x y v u Q I rx ry h
  obtain⟨i,j,rfl,rfl,q⟩:=h
  obtain⟨t,rfl⟩:=rx
  obtain⟨t',rfl⟩:=ry
  exact rule i j t t' s _ _ ⟨.bl (g i j),H,I,rfl,q⟩
def CDiv (i j:Int):Prop:=0<j/\j<1073741824
def CPow (i j:Int):Prop:=0<=j/\j<=1000000/\i.natAbs<2 ^ 64
def CMul (i j:Int):Prop:=(-(2 ^ 64)<i/\i<2 ^ 64)∨(-(2 ^ 64)<j/\j<2 ^ 64)
theorem CMul.ok {i j:Int} (h:CMul i j):IntMulOk i j:=by
  rcases h with ⟨h1,h2⟩ | ⟨h1,h2⟩
  · exact .of_left (intBits_le_64 h1 h2)
  · exact .of_right (intBits_le_64 h1 h2)
theorem op_add:OpR X (binaryOp .Add) (rI0 fun i j=>.int (i+j)):=opI0 fun _ _ _ _ _ _ _ q=>add_int q
theorem op_sub:OpR X (binaryOp .Sub) (rI0 fun i j=>.int (i - j)):=opI0 fun _ _ _ _ _ _ _ q=>sub_int q
theorem op_mul:OpR X (binaryOp .Mult) (rI CMul fun i j=>.int (i*j)):=opI fun _ _ _ _ _ _ _ hc q=>mul_int q hc.ok
theorem op_fdiv:OpR X (binaryOp .FloorDiv) (rI CDiv fun i j=>.int (i / j)):=opI fun i j _ _ _ _ _ hc q=>by
  have h1:(0:Int)<j:=hc.1
  have h2:j<1073741824:=hc.2
  exact floordiv_int (by omega) (by rw[Int.fdiv_eq_ediv_of_nonneg i (by omega)]; exact q) (.inl (PyProof.noPylong_small (by omega)))
theorem op_mod:OpR X (binaryOp .Mod) (rI (fun _ j=>0<j) fun i j=>.int (i % j)):=opI fun i j _ _ _ _ _ hc q=>by
  have h1:(0:Int)<j:=hc
  exact mod_int' (by omega) (by rw[Int.fmod_eq_emod_of_nonneg i (by omega)]; exact q)
theorem op_pow:OpR X (binaryOp .Pow) (rI CPow fun i j=>.int (i ^ j.toNat)):=opI fun _ _ _ _ _ _ _ hc q=>pow_int_small hc.1 hc.2.1 hc.2.2 q
theorem unI {f : Value → Sem Value} {g : Int → Int}
    (rule:∀ (i:Int) (t:Tok) (s:Shared) (Q:Value->Shared->Prop) (E:Value->Shared->Prop),Q (.int (g i) s.toks) { s with toks:=s.toks+1 }->wpAny (model X.prog X.w) X.A (f (.int i t)) Q E s) :
    UnR X f (rU fun i=>.int (g i)):=by
  intro pins s σ H x v Q I rx h
  obtain⟨i,rfl,q⟩:=h
  obtain⟨t,rfl⟩:=rx
  exact rule i t s _ _ ⟨.int (g i),H,I.tok _,⟨_,rfl⟩,q⟩
theorem un_neg:UnR X (unaryOp .USub) (rU fun i=>.int (-i)):=unI fun _ _ _ _ _ q=>neg_int q
end
def scal:V->V->Bool
  | .non,.non=>true | .non,.int _=>true | .int _,.non=>true | .non,.bl _=>true | .bl _,.non=>true | .non,.str _=>true | .str _,.non=>true
  | .int _,.int _=>true | .bl _,.bl _=>true | .str _,.str _=>true | .byt _,.byt _=>true
  | .int _,.str _=>true | .str _,.int _=>true | .bl _,.str _=>true | .str _,.bl _=>true
  | _,_=>false
def rEq:R2:=fun x y H Q=>scal x y=true/\Q (.bl (decide (x=y))) H
def rNe:R2:=fun x y H Q=>scal x y=true/\Q (.bl (!decide (x=y))) H
theorem dec_int {i j:Int}:decide (V.int i=V.int j)=(i == j):=by
  rw[Bool.eq_iff_iff]
  simp
theorem dec_bl {i j:Bool}:decide (V.bl i=V.bl j)=(i == j):=by
  rw[Bool.eq_iff_iff]
  simp
theorem dec_str {i j:Str}:decide (V.str i=V.str j)=(i == j):=by
  rw[Bool.eq_iff_iff]
  simp
theorem dec_byt {i j:Array UInt8}:decide (V.byt i=V.byt j)=(i.toList == j.toList):=by
  rw[Bool.eq_iff_iff]
  cases i
  cases j
  simp
section
variable {X:Cx}{a b c:Expr}{ta tb tc:TE}{pos:Pos}
theorem fin_bl {pins:List (Addr × Obj)}{σ:St}{H:Hp}{s:Shared}{Q:VK}{k k':Bool} (I:Inv X pins σ H s) (q:Q (.bl k) H) (e:k=k'):EP X pins σ Q (.bool k') s:=by
  subst e
  exact⟨.bl k,H,I,rfl,q⟩
theorem op_eq:OpR X (compareOp .Eq) rEq:=by
  intro pins s σ H x y v u Q I rx ry h
  obtain⟨hs,q⟩:=h
  cases x with
  | non=>
    cases rx
    cases y with
    | non=>cases ry; exact PySem.EqNone.eq_none_none (fin_bl I q (by simp))
    | bl j=>cases ry; exact PySem.EqNone.eq_none_bool (fin_bl I q (by simp))
    | int j=>obtain⟨t',rfl⟩:=ry; exact PySem.EqNone.eq_none_int (fin_bl I q (by simp))
    | str j=>obtain⟨t',rfl⟩:=ry; exact PySem.EqNone.eq_none_str (fin_bl I q (by simp))
    | _=>exact absurd (show false=true from hs) Bool.false_ne_true
  | bl i=>
    cases rx
    cases y with
    | non=>cases ry; exact PySem.EqNone.eq_bool_none (fin_bl I q (by simp))
    | bl j=>cases ry; exact eq_bool (fin_bl I q dec_bl)
    | str j=>obtain⟨t',rfl⟩:=ry; exact PySem.EqMixed.eq_bool_str (fin_bl I q (by simp))
    | _=>exact absurd (show false=true from hs) Bool.false_ne_true
  | int i=>
    obtain⟨t,rfl⟩:=rx
    cases y with
    | non=>cases ry; exact PySem.EqNone.eq_int_none (fin_bl I q (by simp))
    | int j=>obtain⟨t',rfl⟩:=ry; exact eq_int (fin_bl I q dec_int)
    | str j=>obtain⟨t',rfl⟩:=ry; exact PySem.EqMixed.eq_int_str (fin_bl I q (by simp))
    | _=>exact absurd (show false=true from hs) Bool.false_ne_true
  | str i=>
    obtain⟨t,rfl⟩:=rx
    cases y with
    | non=>cases ry; exact PySem.EqNone.eq_str_none (fin_bl I q (by simp))
    | bl j=>cases ry; exact PySem.EqMixed.eq_str_bool (fin_bl I q (by simp))
    | int j=>obtain⟨t',rfl⟩:=ry; exact PySem.EqMixed.eq_str_int (fin_bl I q (by simp))
    | str j=>obtain⟨t',rfl⟩:=ry; exact eq_str (fin_bl I q dec_str)
    | _=>exact absurd (show false=true from hs) Bool.false_ne_true
  | byt i=>
    obtain⟨t,rfl⟩:=rx
    cases y with
    | byt j=>obtain⟨t',rfl⟩:=ry; exact PySem.W.eq_bytes (fin_bl I q dec_byt)
    | _=>exact absurd (show false=true from hs) Bool.false_ne_true
  | _=>cases y <;> exact absurd (show false=true from hs) Bool.false_ne_true
theorem op_ne:OpR X (compareOp .NotEq) rNe:=by
  intro pins s σ H x y v u Q I rx ry h
  obtain⟨hs,q⟩:=h
  cases x with
  | non=>
    cases rx
    cases y with
    | non=>cases ry; exact PySem.EqNone.ne_none_none (fin_bl I q (by simp))
    | bl j=>cases ry; exact PySem.EqNone.ne_none_bool (fin_bl I q (by simp))
    | int j=>obtain⟨t',rfl⟩:=ry; exact PySem.EqNone.ne_none_int (fin_bl I q (by simp))
    | str j=>obtain⟨t',rfl⟩:=ry; exact PySem.EqNone.ne_none_str (fin_bl I q (by simp))
    | _=>exact absurd (show false=true from hs) Bool.false_ne_true
  | bl i=>
    cases rx
    cases y with
    | non=>cases ry; exact PySem.EqNone.ne_bool_none (fin_bl I q (by simp))
    | bl j=>cases ry; exact ne_bool (fin_bl I q (congrArg not dec_bl))
    | str j=>obtain⟨t',rfl⟩:=ry; exact PySem.EqMixed.ne_bool_str (fin_bl I q (by simp))
    | _=>exact absurd (show false=true from hs) Bool.false_ne_true
  | int i=>
    obtain⟨t,rfl⟩:=rx
    cases y with
    | non=>cases ry; exact PySem.EqNone.ne_int_none (fin_bl I q (by simp))
    | int j=>obtain⟨t',rfl⟩:=ry; exact ne_int (fin_bl I q (congrArg not dec_int))
    | str j=>obtain⟨t',rfl⟩:=ry; exact PySem.EqMixed.ne_int_str (fin_bl I q (by simp))
    | _=>exact absurd (show false=true from hs) Bool.false_ne_true
  | str i=>
    obtain⟨t,rfl⟩:=rx
    cases y with
    | non=>cases ry; exact PySem.EqNone.ne_str_none (fin_bl I q (by simp))
    | bl j=>cases ry; exact PySem.EqMixed.ne_str_bool (fin_bl I q (by simp))
    | int j=>obtain⟨t',rfl⟩:=ry; exact PySem.EqMixed.ne_str_int (fin_bl I q (by simp))
    | str j=>obtain⟨t',rfl⟩:=ry; exact ne_str (fin_bl I q (congrArg not dec_str))
    | _=>exact absurd (show false=true from hs) Bool.false_ne_true
  | byt i=>
    obtain⟨t,rfl⟩:=rx
    cases y with
    | byt j=>obtain⟨t',rfl⟩:=ry; exact PySem.W.ne_bytes (fin_bl I q (congrArg not dec_byt))
    | _=>exact absurd (show false=true from hs) Bool.false_ne_true
  | _=>cases y <;> exact absurd (show false=true from hs) Bool.false_ne_true
theorem op_lt:OpR X (compareOp .Lt) (rI0 fun i j=>.bl (decide (i<j))):=opB0 fun _ _ _ _ _ _ _ q=>lt_int q
theorem op_le:OpR X (compareOp .LtE) (rI0 fun i j=>.bl (decide (i<=j))):=opB0 fun _ _ _ _ _ _ _ q=>le_int q
theorem op_gt:OpR X (compareOp .Gt) (rI0 fun i j=>.bl (decide (j<i))):=opB0 fun _ _ _ _ _ _ _ q=>gt_int q
theorem op_ge:OpR X (compareOp .GtE) (rI0 fun i j=>.bl (decide (j<=i))):=opB0 fun _ _ _ _ _ _ _ q=>ge_int q
theorem op_isN:OpR X (compareOp .Is) (fun x y H Q=>y=.non/\Q (.bl (decide (x=.non))) H):=by
  intro pins s σ H x y v u Q I rx ry h
  obtain⟨rfl,q⟩:=h
  cases ry
  refine is_none_gen (fin_bl I q ?_)
  cases x <;> first
    | (cases rx; rfl)
    | (obtain⟨t,rfl⟩:=rx; rfl)
theorem op_notN:OpR X (compareOp .IsNot) (fun x y H Q=>y=.non/\Q (.bl (!decide (x=.non))) H):=by
  intro pins s σ H x y v u Q I rx ry h
  obtain⟨rfl,q⟩:=h
  cases ry
  refine isnot_none_gen (fin_bl I q ?_)
  cases x <;> first
    | (cases rx; rfl)
    | (obtain⟨t,rfl⟩:=rx; rfl)
theorem nomark (b:Expr) {op:CmpOp} (h:op≠.In:=by decide) (h2:op≠.NotIn:=by decide):behindInMarks op b=false:=by
  have e1:(op == CmpOp.In)=false:=by cases op <;> first | rfl | exact absurd rfl h
  have e2:(op == CmpOp.NotIn)=false:=by cases op <;> first | rfl | exact absurd rfl h2
  cases b <;> simp[behindInMarks,e1,e2]
theorem pe_cmpR {op:CmpOp}{r:R2} (ho:OpR X (compareOp op) r) (ha:PE X a ta) (hb:PE X b tb) (hm:behindInMarks op b=false):PE X (.Compare a [op] [b] pos) (tOp r ta tb):=by
  intro pins s σ H Q I h
  exact wpAny_Compare1 (binT ha hb I h fun v u s2 x y H2 I2 rx ry q=>ho pins s2 σ H2 x y v u Q I2 rx ry q) hm
def tTest (t:TE):TT:=fun σ H Q=>t σ H fun x H'=>∃ k,x=.bl k/\Q k H'
theorem pt_cmpR {op:CmpOp}{r:R2} (ho:OpR X (compareOp op) r) (ha:PE X a ta) (hb:PE X b tb) (hm:behindInMarks op b=false):PT X (.Compare a [op] [b] pos) (tTest (tOp r ta tb)):=by
  intro pins s σ H Q I h
  refine wpAny_isTrue_Compare1 (thn (ha pins s σ H _ I h) fun v s1 ⟨x,H1,I1,r1,q1⟩=>thn (hb pins s1 σ H1 _ I1 q1) fun u s2 ⟨y,H2,I2,r2,q2⟩=>
    thn (ho pins s2 σ H2 x y v u _ I2 r1 r2 q2) fun c s3 ⟨z,H3,I3,r3,k,e,q3⟩=>?_) hm
  subst e
  cases r3
  exact wpAny_truthy_bool ⟨H3,I3,q3⟩
def tChain (r r':R2) (ta tb tc:TE):TE:=fun σ H Q=>ta σ H fun x H1=>tb σ H1 fun y H2=>r x y H2 fun z H3=>∃ k,z=.bl k /\
  (if k=true then tc σ H3 fun w' H4=>r' y w' H4 Q else Q (.bl false) H3)
theorem pe_chain {op op' : CmpOp} {r r' : R2} (ho : OpR X (compareOp op) r) (ho' : OpR X (compareOp op') r') (ha : PE X a ta) (hb : PE X b tb) (hc : PE X c tc)
    (hm:lastMarks [op,op'] [b,c]=false:=by with_unfolding_all rfl):PE X (.Compare a [op,op'] [b,c] pos) (tChain r r' ta tb tc):=by
  intro pins s σ H Q I h
  refine Compare_chain (thn (ha pins s σ H _ I h) fun v s1 ⟨x,H1,I1,r1,q1⟩=>chain_link (thn (hb pins s1 σ H1 _ I1 q1) fun u s2 ⟨y,H2,I2,r2,q2⟩=>
    thn (ho pins s2 σ H2 x y v u _ I2 r1 r2 q2) fun d s3 ⟨z,H3,I3,r3,k,e,q3⟩=>?_)) hm
  subst e
  cases r3
  refine wpAny_truthy_bool ?_
  cases k with
  | false=>exact ite_ff ⟨.bl false,H3,I3,rfl,q3⟩
  | true=>exact ite_tt (chain_last (thn (hc pins s3 σ H3 _ I3 q3) fun w' s4 ⟨z',H4,I4,r4,q4⟩=>ho' pins s4 σ H4 y z' u w' Q I4 r2 r4 q4))
theorem pt_chain {op op' : CmpOp} {r r' : R2} (ho : OpR X (compareOp op) r) (ho' : OpR X (compareOp op') r') (ha : PE X a ta) (hb : PE X b tb) (hc : PE X c tc)
    (hm:lastMarks [op,op'] [b,c]=false:=by with_unfolding_all rfl):PT X (.Compare a [op,op'] [b,c] pos) (tTest (tChain r r' ta tb tc)):=by
  intro pins s σ H Q I h
  refine isTrue_chain (thn (ha pins s σ H _ I h) fun v s1 ⟨x,H1,I1,r1,q1⟩=>test_link (thn (hb pins s1 σ H1 _ I1 q1) fun u s2 ⟨y,H2,I2,r2,q2⟩=>
    thn (ho pins s2 σ H2 x y v u _ I2 r1 r2 q2) fun d s3 ⟨z,H3,I3,r3,k,e,q3⟩=>?_)) hm
  subst e
  cases r3
  refine wpAny_truthy_bool ?_
  cases k with
  | false=>
    obtain⟨k',e',q'⟩:=q3
    cases e'
    exact ite_ff ⟨H3,I3,q'⟩
  | true=>
    refine ite_tt (test_last (thn (hc pins s3 σ H3 _ I3 q3) fun w' s4 ⟨z',H4,I4,r4,q4⟩=>thn (ho' pins s4 σ H4 y z' u w' _ I4 r2 r4 q4) fun d' s5 ⟨z2,H5,I5,r5,k2,e2,q5⟩=>?_))
    subst e2
    cases r5
    exact wpAny_truthy_bool ⟨H5,I5,q5⟩
def TruV (K:PySem.W.Frag) (x:V) (H:Hp) (k:Bool):Prop :=
  match x with
  | .non=>k=false
  | .bl b=>k=b
  | .int i=>k=(i != 0)
  | .str y=>y.length<=sizeLine/\k=((y.length:Int) != 0)
  | .byt y=>y.size<=sizeLine/\k=((y.size:Int) != 0)
  | .ref p=>(∃ xs,SqL K H p xs/\k = !xs.isEmpty)∨(∃ xs,SqT K H p xs/\k = !xs.isEmpty)∨∃ kvs,H p=some (.dK kvs)/\k = !kvs.isEmpty
  | _=>False
theorem isEmpty_kv {κ:Type}{kvs:List (κ × V)}{vs:List (κ × Value)} (r:KV kvs vs):(!vs.isEmpty) = !kvs.isEmpty:=by
  cases r <;> rfl
theorem isEmpty_of {xs:List V}{its:List Value} (r:Vals xs its):(!its.toArray.isEmpty) = !xs.isEmpty:=by
  cases r <;> simp
theorem line63:(sizeLine:Nat)<2 ^ 63:=by rw[sizeLine_eq]; decide
theorem tru_ok:TruR X (fun x H Q=>∃ k,TruV X.K x H k/\Q k H):=by
  intro pins s σ H x v Q I rx h
  obtain⟨k,e,q⟩:=h
  have hl:=line63
  have hs:sizeLine=16777216:=sizeLine_eq
  cases x with
  | non=>
    cases rx
    have e':k=false:=e
    subst e'
    exact truthy_none ⟨H,I,q⟩
  | bl b=>
    cases rx
    have e':k=b:=e
    subst e'
    exact wpAny_truthy_bool ⟨H,I,q⟩
  | int i=>
    obtain⟨t,rfl⟩:=rx
    have e':k=(i != 0):=e
    subst e'
    exact PySem.P.truthy_int ⟨H,I,q⟩
  | str y=>
    obtain⟨t,rfl⟩:=rx
    obtain⟨hy,e'⟩:y.length<=sizeLine/\k=((y.length:Int) != 0):=e
    subst e'
    exact PySem.P.truthy_str (by omega) ⟨H,I.tok _,q⟩
  | byt y=>
    obtain⟨t,rfl⟩:=rx
    obtain⟨hy,e'⟩:y.size<=sizeLine/\k=((y.size:Int) != 0):=e
    subst e'
    exact PySem.W.truthy_bytes (by omega) ⟨H,I.tok _,q⟩
  | ref p=>
    cases rx
    have e':(∃ xs,SqL X.K H p xs/\k = !xs.isEmpty)∨(∃ xs,SqT X.K H p xs/\k = !xs.isEmpty)∨∃ kvs,H p=some (.dK kvs)/\k = !kvs.isEmpty:=e
    rcases e' with ⟨xs,hx,e'⟩ | ⟨xs,hx,e'⟩ | ⟨kvs,hx,e'⟩
    · subst e'
      obtain⟨its,r,pl,hz⟩:=I.list hx
      have hlen:=r.length
      exact wpAny_truthy_list pl.isList (by simp only[List.size_toArray]; omega) ⟨H,I.tok _,by rw[isEmpty_of r]; exact q⟩
    · subst e'
      obtain⟨its,r,pl,hz⟩:=I.tuple hx
      have hlen:=r.length
      exact truthy_tuple pl (by simp only[List.size_toArray]; omega) ⟨H,I.tok _,by rw[isEmpty_of r]; exact q⟩
    · subst e'
      obtain⟨hz,hS,vs,r,m⟩:kvs.length<=sizeLine/\(p == sysModules)=false/\∃ vs,KV kvs vs/\s.heap.DictOf (mixKind X.prog X.w) p vs:=I.hok p _ hx
      have hlen:kvs.length=vs.length:=Paired.length r
      exact wpAny_truthy_dict hS m (by omega) ⟨H,I.tok _,by rw[isEmpty_kv r]; exact q⟩
  | _=>exact (show False from e).elim
theorem pt_truth (ha : PE X a ta) (he : ∀ whole, isTrue a X.env whole = (do let v ← whole; standAt a.pos; holding [v] (truthy v))) :
    PT X a (fun σ H Q=>ta σ H fun x H'=>∃ k,TruV X.K x H' k/\Q k H'):=by
  intro pins s σ H Q I h
  exact isTrue_plain (thn (ha pins s σ H _ I h) fun v s1 ⟨x,H1,I1,r1,q1⟩=>tru_ok pins s1 σ H1 x v Q I1 r1 q1) (he _)
theorem vals1 {x:V}{us:List Value} (r:Vals [x] us):∃ u,us=[u]/\RelV x u:=by
  cases r with
  | cons r1 r2=>cases r2; exact⟨_,rfl,r1⟩
theorem vals2 {x y:V}{us:List Value} (r:Vals [x,y] us):∃ u w',us=[u,w']/\RelV x u/\RelV y w':=by
  cases r with
  | cons r1 r2=>
    cases r2 with
    | cons r3 r4=>cases r4; exact⟨_,_,rfl,r1,r3⟩
theorem call_abs:CallR X (.builtin "abs") (fun xs H Q=>∃ i,xs=[.int i]/\Q (.int (if i<0 then -i else i)) H):=by
  intro pins s σ H xs us Q I r h
  obtain⟨i,rfl,q⟩:=h
  obtain⟨u,rfl,t,rfl⟩:=vals1 r
  exact call_abs_int fun u tk=>⟨.int (if i<0 then -i else i),H,I.tok _,⟨_,rfl⟩,q⟩
theorem call_max2 (hc:X.calm=true):CallR X (.builtin "max") (fun xs H Q=>∃ i j,xs=[.int i,.int j]/\Q (.int (if j > i then j else i)) H):=by
  intro pins s σ H xs us Q I r h
  obtain⟨i,j,rfl,q⟩:=h
  obtain⟨u,w',rfl,⟨t,rfl⟩,⟨t',rfl⟩⟩:=vals2 r
  refine max_two_ints (I.ok.hd hc) fun h' tk k=>⟨_,H,I.kept k,?_,q⟩
  by_cases hj:j > i
  · rw[if_pos hj,if_pos hj]; exact⟨_,rfl⟩
  · rw[if_neg hj,if_neg hj]; exact⟨_,rfl⟩
theorem call_min2 (hc:X.calm=true):CallR X (.builtin "min") (fun xs H Q=>∃ i j,xs=[.int i,.int j]/\Q (.int (if j<i then j else i)) H):=by
  intro pins s σ H xs us Q I r h
  obtain⟨i,j,rfl,q⟩:=h
  obtain⟨u,w',rfl,⟨t,rfl⟩,⟨t',rfl⟩⟩:=vals2 r
  refine min_two_ints (I.ok.hd hc) fun h' tk k=>⟨_,H,I.kept k,?_,q⟩
  by_cases hj:j<i
  · rw[if_pos hj,if_pos hj]; exact⟨_,rfl⟩
  · rw[if_neg hj,if_neg hj]; exact⟨_,rfl⟩
end
end L2
namespace L2
open PySem PySem.Spec PyProof.Rows
structure ObjM (h:Heap) (x dx C:Addr) (mA:Str->Option Value):Prop where
  obj:h.get? x=some (PySem.W.instObj C dx)
  ns:h.Ns1 dx mA
  ne:dx≠x
theorem lookIn_ns {h:Heap}{dx:Addr}{mA:Str->Option Value} (n:h.Ns1 dx mA):∃ od,h.get? dx=some od/\∀ name,PySem.W.lookIn name od=some (mA name):=by
  obtain⟨o,es,ep,ho,hd,hk,_,hm⟩:=n
  refine⟨o,ho,fun name=>?_⟩
  have e:=hm name
  unfold nsFind findBy at e
  rw[<- Array.find?_toList] at e
  unfold PySem.W.lookIn
  rw[hd]
  dsimp only
  split
  · rename_i y q
    rw[q] at e
    exact congrArg some e
  · rename_i q
    rw[q] at e
    have a:es.toList.any (·.refKey)=false:=by
      rw[List.any_eq_false]
      intro y hy
      obtain⟨z,t,hkey⟩:=hk y (Array.mem_toList_iff.mp hy)
      simp[DictEntry.refKey,hkey]
    have a':¬ es.toList.any (·.refKey)=true:=by rw[a]; exact Bool.false_ne_true
    rw[if_neg a']
    exact congrArg some e
theorem ObjM.look {h:Heap}{x dx C:Addr}{mA:Str->Option Value} (I:ObjM h x dx C mA):∃ od,PySem.W.InstAt h x (PySem.W.instObj C dx) C (some od)/\∀ name,PySem.W.lookIn name od=some (mA name) :=
  let ⟨od,ho,hl⟩:=lookIn_ns I.ns
  ⟨od,⟨I.obj,rfl,rfl,ho⟩,hl⟩
section
variable {prog:Program}{w:World}{A:Around}{E:Value->Shared->Prop}{s:Shared}{K:PySem.W.Frag}{x dx C f:Addr}{mA:Str->Option Value}{name:Str}{v:Value}
end
section
variable {P:Program}{w:World}{H H':Hp}{h h':Heap}{a C dx:Addr}{fs fs':List (Str × V)}
theorem ins_get (hok:HOk P w H h) (e:H a=some (.ins C dx fs)):∃ mA,ObjM h a dx C mA/\(∀ f,RelO (fs.lookup f) (mA f))/\PySem.Within mA (fs.map (·.1))/\fs.length<=1000/\H dx=some (.own a):=by
  obtain⟨d,z,ne,ob,mA,n,r,q⟩:=(show ObjOk P w H h a (.ins C dx fs) from hok a _ e)
  exact⟨mA,⟨ob,n,ne⟩,r,q,z,d⟩
end
structure Cls (K:PySem.W.Frag) (C:Addr):Prop where
  pg:PySem.W.plainGet K C Str.empty=true
  hd:PySem.W.hasDictIn K C=true
  po:PySem.W.plainOver K C=true
  sa:PySem.W.findIn K (.ref C) "__setattr__"=some (some (.builtin "object.__setattr__"))
theorem Cls.get {K:PySem.W.Frag}{C:Addr} (c:Cls K C) (f:Str):PySem.W.plainGet K C f=true:=c.pg
structure Con (K:PySem.W.Frag) (C:Addr) (f:Str) (v:V) (u:Value):Prop where
  at_:PySem.W.findIn K (.ref C) f=some (some u)
  rel:RelV v u
  get:PySem.W.specialIn K u "__get__"=some none
  cp:PySem.W.copiedNames.contains f=false
structure Meth (K:PySem.W.Frag) (C:Addr) (m:Str) (f:Addr):Prop where
  at_:PySem.W.findIn K (.ref C) m=some (some (.ref f))
  fn:PySem.W.isFn K (.ref f)=true
  kp:PySem.W.keepIn K (.ref f)=true
section
variable {X:Cx}{pins:List (Addr × Obj)}{σ:St}{H:Hp}{s:Shared}{a C dx:Addr}{fs:List (Str × V)}{f:Str}{v:V}{A:Around}{E:Value->Shared->Prop}
end
section
variable {X:Cx}{o e value:Expr}{f:Str}{pos pos' tpos:Pos}{ta tv:TE}
end
section
variable {X:Cx}{pins:List (Addr × Obj)}{σ:St}{H:Hp}{s:Shared}{A:Around}{E:Value->Shared->Prop}{Q:Value->Shared->Prop}{c:Value}{b:Bool}
inductive TyOf (K:PySem.W.Frag) (H:Hp):V->Value->Prop where
  | non:TyOf K H .non (.type "NoneType")
  | bl (x:Bool):TyOf K H (.bl x) (.type "bool")
  | int (i:Int):TyOf K H (.int i) (.type "int")
  | str (x:Str):TyOf K H (.str x) (.type "str")
  | flt (x:UInt64):TyOf K H (.flt x) (.type "float")
  | lst {a:Addr}{xs:List V} (e:H a=some (.lst xs)):TyOf K H (.ref a) (.type "list")
  | frz {a:Addr}{o:Obj}{xs:List V} (e:H a=some (.frz o (.lst xs))):TyOf K H (.ref a) (.type "list")
  | tup {a:Addr}{xs:List V} (e:H a=some (.tup xs)):TyOf K H (.ref a) (.type "tuple")
  | dK {a:Addr}{kvs:List (Key × V)} (e:H a=some (.dK kvs)):TyOf K H (.ref a) (.type "dict")
  | dT {a:Addr}{kvs:List (List Key × V)} (e:H a=some (.dT kvs)):TyOf K H (.ref a) (.type "dict")
  | ins {a C dx : Addr} {fs : List (Str × V)} (e : H a = some (.ins C dx fs)) (cl : Cls K C) (ha : PySem.W.findIn K (.ref C) "__class__" = some (some (.builtin "object.__class__")))
      (hn:PySem.W.specialIn K (.builtin "object.__class__") "__get__"=some (some (.builtin "getset_descriptor.__get__"))) (htk:PySem.W.takesIn K (.builtin "object.__class__")=some true)
      (hm:PySem.W.mroIn K C (.type "object")=some true):TyOf K H (.ref a) (.ref C)
theorem isinst_ok {x : V} {u t : Value} (I : Inv X pins σ H s) (rx : RelV x u) (ty : TyOf X.K H x t) (e : PySem.W.kitOne X.K t c = some b) (h : ∀ tk, Q (.bool b) { s with toks := tk }) :
    wpAny (model X.prog X.w) A (call (.builtin "isinstance") [u,c]) Q E s:=by
  cases ty with
  | non=>cases (show u=Value.none from rx); exact PySem.W.kia_one PySem.W.kitx_none I.kIn True.intro e (fun z=>nomatch z) h
  | bl y=>cases (show u=Value.bool y from rx); exact PySem.W.kia_one PySem.W.kitx_bool I.kIn True.intro e (fun z=>nomatch z) h
  | int i=>obtain⟨t,q⟩:=(show ∃ t,u=Value.int i t from rx); cases q; exact PySem.W.kia_one PySem.W.kitx_int I.kIn True.intro e (fun z=>nomatch z) h
  | str y=>obtain⟨t,q⟩:=(show ∃ t,u=Value.str y t from rx); cases q; exact PySem.W.kia_one PySem.W.kitx_str I.kIn True.intro e (fun z=>nomatch z) h
  | flt y=>obtain⟨t,q⟩:=(show ∃ t,u=Value.float y t from rx); cases q; exact PySem.W.kia_one PySem.W.kitx_float I.kIn True.intro e (fun z=>nomatch z) h
  | @lst a xs ea=>
    cases (show u=Value.ref a from rx)
    obtain⟨_,_,n,_,h1⟩:=(show ObjOk X.prog X.w H s.heap a (.lst xs) from I.hok a _ ea)
    exact PySem.W.kia_one PySem.W.kitx_list I.kIn ⟨_,h1,rfl⟩ e (fun z=>nomatch z) h
  | @frz a ob xs ea=>
    cases (show u=Value.ref a from rx)
    obtain⟨_,_,_,n,_,h1⟩:=(show ObjOk X.prog X.w H s.heap a (.frz ob (.lst xs)) from I.hok a _ ea)
    exact PySem.W.kia_one PySem.W.kitx_list I.kIn ⟨_,h1,rfl⟩ e (fun z=>nomatch z) h
  | @tup a xs ea=>
    cases (show u=Value.ref a from rx)
    obtain⟨_,_,_,p⟩:=(show ObjOk X.prog X.w H s.heap a (.tup xs) from I.hok a _ ea)
    obtain⟨o,h1,h2,_⟩:=p
    exact PySem.W.kia_one PySem.W.kitx_tuple I.kIn ⟨o,h1,h2⟩ e (fun z=>nomatch z) h
  | @dK a kvs ea=>
    cases (show u=Value.ref a from rx)
    obtain⟨_,_,vs,_,p⟩:=(show ObjOk X.prog X.w H s.heap a (.dK kvs) from I.hok a _ ea)
    obtain⟨o,es,ep,h1,h2,_⟩:=p
    exact PySem.W.kia_one PySem.W.kitx_dict I.kIn ⟨o,h1,h2.1⟩ e (fun z=>nomatch z) h
  | @dT a kvs ea=>
    cases (show u=Value.ref a from rx)
    obtain⟨_,_,xs,_,o,es,ep,h1,h2,_⟩:=(show ObjOk X.prog X.w H s.heap a (.dT kvs) from I.hok a _ ea)
    exact PySem.W.kia_one PySem.W.kitx_dict I.kIn ⟨o,h1,h2.1⟩ e (fun z=>nomatch z) h
  | @ins a C dx fs ea cl ha hn htk hm=>
    cases (show u=Value.ref a from rx)
    obtain⟨mA,O,_⟩:=ins_get I.hok ea
    obtain⟨od,J,_⟩:=O.look
    exact PySem.W.kia_one (PySem.W.kitx_own (cl.get _) cl.hd ha hn htk hm) I.kIn J e (fun z=>nomatch z) h
end
end L2
namespace L2
open PySem PySem.Spec PyProof.Rows
structure Room (k:Nat) (A:Around):Prop where
  hd:A.handled=none
  dp:A.depth+3*k+5<recursionLimit
  un:A.units+16*k+200<cLine
  gd:A.guards=some []
theorem Room.mono {j k:Nat}{A:Around} (r:Room k A) (h:j<=k):Room j A:=⟨r.hd,by have:=r.dp; omega,by have:=r.un; omega,r.gd⟩
theorem Room.deeper {k:Nat}{A:Around} (r:Room (k+1) A) (env:Env):Room k (A.deeper env) :=
  ⟨r.hd,by have:=r.dp; show A.depth+1+3*k+5<_; omega,by have:=r.un; show A.units+3+16*k+200<_; omega,r.gd⟩
theorem Room.depth {k:Nat}{A:Around} (r:Room k A):A.depth<recursionLimit:=by have:=r.dp; omega
def tNil:TA:=fun _ H Q=>Q [] H
def tCons (ta:TE) (tr:TA):TA:=fun σ H Q=>ta σ H fun x H1=>tr σ H1 fun xs H2=>Q (x::xs) H2
section
variable {X:Cx}{e:Expr}{es:List Expr}{te:TE}{t:TA}{pos:Pos}
theorem pa_nil:PA X [] tNil:=fun _ _ _ _ H Q I h=>Calls.spliced_nil ⟨[],H,I,.nil,h⟩
theorem pa_cons (ha:PE X e te) (hr:PA X es t) (hs:starEach (e::es) X.env=(false,eval e X.env)::starEach es X.env:=by rfl):PA X (e::es) (tCons te t):=by
  intro pos pins s σ H Q I h
  rw[hs]
  show wpAny _ _ (spliced ((false,eval e X.env)::backTo pos (starEach es X.env))) _ _ s
  refine Calls.spliced_cons (thn (ha pins s σ H _ I h) fun u s1 ⟨x,H1,I1,r1,q1⟩=>?_)
  exact thn (hr pos pins s1 σ H1 _ I1 q1) fun us s2 ⟨xs,H2,I2,r2,q2⟩=>⟨x::xs,H2,I2,.cons r1 r2,q2⟩
def tTup (t:TA):TE:=fun σ H Q=>t σ H fun xs H1=>xs.length<=sizeLine/\∀ p,H1 p=none->Q (.ref p) (upd H1 p (.tup xs))
def tLst (t:TA):TE:=fun σ H Q=>t σ H fun xs H1=>xs.length<=sizeLine/\∀ p,H1 p=none->Q (.ref p) (upd H1 p (.lst xs))
theorem pe_tup {x1} (h:PA X es t):PE X (.Tuple es x1 pos) (tTup t):=by
  intro pins s σ H Q I hq
  refine wpAny_Tuple_spliced (thn (h pos pins s σ H _ I hq) fun us s1 ⟨xs,H1,I1,r,z,q⟩=>⟨by rw[<- r.length]; exact z,?_⟩)
  have hf:H1 s1.heap.objs.size=none:=I1.hok.fresh (Nat.le_refl _)
  refine⟨.ref s1.heap.objs.size,upd H1 s1.heap.objs.size (.tup xs),I1.laid (t':=s1.toks) (fun b u e=>Heap.get?_push_of_some _ e) (Nat.le_refl _) ?_,rfl,q _ hf⟩
  exact⟨z,us,r,⟨_,Heap.get?_push_size _ rfl,rfl,rfl,_,rfl⟩⟩
theorem pe_lst (h:PA X es t):PE X (.List es pos) (tLst t):=by
  intro pins s σ H Q I hq
  refine wpAny_List_spliced (thn (h pos pins s σ H _ I hq) fun us s1 ⟨xs,H1,I1,r,z,q⟩=>⟨by rw[<- r.length]; exact z,?_⟩)
  have hf:H1 s1.heap.objs.size=none:=I1.hok.fresh (Nat.le_refl _)
  refine⟨.ref s1.heap.objs.size,upd H1 s1.heap.objs.size (.lst xs),I1.laid (t':=s1.toks) (fun b u e=>Heap.get?_push_of_some _ e) (Nat.le_refl _) ?_,rfl,q _ hf⟩
  exact⟨z,us,0,r,Heap.get?_push_size _ rfl⟩
end
abbrev Sp:=List V->Hp->VK->XK->Prop
abbrev CXT:=List Env->Hp->Shared->XK->Value->Shared->Prop
structure Env0 (P:Program) (w:World) (K:PySem.W.Frag) (mg:Str->Option Value) (base:Heap) (A:Around) (outer:List Env) (s:Shared) (H:Hp):Prop where
  frames:A.frames=some outer
  mod:Mod K mg base
  bs:∀ b o,base.get? b=some o->s.heap.get? b=some o/\H b=none
  bsz:base.objs.size<=s.heap.objs.size
  funs:s.heap.FunFrames base outer
  frf:∀ b∈frs outer,H b=none
  hok:HOk P w H s.heap
  bare:AllBare s.gens
def CE (outer:List Env) (P:Program) (w:World) (H:Hp) (s:Shared) (Q:VK) (u:Value) (s':Shared):Prop :=
  ∃ v H',s'.os=s.os/\AllBare s'.gens/\Un (frs outer) [] H H' s.heap s'.heap/\HOk P w H' s'.heap/\RelV v u/\Q v H'
def CR (CX:CXT) (outer:List Env) (P:Program) (w:World) (H:Hp) (s:Shared) (Q:VK) (E:XK) (r:Result) (s':Shared):Prop :=
  match r with
  | .ok (.ret u)=>CE outer P w H s Q u s'
  | .ok _=>False
  | .error e=>CX outer H s E e s'
structure FnOk (P:Program) (w:World) (K:PySem.W.Frag) (mg:Str->Option Value) (base:Heap) (CX:CXT) (k:Nat) (f:Addr) (fd:FuncData) (ps:List Str) (sp:Sp):Prop where
  len:∀ vs H Q E,sp vs H Q E->vs.length=ps.length
  run:∀ (A:Around) (outer:List Env) (s:Shared) (H:Hp) (args:Args) (us:List Value) (vs:List V) (Q:VK) (E:XK),Room k A->Env0 P w K mg base A outer s H->BindsTo s fd args (ps.zip us)->Vals vs us->sp vs H Q E ->
    codeAny (model P w) A (.call (.ref f) args) (CR CX outer P w H s Q E) s
theorem FnOk.mono {P : Program} {w : World} {K : PySem.W.Frag} {mg : Str → Option Value} {base : Heap} {CX : CXT} {j k : Nat} {f : Addr} {fd : FuncData} {ps : List Str} {sp : Sp} (F : FnOk P w K mg base CX j f fd ps sp) (h : j ≤ k) :
    FnOk P w K mg base CX k f fd ps sp:=⟨F.len,fun A outer s H args us vs Q E hr=>F.run A outer s H args us vs Q E (hr.mono h)⟩
section
variable {X:Cx}{pins:List (Addr × Obj)}{σ:St}{H:Hp}{s s':Shared}
theorem Inv.env0 (I:Inv X pins σ H s):Env0 X.prog X.w X.K X.mg X.base X.A X.stack s H :=
  ⟨I.ok.frames,I.ok.mod,I.bs,Nat.le_trans I.ok.bsz I.sz,I.stack,I.stkFree,I.hok,I.bare⟩
theorem Inv.after {Q:VK}{u:Value} (I:Inv X pins σ H s) (h:CE X.stack X.prog X.w H s Q u s'):EP X pins σ Q u s':=by
  obtain⟨v,H',os,bare,un,hok,r,q⟩:=h
  obtain⟨hh,g,d,t,os'⟩:=s'
  obtain rfl:os'=s.os:=os
  exact⟨v,H',I.call (h':=hh) (g':=g) (d':=d) (t':=t) (ch:=[]) un hok bare (fun b z=>absurd z (by simp)),r,q⟩
end
def tCall (sp:Sp) (dvs:List V) (E:XK) (t:TA):TE:=fun σ H Q=>t σ H fun vs H1=>sp (vs++dvs) H1 Q E
def Binds (K:PySem.W.Frag) (fd:FuncData) (ps:List Str) (ds:List Value):Prop :=
  ∀ (s:Shared) (us:List Value),K.In s.heap->(us++ds).length=ps.length->BindsTo s fd ⟨us,[]⟩ (ps.zip (us++ds))
theorem Binds.all {K:PySem.W.Frag}{fd:FuncData}{ps:List Str} (h:∀ us:List Value,us.length=ps.length->bindArgs fd ⟨us,[]⟩=pure (ps.zip us)):Binds K fd ps []:=fun s us _ hl=>by
  rw[List.append_nil] at hl ⊢
  exact .of_eq (h us hl)
def Passes (CX:CXT) (X:Cx) (E:XK):Prop:=∀ (pins:List (Addr × Obj)) (σ:St) (H:Hp) (s:Shared) (e:Value) (s':Shared),Inv X pins σ H s->CX X.stack H s E e s'->X.xe e s'
section
variable {X:Cx}{CX:CXT}{k:Nat}{f C:Addr}{fd:FuncData}{ps:List Str}{sp:Sp}{dvs:List V}{ds:List Value}{E:XK}{x m:Str}{p pos apos:Pos}{e o:Expr}{es:List Expr}{ta:TE}{t:TA}
theorem run_fn {pins : List (Addr × Obj)} {σ : St} {H : Hp} {s : Shared} {Q : VK} {us : List Value} {vs : List V} (F : FnOk X.prog X.w X.K X.mg X.base CX k f fd ps sp) (hr : Room k X.A) (hb : Binds X.K fd ps ds) (hd : Vals dvs ds) (hx : Passes CX X E)
    (I:Inv X pins σ H s) (r:Vals vs us) (h:sp (vs++dvs) H Q E):wpAny (model X.prog X.w) X.A (call (.ref f) us) (EP X pins σ Q) X.xe s:=by
  have r2:Vals (vs++dvs) (us++ds):=r.append hd
  have hl:(us++ds).length=ps.length:=by rw[<- r2.length]; exact F.len _ _ _ _ h
  refine wpAny_call (codeAny_mono (F.run X.A X.stack s H ⟨us,[]⟩ (us++ds) (vs++dvs) Q E hr I.env0 (hb s us I.kIn hl) r2 h) fun r s' hq=>?_)
  cases r with
  | error e=>exact hx pins σ H s e s' I hq
  | ok fl=>
    cases fl with
    | ret u=>exact I.after hq
    | next=>exact False.elim hq
    | brk=>exact False.elim hq
    | cont=>exact False.elim hq
theorem pe_call (F : FnOk X.prog X.w X.K X.mg X.base CX k f fd ps sp) (hr : Room k X.A) (hg : Gl X x) (hm : X.mg x = some (.ref f)) (hk : PySem.W.keepIn X.K (.ref f) = true) (hb : Binds X.K fd ps ds) (hd : Vals dvs ds) (hx : Passes CX X E)
    (ha:PA X (e::es) t) (hdb:(x == ("__debug__":Str))=false:=by decide) (he:starEach (e::es) X.env=(false,eval e X.env)::starEach es X.env:=by rfl) (hpl:(backTo pos (starEach es X.env)).any (·.1)=false:=by rfl) :
    PE X (.Call (.Name x p) (e::es) [] pos) (tCall sp dvs E t):=by
  intro pins s σ H Q I h
  refine wpAny_Call_Name_kw (ld_glob I hg hm ?_ hdb)
  refine PySem.W.callWith_K (h₀:=X.base) I.ok.mod.kin hk (thn (ha pos pins s σ H _ I h) fun us s1 ⟨vs,H1,I1,r,q⟩=>⟨I1.kIn,?_⟩) he hpl
  exact run_fn F hr hb hd hx I1 r q
structure Mk (K:PySem.W.Frag) (C f:Addr):Prop where
  makes:PySem.W.makesIn K C=true
  init:PySem.W.findIn K (.ref C) "__init__"=some (some (.ref f))
  fn:PySem.W.isFn K (.ref f)=true
  kp:PySem.W.keepIn K (.ref C)=true
end
section
variable {X:Cx}{CX:CXT}{k:Nat}{f C:Addr}{fd:FuncData}{ps ks:List Str}{sp:Sp}{E:XK}{x m:Str}{p pos apos kpos:Pos}{e o:Expr}{es:List Expr}{kws:List Keyword}{te ta:TE}{t tk:TA}{nm:Option Str}
structure KBinds (K:PySem.W.Frag) (fd:FuncData) (ps ks:List Str) (g:List Value->List Value->List Value) (gV:List V->List V->List V):Prop where
  to:∀ (s:Shared) (us ws:List Value),K.In s.heap->(g us ws).length=ps.length->BindsTo s fd ⟨us,ks.zip ws⟩ (ps.zip (g us ws))
  rel:∀ {vs:List V}{us:List Value}{zs:List V}{ws:List Value},Vals vs us->Vals zs ws->Vals (gV vs zs) (g us ws)
variable {g:List Value->List Value->List Value}{gV:List V->List V->List V}
end
structure FnScope (N P:List Str) (sc:Scope):Prop where
  kind:sc.kind=.function
  co:sc.isCoroutine=false
  gen:sc.isGenerator=false
  nd:N.Nodup
  pre:N.take P.length=P
  par:∀ x∈P,sc.names.lookup x=some .local ∨ sc.names.lookup x=some .cell
  nofree:∀ y∈sc.names,y.2≠.free
theorem bindL_out {kindOf:Str->Option NameKind}{x:Str}:∀ {binds:List (Str × Value)}{m:Str->Option Value},(∀ v,(x,v) ∉ binds)->bindL kindOf binds m x=m x
  | [],_,_=>rfl
  | (n,v)::r,m,h=>by
    unfold bindL
    rw[bindL_out fun w hw=>h w (List.mem_cons_of_mem _ hw)]
    split
    · have:x≠n:=by rintro rfl; exact h v List.mem_cons_self
      simp[this]
    · rfl
theorem bindC_out {kindOf:Str->Option NameKind}{x:Str}:∀ {binds:List (Str × Value)}{m:Str->Option Value},(∀ v,(x,v) ∉ binds)->bindC kindOf binds m x=m x
  | [],_,_=>rfl
  | (n,v)::r,m,h=>by
    unfold bindC
    rw[bindC_out fun w hw=>h w (List.mem_cons_of_mem _ hw)]
    split
    · rfl
    · have:x≠n:=by rintro rfl; exact h v List.mem_cons_self
      simp[this]
theorem bindL_get {kindOf : Str → Option NameKind} {x : Str} {v : Value} : ∀ {P : List Str} {vs : List Value} {i : Nat} {m : Str → Option Value}, P.Nodup → P[i]? = some x → vs[i]? = some v → kindOf x = some .local →
    bindL kindOf (P.zip vs) m x=some v
  | [],_,_,_,_,h,_,_=>by simp at h
  | _::_,[],_,_,_,_,h,_=>by simp at h
  | p::P,w::vs,0,m,nd,h1,h2,hk=>by
    simp at h1 h2; subst h1; subst h2
    show bindL kindOf ((p,w)::P.zip vs) m p=_
    unfold bindL
    rw[bindL_out fun v hv=>(List.nodup_cons.mp nd).1 (List.of_mem_zip hv).1,if_pos hk]
    simp
  | p::P,w::vs,i+1,m,nd,h1,h2,hk=>by
    show bindL kindOf ((p,w)::P.zip vs) m x=_
    unfold bindL
    exact bindL_get (i:=i) (List.nodup_cons.mp nd).2 (by simpa using h1) (by simpa using h2) hk
theorem bindC_get {kindOf : Str → Option NameKind} {x : Str} {v : Value} : ∀ {P : List Str} {vs : List Value} {i : Nat} {m : Str → Option Value}, P.Nodup → P[i]? = some x → vs[i]? = some v → kindOf x ≠ some .local →
    bindC kindOf (P.zip vs) m x=some v
  | [],_,_,_,_,h,_,_=>by simp at h
  | _::_,[],_,_,_,_,h,_=>by simp at h
  | p::P,w::vs,0,m,nd,h1,h2,hk=>by
    simp at h1 h2; subst h1; subst h2
    show bindC kindOf ((p,w)::P.zip vs) m p=_
    unfold bindC
    rw[bindC_out fun v hv=>(List.nodup_cons.mp nd).1 (List.of_mem_zip hv).1,if_neg hk]
    simp
  | p::P,w::vs,i+1,m,nd,h1,h2,hk=>by
    show bindC kindOf ((p,w)::P.zip vs) m x=_
    unfold bindC
    exact bindC_get (i:=i) (List.nodup_cons.mp nd).2 (by simpa using h1) (by simpa using h2) hk
def start (N:List Str) (vs:List V):St:=vs.map some++List.replicate (N.length - vs.length) none
def cxOf (CX:CXT) (P:Program) (w:World) (K:PySem.W.Frag) (mg:Str->Option Value) (base:Heap) (N:List Str) (qual:Str) (scope:Scope) (f:Addr) (cd:Value) (A:Around) (outer:List Env) (s:Shared) (H:Hp) (E:XK):Cx where
  prog:=P
  w:=w
  K:=K
  mg:=mg
  base:=base
  A:=A.deeper (envOfC qual scope s.heap.objs.size f cd)
  N:=N
  s₀:=s
  H₀:=H
  env:=envOfC qual scope s.heap.objs.size f cd
  outer:=outer
  stack:=envOfC qual scope s.heap.objs.size f cd::outer
  ex:=[]
  calm:=true
  fn:=fun _=>true
  pn:=[]
  xe:=fun e s'=>wpAny (model P w) (A.deeper (envOfC qual scope s.heap.objs.size f cd)) (leaving (envOfC qual scope s.heap.objs.size f cd) e) (fun _ s''=>CX outer H s E e s'') (fun e' s''=>CX outer H s E e' s'') s'
theorem cell_has {sc:Scope}{n:Nat}{x:Str} (h:sc.names.lookup x=some .cell):∃ c,(cellsFrom n sc.names []).lookup x=some c:=by
  have q:=PySem.W.cellsFrom_some sc.names n [] (.inl h)
  exact Option.isSome_iff_exists.mp q
theorem inv_start {CX : CXT} {P : Program} {w : World} {K : PySem.W.Frag} {mg : Str → Option Value} {base : Heap} {N ps : List Str} {qual : Str} {scope : Scope} {f : Addr} {cd : Value} {A : Around} {outer : List Env} {s s1 : Shared} {H : Hp} {E : XK} {us : List Value} {vs : List V}
    (S:FnScope N ps scope) (hd:A.handled=none) (e0:Env0 P w K mg base A outer s H) (hl:vs.length=ps.length) (r:Vals vs us)
    (x:InCallC s s.heap.objs.size (bindL (envOfC qual scope s.heap.objs.size f cd).kindOf (ps.zip us) fun _=>none) (cellsFrom (s.heap.objs.size+1) scope.names []) (bindC (envOfC qual scope s.heap.objs.size f cd).kindOf (ps.zip us) fun _=>none) s1) :
    Inv (cxOf CX P w K mg base N qual scope f cd A outer s H E) [] (start N vs) H s1:=by
  have hpl:ps.length<=N.length:=by have:=congrArg List.length S.pre; rw[List.length_take] at this; omega
  obtain⟨h1,tk,rfl,hk⟩:=x.done
  have noA:∀ b:Addr,b ∉ (cxOf CX P w K mg base N qual scope f cd A outer s H E).ex:=fun b z=>absurd (show b∈([]:List Addr) from z) (by simp)
  refine⟨⟨e0.mod,S.kind,rfl,rfl,Nat.le_refl _,fun y z c h1 h2=>?_,fun y hy=>?_,fun y c _ h=>?_,fun _=>hd,Around.frames_deeper e0.frames,.inr ⟨rfl,rfl⟩,fun b z=>absurd z (noA b),e0.bs,e0.bsz,fun b _ _=>noA b,fun b z=>absurd z (noA b),e0.funs,e0.frf⟩,
    rfl,e0.bare,Un.kept hk,⟨_,x.toInCall.ns,fun i y v h1 h2 h3=>?_⟩,fun y c h=>⟨_,x.cell y c h⟩,e0.hok.fresh (Nat.le_refl _),fun y c h=>?_,fun p hp=>absurd (show p∈([]:List (Addr × Obj)) from hp) (by simp),e0.hok.kept hk,?_⟩
  · exact name_of_addr x.apart (PySem.mem_of_lookup h1) (PySem.mem_of_lookup h2)
  · have hy:scope.names.lookup y=some .cell∨scope.names.lookup y=some .free:=hy
    rcases hy with hy | hy
    · exact cell_has hy
    · exact absurd rfl (S.nofree _ (PySem.mem_of_lookup hy))
  · exact Nat.le_of_lt (x.above y c (PySem.mem_of_lookup h))
  · have hi : i < vs.length := by
      unfold start at h2
      by_cases hi:i<vs.length
      · exact hi
      · rw[List.getElem?_append_right (by simpa using hi)] at h2
        rw[List.getElem?_replicate] at h2
        split at h2 <;> cases h2
    have ha:vs[i]?=some v:=by
      unfold start at h2
      rw[List.getElem?_append_left (by simpa using hi),List.getElem?_map] at h2
      cases e:vs[i]? with
      | none=>rw[e] at h2; cases h2
      | some a=>rw[e] at h2; cases h2; rfl
    obtain⟨u,hu,rv⟩:=r.get ha
    have hp:ps[i]?=some y:=by
      rw[<- S.pre,List.getElem?_take_of_lt (by omega)]; exact h1
    have ndP:ps.Nodup:=by rw[<- S.pre]; exact S.nd.sublist (List.take_sublist _ _)
    refine⟨u,rv,?_⟩
    rcases S.par y (List.mem_of_getElem? hp) with k | k
    · exact .inl ⟨k,bindL_get ndP hp hu k⟩
    · obtain⟨c,e⟩:=cell_has (n:=s.heap.objs.size+1) k
      refine .inr ⟨.inl k,c,e,?_⟩
      have q:=x.cell y c e
      rw[bindC_get ndP hp hu (by show scope.names.lookup y≠_; rw[k]; decide)] at q
      exact q
  · exact e0.hok.fresh (Nat.le_of_lt (x.above y c (PySem.mem_of_lookup h)))
  · unfold start
    show _=N.length
    rw[List.length_append,List.length_map,List.length_replicate]
    omega
theorem fn_of {CX : CXT} {P : Program} {w : World} {K : PySem.W.Frag} {mg : Str → Option Value} {base : Heap} {k : Nat} {f : Addr} {name qual : Str} {params : Arguments} {body : List Stmt} {scope : Scope} {dV kV doc pm cdv ct oc : Value} {an od : Option Addr}
    {osl:Array (Option Value)}{N ps:List Str}{sp:Sp} (lk:K.lookup f=some ⟨oc,od,.func (PySem.W.fnOf name qual params body scope dV kV doc pm an cdv ct),osl⟩) (hcd:PySem.W.codeIn K cdv qual=true) (S:FnScope N ps scope)
    (len:∀ vs H Q E,sp vs H Q E->vs.length=ps.length)
    (hbody:∀ (A:Around) (outer:List Env) (s:Shared) (H:Hp) (vs:List V) (Q:VK) (E:XK),Room k (A.deeper (envOfC qual scope s.heap.objs.size f cdv))->sp vs H Q E ->
      ∃ t,PSs (cxOf CX P w K mg base N qual scope f cdv A outer s H E) body t/\t { nx:=fun _ H'=>Q .non H',rt:=Q } (start N vs) H) :
    FnOk P w K mg base CX (k+1) f (PySem.W.fnOf name qual params body scope dV kV doc pm an cdv ct) ps sp:=by
  refine⟨len,fun A outer s H args us vs Q E hr e0 hb r hsp=>?_⟩
  have hl:=len _ _ _ _ hsp
  have KX:K.In s.heap:=e0.mod.kin.keeps fun b o e=>(e0.bs b o e).1
  have lim:s.heap.NoLimit:=e0.mod.nolimit.keeps fun b o e=>(e0.bs b o e).1
  have hkind:∀ y∈ps.zip us,scope.names.lookup y.1=some .local ∨ (scope.names.lookup y.1=some .cell/\((cellsFrom (s.heap.objs.size+1) scope.names []).lookup y.1).isSome=true):=fun ⟨n,v⟩ hy=>by
    rcases S.par n (List.of_mem_zip hy).1 with q | q
    · exact .inl q
    · exact .inr ⟨q,PySem.W.cellsFrom_some _ _ _ (.inl q)⟩
  refine codeAny_call_function hr.depth (KX _ _ lk) rfl S.co S.gen rfl (PySem.W.codeRec_of KX hcd) (hb _ _ _ _ ?_)
  refine wpAny_newFunctionEnv_cells S.kind hkind fun env he s1 x=>?_
  subst he
  refine⟨lim.keeps x.toInCall.keep,codeAny_func ?_⟩
  obtain⟨t,ht,hq⟩:=hbody A outer s H vs Q E (hr.deeper _) hsp
  have I:Inv (cxOf CX P w K mg base N qual scope f cdv A outer s H E) [] (start N vs) H s1:=inv_start S hr.hd e0 hl r x
  refine wpAny_mono (ht [] s1 (start N vs) H _ I hq) (fun fl s' hs=>?_) fun e s' hs=>hs
  have fin:∀ {σ':St}{H':Hp}{v:V}{u:Value},Inv (cxOf CX P w K mg base N qual scope f cdv A outer s H E) [] σ' H' s'->RelV v u->Q v H'->CE outer P w H s Q u s' :=
    fun {σ' H' v u} J rv q=>⟨v,H',J.os,J.bare,J.base,J.hok,rv,q⟩
  cases fl with
  | ret u=>
    obtain⟨v,σ',H',J,rv,q⟩:=hs
    exact fin J rv q
  | next=>
    obtain⟨σ',H',J,q⟩:=hs
    exact fin (v:=V.non) (u:=Value.none) J rfl q
  | brk=>
    obtain⟨_,_,_,q⟩:=hs
    exact False.elim q
  | cont=>
    obtain⟨_,_,_,q⟩:=hs
    exact False.elim q
end L2
namespace L2
open PySem PySem.Spec PyProof.Rows
section
variable {X:Cx}{x:Str}{p pos:Pos}{e:Expr}{es:List Expr}{t:TA}{id T:String}{r:List V->Hp->VK->Prop}
def tCB (r:List V->Hp->VK->Prop) (t:TA):TE:=fun σ H Q=>t σ H fun vs H1=>r vs H1 Q
theorem pe_callB (hc : CallR X (.builtin id) r) (hg : Gl X x) (hm : X.mg x = none) (hv : bootBuiltins x = some (.builtin id)) (ha : PA X (e :: es) t) (hn : x ≠ "__name__" := by decide) (hdb : (x == ("__debug__" : Str)) = false := by decide)
    (he:starEach (e::es) X.env=(false,eval e X.env)::starEach es X.env:=by rfl) (hpl:(backTo pos (starEach es X.env)).any (·.1)=false:=by rfl):PE X (.Call (.Name x p) (e::es) [] pos) (tCB r t):=by
  intro pins s σ H Q I h
  refine wpAny_Call_Name_kw (ld_blt I hg hm hv ?_ hn hdb)
  exact PyProof.Rows.callWith_builtin1 (thn (ha pos pins s σ H _ I h) fun us s1 ⟨vs,H1,I1,r1,q1⟩=>hc pins s1 σ H1 vs us Q I1 r1 q1) he hpl
theorem pe_callTy (hc : CallR X (.type T) r) (hg : Gl X x) (hm : X.mg x = none) (hv : bootBuiltins x = some (.type T)) (ha : PA X (e :: es) t) (hn : x ≠ "__name__" := by decide) (hdb : (x == ("__debug__" : Str)) = false := by decide)
    (he:starEach (e::es) X.env=(false,eval e X.env)::starEach es X.env:=by rfl) (hpl:(backTo pos (starEach es X.env)).any (·.1)=false:=by rfl):PE X (.Call (.Name x p) (e::es) [] pos) (tCB r t):=by
  intro pins s σ H Q I h
  refine wpAny_Call_Name_kw (ld_blt I hg hm hv ?_ hn hdb)
  exact PyProof.Rows.callWith_type1 (thn (ha pos pins s σ H _ I h) fun us s1 ⟨vs,H1,I1,r1,q1⟩=>hc pins s1 σ H1 vs us Q I1 r1 q1) he hpl
end
end L2
namespace HT
open PySem PyProof.Rows
section
open PySem.SeqAt
open PySem.AutoSeq1 (wpAny_loadPart')
open PySem.MeetsSeq PySem.MeetsSeq2 PySem.MeetsSeq3
end
section
variable {prog:Program}{w:World}{A:Around}{E:Value->Shared->Prop}{s:Shared}
theorem cat_tup {t b : Addr} {vs ws : List Value} {Q : Value → Shared → Prop} (ht : IsTup s.heap t vs.toArray) (hb : IsTup s.heap b ws.toArray) (hv : vs ≠ [])
    (h1:ws=[]->Q (.ref t) s) (h2:ws≠[]->Q (.ref s.heap.objs.size) { s with heap:=s.heap.push { cls:=.type "tuple",data:=.seq (vs++ws).toArray } })
    (hsz:vs.length+ws.length<=sizeLine):wpAny (model prog w) A (binaryOp .Add (.ref t) (.ref b)) Q E s:=by
  obtain⟨⟨cls,dd,data,sl⟩,ho,hc,n,hd⟩:=id ht
  obtain⟨⟨cls2,dd2,data2,sl2⟩,ho2,hc2,n2,hd2⟩:=id hb
  simp only at hc hd hc2 hd2
  subst hc hd hc2 hd2
  have e:vs.toArray++ws.toArray=(vs++ws).toArray:=by simp
  by_cases hw:ws=[]
  · exact concat_meets ⟨_, ho, rfl⟩ ⟨_, ho2, rfl⟩ noFill_tuple_add seq_tuple_add PySem.F.slot_tuple_add PySem.F.entry_tuple_add (PySem.F.args_tuple_add_2 _ _)
      (tuple_addW1 t b vs.toArray ws.toArray n n2 dd dd2 sl sl2 (by simpa using hv) (by simp[hw])) ⟨ho,ho2,h1 hw⟩
  · refine concat_meets ⟨_, ho, rfl⟩ ⟨_, ho2, rfl⟩ noFill_tuple_add seq_tuple_add PySem.F.slot_tuple_add PySem.F.entry_tuple_add (PySem.F.args_tuple_add_2 _ _)
      (tuple_addW2 t b vs.toArray ws.toArray n n2 dd dd2 sl sl2 (by simpa using hv) (by simpa using hw) (by rw[List.size_toArray,List.size_toArray]; exact hsz)) ⟨ho,ho2,?_⟩
    rw[e]
    exact h2 hw
def sIx (n d:Nat):Option Int->Nat
  | none=>d
  | some v=>if v<0 then (v+(n:Int)).toNat else min v.toNat n
theorem sIx_nat (n d k:Nat):sIx n d (some (k:Int))=min k n:=by
  show (if (k:Int)<0 then ((k:Int)+(n:Int)).toNat else min (k:Int).toNat n)=min k n
  rw[if_neg (by omega),Int.toNat_natCast]
theorem sIx_le (n d:Nat) (hd:d<=n) (o:Option Int):sIx n d o<=n:=by
  cases o with
  | none=>exact hd
  | some v=>
    show (if v<0 then (v+(n:Int)).toNat else min v.toNat n)<=n
    by_cases hv:v<0
    · rw[if_pos hv]; omega
    · rw[if_neg hv]; exact Nat.min_le_right _ _
theorem clip_eq (v:Int) (n d:Nat):(if v<0 then max (v+(n:Int)) 0 else min v (n:Int))=((sIx n d (some v):Nat):Int):=by
  show (if v<0 then max (v+(n:Int)) 0 else min v (n:Int))=(((if v<0 then (v+(n:Int)).toNat else min v.toNat n):Nat):Int)
  by_cases hv:v<0
  · simp only[if_pos hv]; omega
  · simp only[if_neg hv]; omega
theorem adjust_gen (lo hi:Option Int) (n:Nat):Builtin.Slice.sliceAdjust lo hi 1 (n:Int)=(((sIx n 0 lo:Nat):Int),((sIx n n hi:Nat):Int)):=by
  have h1:¬ ((1:Int)<0):=by omega
  unfold Builtin.Slice.sliceAdjust
  simp only[h1,if_false]
  refine Prod.ext ?_ ?_
  · cases lo with
    | none=>rfl
    | some v=>exact clip_eq v n 0
  · cases hi with
    | none=>rfl
    | some v=>exact clip_eq v n n
theorem places_gen (i j:Nat):Builtin.Slice.slicePlaces (i:Int) (j:Int) 1=j - i:=by
  unfold Builtin.Slice.slicePlaces
  have h1:(1:Int) > 0:=by omega
  simp only[h1,if_true,Int.ediv_one]
  split <;> omega
theorem slicePart_ {v:Value}{o:Option Int}{Q:Option Int->Shared->Prop} (p:IsPart v o) (h:Q o s):wpAny (model prog w) A (Builtin.Slice.slicePartIndex v) Q E s:=by
  cases p with
  | none=>exact slicePart_none h
  | int i t=>exact slicePart_int h
theorem sliceApplied_gen {sl : Addr} {vl vu : Value} {lo hi : Option Int} {n : Nat} {Q : Int × Int × Nat → Shared → Prop} (hs : s.heap.IsSliceOf sl vl vu .none) (pl : IsPart vl lo) (pu : IsPart vu hi)
    (h:Q (((sIx n 0 lo:Nat):Int),1,sIx n n hi - sIx n 0 lo) s):wpAny (model prog w) A (Builtin.Slice.sliceApplied (.ref sl) (pure (n:Int))) Q E s:=by
  obtain⟨os,hos,hcs,hds⟩:=id hs
  unfold Builtin.Slice.sliceApplied Builtin.Slice.sliceFields
  refine wpAny_bind (wpAny_bind (wpAny_field hos hds (x:=vl) rfl (wpAny_bind (wpAny_field hos hds (x:=vu) rfl (wpAny_bind (wpAny_field hos hds (x:=.none) rfl (wpAny_pure ?_)))))))
  refine wpAny_bind (slicePart_none ?_)
  show wpAny _ _ (if ((1:Int) == 0)=true then _ else _) _ _ s
  rw[if_neg (by decide)]
  refine wpAny_bind (slicePart_ pl (wpAny_bind (slicePart_ pu (wpAny_bind (wpAny_pure ?_)))))
  show wpAny _ _ (match Builtin.Slice.sliceAdjust lo hi 1 (n:Int) with | (lo,hi)=>pure (lo,(1:Int),Builtin.Slice.slicePlaces lo hi 1)) _ _ s
  rw[adjust_gen lo hi n]
  show wpAny _ _ (pure (((sIx n 0 lo:Nat):Int),(1:Int),Builtin.Slice.slicePlaces ((sIx n 0 lo:Nat):Int) ((sIx n n hi:Nat):Int) 1)) _ _ s
  rw[places_gen]
  exact wpAny_pure h
theorem pick_gen (xs:Array Value) (i k:Nat):((List.range k).filterMap fun (m:Nat)=>xs[((i:Int)+(m:Int)*1).toNat]?).toArray=((xs.toList.drop i).take k).toArray:=by
  have e:(fun (m:Nat)=>xs[((i:Int)+(m:Int)*1).toNat]?)=fun m=>xs[i+m]?:=by
    funext m
    have:((i:Int)+(m:Int)*1).toNat=i+m:=by omega
    rw[this]
  rw[e]
  have:=pick_run xs i k
  rw[List.filterMap_map] at this
  have e2:((fun x=>xs[x]?) ∘ fun x=>i+x)=fun m=>xs[i+m]?:=rfl
  rw[e2] at this
  rw[this]
theorem getItem_tuple_cut {t sl : Addr} {items : Array Value} {vl vu : Value} {lo hi : Option Int} {Q : Value → Shared → Prop} (ht : IsTup s.heap t items) (hs : s.heap.IsSliceOf sl vl vu .none) (pl : IsPart vl lo) (pu : IsPart vu hi)
    (hw:¬ (sIx items.size 0 lo=0/\sIx items.size items.size hi=items.size))
    (h:Q (.ref s.heap.objs.size) { s with heap:=s.heap.push { cls:=.type "tuple",data:=.seq ((items.toList.drop (sIx items.size 0 lo)).take (sIx items.size items.size hi - sIx items.size 0 lo)).toArray } })
    (hsz:items.size<=sizeLine):wpAny (model prog w) A (getItem (.ref t) (.ref sl)) Q E s:=by
  have htake:sizeOk (.seq ((items.toList.drop (sIx items.size 0 lo)).take (sIx items.size items.size hi - sIx items.size 0 lo)).toArray):=by
    show ((items.toList.drop (sIx items.size 0 lo)).take (sIx items.size items.size hi - sIx items.size 0 lo)).toArray.size<=sizeLine
    rw[List.size_toArray,List.length_take,List.length_drop,Array.length_toList]
    omega
  have hj:sIx items.size items.size hi<=items.size:=sIx_le _ _ (Nat.le_refl _) hi
  obtain⟨os,hos,hcs,hds⟩:=id hs
  have hTs:s.TypeIs (.ref sl) "slice":=⟨os,hos,hcs⟩
  unfold getItem
  try with_reducible refine wpAny_holding ?_
  first | refine wpAny_bind (wpAny_pure ?_) | skip
  refine wpAny_bind (wpAny_sequenceKey ht.typeIs (by decide) ?_)
  refine wpAny_bind (wpAny_callSpecial?_slot (name:=Str.ofString "__getitem__") ht.typeIs PyProof.Rows.slot_tuple_getitem
    (wpAny_call_entry PyProof.Rows.slot_tuple_getitem ht.typeIs entry_tuple_getitem ?_ (args_tuple_getitem _ _)))
  show wpAny _ _ (Builtin.Tuple.tupleItemsOf (.ref t) >>= _) _ _ s
  refine wpAny_bind (tupleItemsOf_ ht ?_)
  refine wpAny_bind (wpAny_typeOf hTs ?_)
  rw[if_pos (by decide)]
  refine wpAny_bind (sliceApplied_gen hs pl pu ?_)
  have hno:¬ ((((sIx items.size 0 lo:Nat):Int) == 0 && (1:Int) == 1 && (sIx items.size items.size hi - sIx items.size 0 lo) == items.size)=true):=by
    intro q
    rw[Bool.and_eq_true,Bool.and_eq_true] at q
    have q1:((sIx items.size 0 lo:Nat):Int)=0:=eq_of_beq q.1.1
    have q2:sIx items.size items.size hi - sIx items.size 0 lo=items.size:=eq_of_beq q.2
    exact hw ⟨by omega,by omega⟩
  show wpAny _ _ (if (((sIx items.size 0 lo:Nat):Int) == 0 && (1:Int) == 1 && (sIx items.size items.size hi - sIx items.size 0 lo) == items.size)=true then _ else _) _ _ s
  rw[if_neg hno,pick_gen]
  first
    | exact wpAny_bind (m:=Builtin.Tuple.tupleExact _) (wpAny_newObj_type (wpAny_pure ⟨_,rfl,wpAny_pure h⟩) htake)
    | exact wpAny_bind (m:=Builtin.Tuple.tupleExact _) (wpAny_newObj_type (wpAny_bind (wpAny_pure (wpAny_pure ⟨_,rfl,wpAny_pure h⟩))) htake)
    | exact wpAny_bind (wpAny_bind (m:=Builtin.Tuple.tupleExact _) (wpAny_newObj_type (wpAny_pure (wpAny_pure ⟨_,rfl,wpAny_pure h⟩)) htake))
    | exact wpAny_bind (wpAny_bind (m:=Builtin.Tuple.tupleExact _) (wpAny_newObj_type (wpAny_pure ⟨_,rfl,wpAny_pure h⟩) htake))
end
end HT
namespace L2
open PySem PySem.Spec PyProof.Rows
abbrev TO:=St->Hp->(Option Int->Hp->Prop)->Prop
def PO (X:Cx) (e:Option Expr) (t:TO):Prop :=
  ∀ (pins:List (Addr × Obj)) (s:Shared) (σ:St) (H:Hp) (Q:Option Int->Hp->Prop),Inv X pins σ H s->t σ H Q ->
    wpAny (model X.prog X.w) X.A (evalPart e X.env) (fun u s'=>∃ o H',Inv X pins σ H' s'/\IsPart u o/\Q o H') X.xe s
def tNoPart:TO:=fun _ H Q=>Q none H
def tPart (t:TE):TO:=fun σ H Q=>t σ H fun x H1=>∃ i,x=.int i/\Q (some i) H1
theorem intsAre_of {ns:List Int}:∀ {us:List Value},Vals (ns.map V.int) us->IntsAre us ns:=by
  induction ns with
  | nil=>intro us r; rw[List.map_nil] at r; cases r; exact .nil
  | cons n ns ih=>
    intro us r
    rw[List.map_cons] at r
    cases r with
    | cons r1 r2=>
      obtain⟨t,e⟩:=r1
      subst e
      exact .cons n t (ih r2)
section
variable {X:Cx}{e:Expr}{te:TE}{lo hi:Option Expr}{tl th:TO}{pos p2:Pos}
theorem po_none:PO X none tNoPart:=by
  intro pins s σ H Q I h
  rw[evalPart_none]
  exact wpAny_pure ⟨none,H,I,.none,h⟩
theorem po_some (h:PE X e te):PO X (some e) (tPart te):=by
  intro pins s σ H Q I hw
  rw[evalPart_some]
  refine thn (h pins s σ H _ I hw) fun u s1 ⟨x,H1,I1,r1,q1⟩=>?_
  obtain⟨i,rfl,q⟩:=q1
  obtain⟨t,rfl⟩:=r1
  exact⟨some i,H1,I1,.int i t,q⟩
def SlR (X:Cx) (r:V->Option Int->Option Int->Hp->VK->Prop):Prop :=
  ∀ (pins:List (Addr × Obj)) (s:Shared) (σ:St) (H:Hp) (x:V) (v vl vu:Value) (lo hi:Option Int) (sl:Addr) (Q:VK),Inv X pins σ H s->RelV x v->s.heap.IsSliceOf sl vl vu .none->IsPart vl lo->IsPart vu hi->r x lo hi H Q ->
    ∃ T id,typeLookup (.type T) "__getitem__"=pure (some (.builtin id))/\s.TypeIs v T/\wpAny (model X.prog X.w) X.A (getItem v (.ref sl)) (EP X pins σ Q) X.xe s
def tSl (r:V->Option Int->Option Int->Hp->VK->Prop) (te:TE) (tl th:TO):TE:=fun σ H Q=>te σ H fun x H1=>tl σ H1 fun l H2=>th σ H2 fun u H3=>r x l u H3 Q
theorem pe_slice {r:V->Option Int->Option Int->Hp->VK->Prop} (hr:SlR X r) (he:PE X e te) (hl:PO X lo tl) (hu:PO X hi th):PE X (.Subscript e (.Slice lo hi none p2) pos) (tSl r te tl th):=by
  intro pins s σ H Q I h
  refine Subscript_ (thn (he pins s σ H _ I h) fun v s1 ⟨x,H1,I1,r1,q1⟩=>?_)
  refine wpAny_Slice (thn (hl pins s1 σ H1 _ I1 q1) fun vl s2 ⟨l,H2,I2,pl,q2⟩=>thn (hu pins s2 σ H2 _ I2 q2) fun vu s3 ⟨u,H3,I3,pu,q3⟩=>?_)
  rw[evalPart_none]
  refine wpAny_pure ?_
  have I4:Inv X pins σ H3 { s3 with heap:=s3.heap.push { cls:=.type "slice",data:=.fields #[vl,vu,.none] } }:=I3.kept (t':=s3.toks) fun b ob q=>Heap.get?_push_of_some _ q
  obtain⟨T,id,hT,ht,hg⟩:=hr pins { s3 with heap:=s3.heap.push { cls:=.type "slice",data:=.fields #[vl,vu,.none] } } σ H3 x v vl vu l u s3.heap.objs.size Q I4 r1 (Heap.IsSliceOf.new ..) pl pu q3
  show wpAny (model X.prog X.w) X.A (subscriptTail e (.Slice lo hi none p2) v (.ref s3.heap.objs.size)) (EP X pins σ Q) X.xe { s3 with heap:=s3.heap.push { cls:=.type "slice",data:=.fields #[vl,vu,.none] } }
  exact tail_any (ops:=[.ref s3.heap.objs.size,v]) ht hT hg (by with_unfolding_all rfl)
def cutV (xs:List V) (lo hi:Option Int):List V:=(xs.drop (HT.sIx xs.length 0 lo)).take (HT.sIx xs.length xs.length hi - HT.sIx xs.length 0 lo)
theorem cutV_length (xs:List V) (lo hi:Option Int):(cutV xs lo hi).length<=xs.length:=by
  unfold cutV
  rw[List.length_take,List.length_drop]
  omega
def rSlT (K:PySem.W.Frag):V->Option Int->Option Int->Hp->VK->Prop:=fun x lo hi H Q=>∃ a xs,x=.ref a/\SqT K H a xs /\
  ¬ (HT.sIx xs.length 0 lo=0/\HT.sIx xs.length xs.length hi=xs.length)/\∀ p,H p=none->Q (.ref p) (upd H p (.tup (cutV xs lo hi)))
theorem sl_tup:SlR X (rSlT X.K):=by
  intro pins s σ H x v vl vu lo hi sl Q I rx hs pl pu h
  obtain⟨a,xs,rfl,hx,hw,q⟩:=h
  cases rx
  obtain⟨its,r,ht,hz⟩:=I.tuple hx
  have hlen:its.toArray.size=xs.length:=by rw[List.size_toArray]; exact r.length.symm
  refine⟨"tuple",_,PyProof.Rows.slot_tuple_getitem.lookup,ht.typeIs,?_⟩
  refine HT.getItem_tuple_cut ht hs pl pu (by rw[hlen]; exact hw) ?_ (by rw[hlen]; exact hz)
  rw[hlen]
  refine⟨.ref s.heap.objs.size,_,I.laid (t':=s.toks) (o:=.tup (cutV xs lo hi)) (fun b ob q=>Heap.get?_push_of_some _ q) (Nat.le_refl _) ?_,rfl,q _ (I.hok.fresh (Nat.le_refl _))⟩
  exact⟨Nat.le_trans (cutV_length xs lo hi) hz,_,(r.drop (HT.sIx xs.length 0 lo)).take (HT.sIx xs.length xs.length hi - HT.sIx xs.length 0 lo),IsTupD.new _ _⟩
def rCatT (K:PySem.W.Frag):R2:=fun x y H Q=>∃ a b xs ys,x=.ref a/\y=.ref b/\SqT K H a xs/\SqT K H b ys/\xs≠[]/\xs.length+ys.length<=sizeLine /\
  (ys=[]->Q (.ref a) H)/\(ys≠[]->∀ p,H p=none->Q (.ref p) (upd H p (.tup (xs++ys))))
theorem Vals.nil_iff {xs:List V}{us:List Value} (r:Vals xs us):us=[]↔xs=[]:=by
  cases r with
  | nil=>simp
  | cons _ _=>simp
theorem op_catT:OpR X (binaryOp .Add) (rCatT X.K):=by
  intro pins s σ H x y v u Q I rx ry h
  obtain⟨a,b,xs,ys,rfl,rfl,ha,hb,hx,hz,q1,q2⟩:=h
  cases rx
  cases ry
  obtain⟨its,r1,p1,_⟩:=I.tuple ha
  obtain⟨its2,r2,p2,_⟩:=I.tuple hb
  refine HT.cat_tup p1 p2 (fun z=>hx (r1.nil_iff.mp z)) (fun z=>⟨.ref a,H,I,rfl,q1 (r2.nil_iff.mp z)⟩) (fun z=>?_) (by rw[<- r1.length,<- r2.length]; exact hz)
  refine⟨.ref s.heap.objs.size,_,I.laid (t':=s.toks) (o:=.tup (xs++ys)) (fun b ob q=>Heap.get?_push_of_some _ q) (Nat.le_refl _) ?_,rfl,q2 (fun w=>z (r2.nil_iff.mpr w)) _ (I.hok.fresh (Nat.le_refl _))⟩
  exact⟨by rw[List.length_append]; exact hz,_,r1.append r2,IsTupD.new _ _⟩
end
end L2
namespace L2
open PySem PySem.Spec PyProof.Rows
def ixN (n:Nat) (i:Int):Option Nat:=if 0<=i then (if i<n then some i.toNat else none) else if -(n:Int)<=i then some (i+n).toNat else none
def atI {α:Type} (xs:List α) (i:Int):Option α:=(ixN xs.length i).bind fun j=>xs[j]?
theorem ixN_seq {n:Nat}{i:Int}{j:Nat} (h:ixN n i=some j):seqIndex? i n=some j/\j<n/\-(n:Int)<=i/\i<n:=by
  unfold ixN at h
  by_cases h0:0<=i
  · rw[if_pos h0] at h
    by_cases h1:i<n
    · rw[if_pos h1] at h
      have e:i.toNat=j:=Option.some.inj h
      exact⟨by rw[seqIndex_of h0 h1,e],by omega,by omega,h1⟩
    · rw[if_neg h1] at h; cases h
  · rw[if_neg h0] at h
    by_cases h1:-(n:Int)<=i
    · rw[if_pos h1] at h
      have e:(i+n).toNat=j:=Option.some.inj h
      exact⟨by rw[seqIndex_neg (by omega) h1,e],by omega,h1,by omega⟩
    · rw[if_neg h1] at h; cases h
theorem atI_get {α:Type}{xs:List α}{i:Int}{v:α} (h:atI xs i=some v):∃ j,seqIndex? i xs.length=some j/\xs[j]?=some v/\j<xs.length/\-(xs.length:Int)<=i/\i<xs.length:=by
  unfold atI at h
  cases e:ixN xs.length i with
  | none=>rw[e] at h; cases h
  | some j=>
    rw[e] at h
    obtain⟨h1,h2,h3,h4⟩:=ixN_seq e
    exact⟨j,h1,h,h2,h3,h4⟩
theorem atI_nat {α:Type}{xs:List α}{j:Nat}{v:α} (h:xs[j]?=some v):atI xs (j:Int)=some v:=by
  have hj:j<xs.length:=(List.getElem?_eq_some_iff.mp h).1
  have e:ixN xs.length (j:Int)=some j:=by
    unfold ixN
    rw[if_pos (by omega),if_pos (by omega)]; simp
  unfold atI; rw[e]; exact h
def PlainIx (b:Expr):Prop:=∀ o i,subscripted b false o i=operate [o,i] (getItem o i)
def IxR (X:Cx) (r:R2):Prop :=
  ∀ (value slice:Expr) (pins:List (Addr × Obj)) (s:Shared) (σ:St) (H:Hp) (x y:V) (v u:Value) (Q:VK),Inv X pins σ H s->RelV x v->RelV y u->r x y H Q ->
    subscripted slice false v u=operate [v,u] (getItem v u)->wpAny (model X.prog X.w) X.A (subscriptTail value slice v u) (EP X pins σ Q) X.xe s
def MtR (X:Cx) (id:String) (r:V->List V->Hp->VK->Prop):Prop :=
  ∀ (pins:List (Addr × Obj)) (s:Shared) (σ:St) (H:Hp) (x:V) (xs:List V) (v:Value) (us:List Value) (Q:VK),Inv X pins σ H s->RelV x v->Vals xs us->r x xs H Q ->
    wpAny (model X.prog X.w) X.A (call (.builtin id) (v::us)) (EP X pins σ Q) X.xe s
section
variable {X:Cx}{a b:Expr}{ta tb:TE}{pos:Pos}
theorem IxR.or {r r':R2} (h:IxR X r) (h':IxR X r'):IxR X (fun x y H Q=>r x y H Q∨r' x y H Q):=by
  intro value slice pins s σ H x y v u Q I rx ry q hs
  rcases q with q | q
  · exact h value slice pins s σ H x y v u Q I rx ry q hs
  · exact h' value slice pins s σ H x y v u Q I rx ry q hs
theorem pe_ix {r:R2} (hr:IxR X r) (ha:PE X a ta) (hb:PE X b tb) (hs:PlainIx b):PE X (.Subscript a b pos) (tOp r ta tb):=by
  intro pins s σ H Q I h
  exact Subscript_ (binT ha hb I h fun v u s2 x y H2 I2 rx ry q=>hr a b pins s2 σ H2 x y v u Q I2 rx ry q (hs _ _))
def rIxL (K:PySem.W.Frag):R2:=fun x y H Q=>∃ p xs i v,x=.ref p/\y=.int i/\SqL K H p xs/\atI xs i=some v/\Q v H
def rIxT (K:PySem.W.Frag):R2:=fun x y H Q=>∃ p xs i v,x=.ref p/\y=.int i/\SqT K H p xs/\atI xs i=some v/\Q v H
theorem ix_list:IxR X (rIxL X.K):=by
  intro value slice pins s σ H x y v u Q I rx ry h hs
  obtain⟨p,xs,i,z,rfl,rfl,hq,he,q⟩:=h
  cases rx
  obtain⟨t,rfl⟩:=ry
  obtain⟨its,r,pl,hz⟩:=I.list hq
  obtain⟨j,h1,h2,h3,h4,h5⟩:=atI_get he
  obtain⟨w,ew,rw'⟩:=r.get h2
  have hl:=r.length
  have hn:=line63
  have fin:EP X pins σ Q w s:=⟨z,H,I,rw',q⟩
  by_cases h0:0<=i
  · have hj : i.toNat = j := by
      rw[seqIndex_of h0 h5] at h1
      exact Option.some.inj h1
    exact item_listR pl.isList h0 (by omega) (by rw[hj]; simpa using ew) fin hs
  · have hj : (i + (its.toArray.size : Int)).toNat = j := by
      rw[seqIndex_neg (by omega) h4] at h1
      rw[List.size_toArray,<- hl]
      exact Option.some.inj h1
    exact subscriptTail_builtinR (x:=w) pl.isList.typeIs slot_list_getitem.lookup
      (wpAny_getItem_list_neg (Q:=fun r s'=>r=w/\EP X pins σ Q r s') pl.isList (by omega) (by rw[List.size_toArray] <;> omega) (by omega) (by rw[hj]; simpa using ew) ⟨rfl,fin⟩) hs
theorem ix_tup:IxR X (rIxT X.K):=by
  intro value slice pins s σ H x y v u Q I rx ry h hs
  obtain⟨p,xs,i,z,rfl,rfl,hq,he,q⟩:=h
  cases rx
  obtain⟨t,rfl⟩:=ry
  obtain⟨its,r,pl,hz⟩:=I.tuple hq
  obtain⟨j,h1,h2,h3,h4,h5⟩:=atI_get he
  obtain⟨w,ew,rw'⟩:=r.get h2
  have hl:=r.length
  have hn:=line63
  have fin:EP X pins σ Q w s:=⟨z,H,I,rw',q⟩
  exact subscriptTail_builtinR (x:=w) pl.typeIs slot_tuple_getitem.lookup
    (getItem_tuple (j:=j) (Q:=fun r s'=>r=w/\EP X pins σ Q r s') pl (by omega) (by omega) (by rw[List.size_toArray,<- hl]; exact h1) (by simpa using ew) ⟨rfl,fin⟩) hs
theorem mapSeq_set (its:List Value) (n j:Nat) (u:Value):Obj.mapSeq (·.setIfInBounds j u) { cls:=.type "list",data:=.seq its.toArray n }={ cls:=.type "list",data:=.seq (its.set j u).toArray n }:=by
  simp[Obj.mapSeq]
theorem Inv.lst {pins : List (Addr × Obj)} {σ : St} {H : Hp} {s : Shared} {p : Addr} {xs : List V} (I : Inv X pins σ H s) (h : H p = some (.lst xs)) :
    ∃ (its:List Value) (n:Nat),Vals xs its/\s.heap.get? p=some { cls:=.type "list",data:=.seq its.toArray n }/\xs.length<=sizeLine:=by
  obtain⟨z,its,n,r,e⟩:=I.hok p _ h
  exact⟨its,n,r,e,z⟩
theorem Inv.lstUpd {pins : List (Addr × Obj)} {σ : St} {H : Hp} {s : Shared} {p : Addr} {xs ys : List V} {its its' : List Value} {n n' : Nat} {f : Obj → Obj} (I : Inv X pins σ H s) (h : H p = some (.lst xs))
    (ho:s.heap.get? p=some { cls:=.type "list",data:=.seq its.toArray n }) (hf:f { cls:=.type "list",data:=.seq its.toArray n }={ cls:=.type "list",data:=.seq its'.toArray n' }) (r:Vals ys its') (hz:ys.length<=sizeLine) (t:Nat) :
    Inv X pins σ (upd H p (.lst ys)) { s with heap:=s.heap.update p f,toks:=t }:=by
  have e:(s.heap.update p f).get? p=some { cls:=.type "list",data:=.seq its'.toArray n' }:=by
    rw[Heap.get?_update_self f ho (by rw[hf] <;> rfl),hf]
  refine I.write (x:=p) (e:=p) (by rw[h]; trivial) (.inl rfl) (fun b u hb q=>(Heap.get?_update_other _ _ (Ne.symm hb)).trans q) ⟨_,e⟩ ?_
  exact⟨hz,its',n',r,e⟩
def rSetL:V->V->V->Hp->(Hp->Prop)->Prop:=fun o i v H Q=>∃ p xs k j,o=.ref p/\i=.int k/\H p=some (.lst xs)/\ixN xs.length k=some j/\Q (upd H p (.lst (xs.set j v)))
theorem set_list:PSet X rSetL:=by
  intro pins s σ H o i v ov iv u Q I ro ri rv h
  obtain⟨p,xs,k,j,rfl,rfl,hp,hj,q⟩:=h
  cases ro
  obtain⟨t,rfl⟩:=ri
  obtain⟨its,n,r,ho,hz⟩:=I.lst hp
  obtain⟨h1,h2,h3,h4⟩:=ixN_seq hj
  have hl:=r.length
  have hn:=line63
  have I':Inv X pins σ (upd H p (.lst (xs.set j v))) { s with heap:=s.heap.update p (Obj.mapSeq (·.setIfInBounds j u)) } :=
    I.lstUpd hp ho (mapSeq_set its n j u) (r.set rv j) (by rw[List.length_set]; exact hz) s.toks
  by_cases h0:0<=k
  · have hk : k.toNat = j := by
      rw[seqIndex_of h0 h4] at h1
      exact Option.some.inj h1
    exact PySem.W.ki_setAt ho h0 (by omega) (by rw[List.size_toArray,<- hl]; exact h4) (by rw[hk]; exact⟨_,I',q⟩)
  · have hk : (k + (its.toArray.size : Int)).toNat = j := by
      rw[seqIndex_neg (by omega) h3] at h1
      rw[List.size_toArray,<- hl]
      exact Option.some.inj h1
    exact PySem.W.ki_setBack ho (by omega) (by rw[List.size_toArray,<- hl]; exact h3) (by omega) (by rw[hk]; exact⟨_,I',q⟩)
theorem slice_bounds (lo hi:Option Int) (n:Nat):(sliceBounds lo hi none n).1=((HT.sIx n 0 lo:Nat):Int)/\(sliceBounds lo hi none n).2.1=((HT.sIx n n hi:Nat):Int)/\(sliceBounds lo hi none n).2.2=1:=by
  refine⟨?_,?_,rfl⟩
  · cases lo with
    | none=>simp[sliceBounds,HT.sIx]
    | some i=>
      simp only[sliceBounds,HT.sIx,Option.getD_none,show (1:Int) > 0 by decide,if_true]
      by_cases h:i<0
      · simp only[h,if_true] <;> omega
      · simp only[h,if_false] <;> omega
  · cases hi with
    | none=>simp[sliceBounds,HT.sIx]
    | some i=>
      simp only[sliceBounds,HT.sIx,Option.getD_none,show (1:Int) > 0 by decide,if_true]
      by_cases h:i<0
      · simp only[h,if_true] <;> omega
      · simp only[h,if_false] <;> omega
theorem slicePick_cut (its:List Value) (lo hi:Option Int):slicePick its.toArray lo hi none=((its.drop (HT.sIx its.length 0 lo)).take (HT.sIx its.length its.length hi - HT.sIx its.length 0 lo)).toArray:=by
  obtain⟨h1,h2,h3⟩:=slice_bounds lo hi its.toArray.size
  unfold slicePick
  rw[h1,h2,h3]
  simp only[sliceRange_one,pick_run,List.size_toArray] <;> rfl
def rSlL (K:PySem.W.Frag):V->Option Int->Option Int->Hp->VK->Prop:=fun x lo hi H Q=>∃ a xs,x=.ref a/\SqL K H a xs/\∀ p,H p=none->Q (.ref p) (upd H p (.lst (cutV xs lo hi)))
theorem sl_list:SlR X (rSlL X.K):=by
  intro pins s σ H x v vl vu lo hi sl Q I rx hs pl pu h
  obtain⟨a,xs,rfl,hx,q⟩:=h
  cases rx
  obtain⟨its,r,ht,hz⟩:=I.list hx
  have hlen:=r.length
  refine⟨"list",_,slot_list_getitem.lookup,ht.isList.typeIs,?_⟩
  refine wpAny_getItem_list_slice ht.isList hs pl pu .none (by simp) ?_ (by rw[List.size_toArray] <;> omega)
  rw[slicePick_cut,<- hlen]
  refine⟨.ref s.heap.objs.size,_,I.laid (t':=s.toks) (o:=.lst (cutV xs lo hi)) (fun b ob q=>Heap.get?_push_of_some _ q) (Nat.le_refl _) ?_,rfl,q _ (I.hok.fresh (Nat.le_refl _))⟩
  exact⟨Nat.le_trans (cutV_length xs lo hi) hz,_,0,(r.drop (HT.sIx xs.length 0 lo)).take (HT.sIx xs.length xs.length hi - HT.sIx xs.length 0 lo),Heap.get?_push_size _ rfl⟩
theorem call_len_seq:CallR X (.builtin "len") (fun xs H Q=>∃ p ys,xs=[.ref p]/\(SqL X.K H p ys∨SqT X.K H p ys)/\Q (.int ys.length) H):=by
  intro pins s σ H xs us Q I r h
  obtain⟨p,ys,rfl,hq,q⟩:=h
  obtain⟨u,rfl,rx⟩:=vals1 r
  cases rx
  have hn:=line63
  rcases hq with hq | hq
  · obtain⟨its,r',pl,hz⟩:=I.list hq
    have hlen:=r'.length
    exact Calls.call_len_list pl.isList (by simp only[List.size_toArray] <;> omega) ⟨.int ys.length,H,I.tok _,⟨s.toks+1,by rw[List.size_toArray,hlen]⟩,q⟩
  · obtain⟨its,r',pl,hz⟩:=I.tuple hq
    have hlen:=r'.length
    exact len_tuple pl (by simp only[List.size_toArray] <;> omega) ⟨.int ys.length,H,I.tok _,⟨s.toks+1,by rw[List.size_toArray,hlen]⟩,q⟩
theorem call_list_of:CallR X (.type "list") (fun xs H Q=>∃ p ys,xs=[.ref p]/\(SqL X.K H p ys∨SqT X.K H p ys)/\∀ l,H l=none->Q (.ref l) (upd H l (.lst ys))):=by
  intro pins s σ H xs us Q I r h
  obtain⟨p,ys,rfl,hq,q⟩:=h
  obtain⟨u,rfl,rx⟩:=vals1 r
  cases rx
  have fin : ∀ (its : List Value), Vals ys its → ys.length ≤ sizeLine → ∀ (h' : Heap) (c' : Nat), (∀ b o', s.heap.get? b = some o' → h'.get? b = some o') →
      h'.get? s.heap.objs.size=some { cls:=.type "list",dict:=none,data:=.seq its.toArray c',slots:=#[] }->EP X pins σ Q (.ref s.heap.objs.size) { s with heap:=h' }:=fun its r' hz h' c' kp e=>
    ⟨.ref s.heap.objs.size,_,I.laid (t':=s.toks) kp (Nat.le_refl _) (show ObjOk X.prog X.w _ h' _ (.lst ys) from⟨hz,its,c',r',e⟩),rfl,q _ (I.hok.fresh (Nat.le_refl _))⟩
  rcases hq with hq | hq
  · obtain⟨its,r',pl,hz⟩:=I.list hq
    have hlen:=r'.length
    obtain⟨o,ho,hc,n,hd⟩:=pl.isList
    exact call_list_seq p (.inl rfl) ho hc hd (fun h' c' kp e=>fin its r' hz h' c' kp e) (by simp only[List.size_toArray] <;> omega)
  · obtain⟨its,r',pl,hz⟩:=I.tuple hq
    have hlen:=r'.length
    obtain⟨o,ho,hc,n,hd⟩:=pl
    exact call_list_seq p (.inr rfl) ho hc hd (fun h' c' kp e=>fin its r' hz h' c' kp e) (by simp only[List.size_toArray] <;> omega)
theorem call_tuple_of:CallR X (.type "tuple") (fun xs H Q=>∃ p ys,xs=[.ref p]/\((SqL X.K H p ys/\∀ l,H l=none->Q (.ref l) (upd H l (.tup ys)))∨(SqT X.K H p ys/\Q (.ref p) H))):=by
  intro pins s σ H xs us Q I r h
  obtain⟨p,ys,rfl,h⟩:=h
  obtain⟨u,rfl,rx⟩:=vals1 r
  cases rx
  rcases h with ⟨hq,q⟩ | ⟨hq,q⟩
  · obtain⟨its,r',pl,hz⟩:=I.list hq
    have hlen:=r'.length
    refine call_tuple_list pl.isList (fun h' kp=>?_) (by simp only[List.size_toArray] <;> omega)
    have I1:Inv X pins σ H { s with heap:=h' }:=I.kept (t':=s.toks) kp
    have I2:Inv X pins σ (upd H h'.objs.size (.tup ys)) { s with heap:=h'.push { cls:=.type "tuple",data:=.seq its.toArray } } :=
      I1.laid (t':=s.toks) (fun b o e=>Heap.get?_push_of_some _ e) (Nat.le_refl _) (show ObjOk X.prog X.w _ _ _ (.tup ys) from⟨hz,its,r',IsTupD.new _ _⟩)
    exact⟨.ref h'.objs.size,_,I2,rfl,q _ (I1.hok.fresh (Nat.le_refl _))⟩
  · obtain⟨its,r',pl,hz⟩:=I.tuple hq
    exact call_tuple_same pl ⟨.ref p,H,I,rfl,q⟩
def tyV (K:PySem.W.Frag) (T:String) (x:V) (H:Hp):Prop:=match x with
  | .str _=>T="str"
  | .int _=>T="int"
  | .ref p => (T = "list" ∧ ∃ xs, SqL K H p xs) ∨ (T = "tuple" ∧ ∃ o, K.lookup p = some o ∧ o.cls = .type "tuple" ∧ o.dict = none) ∨
      (T="dict"/\((∃ kvs,H p=some (.dK kvs))∨∃ kvs,H p=some (.dT kvs)))∨(T="set"/\∃ S n,H p=some (.set S n))
  | _=>False
theorem tyV_is {pins : List (Addr × Obj)} {σ : St} {H : Hp} {s : Shared} {T : String} {x : V} {v : Value} (I : Inv X pins σ H s) (r : RelV x v) (ty : tyV X.K T x H) :
    s.TypeIs v T/\∀ a,v=.ref a->∃ ob,s.heap.get? a=some ob/\ob.dict=none:=by
  cases x with
  | str z=>
    obtain⟨t,rfl⟩:=r
    cases (show T="str" from ty)
    exact⟨typeIs_str s z t,fun _ e=>nomatch e⟩
  | int i=>
    obtain⟨t,rfl⟩:=r
    cases (show T="int" from ty)
    exact⟨typeIs_int s i t,fun _ e=>nomatch e⟩
  | ref p=>
    cases r
    rcases ty with ⟨rfl,xs,hq⟩ | ⟨rfl,o,hk,hc,hd⟩ | ⟨rfl,hk⟩ | ⟨rfl,S,n,hk⟩
    · obtain⟨its,_,pl,_⟩:=I.list hq
      refine⟨pl.isList.typeIs,fun a e=>?_⟩
      cases e
      obtain⟨o,n,e,c,hd,_⟩:=pl
      exact⟨o,e,hd⟩
    · refine⟨⟨o,I.kIn p o hk,hc⟩,fun a e=>?_⟩
      cases e
      exact⟨o,I.kIn _ o hk,hd⟩
    · have z : ∃ o, s.heap.get? p = some o ∧ o.ExactDict := by
        rcases hk with ⟨kvs,hk⟩ | ⟨kvs,hk⟩
        · obtain⟨_,_,_,_,o,_,_,e,ex,_⟩:=I.hok p _ hk
          exact⟨o,e,ex⟩
        · obtain⟨_,_,_,_,o,_,_,e,ex,_⟩:=I.hok p _ hk
          exact⟨o,e,ex⟩
      obtain⟨o,e,ex⟩:=z
      refine⟨⟨o,e,ex.1⟩,fun a e2=>?_⟩
      cases e2
      exact⟨o,e,ex.2.1⟩
    · obtain⟨o,_,_,_,e,ex,_⟩:=I.hok p _ hk
      refine⟨⟨o,e,ex.1⟩,fun a e2=>?_⟩
      cases e2
      exact⟨o,e,ex.2.1⟩
  | _=>exact False.elim ty
def tBM (K:PySem.W.Frag) (T:String) (r:V->List V->Hp->VK->Prop) (to:TE) (t:TA):TE:=fun σ H Q=>to σ H fun x H1=>tyV K T x H1/\t σ H1 fun xs H2=>r x xs H2 Q
variable {o e:Expr}{es:List Expr}{to:TE}{t:TA}{name:Str}{apos cpos:Pos}{T id:String}{r:V->List V->Hp->VK->Prop}
theorem pe_bm (pa : PlainAttrs T) (slot : Slot T name id) (hty : typeOf (.builtin id) = pure (.type "method_descriptor")) (hm : MtR X id r) (ho : PE X o to) (ha : PA X (e :: es) t)
    (hbase:attributeBase o name X.env (eval o X.env)=eval o X.env:=by rfl)
    (hfew:((backTo cpos (starEach (e::es) X.env)).all (fun x=>!x.1) && (backToKw cpos (keywordEach [] X.env)).all (fun x=>x.1.isSome)
      && decide ((e::es).length+([]:List Keyword).length+(if ([]:List Keyword).isEmpty then 0 else 1)<30))=true:=by rfl)
    (hline:(apos.endLine == cpos.line)=true:=by rfl) (hs:starEach (e::es) X.env=(false,eval e X.env)::starEach es X.env:=by rfl) (hplain:(backTo cpos (starEach es X.env)).any (·.1)=false:=by rfl) :
    PE X (.Call (.Attribute o name apos) (e::es) [] cpos) (tBM X.K T r to t):=by
  intro pins s σ H Q I h
  refine wpAny_Call_method_late hbase hfew hline rfl (thn (ho pins s σ H _ I h) fun v s1 ⟨x,H1,I1,r1,ty,q1⟩=>?_)
  obtain⟨h1,h2⟩:=tyV_is I1 r1 ty
  refine⟨T,id,pa,slot,hty,h1,h2,?_⟩
  have hA:=ha cpos pins s1 σ H1 _ I1 q1
  rw[hs] at hA ⊢
  refine Calls.callWith_builtin (by show (false || (backTo cpos (starEach es X.env)).any (·.1))=false; rw[hplain] <;> rfl) (Calls.evalArgs_plain ?_)
  exact thn hA fun us s2 ⟨vs,H2,I2,r2,q2⟩=>hm pins s2 σ H2 x vs v us Q I2 r1 r2 q2
end
end L2
namespace L2
open PySem PySem.Spec PyProof.Rows
def MtM (X:Cx) (id:String) (r:V->List V->Hp->VK->Prop):Prop :=
  ∀ (pins:List (Addr × Obj)) (s:Shared) (σ:St) (H:Hp) (x:V) (xs:List V) (v:Value) (us:List Value) (Q:VK),Inv X pins σ H s->RelV x v->Vals xs us->r x xs H Q ->
    wpAny (model X.prog X.w) X.A (call (.builtin id) (v::us)) (EP X pins σ Q) X.xe s
theorem Vals.one:∀ {x:V}{us:List Value},Vals [x] us->∃ u,us=[u]/\RelV x u
  | _,_,.cons r .nil=>⟨_,rfl,r⟩
theorem Vals.reverse {xs:List V}{us:List Value} (h:Vals xs us):Vals xs.reverse us.reverse:=by
  induction h with
  | nil=>exact .nil
  | cons r t ih=>rw[List.reverse_cons,List.reverse_cons]; exact Vals.append ih (.cons r .nil)
theorem Vals.rep {xs:List V}{us:List Value} (h:Vals xs us):∀ k:Nat,Vals (List.replicate k xs).flatten (List.replicate k us).flatten
  | 0=>.nil
  | k+1=>by
    rw[List.replicate_succ,List.replicate_succ,List.flatten_cons,List.flatten_cons]
    exact Vals.append h (Vals.rep h k)
theorem foldl_rep (its : List Value) : ∀ (k : Nat) (acc : List Value),
    List.foldl (fun x1 x2=>x1++x2) acc.toArray (List.replicate k its.toArray)=(acc++(List.replicate k its).flatten).toArray
  | 0,acc=>by simp
  | k+1,acc=>by
    have e:acc.toArray++its.toArray=(acc++its).toArray:=by simp
    have e2:(acc++its)++(List.replicate k its).flatten=acc++(List.replicate (k+1) its).flatten:=by
      rw[List.replicate_succ,List.flatten_cons,List.append_assoc]
    rw[<- e2,<- foldl_rep its k (acc++its),<- e,List.replicate_succ,List.foldl_cons]
section
variable {X:Cx}{pins:List (Addr × Obj)}{σ:St}{H:Hp}{s:Shared}{l b:Addr}{xs ys zs:List V}
theorem Inv.lset {its its' : List Value} {n : Nat} {f : Array Value → Array Value} {t' : Nat} (I : Inv X pins σ H s) (hH : H l = some (.lst xs))
    (e:s.heap.get? l=some { cls:=.type "list",data:=.seq its.toArray n }) (hf:f its.toArray=its'.toArray) (hv:Vals ys its') (hz:ys.length<=sizeLine) :
    Inv X pins σ (upd H l (.lst ys)) { s with heap:=s.heap.update l (Obj.mapSeq f),toks:=t' }:=by
  have q:=PySem.IsL.update e f
  rw[hf] at q
  refine I.write (x:=l) (e:=l) (by rw[hH]; exact trivial) (.inl rfl) (fun b' u hb hu=>(Heap.get?_update_other s.heap (Obj.mapSeq f) (Ne.symm hb)).trans hu) ⟨_,q⟩ ?_
  exact⟨hz,its',_,hv,q⟩
theorem Inv.lnew {its : List Value} {t' : Nat} (I : Inv X pins σ H s) (hv : Vals ys its) (hz : ys.length ≤ sizeLine) :
    Inv X pins σ (upd H s.heap.objs.size (.lst ys)) { s with heap:=s.heap.push { cls:=.type "list",data:=.seq its.toArray },toks:=t' } :=
  I.laid (fun _ _ q=>Heap.get?_push_of_some _ q) (Nat.le_refl _) ⟨hz,its,0,hv,Heap.get?_push_size _ rfl⟩
theorem Inv.fresh (I:Inv X pins σ H s):H s.heap.objs.size=none:=I.hok.fresh (Nat.le_refl _)
theorem Inv.lstM (I:Inv X pins σ H s) (hH:H l=some (.lst xs)):xs.length<=sizeLine/\∃ (its:List Value) (n:Nat),Vals xs its/\xs.length=its.length/\s.heap.get? l=some { cls:=.type "list",data:=.seq its.toArray n }:=by
  obtain⟨z,its,n,r,e⟩:=I.hok l _ hH
  exact⟨z,its,n,r,r.length,e⟩
theorem notLongL {n:Nat} (h:n<=sizeLine):Builtin.List.listTooLong n=false:=by
  unfold Builtin.List.listTooLong
  exact decide_eq_false (by omega)
end
section
variable {X:Cx}
def rAppend:V->List V->Hp->VK->Prop:=fun x vs H Q=>∃ l xs y,x=.ref l/\vs=[y]/\H l=some (.lst xs)/\xs.length<sizeLine/\Q .non (upd H l (.lst (xs++[y])))
theorem mt_append:MtM X "list.append" rAppend:=by
  intro pins s σ H x vs v us Q I rx rv h
  obtain⟨l,xs,y,rfl,rfl,hH,hz,q⟩:=h
  cases rx
  obtain⟨u,rfl,ru⟩:=rv.one
  obtain⟨z,its,n,r,hl,e⟩:=I.lstM hH
  refine call_meets F.slot_list_append ⟨_,e,rfl⟩ F.entry_list_append (F.args_list_append_2 _ _) (PySem.list_append l its.toArray n u (by rw[List.size_toArray]; omega)) ⟨e,?_⟩
  refine⟨.non,_,I.lset (its':=its++[u]) hH e (by simp) (r.append (.cons ru .nil)) ?_,rfl,q⟩
  rw[List.length_append,List.length_singleton]
  omega
def rExtend:V->List V->Hp->VK->Prop:=fun x vs H Q=>∃ l b xs zs,x=.ref l/\vs=[.ref b]/\H l=some (.lst xs)/\H b=some (.lst zs)/\xs.length+zs.length<=sizeLine/\Q .non (upd H l (.lst (xs++zs)))
theorem mt_extend:MtM X "list.extend" rExtend:=by
  intro pins s σ H x vs v us Q I rx rv h
  obtain⟨l,b,xs,zs,rfl,rfl,hH,hB,hz,q⟩:=h
  cases rx
  obtain⟨u,rfl,ru⟩:=rv.one
  cases ru
  obtain⟨z,its,n,r,hl,e⟩:=I.lstM hH
  obtain⟨z2,its2,n2,r2,hl2,e2⟩:=I.lstM hB
  have hsz:its.toArray.size+its2.toArray.size<=sizeLine:=by rw[List.size_toArray,List.size_toArray]; omega
  have hlong:¬ (!its.toArray.isEmpty && Builtin.List.listTooLong (its.toArray.size+its2.toArray.size))=true:=by
    rw[notLongL hsz,Bool.and_false]
    exact Bool.false_ne_true
  refine call_meets F.slot_list_extend ⟨_,e,rfl⟩ F.entry_list_extend (F.args_list_extend_2 _ _)
    (AutoSeq1.list_extend_list_list_0 l its.toArray n b its2.toArray n2 hlong (by rw[List.size_toArray]; omega) (by omega)) ⟨e,e2,?_⟩
  refine⟨.non,_,I.lset (its':=its++its2) hH e (by simp) (r.append r2) ?_,rfl,q⟩
  rw[List.length_append]
  omega
def rCat:R2:=fun x y H Q=>∃ l b xs zs,x=.ref l/\y=.ref b/\H l=some (.lst xs)/\H b=some (.lst zs)/\xs.length+zs.length<=sizeLine/\∀ p,H p=none->Q (.ref p) (upd H p (.lst (xs++zs)))
theorem op_cat:OpR X (binaryOp .Add) rCat:=by
  intro pins s σ H x y v u Q I rx ry h
  obtain⟨l,b,xs,zs,rfl,rfl,hH,hB,hz,q⟩:=h
  cases rx
  cases ry
  obtain⟨z,its,n,r,hl,e⟩:=I.lstM hH
  obtain⟨z2,its2,n2,r2,hl2,e2⟩:=I.lstM hB
  refine PySem.P.add_list e e2 ?_ (by rw[List.size_toArray,List.size_toArray]; omega)
  have ea:its.toArray++its2.toArray=(its++its2).toArray:=by simp
  rw[ea]
  exact⟨.ref _,_,I.lnew (t':=s.toks) (r.append r2) (by rw[List.length_append]; omega),rfl,q _ I.fresh⟩
def rRep:R2:=fun x y H Q=>∃ l k xs,x=.ref l/\y=.int k/\H l=some (.lst xs)/\-(2 ^ 63)<=k/\k<2 ^ 63/\xs.length*k.toNat<=sizeLine /\
  ∀ p,H p=none->Q (.ref p) (upd H p (.lst (List.replicate k.toNat xs).flatten))
theorem len_rep {α:Type} (xs:List α) (k:Nat):(List.replicate k xs).flatten.length=k*xs.length:=by
  induction k with
  | zero=>simp
  | succ k ih=>rw[List.replicate_succ,List.flatten_cons,List.length_append,ih,Nat.succ_mul,Nat.add_comm]
theorem op_rep:OpR X (binaryOp .Mult) rRep:=by
  intro pins s σ H x y v u Q I rx ry h
  obtain⟨l,k,xs,rfl,rfl,hH,h1,h2,hz,q⟩:=h
  cases rx
  obtain⟨t,rfl⟩:=ry
  obtain⟨z,its,n,r,hl,e⟩:=I.lstM hH
  have hlen:its.toArray.size*k.toNat<=sizeLine:=by rw[List.size_toArray,<- hl]; exact hz
  have hcap:¬ its.toArray.size*k.toNat > (2 ^ 63 - 1) / 8:=by
    have:(sizeLine:Nat)<=(2 ^ 63 - 1) / 8:=by decide
    omega
  have hfit:¬ (!Builtin.List.listFitsIndex k)=true:=by
    rw[fitsIndex_both h1 h2]
    exact Bool.false_ne_true
  have hlong:¬ Builtin.List.listTooLong (its.toArray.size*k.toNat)=true:=by
    rw[notLongL hlen]
    exact Bool.false_ne_true
  have hnew:List.foldl (fun x1 x2=>x1++x2) #[] (List.replicate (if its.toArray.isEmpty=true then 0 else k.toNat) its.toArray)=(List.replicate k.toNat its).flatten.toArray:=by
    have f0:∀ m:Nat,List.foldl (fun x1 x2=>x1++x2) #[] (List.replicate m its.toArray)=(List.replicate m its).flatten.toArray:=fun m=>by
      have:=foldl_rep its m []
      rw[List.nil_append] at this
      exact this
    rw[f0]
    cases its with
    | nil=>simp
    | cons a r'=>rw[if_neg (by simp)]
  refine wpAny_binaryOp_repeat_ref (T:="list") (U:="int") (by decide) ⟨_,e,rfl⟩ (fun s'=>typeIs_int s' k t) noFill_list_mul F.fills_int_mul F.slot_int_rmul repeat_list F.slot_int_index.lookup
    (call_meets F.slot_int_rmul (typeIs_int s k t) F.entry_int_rmul (F.args_int_rmul_2 _ _) (int___rmul___int_list k t l its.toArray n)
      ⟨e,rfl,⟨_,e,rfl⟩,call_meets F.slot_list_mul ⟨_,e,rfl⟩ F.entry_list_mul (F.args_list_mul_2 _ _) (AutoListH.list___mul___list_int_3 l its.toArray n k t hfit hcap hlong) ⟨e,?_⟩⟩)
  rw[hnew]
  exact⟨.ref _,_,I.lnew (t':=s.toks) (r.rep k.toNat) (by rw[len_rep,Nat.mul_comm]; exact hz),rfl,q _ I.fresh⟩
end
section
variable {prog:Program}{w:World}{A:Around}{E:Value->Shared->Prop}{s:Shared}
set_option maxRecDepth 100000 in
end
section
variable {X:Cx}
end
end L2
namespace Att
open PySem PySem.W PySem.Calls PyProof.Rows
theorem ints_of_wellAll {P:Params}{h:Heap}:∀ (ns:List Int) (vs:List Value),WellAll P h vs (ns.map WData.int)->IntsAre vs ns:=by
  intro ns
  induction ns with
  | nil=>
    intro vs w
    rw[List.map_nil] at w
    cases w
    exact .nil
  | cons n ns ih=>
    intro vs w
    rw[List.map_cons] at w
    cases w with
    | cons a b=>
      cases a
      exact .cons _ _ (ih _ b)
theorem script_of {l : OpenLaw} {n : Nat} (hn : l.most = some n) {P : Params} {h : Heap} {args : List WData} {vals : List Value}
    (hpre:l.row.toRowW.claim.pre args=true) (hwl:WellAll P h vals args) :
    ∃ a vs ns,vals=[Value.ref a]/\args=[WData.list (ns.map WData.int)]/\h.get? a=some { cls:=.type "list",data:=.seq vs.toArray }/\IntsAre vs ns/\ns.length<=n:=by
  have hsh:WShape.hasAll [] args [.list .int]=true:=(pre_splitW hpre).1
  have hc:l.pre.holds [] { args:=args }=true:=(pre_splitW hpre).2
  obtain⟨d,r,rfl,h1,h2⟩:=hasAllW_cons hsh
  obtain rfl:=hasAllW_nil h2
  obtain⟨xs,rfl,h3⟩:=hasW_list h1
  obtain⟨ns,rfl⟩:=items_int h3
  have hlen:ns.length<=n:=by
    unfold OpenLaw.pre at hc
    have h4:(WTm.not (.lt (.lit (.int (n:Int))) (.len (.arg 0)))).holds [] { args:=[.list (ns.map .int)] }=true:=by
      have h4:=(holds_andW hc).1
      rw[hn] at h4
      exact h4
    have h5:=condW_of h4 (w_not (w_lt w_lit (w_len_list (w_arg rfl))))
    rw[List.length_map] at h5
    refine Nat.le_of_not_lt fun q=>?_
    have q':(n:Int)<((ns.length:Nat):Int):=by omega
    first
      | (rw[decide_eq_true q'] at h5; exact absurd h5 (by decide))
      | (simp at h5; omega)
  cases hwl with
  | cons w1 w2=>
    cases w2
    cases w1 with
    | list ho hall=>exact⟨_,_,ns,rfl,rfl,ho,ints_of_wellAll ns _ hall,hlen⟩
theorem post_true (l:OpenLaw) (args:List WData):l.row.toRowW.claim.post args (.bool true) args=true :=
  postW_of (r:=l.row.toRowW) (X:=(true == true))
    (show WShape.has [] (.bool true) .bool=true by first | rfl | decide | simp[WShape.has,WShape.arms,WShape.armsAll])
    (show (WTm.eq .res (.lit (.bool true))).value [] { args:=args,res:=some (.bool true),after:=args }=some (.bool (true == true)) from w_eq_bool (w_res rfl) w_lit) rfl
theorem attach_call {l : OpenLaw} {n : Nat} {q : Program} {loose : List Str} {XP : (Str → Option Value) → Heap → Prop} {YP : World → Heap → Prop} {d : DefRec}
    (hn:l.most=some n) (hdf:d.params.defaults=[])
    (call:∀ (w:World) (s₀ s₁:Shared) (mg mb:Str->Option Value) (fa:Addr) (o:Obj) (pm cd doc:Value) (a:Addr) (vs:List Value) (ns:List Int),
      Ground q loose [] XP w s₀ mg mb s₁.heap->YP w s₁.heap ->
      s₁.heap.get? fa=some o->o.data=.func (docDef d.name d.params d.body d.scope pm cd doc)->s₁.heap.CodeRec cd d.name->mg d.name=some (.ref fa) ->
      s₁.heap.get? a=some { cls:=.type "list",data:=.seq vs.toArray }->IntsAre vs ns->ns.length<=n->s₁.gens=#[] ->
      codeAny (model l.prog w) callerA (.call (.ref fa) ⟨[.ref a],[]⟩) (fun r s'=>r=.ok (.ret (.bool true))/\OldK s₁.heap s'.heap/\s'.os=s₁.os/\AllBare s'.gens) s₁) :
    WalkO q loose XP YP l.row.toRowW d [] (fun f vs=>PySem.call f vs):=by
  intro w s₀ s₁ mg mb G Y fa o pm cd doc dV kV ho hd hcd hD hmg hg args vals as hpre hlay hrd hwl hlo
  obtain rfl:dV=.none:=Dflts.none hD hdf
  obtain rfl:kV=.none:=Dflts.noKw hD
  obtain⟨a,vs,ns,rfl,rfl,hobj,hints,hlen⟩:=script_of hn hpre hwl
  refine enter_call (codeAny_mono (call w s₀ s₁ mg mb fa o pm cd doc a vs ns G Y ho (fd_plain hd) hcd hmg hobj hints hlen hg) fun r s' hq=>?_)
  obtain⟨rfl,h2,h3,h4⟩:=hq
  exact⟨.inl ⟨.bool true,.bool true,[],rfl,fun _=>rfl,.bool true,post_true l _,fun _=>⟨List.Pairwise.nil,fun _ hm=>(nomatch hm)⟩⟩,h2,h3,h4⟩
section
variable {prog:Program}{w:World}{A:Around}{E:Value->Shared->Prop}{s:Shared}{K:Frag}
def ledger (h:Heap) (L d:Addr):List (Addr × Obj):=(List.range h.objs.size).filterMap fun a=>if a=L∨a=d then none else (h.get? a).map fun o=>(a,o)
end
end Att
namespace L2
open PySem PySem.Spec PyProof.Rows
theorem vals_ints:∀ {vs:List Value}{ns:List Int},IntsAre vs ns->Vals (ns.map V.int) vs
  | _,_,.nil=>.nil
  | _,_,.cons n t h=>.cons ⟨t,rfl⟩ (vals_ints h)
def Only (H:Hp):Prop:=∀ b,H b=none∨∃ o xs,H b=some (.frz o (.lst xs))
theorem law_call {P : Program} {w : World} {K : PySem.W.Frag} {mg mb : Str → Option Value} {CX : CXT} {k : Nat} {fa a : Addr} {fd : FuncData} {x : Str} {sp : Sp} {s₁ : Shared} {vs : List Value} {ns : List Int}
    (KX:K.In s₁.heap) (hns:s₁.heap.Ns mainGlobals mg) (hb:s₁.heap.Ns builtinsNs mb) (hbb:∀ x:Str,x≠"__name__"->mb x=bootBuiltins x) (hlim:s₁.heap.NoLimit) (hg:s₁.gens=#[])
    (ha:s₁.heap.get? a=some { cls:=.type "list",data:=.seq vs.toArray }) (hi:IntsAre vs ns) (hl:ns.length<=sizeLine) (hr:Room k callerA)
    (F:∀ base:Heap,K.In base->base.Ns mainGlobals mg->FnOk P w K mg base CX k fa fd [x] sp) (hbind:∀ (s:Shared) (u:Value),BindsTo s fd ⟨[u],[]⟩ [(x,u)])
    (hsp:∀ H:Hp,Only H->SqL K H a (ns.map V.int)->sp [.ref a] H (fun v _=>v=.bl true) fun _ _ _=>False)
    (hCX:∀ H e s',CX [] H s₁ (fun _ _ _=>False) e s'->False) :
    codeAny (model P w) callerA (.call (.ref fa) ⟨[.ref a],[]⟩) (fun r s'=>r=.ok (.ret (.bool true))/\OldK s₁.heap s'.heap/\s'.os=s₁.os/\AllBare s'.gens) s₁:=by
  have rv:=vals_ints hi
  have lenV:=hi.length
  have core : ∀ H : Hp, Only H → SqL K H a (ns.map V.int) → HOk P w H s₁.heap → (∀ b, H b ≠ none → b = a) → (H a ≠ none → K.lookup a = none) →
      codeAny (model P w) callerA (.call (.ref fa) ⟨[.ref a],[]⟩) (fun r s'=>r=.ok (.ret (.bool true))/\OldK s₁.heap s'.heap/\s'.os=s₁.os/\AllBare s'.gens) s₁:=by
    intro H hO hS hok hA hK
    have base_of:∀ {b:Addr}{o:Obj},s₁.heap.get? b=some o->H b=none->(hidT s₁.heap H).get? b=some o:=fun e n=>hidT_get e n
    have noA:∀ {b:Addr}{o:Obj}{es:Array DictEntry}{ep:Nat},s₁.heap.get? b=some o->o.data=.dict es ep->H b=none:=fun {b o es ep} e d=>by
      cases q:H b with
      | none=>rfl
      | some u=>
        have e':b=a:=hA b (by rw[q]; simp)
        subst e'
        rw[ha] at e; cases e
        have d':Data.seq vs.toArray _=Data.dict es ep:=d
        cases d'
    have nsK:∀ {b:Addr}{m:Str->Option Value},s₁.heap.Ns b m->(hidT s₁.heap H).Ns b m:=fun {b m} ⟨o,es,ep,e,d,r⟩=>⟨o,es,ep,base_of e (noA e d),d,r⟩
    have hKb:K.In (hidT s₁.heap H):=fun b o e=>base_of (KX b o e) (by
      cases q:H b with
      | none=>rfl
      | some u=>
        have e':b=a:=hA b (by rw[q]; simp)
        subst e'
        rw[hK (by rw[q]; simp)] at e; cases e)
    have hM:Mod K mg (hidT s₁.heap H):=⟨hKb,nsK hns,⟨mb,nsK hb,hbb⟩,let ⟨mc,h1,h2⟩:=hlim; ⟨mc,nsK h1,h2⟩⟩
    have e0:Env0 P w K mg (hidT s₁.heap H) callerA [] s₁ H:=⟨rfl,hM,fun b o e=>of_hidT e,Nat.le_of_eq (hidT_size _ _),trivial,fun b hb=>absurd (show b∈([]:List Addr) from hb) (by simp),hok,.of_eq hg⟩
    refine codeAny_mono ((F _ hKb (nsK hns)).run callerA [] s₁ H ⟨[.ref a],[]⟩ [.ref a] [.ref a] _ _ hr e0 (hbind s₁ (.ref a)) (.cons rfl .nil) (hsp H hO hS)) fun r s' h=>?_
    cases r with
    | error e=>exact (hCX H e s' h).elim
    | ok fl=>
      cases fl with
      | next=>exact False.elim h
      | brk=>exact False.elim h
      | cont=>exact False.elim h
      | ret u=>
        obtain⟨v,H',os,bare,un,hok',r',q⟩:=h
        have q':v=.bl true:=q
        subst q'
        obtain rfl:u=Value.bool true:=r'
        refine⟨rfl,OldK.of_keep fun b o e=>?_,os,bare⟩
        cases q:H b with
        | none=>exact un.keep b o e q (by intro z; exact absurd (show b∈([]:List Addr) from z) (by simp)) (by simp)
        | some u=>
          rcases hO b with z | ⟨ob,xs,z⟩
          · rw[q] at z; cases z
          · have z2:=un.frzs b ob _ z
            obtain⟨e1,_⟩:=hok b _ z
            obtain⟨e2,_⟩:=hok' b _ z2
            rw[e] at e1; cases e1
            exact e2
  cases hk:K.lookup a with
  | some o=>
    have e:=KX a o hk
    rw[ha] at e
    cases e
    refine core (fun _=>none) (fun _=>.inl rfl) (.inr ⟨_,vs.toArray,_,hk,rfl,rfl,rfl,by rw[List.size_toArray,lenV]; exact hl,by simpa using rv⟩) (fun b u z=>by have z':(none:Option HO)=some u:=z; cases z') (fun b z=>absurd rfl z) fun z=>absurd rfl z
  | none=>
    refine core (fun b=>if b=a then some (.frz { cls:=.type "list",data:=.seq vs.toArray } (.lst (ns.map V.int))) else none) (fun b=>?_) (.inl (.inr ⟨{ cls:=.type "list",data:=.seq vs.toArray },if_pos rfl⟩)) (fun b u z=>?_) (fun b z=>?_) fun _=>hk
    · by_cases hb:b=a
      · exact .inr ⟨_,_,if_pos hb⟩
      · exact .inl (if_neg hb)
    · by_cases hb:b=a
      · have z':=(if_pos hb).symm.trans z
        cases z'
        subst hb
        exact⟨ha,by rw[List.length_map]; exact hl,vs,_,rv,ha⟩
      · have z':=(if_neg hb).symm.trans z
        cases z'
    · by_cases hb:b=a
      · exact hb
      · exact absurd (if_neg hb) z
end L2
namespace L2
open PySem PySem.Spec PyProof.Rows
theorem walk_of {l : PySem.W.OpenLaw} {n k : Nat} {q : Program} {loose : List Str} {XP : (Str → Option Value) → Heap → Prop} {YP : World → Heap → Prop} {d : DefRec} {K : Params → PySem.W.Frag} {CX : World → CXT} {sp : World → Sp} {x : Str}
    (hn:l.most=some n) (hn2:n<=sizeLine) (hdf:d.params.defaults=[]) (hr:Room k callerA)
    (hY:∀ (w:World) (h:Heap),YP w h->(K w.params).In h)
    (F:∀ (w:World) (mg:Str->Option Value) (fa:Addr) (h:Heap),(K w.params).In h->h.Ns mainGlobals mg->mg d.name=some (.ref fa) ->
      ∃ fd:FuncData,(∀ (s:Shared) (u:Value),BindsTo s fd ⟨[u],[]⟩ [(x,u)]) /\
        ∀ base:Heap,(K w.params).In base->base.Ns mainGlobals mg->FnOk l.prog w (K w.params) mg base (CX w) k fa fd [x] (sp w))
    (hsp:∀ (w:World) (H:Hp) (a:Addr) (ns:List Int),ns.length<=n->Only H->SqL (K w.params) H a (ns.map V.int)->sp w [.ref a] H (fun v _=>v=.bl true) fun _ _ _=>False)
    (hCX:∀ (w:World) (H:Hp) (s:Shared) (e:Value) (s':Shared),CX w [] H s (fun _ _ _=>False) e s'->False) :
    PySem.W.WalkO q loose XP YP l.row.toRowW d [] (fun f vs=>PySem.call f vs):=by
  refine Att.attach_call hn hdf fun w s₀ s₁ mg mb fa o pm cd doc a vs ns G Y ho hd hcd hmg hobj hints hlen hg=>?_
  have KX:=hY w _ Y
  obtain⟨fd,hb,hF⟩:=F w mg fa _ KX G.T.g hmg
  exact law_call KX G.T.g G.T.b G.T.builtins G.T.nolimit hg hobj hints (Nat.le_trans hlen hn2) hr hF hb (fun H hO hS=>hsp w H a ns hlen hO hS) fun H e s'=>hCX w H s₁ e s'
end L2
namespace L2
open PySem PySem.Spec PyProof.Rows
def defArgs (s:Stmt):Arguments:=match s with
  | .FunctionDef _ a _ _ _ _ _ _ _ _=>a
  | _=>{ posonlyargs:=[],args:=[],vararg:=none,kwonlyargs:=[],kw_defaults:=[],kwarg:=none,defaults:=[] }
def defBody (s:Stmt):List Stmt:=match s with
  | .FunctionDef _ _ b _ _ _ _ _ _ _=>b
  | _=>[]
def defScope (s:Stmt):Scope:=match s with
  | .FunctionDef _ _ _ _ _ _ sc _ _ _=>sc
  | _=>{ kind:=.function,names:=[],isGenerator:=false,isCoroutine:=false }
abbrev CX0:CXT:=fun _ _ _ _ _ _=>False
abbrev E0:XK:=fun _ _ _=>False
theorem pass0 {X:Cx}:Passes CX0 X E0:=fun _ _ _ _ _ _ _ h=>h.elim
structure Fun (K:PySem.W.Frag) (x qual:Str) (st:Stmt) (f:Addr) (fd:FuncData):Prop where
  ex:∃ (oc:Value) (od:Option Addr) (kV doc pm:Value) (an:Option Addr) (cdv ct:Value) (osl:Array (Option Value)),
    fd=PySem.W.fnOf x qual (defArgs st) (defBody st) (defScope st) .none kV doc pm an cdv ct/\K.lookup f=some ⟨oc,od,.func fd,osl⟩/\PySem.W.codeIn K cdv qual=true
  kp:PySem.W.keepIn K (.ref f)=true
section
variable {P:Program}{w:World}{K:PySem.W.Frag}{mg:Str->Option Value}{base:Heap}
theorem Fun.ok {x qual : Str} {st : Stmt} {f : Addr} {fd : FuncData} {N ps : List Str} {k : Nat} {sp : Sp} (F : Fun K x qual st f fd) (S : FnScope N ps (defScope st)) (len : ∀ vs H Q E, sp vs H Q E → vs.length = ps.length)
    (hbody:∀ (cdv:Value) (A:Around) (outer:List Env) (s:Shared) (H:Hp) (vs:List V) (Q:VK) (E:XK),Room k (A.deeper (envOfC qual (defScope st) s.heap.objs.size f cdv))->sp vs H Q E ->
      ∃ t,PSs (cxOf CX0 P w K mg base N qual (defScope st) f cdv A outer s H E).nox (defBody st) t/\t { nx:=fun _ H'=>Q .non H',rt:=Q } (start N vs) H):FnOk P w K mg base CX0 (k+1) f fd ps sp:=by
  obtain⟨oc,od,kV,doc,pm,an,cdv,ct,osl,rfl,lk,hcd⟩:=F.ex
  refine fn_of lk hcd S len fun A outer s H vs Q E hr hsp=>?_
  obtain⟨t,h,q⟩:=hbody cdv A outer s H vs Q E hr hsp
  exact⟨t,h.nox,q⟩
theorem Fun.binds {x qual : Str} {st : Stmt} {f : Addr} {fd : FuncData} {ps : List Str} (F : Fun K x qual st f fd)
    (h:∀ (kV doc pm:Value) (an:Option Addr) (cdv ct:Value) (us:List Value),us.length=ps.length->bindArgs (PySem.W.fnOf x qual (defArgs st) (defBody st) (defScope st) .none kV doc pm an cdv ct) ⟨us,[]⟩=pure (ps.zip us)):Binds K fd ps []:=by
  obtain⟨oc,od,kV,doc,pm,an,cdv,ct,osl,rfl,lk,hcd⟩:=F.ex
  exact .all (h kV doc pm an cdv ct)
theorem fun_mk {x qual : Str} {st : Stmt} {f : Addr} {oc : Value} {od an : Option Addr} {osl : Array (Option Value)} {kV doc pm cdv ct : Value} (l : K.lookup f = some ⟨oc, od, .func (PySem.W.fnOf x qual (defArgs st) (defBody st) (defScope st) .none kV doc pm an cdv ct), osl⟩)
    (c:PySem.W.codeIn K cdv qual=true) (k:PySem.W.keepIn K (.ref f)=true):Fun K x qual st f (PySem.W.fnOf x qual (defArgs st) (defBody st) (defScope st) .none kV doc pm an cdv ct):=⟨⟨oc,od,kV,doc,pm,an,cdv,ct,osl,rfl,l,c⟩,k⟩
end
theorem small1000 {n:Nat} (h:n<=1000):n<sizeLine:=Nat.lt_of_le_of_lt h (by decide)
section
variable {X:Cx}
theorem pv (i : Nat) {x : Str} {pos : Pos} (hN : X.N[i]? = some x := by rfl) (hv : Vis X.env.scope x := by first | exact Or.inl rfl | exact Or.inr (Or.inl rfl) | exact Or.inr (Or.inr rfl)) (hd : (x == ("__debug__" : Str)) = false := by decide)
    (hcd:(x == ("__classdict__":Str))=false:=by decide):PE X (.Name x pos) (tVar i):=pe_var hN hv hd hcd
end
theorem iteF {A B:Prop} (h:B):if false=true then A else B:=by
  rw[if_neg Bool.false_ne_true]
  exact h
theorem iteT {A B:Prop} (h:A):if true=true then A else B:=by
  rw[if_pos rfl]
  exact h
theorem ite2 {c A B:Prop} [Decidable c] (h1:c->A) (h2:¬ c->B):if c then A else B:=by
  by_cases h:c
  · rw[if_pos h]
    exact h1 h
  · rw[if_neg h]
    exact h2 h
def Same (H H':Hp):Prop:=∀ b o,H b=some o->H' b=some o
theorem Same.refl (H:Hp):Same H H:=fun _ _ h=>h
theorem Same.trans {H H1 H2:Hp} (a:Same H H1) (b:Same H1 H2):Same H H2:=fun c o h=>b c o (a c o h)
theorem Same.free {H H':Hp} (e:Same H H') {l:Addr} (h:H' l=Option.none):H l=Option.none:=by
  cases q:H l with
  | none=>rfl
  | some o=>
    rw[e l o q] at h
    cases h
theorem Same.seq {K:PySem.W.Frag}{H H':Hp}{a:Addr}{xs:List V} (e:Same H H') (h:SqL K H a xs):SqL K H' a xs:=by
  rcases h with (h | ⟨o,h⟩) | h
  · exact .inl (.inl (e _ _ h))
  · exact .inl (.inr ⟨o,e _ _ h⟩)
  · exact .inr h
end L2
set_option maxHeartbeats 4000000
namespace L2
open PySem PySem.Spec PyProof.Rows
def clFrom (env:Env):List (Str × NameKind)->List (Str × Addr)->List (Str × Addr)
  | [],cs=>cs
  | (n,k)::r,cs=>clFrom env r (if k == .free then (n,(env.cells.lookup n).getD 0)::cs else cs)
abbrev clOf (scope:Scope) (env:Env):List (Str × Addr):=clFrom env scope.names []
theorem closureFor_cl {env : Env} : ∀ (names : List (Str × NameKind)) (cs : List (Str × Addr)), (∀ x ∈ names, x.2 = .free → ∃ c, env.cells.lookup x.1 = some c) →
    (forIn names cs fun (x:Str × NameKind) r=>do
      if x.2 == .free then
        let c <- cellOf env x.1
        pure (ForInStep.yield ((x.1,c)::r))
      else pure (ForInStep.yield r):Sem (List (Str × Addr)))=pure (clFrom env names cs)
  | [],cs,_=>rfl
  | (n,k)::r,cs,h=>by
    rw[List.forIn_cons]
    have ih:=fun cs'=>closureFor_cl (env:=env) r cs' fun x hx=>h x (List.mem_cons_of_mem _ hx)
    by_cases hk:k=.free
    · subst hk
      obtain⟨c,hc⟩:=h (n,.free) List.mem_cons_self rfl
      have hc':env.cells.lookup n=some c:=hc
      have ec:cellOf env n=pure c:=by unfold cellOf; rw[hc']
      dsimp only
      rw[if_pos (by rfl),ec]
      show (forIn r ((n,c)::cs) _:Sem _)=_
      rw[ih]
      conv=>rhs; unfold clFrom
      rw[if_pos (by rfl),hc']
      rfl
    · have hb:(k == NameKind.free)=false:=by simpa using hk
      dsimp only
      rw[if_neg (by rw[hb]; decide)]
      show (forIn r cs _:Sem _)=_
      rw[ih]
      conv=>rhs; unfold clFrom
      rw[if_neg (by rw[hb]; decide)]
theorem closure_cl {scope:Scope}{env:Env} (h:∀ x∈scope.names,x.2=.free->∃ c,env.cells.lookup x.1=some c):closureFor scope env=pure (clOf scope env):=by
  unfold closureFor
  have e:=closureFor_cl (env:=env) scope.names [] h
  simp only[bind_pure]
  exact e
theorem cl_lookup {env:Env}{x:Str}{c:Addr}:∀ (names:List (Str × NameKind)) (cs:List (Str × Addr)),(clFrom env names cs).lookup x=some c->((x,NameKind.free)∈names/\c=(env.cells.lookup x).getD 0)∨cs.lookup x=some c
  | [],_,h=>.inr h
  | (n,k)::r,cs,h=>by
    unfold clFrom at h
    rcases cl_lookup r _ h with ⟨h1,h2⟩ | h1
    · exact .inl ⟨List.mem_cons_of_mem _ h1,h2⟩
    · by_cases hk:k=.free
      · subst hk
        rw[if_pos (by rfl),List.lookup_cons] at h1
        cases e:x == n with
        | true=>
          rw[e] at h1
          have en:x=n:=eq_of_beq e
          subst en
          exact .inl ⟨List.mem_cons_self,(Option.some.inj h1).symm⟩
        | false=>rw[e] at h1; exact .inr h1
      · have hb:(k == NameKind.free)=false:=by simpa using hk
        rw[if_neg (by rw[hb]; decide)] at h1
        exact .inr h1
theorem cl_mono {env:Env}{x:Str}:∀ (names:List (Str × NameKind)) (cs:List (Str × Addr)),(∃ c,cs.lookup x=some c)->∃ c,(clFrom env names cs).lookup x=some c
  | [],_,h=>h
  | (n,k)::r,cs,h=>by
    unfold clFrom
    refine cl_mono r _ ?_
    split
    · rw[List.lookup_cons]
      split
      · exact⟨_,rfl⟩
      · exact h
    · exact h
theorem cl_has {env:Env}{x:Str}:∀ (names:List (Str × NameKind)) (cs:List (Str × Addr)),(x,NameKind.free)∈names->∃ c,(clFrom env names cs).lookup x=some c
  | [],_,h=>by simp at h
  | (n,k)::r,cs,h=>by
    unfold clFrom
    rcases List.mem_cons.mp h with e | h
    · cases e
      refine cl_mono r _ ?_
      rw[if_pos (by rfl),List.lookup_cons]
      exact⟨(env.cells.lookup x).getD 0,by simp⟩
    · exact cl_has r _ h
theorem relabel_cf {scope:Scope}{env:Env}{x:Str} (hcell:∀ y∈scope.names,y.2≠.cell) (h:(relabel scope env).names.lookup x=some .cell∨(relabel scope env).names.lookup x=some .free):(x,NameKind.free)∈scope.names:=by
  have hm:∃ k,(x,k)∈(relabel scope env).names/\(k=.cell∨k=.free):=by
    rcases h with h | h
    · exact⟨_,PySem.mem_of_lookup h,.inl rfl⟩
    · exact⟨_,PySem.mem_of_lookup h,.inr rfl⟩
  obtain⟨k,hm,hk⟩:=hm
  obtain⟨⟨n,k'⟩,h1,h2⟩:=List.mem_map.mp hm
  dsimp only at h2
  split at h2
  · rename_i hc
    have:k'=.free:=by
      simp only[Bool.and_eq_true,beq_iff_eq] at hc
      exact hc.1.1
    cases h2
    subst this
    exact h1
  · cases h2
    rcases hk with rfl | rfl
    · exact absurd rfl (hcell _ h1)
    · exact h1
theorem relabel_free {env : Env} {x : Str} : ∀ {names : List (Str × NameKind)}, names.lookup x = some .free →
    (names.map fun (n,k)=>if (k == NameKind.free && env.scope.kind == .function && env.kindOf n == some .cell) then (n,NameKind.cell) else (n,k)).lookup x=some .cell ∨
    (names.map fun (n,k)=>if (k == NameKind.free && env.scope.kind == .function && env.kindOf n == some .cell) then (n,NameKind.cell) else (n,k)).lookup x=some .free
  | [],h=>by simp at h
  | (n,k)::r,h=>by
    have ih:=@relabel_free env x r
    rw[List.map_cons]
    dsimp only
    cases hx:x == n with
    | true=>
      simp only[List.lookup_cons,hx] at h
      cases h
      split
      · left; simp[List.lookup_cons,hx]
      · right; simp[List.lookup_cons,hx]
    | false=>
      simp only[List.lookup_cons,hx] at h
      split
      · simp only[List.lookup_cons,hx]; exact ih h
      · simp only[List.lookup_cons,hx]; exact ih h
section
variable {prog:Program}{w:World}{A:Around}{R:Result->Shared->Prop}{s:Shared}
theorem codeAny_compLoop_go {elt target iter : Expr} {ifs : List Expr} {scope : Scope} {pos : Pos} {it acc : Value} {env : Env} (I : Nat → Shared → Prop)
    (turn:∀ n s,I n s->wpAny (model prog w) A (pyNext it) (fun r s₁=>match r with
      | none=>R (.ok .next) s₁
      | some v => wpAny (model prog w) A (letOwnedTupleGo target it v) (fun _ s₁' => wpAny (model prog w) A (assign target env v) (fun _ s₂ =>
          wpAny (model prog w) A (forIn ifs true fun c r=>if r=true then do let ok <- isTrue c env (eval c env); pure (ForInStep.yield ok) else pure (ForInStep.yield r)) (fun ok s₃=>
            if ok=true then wpAny (model prog w) A (eval elt env) (fun x s₄=>
              wpAny (model prog w) A (call (.builtin "list.append") [acc,x]) (fun _ s₅=>∃ m,m<n/\I m s₅) (fun _ _=>False) s₄) (fun _ _=>False) s₃
            else ∃ m,m<n/\I m s₃) (fun _ _=>False) s₂) (fun _ _=>False) s₁') (fun _ _=>False) s₁) (fun _ _=>False) s)
    (n:Nat) (h:I n s) :
    codeAny (model prog w) A (.compLoop (.ListComp elt [⟨target,iter,ifs,0⟩] scope pos) 0 it acc env) R s:=by
  refine codeAny_loop rfl I (fun n s hI=>?_) n h
  show wpAny _ A ((compTurn (.ListComp elt [⟨target,iter,ifs,0⟩] scope pos) 0 it acc env).onRaise (fun x=>do noteFrame x env; theTreesLotGoes x)) _ _ s
  refine wpAny_noted ?_
  rw[compTurn_list]
  refine wpAny_bind (wpAny_standAt (wpAny_bind (wpAny_mono (turn n s hI) (fun r s₁ h₁=>?_) fun _ _ h'=>h'.elim)))
  cases r with
  | none=>exact wpAny_pure h₁
  | some v=>
    refine wpAny_bind (wpAny_mono h₁ (fun _ s₁' h₁=>?_) fun _ _ h'=>h'.elim)
    refine wpAny_bind (wpAny_mono h₁ (fun _ s₂ h₂=>wpAny_bind (wpAny_mono h₂ (fun ok s₃ h₃=>?_) fun _ _ h'=>h'.elim)) fun _ _ h'=>h'.elim)
    cases ok with
    | false=>exact wpAny_pure ⟨rfl,h₃⟩
    | true=>
      exact wpAny_bind (wpAny_bind (wpAny_mono h₃ (fun x s₄ h₄=>wpAny_bind (wpAny_mono h₄ (fun _ s₅ h₅=>wpAny_pure (wpAny_pure ⟨rfl,h₅⟩)) fun _ _ h'=>h'.elim)) fun _ _ h'=>h'.elim))
end
def PTs (X:Cx) (ifs:List Expr) (t:TT):Prop :=
  ∀ (pins:List (Addr × Obj)) (s:Shared) (σ:St) (H:Hp) (Q:Bool->Hp->Prop),Inv X pins σ H s->t σ H Q ->
    wpAny (model X.prog X.w) X.A (forIn ifs true fun c r=>if r=true then do let ok <- isTrue c X.env (eval c X.env); pure (ForInStep.yield ok) else pure (ForInStep.yield r)) (TP X pins σ Q) X.xe s
def tTrue:TT:=fun _ H Q=>Q true H
theorem pts_nil {X:Cx}:PTs X [] tTrue:=fun _ _ _ H _ I h=>wpAny_tests_nil ⟨H,I,h⟩
theorem pts_one {X:Cx}{c:Expr}{t:TT} (h:PT X c t):PTs X [c] t:=fun pins s σ H Q I q=>wpAny_tests_one (h pins s σ H Q I q)
def Cx.blk (X:Cx) (scope:Scope) (own:List Str) (js:List Nat) (s₂:Shared) (H₂:Hp) (C:Addr) (fp:List Addr) (pins:List (Addr × Obj)):Cx where
  prog:=X.prog
  w:=X.w
  K:=X.K
  mg:=X.mg
  base:=X.base
  A:=X.A
  N:=own++js.map fun j=>X.N.getD j Str.empty
  s₀:=s₂
  H₀:=H₂
  env:=compEnvC scope (clOf scope X.env) C X.env
  outer:=X.stack
  stack:=X.stack
  ex:=fp
  fn:=fun _=>false
  calm:=X.calm
  pn:=X.pn++pins
  xe:=fun _ _=>False
def blkσ (own:List Str) (js:List Nat) (σ:St):St:=own.map (fun _=>none)++js.map fun j=>(σ[j]?).join
section
variable {X:Cx}{pins:List (Addr × Obj)}{σ:St}{H H':Hp}{s s':Shared}{scope:Scope}{own:List Str}{js:List Nat}{C:Addr}{fp:List Addr}
structure CompOk (X:Cx) (scope:Scope) (own:List Str) (js:List Nat):Prop where
  kind:scope.kind=.function
  cell:∀ y∈scope.names,y.2≠.cell
  free:∀ y∈scope.names,y.2=.free->X.env.kindOf y.1=some .cell∨X.env.kindOf y.1=some .free
  names:∀ y∈scope.names,y.2=.local -> scope.names.lookup y.1=some .local
  out:∀ j∈js,∃ x,X.N[j]?=some x/\scope.names.lookup x=some .free
theorem CompOk.cl (c:CompOk X scope own js) (I:Inv X pins σ H s):∀ x∈scope.names,x.2=.free->∃ c,X.env.cells.lookup x.1=some c:=fun x hx hf=>I.ok.has x.1 (c.free x hx hf)
theorem CompOk.look (c:CompOk X scope own js) (I:Inv X pins σ H s) {x:Str}{a:Addr} (h:(clOf scope X.env).lookup x=some a):X.env.cells.lookup x=some a:=by
  rcases cl_lookup _ _ h with ⟨h1,h2⟩ | h1
  · obtain⟨c',e⟩:=c.cl I (x,.free) h1 rfl
    have e':X.env.cells.lookup x=some c':=e
    rw[e'] at h2 ⊢
    subst h2
    rfl
  · simp at h1
theorem blk_ok (c:CompOk X scope own js) (I:Inv X pins σ H s) (hC:s.heap.objs.size<=C) (hf:∀ b∈fp,FpOk X pins H b) (ho:∀ b∈fp,∃ o,s.heap.get? b=some o):(X.blk scope own js s H C fp pins).Ok where
  mod:=I.ok.mod
  kind:=c.kind
  glob:=I.ok.glob
  blt:=I.ok.blt
  above:=hC
  inj:=fun x y a h1 h2=>I.ok.inj x y a (c.look I h1) (c.look I h2)
  has:=fun x hx=>cl_has _ _ (relabel_cf c.cell hx)
  cab:=fun x a h=>by cases h
  hd:=I.ok.hd
  frames:=I.ok.frames
  stk:=.inl rfl
  exf:=fun b hb=>by
    obtain⟨o,e⟩:=ho b hb
    exact⟨Nat.ne_of_lt (Nat.lt_of_lt_of_le (Heap.lt_size e) hC),fun x a h=>(hf b hb).2.2.2.2.1 x a (c.look I h)⟩
  bs:=I.bs
  bsz:=Nat.le_trans I.ok.bsz I.sz
  noex:=fun b o e hb=>by
    rcases (hf b hb).2.2.2.1 with z | z
    · exact I.ok.noex b o e z
    · exact absurd (Nat.lt_of_lt_of_le (Heap.lt_size e) (Nat.le_trans I.ok.bsz z)) (Nat.lt_irrefl _)
  exfs:=fun b hb hm=>by
    rcases List.mem_cons.mp (I.stkSub b hm) with z | z
    · exact (hf b hb).2.1 z
    · exact (hf b hb).2.2.1 z
  funs:=I.stack
  frf:=I.stkFree
theorem blk_len (own:List Str) (js:List Nat) (σ:St) (X:Cx):(blkσ own js σ).length=(own++js.map fun j=>X.N.getD j Str.empty).length:=by
  unfold blkσ
  simp
theorem blk_start {acc : Addr} {m : Str → Option Value} {tk : Nat} {h' : Heap} (c : CompOk X scope own js) (I : Inv X pins σ H s) (hC : s.heap.objs.size ≤ C) (hf : ∀ b ∈ fp, FpOk X pins H b) (ho : ∀ b ∈ fp, ∃ o, s.heap.get? b = some o)
    (hn:h'.Ns C m) (k:∀ b u,s.heap.get? b=some u->h'.get? b=some u) (hacc:s.heap.objs.size<=acc) (haC:acc≠C) (hl:h'.get? acc=some { cls:=.type "list",data:=.seq ([]:List Value).toArray 0 }) :
    Inv (X.blk scope own js s H C fp pins) [] (blkσ own js σ) (upd H acc (.lst [])) { s with heap:=h',toks:=tk }:=by
  have ok:=blk_ok c I hC hf ho
  have fresh:∀ {a:Addr},s.heap.objs.size<=a->H a=none:=fun h=>I.hok.fresh h
  have neA:∀ b o,s.heap.get? b=some o->b≠acc:=fun b o e=>Nat.ne_of_lt (Nat.lt_of_lt_of_le (Heap.lt_size e) hacc)
  refine⟨ok,rfl,I.bare,Un.laid k hacc (fresh hacc),⟨m,hn,fun i x v e1 e2 e3=>?_⟩,fun x a e=>?_,?_,fun x a e=>?_,fun p hp=>?_,I.hok.laid k hacc ⟨Nat.zero_le _,[],0,.nil,hl⟩,blk_len own js σ X⟩
  ·
    have hi:own.length<=i:=by
      refine Nat.le_of_not_lt fun hi=>?_
      unfold blkσ at e2
      rw[List.getElem?_append_left (by simpa using hi),List.getElem?_map] at e2
      cases q:own[i]? with
      | none=>rw[q] at e2; cases e2
      | some z=>rw[q] at e2; cases e2
    have e1':(js.map fun j=>X.N.getD j Str.empty)[i - own.length]?=some x:=by
      have e1:(own++js.map fun j=>X.N.getD j Str.empty)[i]?=some x:=e1
      rwa [List.getElem?_append_right hi] at e1
    have e2':(js.map fun j=>(σ[j]?).join)[i - own.length]?=some (some v):=by
      unfold blkσ at e2
      rw[List.getElem?_append_right (by simpa using hi)] at e2
      simpa using e2
    rw[List.getElem?_map] at e1' e2'
    cases q:js[i - own.length]? with
    | none=>rw[q] at e1'; cases e1'
    | some j=>
      rw[q] at e1' e2'
      obtain⟨x',hx',hfree⟩:=c.out j (List.mem_of_getElem? q)
      have ex:x'=x:=by
        have:X.N.getD j Str.empty=x:=Option.some.inj e1'
        rw[List.getD_eq_getElem?_getD,hx'] at this
        exact this
      subst ex
      have eσ:σ[j]?=some (some v):=by
        have e2'':(σ[j]?).join=some v:=Option.some.inj e2'
        cases r:σ[j]? with
        | none=>rw[r] at e2''; cases e2''
        | some z=>rw[r] at e2''; cases z with
          | none=>cases e2''
          | some y=>cases e2''; rfl
      have hmem:(x',NameKind.free)∈scope.names:=PySem.mem_of_lookup hfree
      have hkX:=c.free _ hmem rfl
      have vis:Vis X.env.scope x':=by
        rcases hkX with z | z
        · exact .inr (.inl z)
        · exact .inr (.inr z)
      obtain⟨m0,hn0,hl0⟩:=I.loc
      obtain⟨u,r,l⟩:=hl0 j x' v hx' eσ vis
      refine⟨u,r,.inr ⟨relabel_free hfree,?_⟩⟩
      obtain⟨a,ha⟩:=cl_has (env:=X.env) scope.names [] hmem
      refine⟨a,ha,?_⟩
      have haX:=c.look I ha
      rcases l with ⟨z,_⟩ | ⟨_,a',ha',⟨o,ho',hd⟩⟩
      · have z:X.env.kindOf x'=some .local:=z
        rcases hkX with y | y
        · have y:X.env.kindOf x'=some .cell:=y
          rw[z] at y; cases y
        · have y:X.env.kindOf x'=some .free:=y
          rw[z] at y; cases y
      · rw[haX] at ha'; cases ha'
        exact⟨o,k _ o ho',hd⟩
  · obtain⟨v,o,ho',hd⟩:=I.cell x a (c.look I e)
    exact⟨v,o,k _ o ho',hd⟩
  · show upd H acc (.lst []) C=none
    rw[upd_ne (Ne.symm haC)]
    exact fresh hC
  · have e':=c.look I e
    obtain⟨v,o,ho',hd⟩:=I.cell x a e'
    rw[upd_ne (neA a o ho')]
    exact I.freeC x a e'
  · have hp:p∈X.pn++pins:=by simpa[Cx.blk] using hp
    obtain⟨e,n,ne,nf,d⟩:=I.pin p hp
    refine⟨k _ _ e,by rw[upd_ne (neA _ _ e)]; exact n,Nat.ne_of_lt (Nat.lt_of_lt_of_le (Heap.lt_size e) hC),fun z=>?_,d⟩
    rcases List.mem_cons.mp (I.stkSub _ z) with q | q
    · exact ne q
    · exact nf q
theorem blk_end {τ:St}{pl:List (Addr × Obj)} (I:Inv X pins σ H s) (hf:∀ b∈fp,FpOk X pins H b) (J:Inv (X.blk scope own js s H C fp pins) pl τ H' s'):Inv X pins σ H' s' :=
  I.call' J.os J.base J.hok J.bare fun b hb=>⟨(hf b hb).2.2.2.1,(hf b hb).2.1,(hf b hb).2.2.2.2.1,(hf b hb).2.2.2.2.2⟩
theorem Inv.other {h' : Heap} (I : Inv X pins σ H s) (hs : Heap.SameBut C s.heap h') (hn : H C = none) (hL : C ≠ X.env.locals) (h1 : X.s₀.heap.objs.size ≤ C) (h2 : ∀ x c, X.env.cells.lookup x = some c → c ≠ C) (h3 : ∀ p ∈ X.pn ++ pins, p.1 ≠ C) :
    Inv X pins σ H { s with heap:=h' } :=
  I.turned (t':=s.toks) (fun b o hb e=>(hs.2 b hb).trans e) hn hL (.inr h1) h2 h3
end
def GKeep (own:List Str) (g:TG):Prop:=∀ (js:List Nat) (σ:St) (x:V) (H:Hp) (Q:St->Hp->Prop),g x (blkσ own js σ) H Q ->
  g x (blkσ own js σ) H fun τ H'=>(∀ (j:Nat) v,(blkσ own js σ)[j]?=some (some v)->τ[j]?=some (some v))/\Q τ H'
theorem blkσ_own {own:List Str}{js:List Nat}{σ:St}{i:Nat}{v:V} (hi:i<own.length):(blkσ own js σ)[i]?≠some (some v):=by
  unfold blkσ
  rw[List.getElem?_append_left (by simpa using hi),List.getElem?_map]
  cases own[i]? with
  | none=>intro h; cases h
  | some z=>intro h; cases h
theorem gkeep_name {own:List Str}{i:Nat} (hi:i<own.length:=by decide):GKeep own (gName i):=fun js σ x H Q h=>⟨fun j v e=>by
  have hj:j≠i:=by rintro rfl; exact blkσ_own hi e
  rw[List.getElem?_set_ne (Ne.symm hj)]
  exact e,h⟩
theorem gkeep_two {K:PySem.W.Frag}{own:List Str}{i k:Nat} (hi:i<own.length:=by decide) (hk:k<own.length:=by decide):GKeep own (gTup K 2 (gCons (gName i) (gCons (gName k) gNil))):=fun js σ x H Q h=>by
  obtain⟨a,xs,rfl,hq,hl,v,r,rfl,w,r',rfl,e,h⟩:=h
  refine⟨a,_,rfl,hq,hl,v,_,rfl,w,r',rfl,e,fun j z e=>?_,h⟩
  have hj:j≠i:=by rintro rfl; exact blkσ_own hi e
  have hj':j≠k:=by rintro rfl; exact blkσ_own hk e
  rw[List.getElem?_set_ne (Ne.symm hj'),List.getElem?_set_ne (Ne.symm hj)]
  exact e
def tCompW (own:List Str) (js:List Nat) (g:TG) (tt:TT) (te:TE) (σ:St) (J:It) (H1:Hp) (Q:VK):Prop :=
  ∀ acc,H1 acc=none->∃ (W:Nat->Hp->Prop) (n:Nat),W 0 (upd H1 acc (.lst []))/\∀ i H2,W i H2 ->
    (J.stop i H2/\Q (.ref acc) H2)∨(i<n/\J.go i H2/\∀ x H3,J.yld i H2 x H3->g x (blkσ own js σ) H3 fun τ H4=>tt τ H4 fun c H5=>
      if c=true then te τ H5 fun y H6=>∃ ys,H6 acc=some (.lst ys)/\ys.length<sizeLine/\W (i+1) (upd H6 acc (.lst (ys++[y]))) else W (i+1) H5)
def tComp (own:List Str) (js:List Nat) (wi:TI) (g:TG) (tt:TT) (te:TE):TE:=fun σ H Q=>wi σ H fun J H1=>tCompW own js g tt te σ J H1 Q
section
variable {X:Cx}{scope:Scope}{own:List Str}{js:List Nat}{elt iter target:Expr}{ifs:List Expr}{wi:TI}{g:TG}{tt:TT}{te:TE}{pos:Pos}
theorem blk_run {pins : List (Addr × Obj)} {σ : St} {H2 : Hp} {s₂ : Shared} {it : Addr} {fp : List Addr} {tn : Nat → Heap → Prop} {J : It} {Q : VK} {E : Value → Shared → Prop} {RR : Value → Addr → Result → Shared → Prop}
    (c:CompOk X scope own js) (hc:X.calm=true) (hgk:GKeep own g)
    (hg:∀ s H C fp pins,PG (X.blk scope own js s H C fp pins) target g) (ht:∀ s H C fp pins,PTs (X.blk scope own js s H C fp pins) ifs tt) (he:∀ s H C fp pins,PE (X.blk scope own js s H C fp pins) elt te)
    (I:Inv X pins σ H2 s₂) (T:Turn X.prog X.w X.K target J fp it tn) (st:tn 0 s₂.heap) (hf:∀ b∈fp,FpOk X pins H2 b) (h:tCompW own js g tt te σ J H2 Q)
    (hRR:∀ acc C H' s' m,s₂.heap.objs.size<=C->H' C=none->Inv X pins σ H' s'->s'.heap.Ns C m->Q (.ref acc) H'->RR (.ref acc) C (.ok .next) s') :
    wpAny (model X.prog X.w) X.A (newList []) (fun acc s₃=>wpAny (model X.prog X.w) X.A (newFunctionEnv scope X.env.globals (clOf scope X.env) [] X.env.qual none .none (some X.env)) (fun cenv s₄=>
      codeAny (model X.prog X.w) X.A (.compStart (.ListComp elt [⟨target,iter,ifs,0⟩] scope pos) 0 (.ref it) acc { cenv with scope:=relabel scope X.env }) (RR acc cenv.locals) s₄) E s₃) E s₂:=by
  refine wpAny_newObj_type (wpAny_newFunctionEnv c.cell (by intro y hy; simp at hy) (fun h₁ hns₁ hsb₁=>?_) c.kind)
  dsimp only at hns₁ hsb₁ ⊢
  generalize hH2:s₂.heap.push { cls:=.type "list",dict:=none,data:=.seq ([]:List Value).toArray }=G2 at hns₁ hsb₁ ⊢
  have hC:G2.objs.size=s₂.heap.objs.size+1:=by rw[<- hH2,Heap.size_push]
  have hDC:s₂.heap.objs.size≠G2.objs.size:=by rw[hC]; exact Nat.ne_of_lt (Nat.lt_succ_self _)
  have hCle:s₂.heap.objs.size<=G2.objs.size:=by rw[hC]; exact Nat.le_succ _
  have old:∀ b o,s₂.heap.get? b=some o->h₁.get? b=some o:=fun b o e=>hsb₁.extBut b o (Nat.ne_of_lt (Nat.lt_of_lt_of_le (Heap.lt_size e) hCle)) (Heap.get?_push_of_some _ (hH2 ▸ Heap.get?_push_of_some _ e))
  have hacc:h₁.get? s₂.heap.objs.size=some { cls:=.type "list",data:=.seq ([]:List Value).toArray 0 }:=hsb₁.extBut _ _ hDC (Heap.get?_push_of_some _ (hH2 ▸ Heap.get?_push_size _ rfl))
  have ho2:∀ b∈fp,∃ o,s₂.heap.get? b=some o:=fun b hb=>let ⟨o,e,_⟩:=T.obj 0 _ st b hb; ⟨o,e⟩
  have I0:∀ tk,Inv (X.blk scope own js s₂ H2 G2.objs.size fp pins) [] (blkσ own js σ) (upd H2 s₂.heap.objs.size (.lst [])) { s₂ with heap:=h₁,toks:=tk }:=fun tk=>
    blk_start c I hCle hf ho2 hns₁ old (Nat.le_refl _) hDC hacc
  obtain⟨W,nn,w0,turn⟩:=h s₂.heap.objs.size (I.hok.fresh (Nat.le_refl _))
  generalize hacc':s₂.heap.objs.size=acc at *
  generalize hGC:G2.objs.size=C at *
  have st1:tn 0 h₁:=T.keep 0 _ _ st fun b _ o e=>old b o e
  have fOk:∀ {H':Hp},(∀ b∈fp,H' b=none)->∀ b∈fp,FpOk (X.blk scope own js s₂ H2 C fp pins) [] H' b:=fun hn b hb=>by
    obtain⟨f0,f1,f2,f3,f4,f5⟩:=hf b hb
    obtain⟨o,e⟩:=ho2 b hb
    refine⟨hn b hb,Nat.ne_of_lt (Nat.lt_of_lt_of_le (Heap.lt_size e) (by rw[<- hacc'] at hCle; exact hCle)),fun z=>?_,.inl hb,fun x a h=>f4 x a (c.look I h),fun p hp=>f5 p (by simpa[Cx.blk] using hp)⟩
    rcases List.mem_cons.mp (I.stkSub b z) with q | q
    · exact f1 q
    · exact f2 q
  have loop : ∀ s₃ : Shared, s₃ = { s₂ with heap := h₁, toks := s₂.toks + ([] : List (Str × Value)).length } →
      codeAny (model X.prog X.w) X.A (.compLoop (.ListComp elt [⟨target,iter,ifs,0⟩] scope pos) 0 (.ref it) (.ref acc) (compEnvC scope (clOf scope X.env) C X.env)) (RR (.ref acc) C) s₃:=by
    rintro s₃ rfl
    refine codeAny_compLoop_go (fun n s'=>∃ i H',n=nn - i/\Inv (X.blk scope own js s₂ H2 C fp pins) [] (blkσ own js σ) H' s'/\tn i s'.heap/\(∀ b∈fp,H' b=none)/\W i H') ?_ nn ⟨0,_,rfl,I0 _,st1,fun b hb=>?_,w0⟩
    · rintro n s3 ⟨i,H3,en,I3,st3,fr3,w3⟩
      rcases turn i H3 w3 with ⟨stop,qn⟩ | ⟨hin,go,step⟩
      · refine thn (T.done (X.blk scope own js s₂ H2 C fp pins) rfl rfl rfl hc i [] s3 _ H3 (fun _ _=>False) I3 (fOk fr3) st3 stop) fun r s4 ⟨hr,I4⟩=>?_
        subst hr
        obtain⟨m,hn,_⟩:=I4.loc
        exact hRR acc C H3 s4 m hCle I4.free (blk_end I hf I4) hn qn
      · refine thn (T.item (X.blk scope own js s₂ H2 C fp pins) rfl rfl rfl hc i [] s3 _ H3 (fun _ _=>False) I3 (fOk fr3) st3 go) fun r s4 ⟨u,hr,h4⟩=>?_
        subst hr
        refine thn h4 fun _ s5 ⟨x,H5,I5,r5,y5,st5,fr5⟩=>?_
        have I5':=I5.pinned (fOk fr5) (T.obj _ _ st5)
        have again : ∀ {σ7 : St} {H7 : Hp} {s7 : Shared}, Inv (X.blk scope own js s₂ H2 C fp pins) ([] ++ pinsAt fp s5.heap) σ7 H7 s7 → (∀ (j : Nat) v, (blkσ own js σ)[j]? = some (some v) → σ7[j]? = some (some v)) → W (i + 1) H7 →
            ∃ m,m<n/\∃ i H',m=nn - i/\Inv (X.blk scope own js s₂ H2 C fp pins) [] (blkσ own js σ) H' s7/\tn i s7.heap/\(∀ b∈fp,H' b=none)/\W i H':=fun {σ7 H7 s7} I7 hw w7=>by
          refine⟨nn - (i+1),by omega,i+1,H7,rfl,(I7.unpinned).weak ((blk_len own js σ X).trans I7.len.symm) hw,T.keep _ _ _ st5 fun b hb o e=>(I7.pin (b,o) (List.mem_append_right _ (List.mem_append_right _ (mem_pinsAt hb e)))).1,fun b hb=>?_,w7⟩
          obtain⟨o,e,d⟩:=T.obj _ _ st5 b hb
          exact (I7.pin (b,o) (List.mem_append_right _ (List.mem_append_right _ (mem_pinsAt hb e)))).2.1
        refine thn (hg s₂ H2 C fp pins _ s5 _ H5 x u _ I5' r5 (hgk _ _ _ _ _ (step x H5 y5))) fun _ s6 ⟨σ6,H6,I6,kp,q6⟩=>?_
        refine thn (ht s₂ H2 C fp pins _ s6 σ6 H6 _ I6 q6) fun ok s7 ⟨H7,I7,q7⟩=>?_
        cases ok with
        | false=>
          exact again I7 kp q7
        | true=>
          refine thn (he s₂ H2 C fp pins _ s7 σ6 H7 _ I7 q7) fun y s8 ⟨v,H8,I8,r8,ys,hl,hz,w8⟩=>?_
          refine thn (mt_append (X:=X.blk scope own js s₂ H2 C fp pins) _ s8 σ6 H8 (.ref acc) [v] (.ref acc) [y] (fun _ H9=>W (i+1) H9) I8 rfl (.cons r8 .nil) ⟨acc,ys,v,rfl,rfl,hl,hz,w8⟩) fun _ s9 ⟨_,H9,I9,_,w9⟩=>?_
          exact again I9 kp w9
    · rw[upd_ne ?_]
      · exact (hf b hb).1
      · obtain⟨o,e⟩:=ho2 b hb
        rw[<- hacc']
        exact Nat.ne_of_lt (Heap.lt_size e)
  exact codeAny_compStart_list (loop _ rfl) (T.self _ 0 _ _ _ st1 (loop _ rfl))
theorem pe_comp (c : CompOk X scope own js) (hc : X.calm = true) (hi : PI X target iter wi) (hgk : GKeep own g)
    (hg:∀ s H C fp pins,PG (X.blk scope own js s H C fp pins) target g) (ht:∀ s H C fp pins,PTs (X.blk scope own js s H C fp pins) ifs tt) (he:∀ s H C fp pins,PE (X.blk scope own js s H C fp pins) elt te)
    (hs:∀ x,foldedSetIterable iter X.env x=pure x:=by intro _; rfl):PE X (.ListComp elt [⟨target,iter,ifs,0⟩] scope pos) (tComp own js wi g tt te):=by
  intro pins s σ H Q I h
  rw[eval_ListComp]
  refine wpAny_comprehension_free (use:=none) rfl hs (closure_cl (c.cl I)) c.kind c.names (thn (hi pins s σ H _ I h) fun v s1 h1=>thn h1 fun itv s2 h2=>?_)
  obtain⟨it,fp,tn,J,H2,e,I2,T,st2,f2,hw⟩:=h2
  subst e
  refine blk_run (RR:=fun acc C=>compPost (model X.prog X.w) X.A X.xe none (EP X pins σ Q) acc C) c hc hgk hg ht he I2 T st2 f2 hw ?_
  intro acc C H' s' m hCs hCn I' hn q
  refine⟨m,hn,fun h' hs'=>⟨.ref acc,H',I'.other hs' hCn ?_ ?_ ?_ ?_,rfl,q⟩⟩
  · exact Nat.ne_of_gt (Nat.lt_of_lt_of_le I2.lt hCs)
  · exact Nat.le_trans I2.sz hCs
  · intro x a e z
    obtain⟨v,q⟩:=I2.cell x a e
    exact absurd (Nat.lt_of_lt_of_le q.lt (by rw[z]; exact hCs)) (Nat.lt_irrefl _)
  · intro p hp z
    exact absurd (Nat.lt_of_lt_of_le (Heap.lt_size (I2.pin p hp).1) (by rw[z]; exact hCs)) (Nat.lt_irrefl _)
theorem ps_comp {i : Nat} {y : Str} {py spos : Pos} (hN : X.N.Nodup) (hy : X.N[i]? = some y) (hyl : X.env.scope.names.lookup y = some .local) (c : CompOk X scope own js) (hc : X.calm = true) (hi : PI X target iter wi) (hgk : GKeep own g)
    (hg:∀ s H C fp pins,PG (X.blk scope own js s H C fp pins) target g) (ht:∀ s H C fp pins,PTs (X.blk scope own js s H C fp pins) ifs tt) (he:∀ s H C fp pins,PE (X.blk scope own js s H C fp pins) elt te)
    (hsw:swapsWith (.ListComp elt [⟨target,iter,ifs,0⟩] scope pos) (some (.Name y py)) spos.line X.env=pure true:=by rfl)
    (hs:∀ x,foldedSetIterable iter X.env x=pure x:=by intro _; rfl):PS X (.Assign [.Name y py] (.ListComp elt [⟨target,iter,ifs,0⟩] scope pos) spos) (tAsg (tComp own js wi g tt te) (gName i)):=by
  intro pins s σ H D I h
  rw[exec_Assign_Name_used _ _ _ _ hsw]
  refine wpAny_bind (wpAny_standAt (wpAny_bind ?_))
  show wpAny _ X.A (do let _ <- comprehension (.ListComp elt [⟨target,iter,ifs,0⟩] scope pos) scope X.env _ (newList []) false (eval iter X.env) (some (assign (.Name y py) X.env))) _ _ s
  refine wpAny_bind (wpAny_mono (wpAny_comprehension_free (use:=some (assign (.Name y py) X.env)) (Q:=fun _ s'=>SP X pins D .next s') rfl hs (closure_cl (c.cl I)) c.kind c.names
    (thn (hi pins s σ H _ I h) fun v s1 h1=>thn h1 fun itv s2 h2=>?_)) (fun _ s' hq=>wpAny_pure (wpAny_pure hq)) fun _ _ e=>e)
  obtain⟨it,fp,tn,J,H2,e,I2,T,st2,f2,hw⟩:=h2
  subst e
  refine blk_run (Q:=fun x H1=>gName i x σ H1 D.nx) (RR:=fun acc C=>compPost (model X.prog X.w) X.A X.xe (some (assign (.Name y py) X.env)) (fun _ s'=>SP X pins D .next s') acc C) c hc hgk hg ht he I2 T st2 f2 hw ?_
  intro acc C H' s' m hCs hCn I' hn q
  have hL:C≠X.env.locals:=Nat.ne_of_gt (Nat.lt_of_lt_of_le I2.lt hCs)
  have hcell:∀ x a,X.env.cells.lookup x=some a->a≠C:=by
    intro x a e z
    obtain⟨v,q⟩:=I2.cell x a e
    exact absurd (Nat.lt_of_lt_of_le q.lt (by rw[z]; exact hCs)) (Nat.lt_irrefl _)
  refine wpAny_assign_Name (store_ok2 I' hN hy (.inl hyl) (v:=.ref acc) rfl (fun s2 I'' hch=>?_) (.inr hyl))
  obtain⟨a,sb,ha⟩:=hch
  have hCa:C≠a:=by
    rcases ha with rfl | ha
    · exact hL
    · exact Ne.symm (hcell _ _ ha)
  refine⟨m,hn.sameBut sb hCa,fun h' hs'=>⟨_,H',I''.other hs' hCn hL (Nat.le_trans I2.sz hCs) hcell ?_,q⟩⟩
  intro p hp z
  exact absurd (Nat.lt_of_lt_of_le (Heap.lt_size (I2.pin p hp).1) (by rw[z]; exact hCs)) (Nat.lt_irrefl _)
end
section
variable {K:PySem.W.Frag}{own:List Str}{js:List Nat}{g:TG}{tt:TT}{te:TE}{σ:St}{H1:Hp}{Q:VK}
theorem comp_list {a : Addr} {xs : List V} (Pv : Addr → Nat → Hp → Prop) (h0 : ∀ acc, H1 acc = none → Pv acc 0 (upd H1 acc (.lst []))) (hl : ∀ acc i H, H1 acc = none → i ≤ xs.length → Pv acc i H → SqL K H a xs)
    (hs:∀ acc i x H,H1 acc=none->xs[i]?=some x->Pv acc i H->g x (blkσ own js σ) H fun τ H4=>tt τ H4 fun c H5=>
      if c=true then te τ H5 fun y H6=>∃ ys,H6 acc=some (.lst ys)/\ys.length<sizeLine/\(i+1<=xs.length/\Pv acc (i+1) (upd H6 acc (.lst (ys++[y])))) else (i+1<=xs.length/\Pv acc (i+1) H5))
    (hd:∀ acc H,H1 acc=none->Pv acc xs.length H->Q (.ref acc) H):tCompW own js g tt te σ (Itl K a) H1 Q:=by
  intro acc hacc
  refine⟨fun i H=>i<=xs.length/\Pv acc i H,xs.length,⟨Nat.zero_le _,h0 acc hacc⟩,?_⟩
  rintro i H ⟨hi,p⟩
  have q:=hl acc i H hacc hi p
  by_cases hlt:i<xs.length
  · refine .inr ⟨hlt,⟨xs,xs[i],q,by simp[hlt]⟩,fun x H' y=>?_⟩
    obtain⟨e,y⟩:=y
    subst e
    exact hs acc i x _ hacc (y xs q) p
  · have e:i=xs.length:=by omega
    subst e
    exact .inl ⟨⟨xs,q,Nat.le_refl _⟩,hd acc H hacc p⟩
theorem comp_range {lo : Int} {n : Nat} (Pv : Addr → Nat → Hp → Prop) (h0 : ∀ acc, H1 acc = none → Pv acc 0 (upd H1 acc (.lst [])))
    (hs:∀ acc i H,H1 acc=none->i<n->Pv acc i H->g (.int (lo+i)) (blkσ own js σ) H fun τ H4=>tt τ H4 fun c H5=>
      if c=true then te τ H5 fun y H6=>∃ ys,H6 acc=some (.lst ys)/\ys.length<sizeLine/\(i+1<=n/\Pv acc (i+1) (upd H6 acc (.lst (ys++[y])))) else (i+1<=n/\Pv acc (i+1) H5))
    (hd:∀ acc H,H1 acc=none->Pv acc n H->Q (.ref acc) H):tCompW own js g tt te σ (Itr lo n) H1 Q:=by
  intro acc hacc
  refine⟨fun i H=>i<=n/\Pv acc i H,n,⟨Nat.zero_le _,h0 acc hacc⟩,?_⟩
  rintro i H ⟨hi,p⟩
  by_cases hlt:i<n
  · refine .inr ⟨hlt,hlt,fun x H' y=>?_⟩
    obtain⟨e,y⟩:=y
    subst e y
    exact hs acc i _ hacc hlt p
  · have e:i=n:=by omega
    subst e
    exact .inl ⟨Nat.le_refl _,hd acc H hacc p⟩
end
def compChk (scope sc:Scope) (js:List Nat) (N:List Str):Bool :=
  (scope.kind == .function) && (scope.names.all fun y=>(y.2 != .cell) && ((y.2 != .free) || (sc.names.lookup y.1 == some .cell) || (sc.names.lookup y.1 == some .free)) && ((y.2 != .local) || (scope.names.lookup y.1 == some .local))) &&
  (js.all fun j=>match N[j]? with | some x=>scope.names.lookup x == some .free | none=>false)
theorem CompOk.by {X:Cx}{scope sc:Scope}{own N:List Str}{js:List Nat} (hX:X.env.scope=sc) (hN:X.N=N) (h:compChk scope sc js N=true):CompOk X scope own js:=by
  unfold compChk at h
  simp only[Bool.and_eq_true,beq_iff_eq,List.all_eq_true,Bool.or_eq_true,bne_iff_ne,ne_eq] at h
  obtain⟨⟨h1,h2⟩,h3⟩:=h
  refine⟨h1,fun y hy=>(h2 y hy).1.1,fun y hy hf=>?_,fun y hy hl=>?_,fun j hj=>?_⟩
  · show X.env.scope.names.lookup y.1=_∨X.env.scope.names.lookup y.1=_
    rw[hX]
    rcases (h2 y hy).1.2 with (z | z) | z
    · exact absurd hf z
    · exact .inl z
    · exact .inr z
  · rcases (h2 y hy).2 with z | z
    · exact absurd hl z
    · exact z
  · have:=h3 j hj
    rw[hN]
    cases e:N[j]? with
    | none=>rw[e] at this; cases this
    | some x=>rw[e] at this; exact⟨x,rfl,by simpa using this⟩
end L2
namespace L2
open PySem PySem.Spec PyProof.Rows PySem.SeqAt
section
variable {X:Cx}
theorem Vals.bl_get {bs:List Bool}{us:List Value} (r:Vals (bs.map V.bl) us) {i:Nat}{v:Value} (e:us[i]?=some v):∃ b,bs[i]?=some b/\v=.bool b:=by
  cases q:(bs.map V.bl)[i]? with
  | none=>
    have:=r.none_of q
    rw[e] at this; cases this
  | some x=>
    obtain⟨u,h1,h2⟩:=r.get q
    rw[e] at h1; cases h1
    rw[List.getElem?_map] at q
    cases z:bs[i]? with
    | none=>rw[z] at q; cases q
    | some b=>rw[z] at q; cases q; exact⟨b,rfl,h2⟩
theorem range_all {bs:List Bool}:(List.range bs.length).all (fun i=>bs.getD i true)=bs.all id:=by
  rw[Bool.eq_iff_iff,List.all_eq_true,List.all_eq_true]
  constructor
  · intro h b hb
    obtain⟨i,hi,e⟩:=List.getElem_of_mem hb
    have:=h i (List.mem_range.mpr hi)
    simpa[List.getD_eq_getElem?_getD,hi,e] using this
  · intro h i hi
    have hi':=List.mem_range.mp hi
    have:=h bs[i] (List.getElem_mem hi')
    simpa[List.getD_eq_getElem?_getD,hi'] using this
theorem call_all (hc:X.calm=true):CallR X (.builtin "all") (fun xs H Q=>∃ (a:Addr) (bs:List Bool),xs=[.ref a]/\SqL X.K H a (bs.map V.bl)/\Q (.bl (bs.all id)) H):=by
  intro pins s σ H xs us Q I r h
  obtain⟨a,bs,rfl,hq,q⟩:=h
  obtain⟨u,rfl,r1⟩:=vals1 r
  cases r1
  obtain⟨its,rv,p,hz⟩:=I.list hq
  refine call_all_walk (wpAny_pyIter_list p.isList ?_)
  have hlt:=(let ⟨o,n,e,_⟩:=p; Heap.lt_size e:a<s.heap.objs.size)
  have hne:a≠s.heap.objs.size:=Nat.ne_of_lt hlt
  have hlen:its.toArray.size=bs.length:=by rw[List.size_toArray,<- rv.length,List.length_map]
  refine⟨s.heap.objs.size,_,_,_,_,_,fun i=>bs.getD i true,rfl,Walks.list (A:=X.A.in1) (I.ok.hd hc) _ a hne its.toArray,⟨⟨_,Heap.get?_push_size _ rfl,rfl,rfl⟩,?_⟩,?_,?_⟩
  · obtain⟨o,n,e,c,_,d⟩:=p
    exact⟨o,Heap.get?_push_of_some _ e,c,n,d⟩
  · intro i v s' Q' E' hP hQ
    have hP':its[i]?=some v:=by simpa using hP
    obtain⟨b,hb,rfl⟩:=rv.bl_get hP'
    refine wpAny_truthy_bool ?_
    dsimp only at hQ
    rw[List.getD_eq_getElem?_getD,hb] at hQ
    exact hQ
  · intro h' tk k
    rw[hlen,range_all]
    refine⟨.bl (bs.all id),H,I.kept (h':=h') (t':=tk) fun b o e=>k b o ?_ (Heap.get?_push_of_some _ e),rfl,q⟩
    intro hm
    have:b=s.heap.objs.size:=by simpa using hm
    rw[this] at e
    exact absurd (Heap.lt_size e) (Nat.lt_irrefl _)
theorem Vals.int_at {ns:List Int}{us:List Value} (r:Vals (ns.map V.int) us) {i:Nat} (h:i<ns.length):∃ t,us[i]?=some (.int ns[i] t):=by
  have q:(ns.map V.int)[i]?=some (V.int ns[i]):=by rw[List.getElem?_map,List.getElem?_eq_getElem h]; rfl
  obtain⟨u,h1,t,rfl⟩:=r.get q
  exact⟨t,h1⟩
theorem ints_at {ns:List Int}{its:List Value} (r:Vals (ns.map V.int) its) {j:Nat} (h:j<its.toArray.size):∃ t,its.toArray[j]=.int (ns.getD j 0) t:=by
  have hj:j<ns.length:=by rw[List.size_toArray,<- r.length,List.length_map] at h; exact h
  obtain⟨t,q⟩:=r.int_at hj
  obtain⟨_,q'⟩:=List.getElem?_eq_some_iff.mp q
  exact⟨t,by simpa[List.getD_eq_getElem?_getD,hj] using q'⟩
end
end L2
namespace L2
open PySem PySem.Spec PyProof.Rows PySem.SeqAt
section
variable {prog:Program}{w:World}{A:Around}{R:Result->Shared->Prop}{I:Addr}{fp wr:List Addr}{n:Nat}{P:Nat->Value->Prop}{St:Nat->Heap->Prop}
end
section
variable {X:Cx}
end
end L2
namespace L2
open PySem PySem.Spec PyProof.Rows PySem.SeqAt
def Ite (K:PySem.W.Frag) (a:Addr):It :=
  ⟨fun i H=>∃ xs x,SqL K H a xs/\xs[i]?=some x,fun i H y H'=>∃ p x,H p=none/\y=.ref p/\H'=upd H p (.tup [.int i,x])/\∀ xs,SqL K H a xs->xs[i]?=some x,fun i H=>∃ xs,SqL K H a xs/\xs.length<=i⟩
theorem turn_enum {P:Program}{w:World}{K:PySem.W.Frag}{es:List Expr}{x1}{pos:Pos} (a it e:Addr) (hne:e≠it):Turn P w K (.Tuple es x1 pos) (Ite K a) [e,it] e (fun i h=>(∃ old,IsEnum h e it (i:Nat) old)/\h.IsListIter it a i) where
  mem:=by simp
  obj:=fun i h st b hb=>by
    obtain⟨⟨old,s1⟩,s2⟩:=st
    rcases List.mem_cons.mp hb with z | z
    · subst z
      exact⟨_,s1,fun v z=>nomatch z⟩
    · have z:b=it:=by simpa using z
      subst z
      obtain⟨o,e,c,d⟩:=s2
      exact⟨o,e,fun v z=>by rw[d] at z; cases z⟩
  keep:=fun i h h' st k=>by
    obtain⟨⟨old,s1⟩,s2⟩:=st
    exact⟨⟨old,k e (by simp) _ s1⟩,s2.at fun o q=>k it (by simp) o q⟩
  item:=by
    intro X hP hw hK hc i pins s σ H E I hf st hg
    subst hP hw hK
    obtain⟨xs,x,hq,hx⟩:=hg
    obtain⟨its,rv,p,hz⟩:=I.list hq
    obtain⟨u,hu,ru⟩:=rv.get hx
    obtain⟨⟨old,s1⟩,s2⟩:=st
    refine wpAny_pyNext_enum_item s1 s2 p.isList (x:=u) (by simpa using hu) hne fun h' ho hit ht hsz hk=>?_
    refine⟨_,rfl,?_⟩
    refine wpAny_letOwnedTupleGo_enum ho fun h'' he hs=>?_
    have fresh:H s.heap.objs.size=none:=I.hok.fresh (Nat.le_refl _)
    have k:∀ b o,b ∉ [e,it]->s.heap.get? b=some o->h''.get? b=some o:=fun b o hb q=>by
      have hb':b≠e/\b≠it:=by simpa using hb
      exact (hs.2 b hb'.1).trans (hk b o hb'.1 hb'.2 q)
    have nE:∀ b∈[e,it],H b=none:=fun b hb=>(hf b hb).1
    have nit:∀ b u,H b=some u->b ∉ [e,it]:=fun b u q z=>by rw[nE b z] at q; cases q
    have hpe:s.heap.objs.size≠e:=Nat.ne_of_gt (Heap.lt_size s1)
    have htup:h''.get? s.heap.objs.size=some { cls:=.type "tuple",data:=.seq #[.int i s.toks,u] }:=(hs.2 _ hpe).trans ht
    have newOk:ObjOk X.prog X.w (upd H s.heap.objs.size (.tup [.int i,x])) h'' s.heap.objs.size (.tup [.int i,x]):=by
      refine⟨?_,[.int i s.toks,u],.cons ⟨_,rfl⟩ (.cons ru .nil),⟨_,htup,rfl,rfl,0,rfl⟩⟩
      show 2<=sizeLine
      decide
    have I1:Inv X pins σ (upd H s.heap.objs.size (.tup [.int i,x])) { s with heap:=h'',toks:=s.toks+1 }:=by
      refine I.step (g':=s.gens) (d':=s.drawn) (ch:=[e,it]) (fun b hb=>?_) (fun b o _ _ hc q _=>k b o hc q) (fun b o _ _ hc q _=>⟨o.slots,k b o hc q⟩) (fun b o _ q n=>?_) (fun b o hc q=>⟨o,k b o hc q⟩)
        (fun b xs q=>by rw[upd_ne (ne_of_none q fresh)]; exact q) (fun b o xs q=>by rw[upd_ne (ne_of_none q fresh)]; exact q) (fun b ps q=>⟨#[],by rw[upd_ne (ne_of_none q fresh),q]; simp⟩) (fun m hm=>?_) (fun b ob q=>?_) I.bare
      · obtain⟨f0,f1,f2,f3,f4,f5⟩:=hf b hb
        exact⟨f3,f1,f4,f5⟩
      · rw[upd_ne (Nat.ne_of_lt (Heap.lt_size q))]
        exact n
      · obtain⟨o,es,ep,ho,r⟩:=hm
        refine⟨o,es,ep,k _ o (fun z=>?_) ho,r⟩
        exact (hf _ z).2.1 rfl
      · by_cases hb:b=s.heap.objs.size
        · subst hb
          rw[upd_same] at q; cases q
          exact newOk
        · rw[upd_ne hb] at q
          refine (I.hok b ob q).stay (fun c v hc r=>k c v ?_ r) (fun c r=>by rw[upd_ne (ne_of_none r fresh)]; exact r) fun c xs r=>by rw[upd_ne (ne_of_none r fresh)]; exact r
          rcases hc with z | z
          · rw[z]; exact nit b ob q
          · exact nit c _ z
    refine⟨.ref s.heap.objs.size,_,I1,rfl,⟨s.heap.objs.size,x,fresh,rfl,rfl,fun ys hy=>by rw[I.list_inj hy hq]; exact hx⟩,⟨⟨u,?_⟩,?_⟩,fun b hb=>?_⟩
    · have he:IsEnum h'' e it ((i:Int)+1) u:=he
      show IsEnum h'' e it ((i+1:Nat):Int) u
      rw[show ((i+1:Nat):Int)=(i:Int)+1 by omega]
      exact he
    · exact hit.extBut hs.extBut (Ne.symm hne)
    · have lt : b < s.heap.objs.size := by
        rcases List.mem_cons.mp hb with z | z
        · rw[z]; exact Heap.lt_size s1
        · have z:b=it:=by simpa using z
          rw[z]
          obtain⟨o,q,_⟩:=s2
          exact Heap.lt_size q
      rw[upd_ne (Nat.ne_of_lt lt)]
      exact nE b hb
  done:=by
    intro X hP hw hK hc i pins s σ H E I hf st hg
    subst hP hw hK
    obtain⟨xs,hq,hx⟩:=hg
    obtain⟨its,rv,p,hz⟩:=I.list hq
    obtain⟨⟨old,s1⟩,s2⟩:=st
    obtain⟨f0,f1,f2,f3,f4,f5⟩:=hf it (by simp)
    have hl:=rv.length
    exact wpAny_pyNext_enum_end (I.ok.hd hc) s1 s2 p.isList (by simp; omega) fun h' eb=>⟨rfl,I.turned (t':=s.toks) (fun b o hb q=>eb b o hb q) f0 f1 f3 f4 f5⟩
  self:=fun _ _ _ _ _ st h=>by
    obtain⟨⟨old,s1⟩,_⟩:=st
    exact wpAny_pyIter_enum s1 h
section
variable {X:Cx}
theorem call_isinst:CallR X (.builtin "isinstance") (fun xs H Q=>∃ x T t b,xs=[x,.ty T]/\TyOf X.K H x t/\PySem.W.kitOne X.K t (.type T)=some b/\Q (.bl b) H):=by
  intro pins s σ H xs us Q I r h
  obtain⟨x,T,t,b,rfl,ty,e,q⟩:=h
  obtain⟨u,u2,rfl,r1,r2⟩:=vals2 r
  cases r2
  exact isinst_ok I r1 ty e fun tk=>⟨.bl b,H,I.tok _,rfl,q⟩
end
end L2
namespace L2
open PySem PySem.Spec PyProof.Rows
section
variable {κ:Type} [DecidableEq κ]
end
section
variable {P:Program}{w:World}{H:Hp}{h:Heap}{a:Addr}
end
section
variable {X:Cx}{pins:List (Addr × Obj)}{σ:St}{H:Hp}{s:Shared}{a:Addr}{y v:V}{u r:Value}{o:Option V}{A:Around}{E:Value->Shared->Prop}
end
section
variable {X:Cx}{pins:List (Addr × Obj)}{σ:St}{H:Hp}{s:Shared}{a:Addr}{kvs:List (Key × V)}{k:Key}{u:Value}{A:Around}{E:Value->Shared->Prop}
end
section
variable {X:Cx}{o i e value:Expr}{pos pos' tpos:Pos}{td ty tv:TE}
end
section
variable {X:Cx}{pos:Pos}
end
structure M1 (X:Cx) (o:Expr) (m:Str) (apos:Pos) (e:Expr) (cpos:Pos):Prop where
  base:attributeBase o m X.env (eval o X.env)=eval o X.env
  few:((backTo cpos (starEach [e] X.env)).all (fun x=>!x.1) && (backToKw cpos (keywordEach [] X.env)).all (fun x=>x.1.isSome)
    && decide (([e]:List Expr).length+([]:List Keyword).length+(if ([]:List Keyword).isEmpty then 0 else 1)<30))=true
  line:(apos.endLine == cpos.line)=true
  trees:backTo cpos (starEach [e] X.env)=[(false,eval e X.env)]
structure M2 (X:Cx) (o:Expr) (m:Str) (apos:Pos) (e f:Expr) (cpos:Pos):Prop where
  base:attributeBase o m X.env (eval o X.env)=eval o X.env
  few:((backTo cpos (starEach [e,f] X.env)).all (fun x=>!x.1) && (backToKw cpos (keywordEach [] X.env)).all (fun x=>x.1.isSome)
    && decide (([e,f]:List Expr).length+([]:List Keyword).length+(if ([]:List Keyword).isEmpty then 0 else 1)<30))=true
  line:(apos.endLine == cpos.line)=true
  trees:backTo cpos (starEach [e,f] X.env)=[(false,eval e X.env),(false,eval f X.env)]
section
variable {X:Cx}{pins:List (Addr × Obj)}{σ:St}{H:Hp}{s:Shared}{a:Addr}{y d:V}{u r:Value}{o:Option V}{A:Around}{E:Value->Shared->Prop}
end
section
variable {X:Cx}{o e f:Expr}{apos cpos:Pos}{td ty tx:TE}
end
section
variable {X:Cx}{pins:List (Addr × Obj)}{σ:St}{H:Hp}{s:Shared}{a:Addr}{kvs:List (Key × V)}{A:Around}{E:Value->Shared->Prop}
end
section
variable {X:Cx}{pins:List (Addr × Obj)}{σ:St}{H:Hp}{s:Shared}{a:Addr}{y:V}{u:Value}{A:Around}{E:Value->Shared->Prop}
end
end L2
namespace L2
open PySem PySem.Spec PyProof.Rows
section
variable {κ:Type} [DecidableEq κ]
end
end L2
namespace L2
open PySem PySem.Spec PyProof.Rows PySem.SeqAt
section
variable {prog:Program}{w:World}{A:Around}{E:Value->Shared->Prop}{s:Shared}
theorem nextOf_tup {it t : Addr} {i : Nat} {items : Array Value} {x : Value} {Q : Value → Shared → Prop} (hit : s.heap.IsTupleIter it t i) (ht : s.heap.IsTuple t items) (hx : items[i]? = some x)
    (hQ:∀ h',h'.IsTupleIter it t (i+1)->Heap.SameBut it s.heap h'->Q x { s with heap:=h' }):wpAny (model prog w) A (Builtin.SmallTypes.nextOf (.ref it)) Q E s:=by
  obtain⟨o,ho,hc,hd⟩:=id hit
  obtain⟨ol,hol,_,nl,hdl⟩:=ht
  unfold Builtin.SmallTypes.nextOf
  refine wpAny_bind (wpAny_callSpecial?_slot (name:=Str.ofString "__next__") hit.typeIs F.slot_tuple_iterator_next (wpAny_call_entry F.slot_tuple_iterator_next hit.typeIs F.entry_tuple_iterator_next ?_ (F.args_tuple_iterator_next_1 _)))
  show wpAny _ _ (field (.ref it) 0 >>= _) _ _ s
  refine wpAny_bind (wpAny_field ho hd (x:=.ref t) rfl ?_)
  show wpAny _ _ (if (Value.ref t == Value.none)=true then _ else _) _ _ s
  rw[if_neg (show ¬ ((Value.ref t == Value.none)=true) from Bool.false_ne_true)]
  show wpAny _ _ (field (.ref it) 1 >>= _) _ _ s
  refine wpAny_bind (wpAny_field ho hd (x:=.int i 0) rfl ?_)
  show wpAny _ _ (seqItems? (.ref t) >>= _) _ _ s
  refine wpAny_bind (wpAny_seqItems hol hdl ?_)
  simp only[Int.toNat_natCast,hx]
  refine wpAny_bind (wpAny_setField ho hd (by simp) (wpAny_pure ⟨x,rfl,wpAny_pure (hQ _ ?_ (Heap.SameBut.update ..))⟩))
  exact⟨_,Heap.get?_update_self _ ho (Obj.isFreed_of_fields (Obj.data_mapFields hd _)),(Obj.cls_mapFields ..).trans hc,by rw[Obj.data_mapFields hd]; simp[rawInt]⟩
theorem nextOf_tup_end {it t : Addr} {i : Nat} {items : Array Value} {Q : Value → Shared → Prop} (hh : A.handled = none) (hit : s.heap.IsTupleIter it t i) (ht : s.heap.IsTuple t items) (hx : items[i]? = none)
    (hE:∀ h' e,Heap.ExtBut it s.heap h'->(∃ o,h'.get? e=some o/\o.cls=.type "StopIteration")->E (.ref e) { s with heap:=h' }):wpAny (model prog w) A (Builtin.SmallTypes.nextOf (.ref it)) Q E s:=by
  obtain⟨o,ho,hc,hd⟩:=id hit
  obtain⟨ol,hol,_,nl,hdl⟩:=ht
  unfold Builtin.SmallTypes.nextOf
  refine wpAny_bind (wpAny_callSpecial?_slot (name:=Str.ofString "__next__") hit.typeIs F.slot_tuple_iterator_next (wpAny_call_entry F.slot_tuple_iterator_next hit.typeIs F.entry_tuple_iterator_next ?_ (F.args_tuple_iterator_next_1 _)))
  show wpAny _ _ (field (.ref it) 0 >>= _) _ _ s
  refine wpAny_bind (wpAny_field ho hd (x:=.ref t) rfl ?_)
  show wpAny _ _ (if (Value.ref t == Value.none)=true then _ else _) _ _ s
  rw[if_neg (show ¬ ((Value.ref t == Value.none)=true) from Bool.false_ne_true)]
  show wpAny _ _ (field (.ref it) 1 >>= _) _ _ s
  refine wpAny_bind (wpAny_field ho hd (x:=.int i 0) rfl ?_)
  show wpAny _ _ (seqItems? (.ref t) >>= _) _ _ s
  refine wpAny_bind (wpAny_seqItems hol hdl ?_)
  simp only[Int.toNat_natCast,hx]
  refine wpAny_bind (wpAny_rule (wpAny_bind (wpAny_setField ho hd (by simp) ?_)))
  show wpAny _ _ (newExc (.type "StopIteration") [] >>= _) _ _ _
  refine wpAny_bind ?_
  simp only[newExc,newTuple]
  refine wpAny_bind (wpAny_newObj_type ?_ (by size_fits))
  refine wpAny_bind (m:=firstArgMember _ _) (wpAny_of_eq (a:=Value.none) (by first | rfl | (simp only[firstArgMember]; rfl)) ?_)
  refine wpAny_newObj_type ?_ (by size_fits)
  simp only[raiseNew]
  refine wpAny_bind (wpAny_handled ?_)
  first | rw[show A.in1.handled=none from hh] | rw[hh]
  refine wpAny_bind (wpAny_pure (wpAny_throw ?_))
  exact hE _ _ (((Heap.SameBut.update ..).extBut.push _).push _) ⟨_,Heap.get?_push_size _ rfl,rfl⟩
theorem draws_tup (hh:A.handled=none) (it l:Addr) (hne:l≠it) (items:Array Value):Draws prog w A it [it,l] items.size (fun i v=>items[i]?=some v) (fun i h=>h.IsTupleIter it l i/\h.IsTuple l items) where
  live:=fun _ _ st=>let ⟨o,ho,_⟩:=st.1; ⟨o,ho⟩
  frame:=fun _ _ _ st hk=>⟨st.1.at fun o e=>hk it (by simp) o e,let ⟨o,e,c⟩:=st.2; ⟨o,hk l (by simp) o e,c⟩⟩
  item:=fun i s Q E hi st hQ=>by
    refine nextOf_tup st.1 st.2 (x:=items[i]) (by simp[hi]) fun h' hit' hs'=>?_
    exact hQ _ h' s.toks (by simp[hi]) ⟨hit',let ⟨o,e,c⟩:=st.2; ⟨o,(hs'.2 l hne).trans e,c⟩⟩ hs'
  done:=fun s Q E st hE=>nextOf_tup_end hh st.1 st.2 (by simp) hE
end
theorem enum_new_tup (l : Addr) (items : Array Value) (n : Nat) (dct : Option Addr) (sl : Array (Option Value)) :
    Meets (Builtin.«enumerate.__new__» ⟨[.type "enumerate",.ref l],[]⟩) (fun _ R s=>s.heap.get? l=some { cls:=.type "tuple",dict:=dct,data:=.seq items n,slots:=sl } /\
      R (.ok (.ret (.ref (s.heap.push { cls:=.type "tuple_iterator",data:=.fields #[.ref l,.int 0 0] }).objs.size)))
        { s with heap:=(s.heap.push { cls:=.type "tuple_iterator",data:=.fields #[.ref l,.int 0 0] }).push { cls:=.type "enumerate",data:=.fields #[.none,.bool false,.ref s.heap.objs.size,rawInt 0,.none,.none] } }) :=
  .of_wp fun prog w A R s h=>by
    obtain⟨hp,g,d,tk,os⟩:=s; obtain⟨hl,h⟩:=h
    have hsub:=sub_enumerate
    have hL:Heap.IsTuple (Shared.heap ⟨hp,g,d,tk,os⟩) l items:=⟨_,hl,rfl,n,rfl⟩
    wp_walk using AutoSeq1.wpAny_loadPart' hl
    refine wpAny_stack_any fun st=>wpAny_pure ?_
    split
    · rename_i c _ _ _ _ _
      cases (c == Value.type "enumerate")
      · wp_walk using AutoSeq1.wpAny_loadPart' hl,wpAny_pyIter_tuple hL
        exact⟨_,rfl,h⟩
      · wp_walk using AutoSeq1.wpAny_loadPart' hl,wpAny_pyIter_tuple hL
        exact⟨_,rfl,h⟩
    · wp_walk using AutoSeq1.wpAny_loadPart' hl,wpAny_pyIter_tuple hL
      exact⟨_,rfl,h⟩
section
variable {prog:Program}{w:World}{A:Around}{E:Value->Shared->Prop}{s:Shared}
theorem enum_tup_end {e it l : Addr} {i : Nat} {items : Array Value} {old : Value} {Q : Option Value → Shared → Prop} (hh : A.handled = none) (he : IsEnum s.heap e it i old) (hit : s.heap.IsTupleIter it l i) (hl : s.heap.IsTuple l items) (hx : items[i]? = none)
    (hQ:∀ h',Heap.ExtBut it s.heap h'->Q none { s with heap:=h' }):wpAny (model prog w) A (pyNext (.ref e)) Q E s:=by
  have hT:s.TypeIs (.ref e) "enumerate":=⟨_,he,rfl⟩
  unfold pyNext
  refine wpAny_bind (wpAny_attempt (wpAny_callSpecial?_slot (name:=Str.ofString "__next__") hT F.slot_enumerate_next (wpAny_call_entry F.slot_enumerate_next hT F.entry_enumerate_next ?_ (F.args_enumerate_next_1 _))))
  show wpAny _ _ (field (.ref e) 2 >>= _) _ _ _
  refine wpAny_bind (wpAny_field he rfl (x:=.ref it) rfl ?_)
  refine wpAny_bind (nextOf_tup_end hh hit hl hx fun h' x he' hx'=>?_)
  obtain⟨o,ho,hc⟩:=hx'
  refine wpAny_bind (wpAny_isInstance (T:="StopIteration") (b:=true) ⟨o,ho,hc⟩ isSubtype_stop ?_)
  exact wpAny_pure (hQ _ he')
theorem call_enum_tup {l : Addr} {items : Array Value} {Q : Value → Shared → Prop} (hL : s.heap.IsTuple l items)
    (h:∀ h',IsEnum h' (s.heap.objs.size+1) s.heap.objs.size 0 .none->h'.IsTupleIter s.heap.objs.size l 0->(∀ b o,s.heap.get? b=some o->h'.get? b=some o)->Q (.ref (s.heap.objs.size+1)) { s with heap:=h' }) :
    wpAny (model prog w) A (call (.type "enumerate") [.ref l]) Q E s:=by
  obtain⟨⟨c,dct,dt,sl⟩,hl,hc,n,hd⟩:=hL
  replace hc:c=.type "tuple":=hc
  replace hd:dt=.seq items n:=hd
  subst hc hd
  refine callType_new F.called_enumerate (by decide) (F.typeCall_enumerate_1 _) (F.newCall_enumerate_1 _) (fun obj=>F.args_object_init_2 obj _) F.entry_enumerate_new (enum_new_tup l items n dct sl) ⟨hl,?_⟩
  have hz:(s.heap.push { cls:=.type "tuple_iterator",data:=.fields #[.ref l,.int 0 0] }).objs.size=s.heap.objs.size+1:=Heap.size_push ..
  show _/\_
  rw[hz]
  have he:IsEnum ((s.heap.push { cls:=.type "tuple_iterator",data:=.fields #[.ref l,.int 0 0] }).push { cls:=.type "enumerate",data:=.fields #[.none,.bool false,.ref s.heap.objs.size,rawInt 0,.none,.none] }) (s.heap.objs.size+1) s.heap.objs.size 0 .none:=by
    have:=Heap.get?_push_size (s.heap.push { cls:=.type "tuple_iterator",data:=.fields #[.ref l,.int 0 0] }) (o:={ cls:=.type "enumerate",data:=.fields #[.none,.bool false,.ref s.heap.objs.size,rawInt 0,.none,.none] }) rfl
    rw[hz] at this
    exact this
  exact⟨⟨_,he,rfl⟩,h _ he ⟨_,Heap.get?_push_of_some _ (Heap.get?_push_size _ rfl),rfl,rfl⟩ fun b o x=>Heap.get?_push_of_some _ (Heap.get?_push_of_some _ x)⟩
end
def IteT (K:PySem.W.Frag) (a:Addr):It :=
  ⟨fun i H=>∃ xs x,SqT K H a xs/\xs[i]?=some x,fun i H y H'=>∃ p x,H p=none/\y=.ref p/\H'=upd H p (.tup [.int i,x])/\∀ xs,SqT K H a xs->xs[i]?=some x,fun i H=>∃ xs,SqT K H a xs/\xs.length<=i⟩
theorem turn_enumT {P:Program}{w:World}{K:PySem.W.Frag}{es:List Expr}{x1}{pos:Pos} (a it e:Addr) (hne:e≠it):Turn P w K (.Tuple es x1 pos) (IteT K a) [e,it] e (fun i h=>(∃ old,IsEnum h e it (i:Nat) old)/\h.IsTupleIter it a i) where
  mem:=by simp
  obj:=fun i h st b hb=>by
    obtain⟨⟨old,s1⟩,s2⟩:=st
    rcases List.mem_cons.mp hb with z | z
    · subst z
      exact⟨_,s1,fun v z=>nomatch z⟩
    · have z:b=it:=by simpa using z
      subst z
      obtain⟨o,e,c,d⟩:=s2
      exact⟨o,e,fun v z=>by rw[d] at z; cases z⟩
  keep:=fun i h h' st k=>by
    obtain⟨⟨old,s1⟩,s2⟩:=st
    exact⟨⟨old,k e (by simp) _ s1⟩,s2.at fun o q=>k it (by simp) o q⟩
  item:=by
    intro X hP hw hK hc i pins s σ H E I hf st hg
    subst hP hw hK
    obtain⟨xs,x,hq,hx⟩:=hg
    obtain⟨its,rv,p,hz⟩:=I.tuple hq
    obtain⟨u,hu,ru⟩:=rv.get hx
    obtain⟨⟨old,s1⟩,s2⟩:=st
    have hlt:(i:Nat)<its.toArray.size:=by
      have:=(List.getElem?_eq_some_iff.mp hu).1
      simpa using this
    have nea:a≠it:=by
      rintro rfl
      obtain⟨o1,q1,c1,_⟩:=p
      obtain⟨o2,q2,c2,_⟩:=id s2
      rw[q1] at q2; cases q2
      rw[c1] at c2
      injection c2 with z
      exact absurd z (by decide)
    have nee:a≠e:=by
      rintro rfl
      obtain⟨o1,q1,c1,_⟩:=p
      have s1':s.heap.get? a=some _:=s1
      rw[q1] at s1'
      cases s1'
      injection c1 with z
      exact absurd z (by decide)
    have it2:s.heap.IsTuple a its.toArray:=p
    refine wpAny_pyNext_enum_itemD (draws_tup (A:=X.A.in1) (I.ok.hd hc) it a nea its.toArray) s1 ⟨s2,it2⟩ hlt hne (by simp[hne,Ne.symm nee]) fun u' h' tk' hu' ho hst ht hsz hk=>?_
    have eu:u'=u:=by
      have:its.toArray[i]?=some u:=by simpa using hu
      rw[this] at hu'
      exact (Option.some.inj hu').symm
    subst eu
    have hit:=hst.1
    refine⟨_,rfl,?_⟩
    refine wpAny_letOwnedTupleGo_enum ho fun h'' he hs=>?_
    have fresh:H s.heap.objs.size=none:=I.hok.fresh (Nat.le_refl _)
    have k:∀ b o,b ∉ [e,it]->s.heap.get? b=some o->h''.get? b=some o:=fun b o hb q=>by
      have hb':b≠e/\b≠it:=by simpa using hb
      exact (hs.2 b hb'.1).trans (hk b o hb'.1 hb'.2 q)
    have nE:∀ b∈[e,it],H b=none:=fun b hb=>(hf b hb).1
    have nit:∀ b u,H b=some u->b ∉ [e,it]:=fun b u q z=>by rw[nE b z] at q; cases q
    have hpe:s.heap.objs.size≠e:=Nat.ne_of_gt (Heap.lt_size s1)
    have htup:h''.get? s.heap.objs.size=some { cls:=.type "tuple",data:=.seq #[.int i tk',u'] }:=(hs.2 _ hpe).trans ht
    have newOk:ObjOk X.prog X.w (upd H s.heap.objs.size (.tup [.int i,x])) h'' s.heap.objs.size (.tup [.int i,x]):=by
      refine⟨?_,[.int i tk',u'],.cons ⟨_,rfl⟩ (.cons ru .nil),⟨_,htup,rfl,rfl,0,rfl⟩⟩
      show 2<=sizeLine
      decide
    have I1:Inv X pins σ (upd H s.heap.objs.size (.tup [.int i,x])) { s with heap:=h'',toks:=tk'+1 }:=by
      refine I.step (g':=s.gens) (d':=s.drawn) (ch:=[e,it]) (fun b hb=>?_) (fun b o _ _ hc q _=>k b o hc q) (fun b o _ _ hc q _=>⟨o.slots,k b o hc q⟩) (fun b o _ q n=>?_) (fun b o hc q=>⟨o,k b o hc q⟩)
        (fun b xs q=>by rw[upd_ne (ne_of_none q fresh)]; exact q) (fun b o xs q=>by rw[upd_ne (ne_of_none q fresh)]; exact q) (fun b ps q=>⟨#[],by rw[upd_ne (ne_of_none q fresh),q]; simp⟩) (fun m hm=>?_) (fun b ob q=>?_) I.bare
      · obtain⟨f0,f1,f2,f3,f4,f5⟩:=hf b hb
        exact⟨f3,f1,f4,f5⟩
      · rw[upd_ne (Nat.ne_of_lt (Heap.lt_size q))]
        exact n
      · obtain⟨o,es,ep,ho,r⟩:=hm
        refine⟨o,es,ep,k _ o (fun z=>?_) ho,r⟩
        exact (hf _ z).2.1 rfl
      · by_cases hb:b=s.heap.objs.size
        · subst hb
          rw[upd_same] at q; cases q
          exact newOk
        · rw[upd_ne hb] at q
          refine (I.hok b ob q).stay (fun c v hc r=>k c v ?_ r) (fun c r=>by rw[upd_ne (ne_of_none r fresh)]; exact r) fun c xs r=>by rw[upd_ne (ne_of_none r fresh)]; exact r
          rcases hc with z | z
          · rw[z]; exact nit b ob q
          · exact nit c _ z
    refine⟨.ref s.heap.objs.size,_,I1,rfl,⟨s.heap.objs.size,x,fresh,rfl,rfl,fun ys hy=>by rw[I.tuple_inj hy hq]; exact hx⟩,⟨⟨u',?_⟩,?_⟩,fun b hb=>?_⟩
    · have he:IsEnum h'' e it ((i:Int)+1) u':=he
      show IsEnum h'' e it ((i+1:Nat):Int) u'
      rw[show ((i+1:Nat):Int)=(i:Int)+1 by omega]
      exact he
    · exact hit.extBut hs.extBut (Ne.symm hne)
    · have lt : b < s.heap.objs.size := by
        rcases List.mem_cons.mp hb with z | z
        · rw[z]; exact Heap.lt_size s1
        · have z:b=it:=by simpa using z
          rw[z]
          obtain⟨o,q,_⟩:=s2
          exact Heap.lt_size q
      rw[upd_ne (Nat.ne_of_lt lt)]
      exact nE b hb
  done:=by
    intro X hP hw hK hc i pins s σ H E I hf st hg
    subst hP hw hK
    obtain⟨xs,hq,hx⟩:=hg
    obtain⟨its,rv,p,hz⟩:=I.tuple hq
    obtain⟨⟨old,s1⟩,s2⟩:=st
    obtain⟨f0,f1,f2,f3,f4,f5⟩:=hf it (by simp)
    have hl:=rv.length
    exact enum_tup_end (I.ok.hd hc) s1 s2 (show s.heap.IsTuple a its.toArray from p) (by simp; omega) fun h' eb=>⟨rfl,I.turned (t':=s.toks) (fun b o hb q=>eb b o hb q) f0 f1 f3 f4 f5⟩
  self:=fun _ _ _ _ _ st h=>by
    obtain⟨⟨old,s1⟩,_⟩:=st
    exact wpAny_pyIter_enum s1 h
def SqB (b:Bool) (K:PySem.W.Frag) (H:Hp) (a:Addr) (xs:List V):Prop:=match b with | true=>SqL K H a xs | false=>SqT K H a xs
def IteB (b:Bool) (K:PySem.W.Frag) (a:Addr):It:=match b with | true=>Ite K a | false=>IteT K a
def iEnumB (K:PySem.W.Frag) (ta:TA):TI:=fun σ H R=>ta σ H fun vs H1=>∃ a b,vs=[.ref a]/\(∃ xs,SqB b K H1 a xs)/\R (IteB b K a) H1
theorem pi_enumB {X : Cx} {es : List Expr} {x1} {tpos : Pos} {e : Expr} {ta : TA} {p pos : Pos} (hg : Gl X "enumerate") (hm : X.mg "enumerate" = none) (ha : PA X [e] ta) (hs : starEach [e] X.env = [(false, eval e X.env)] := by rfl) :
    PI X (.Tuple es x1 tpos) (.Call (.Name "enumerate" p) [e] [] pos) (iEnumB X.K ta):=by
  intro pins s σ H R I h
  refine Call_ (ld_blt I hg hm (show bootBuiltins "enumerate"=some (.type "enumerate") by decide +kernel) (PyProof.Rows.callWith_type1 (thn (ha pos pins s σ H _ I h) fun us s1 ⟨vs,H1,I1,r1,q1⟩=>?_) hs rfl))
  obtain⟨a,b,e1,⟨xs,hq⟩,q⟩:=q1
  subst e1
  obtain⟨u,rfl,r⟩:=vals1 r1
  cases r
  have fp:∀ b∈[s1.heap.objs.size+1,s1.heap.objs.size],FpOk X pins H1 b:=fun b hb=>by
    have ge:s1.heap.objs.size<=b:=by
      rcases List.mem_cons.mp hb with z | z
      · rw[z]; exact Nat.le_succ _
      · have z:b=s1.heap.objs.size:=by simpa using z
        rw[z]
        exact Nat.le_refl _
    exact I1.fpOk ge (I1.hok.fresh ge)
  cases b with
  | true=>
    obtain⟨its,rv,pl,hz⟩:=I1.list hq
    refine call_enumerate_list pl.isList fun h' he hi hsz k=>wpAny_pyIter_enum he ?_
    exact⟨s1.heap.objs.size+1,[s1.heap.objs.size+1,s1.heap.objs.size],_,_,H1,rfl,I1.kept (t':=s1.toks) k,turn_enum a s1.heap.objs.size _ (Nat.ne_of_gt (Nat.lt_succ_self _)),⟨⟨.none,he⟩,hi⟩,fp,q⟩
  | false=>
    obtain⟨its,rv,pl,hz⟩:=I1.tuple hq
    refine call_enum_tup (show s1.heap.IsTuple a its.toArray from pl) fun h' he hi k=>wpAny_pyIter_enum he ?_
    exact⟨s1.heap.objs.size+1,[s1.heap.objs.size+1,s1.heap.objs.size],_,_,H1,rfl,I1.kept (t':=s1.toks) k,turn_enumT a s1.heap.objs.size _ (Nat.ne_of_gt (Nat.lt_succ_self _)),⟨⟨.none,he⟩,hi⟩,fp,q⟩
theorem for_enumB {b : Bool} {K : PySem.W.Frag} {a : Addr} {xs : List V} {g : TG} {tb : TS} {D : Ends} {σ : St} {H : Hp} (Pv : Nat → St → Hp → Prop) (h0 : Pv 0 σ H) (hl : ∀ i σ H, i ≤ xs.length → Pv i σ H → SqB b K H a xs)
    (hs:∀ i x p σ H,xs[i]?=some x->Pv i σ H->H p=none->g (.ref p) σ (upd H p (.tup [.int i,x])) fun σ2 H2=>tb { D with nx:=Pv (i+1),ct:=Pv (i+1),bk:=D.nx } σ2 H2) (hd:∀ σ H,Pv xs.length σ H->D.nx σ H) :
    ∃ W:Nat->Nat->St->Hp->Prop,(∃ m,W 0 m σ H)/\∀ i m σ H,W i m σ H ->
      ((IteB b K a).stop i H/\D.nx σ H)∨((IteB b K a).go i H/\∃ N:St->Hp->Prop,(∀ σ' H',N σ' H'->∃ m',m'<m/\W (i+1) m' σ' H')/\∀ x H',(IteB b K a).yld i H x H'->g x σ H' fun σ2 H2=>tb { D with nx:=N,ct:=N,bk:=D.nx } σ2 H2):=by
  refine⟨fun i m σ H=>m=xs.length - i/\i<=xs.length/\Pv i σ H,⟨xs.length,by simp,Nat.zero_le _,h0⟩,?_⟩
  rintro i m σ H ⟨rfl,hi,p⟩
  have q:=hl i σ H hi p
  by_cases hlt:i<xs.length
  · have gx:xs[i]?=some xs[i]:=by simp[hlt]
    refine .inr ⟨by cases b <;> exact⟨xs,xs[i],q,gx⟩,Pv (i+1),fun σ' H' p'=>⟨xs.length - (i+1),by omega,rfl,hlt,p'⟩,fun x H' y=>?_⟩
    have y:∃ pa z,H pa=none/\x=.ref pa/\H'=upd H pa (.tup [.int i,z])/\xs[i]?=some z:=by
      cases b with
      | true=>obtain⟨pa,z,hp,e1,e2,y⟩:=y; exact⟨pa,z,hp,e1,e2,y xs q⟩
      | false=>obtain⟨pa,z,hp,e1,e2,y⟩:=y; exact⟨pa,z,hp,e1,e2,y xs q⟩
    obtain⟨pa,z,hp,e1,e2,y'⟩:=y
    subst e1 e2
    exact hs i z pa σ H y' p hp
  · have e:i=xs.length:=by omega
    subst e
    exact .inl ⟨by cases b <;> exact⟨xs,q,Nat.le_refl _⟩,hd σ H p⟩
end L2
namespace L2
open PySem PySem.Spec PyProof.Rows PySem.SeqAt
section
variable {X:Cx}
theorem argBest_min (f:Nat->Int):∀ k i,i<=k->f (argBest (fun i j=>decide (f i<f j)) k)<=f i
  | 0,i,h=>by
    have:i=0:=by omega
    subst this
    exact Int.le_refl _
  | k+1,i,h=>by
    unfold argBest
    by_cases e:f (k+1)<f (argBest (fun i j=>decide (f i<f j)) k)
    · rw[if_pos (decide_eq_true e)]
      by_cases hi:i=k+1
      · subst hi; exact Int.le_refl _
      · have:=argBest_min f k i (by omega)
        omega
    · rw[if_neg (by simpa using e)]
      by_cases hi:i=k+1
      · subst hi; omega
      · exact argBest_min f k i (by omega)
theorem preSum_take (ns:List Int):∀ k,k<=ns.length->preSum (fun i=>ns.getD i 0) k=(ns.take k).sum
  | 0,_=>by simp[preSum]
  | k+1,h=>by
    have hk:k<ns.length:=by omega
    rw[List.take_succ_eq_append_getElem hk,List.sum_append,<- preSum_take ns k (by omega)]
    simp[preSum,List.getD_eq_getElem?_getD,hk]
theorem call_sumI (hc:X.calm=true):CallR X (.builtin "sum") (fun xs H Q=>∃ (a:Addr) (ns:List Int),xs=[.ref a]/\SqL X.K H a (ns.map V.int)/\Q (.int ns.sum) H):=by
  intro pins s σ H xs us Q I r h
  obtain⟨a,ns,rfl,hq,q⟩:=h
  obtain⟨u,rfl,r1⟩:=vals1 r
  cases r1
  obtain⟨its,rv,p,hz⟩:=I.list hq
  refine call_sum_walkG (wpAny_pyIter_list p.isList ?_)
  have hlt:=(let ⟨o,n,e,_⟩:=p; Heap.lt_size e:a<s.heap.objs.size)
  have hne:a≠s.heap.objs.size:=Nat.ne_of_lt hlt
  have hlen:its.toArray.size=ns.length:=by rw[List.size_toArray,<- rv.length,List.length_map]
  refine⟨s.heap.objs.size,_,_,_,_,_,fun i=>ns.getD i 0,rfl,Walks.list (A:=X.A.in1) (I.ok.hd hc) _ a hne its.toArray,⟨⟨_,Heap.get?_push_size _ rfl,rfl,rfl⟩,?_⟩,?_,?_,?_⟩
  · obtain⟨o,n,e,c,_,d⟩:=p
    exact⟨o,Heap.get?_push_of_some _ e,c,n,d⟩
  · intro b hb
    rcases List.mem_cons.mp hb with z | z
    · rw[z,Heap.size_push]; exact Nat.lt_succ_self _
    · have z:b=a:=by simpa using z
      rw[z,Heap.size_push]
      exact Nat.lt_succ_of_lt hlt
  · intro i v e
    have hi:i<its.toArray.size:=(Array.getElem?_eq_some_iff.mp e).1
    obtain⟨t,q⟩:=ints_at rv hi
    rw[Array.getElem?_eq_getElem hi] at e
    have e':=Option.some.inj e
    rw[q] at e'
    exact⟨t,e'.symm⟩
  · intro h' tk t' k
    refine⟨.int ns.sum,H,I.kept (h':=h') (t':=tk) fun b o e=>k b o ?_ (Heap.get?_push_of_some _ e),⟨t',?_⟩,q⟩
    · intro hm
      have:b=s.heap.objs.size:=by simpa using hm
      rw[this] at e
      exact absurd (Heap.lt_size e) (Nat.lt_irrefl _)
    · rw[hlen,preSum_take ns _ (Nat.le_refl _),List.take_length]
end
end L2
namespace L2
open PySem PySem.Spec PyProof.Rows PySem.SeqAt
section
variable {X:Cx}
theorem vals_of_ints {ns:List Int}:∀ {us:List Value},IntsAre us ns->Vals (ns.map V.int) us:=by
  intro us h
  induction h with
  | nil=>exact .nil
  | cons=>rename_i ih; exact .cons ⟨_,rfl⟩ ih
end
end L2
namespace L2
open PySem PySem.Spec PyProof.Rows PySem.SeqAt
theorem Inv.pairOut {X : Cx} {pins : List (Addr × Obj)} {σ : St} {H : Hp} {s : Shared} {h' : Heap} {fp : List Addr} {x y : V} {u v : Value} {tk : Nat} (I : Inv X pins σ H s) (hf : ∀ b ∈ fp, FpOk X pins H b)
    (k:∀ b o,b ∉ fp->s.heap.get? b=some o->h'.get? b=some o) (ht:IsPair h' s.heap.objs.size u v) (hlf:∀ b∈fp,b<s.heap.objs.size) (hth:∀ b∈fp,∃ o,h'.get? b=some o) (rx:RelV x u) (ry:RelV y v) :
    Inv X pins σ (upd H s.heap.objs.size (.tup [x,y])) { s with heap:=h',toks:=tk }:=by
  have fresh:H s.heap.objs.size=none:=I.hok.fresh (Nat.le_refl _)
  have nit:∀ b o,H b=some o->b ∉ fp:=fun b o q z=>by rw[(hf b z).1] at q; cases q
  have newOk:ObjOk X.prog X.w (upd H s.heap.objs.size (.tup [x,y])) h' s.heap.objs.size (.tup [x,y]):=by
    refine⟨?_,[u,v],.cons rx (.cons ry .nil),⟨_,ht,rfl,rfl,0,rfl⟩⟩
    show 2<=sizeLine
    decide
  refine I.step (g':=s.gens) (d':=s.drawn) (ch:=fp) (fun b hb=>?_) (fun b o _ _ hc q _=>k b o hc q) (fun b o _ _ hc q _=>⟨o.slots,k b o hc q⟩) (fun b o _ q n=>?_) (fun b o hc q=>⟨o,k b o hc q⟩)
    (fun b xs q=>by rw[upd_ne (ne_of_none q fresh)]; exact q) (fun b o xs q=>by rw[upd_ne (ne_of_none q fresh)]; exact q) (fun b ps q=>⟨#[],by rw[upd_ne (ne_of_none q fresh),q]; simp⟩) (fun m hm=>?_) (fun b ob q=>?_) I.bare
  · obtain⟨f0,f1,f2,f3,f4,f5⟩:=hf b hb
    exact⟨f3,f1,f4,f5⟩
  · rw[upd_ne (Nat.ne_of_lt (Heap.lt_size q))]
    exact n
  · obtain⟨o,es,ep,ho,r⟩:=hm
    exact⟨o,es,ep,k _ o (fun z=>(hf _ z).2.1 rfl) ho,r⟩
  · by_cases hb:b=s.heap.objs.size
    · subst hb
      rw[upd_same] at q; cases q
      exact newOk
    · rw[upd_ne hb] at q
      refine (I.hok b ob q).stay (fun c v hc r=>k c v ?_ r) (fun c r=>by rw[upd_ne (ne_of_none r fresh)]; exact r) fun c xs r=>by rw[upd_ne (ne_of_none r fresh)]; exact r
      rcases hc with z | z
      · rw[z]; exact nit b ob q
      · exact nit c _ z
theorem Inv.turnedAll {X : Cx} {pins : List (Addr × Obj)} {σ : St} {H : Hp} {s : Shared} {h' : Heap} {fp : List Addr} {tk : Nat} (I : Inv X pins σ H s) (hf : ∀ b ∈ fp, FpOk X pins H b) (k : ∀ b o, b ∉ fp → s.heap.get? b = some o → h'.get? b = some o) :
    Inv X pins σ H { s with heap:=h',toks:=tk }:=by
  have nit:∀ b o,H b=some o->b ∉ fp:=fun b o q z=>by rw[(hf b z).1] at q; cases q
  refine I.step (g':=s.gens) (d':=s.drawn) (ch:=fp) (fun b hb=>?_) (fun b o _ _ hc q _=>k b o hc q) (fun b o _ _ hc q _=>⟨o.slots,k b o hc q⟩) (fun b o _ q n=>n) (fun b o hc q=>⟨o,k b o hc q⟩) (fun _ _ q=>q) (fun _ _ _ q=>q) (fun b ps q=>⟨#[],by rw[q]; simp⟩) (fun m hm=>?_) (fun b ob q=>?_) I.bare
  · obtain⟨f0,f1,f2,f3,f4,f5⟩:=hf b hb
    exact⟨f3,f1,f4,f5⟩
  · obtain⟨o,es,ep,ho,r⟩:=hm
    exact⟨o,es,ep,k _ o (fun z=>(hf _ z).2.1 rfl) ho,r⟩
  · refine (I.hok b ob q).stay (fun c v hc r=>k c v ?_ r) (fun _ q=>q) fun _ _ q=>q
    rcases hc with z | z
    · rw[z]; exact nit b ob q
    · exact nit c _ z
end L2
namespace L2
open PySem PySem.Spec PyProof.Rows PySem.SeqAt
section
variable {X:Cx}
theorem op_fdivB:OpR X (binaryOp .FloorDiv) (rI (fun _ j=>0<j/\Builtin.Int.intBits j<=8000) fun i j=>.int (i / j)):=opI fun i j _ _ _ _ _ hc q=>by
  have h1:(0:Int)<j:=hc.1
  have h2:j.natAbs<2 ^ 8000:=intBits_le_iff.mp hc.2
  refine floordiv_int (by omega) (by rw[Int.fdiv_eq_ediv_of_nonneg i (by omega)]; exact q) (.inl (PyProof.noPylong_of_log2 ?_))
  have h3:j.natAbs.log2<8000:=(Nat.log2_lt (by omega)).mpr h2
  omega
theorem call_sumT (hc:X.calm=true):CallR X (.builtin "sum") (fun xs H Q=>∃ (a:Addr) (ns:List Int),xs=[.ref a]/\SqT X.K H a (ns.map V.int)/\Q (.int ns.sum) H):=by
  intro pins s σ H xs us Q I r h
  obtain⟨a,ns,rfl,hq,q⟩:=h
  obtain⟨u,rfl,r1⟩:=vals1 r
  cases r1
  obtain⟨its,rv,p0,hz⟩:=I.tuple hq
  have p:s.heap.IsTuple a its.toArray:=p0
  refine call_sum_walkG (wpAny_pyIter_tuple p ?_)
  have hlt:a<s.heap.objs.size:=by obtain⟨o,e,_⟩:=p; exact Heap.lt_size e
  have hne:a≠s.heap.objs.size:=Nat.ne_of_lt hlt
  have hlen:its.toArray.size=ns.length:=by rw[List.size_toArray,<- rv.length,List.length_map]
  refine⟨s.heap.objs.size,_,_,_,_,_,fun i=>ns.getD i 0,rfl,Walks.tuple (A:=X.A.in1) (I.ok.hd hc) _ a hne its.toArray,⟨⟨_,Heap.get?_push_size _ rfl,rfl,rfl⟩,?_⟩,?_,?_,?_⟩
  · obtain⟨o,e,c,d⟩:=p
    exact⟨o,Heap.get?_push_of_some _ e,c,d⟩
  · intro b hb
    rcases List.mem_cons.mp hb with z | z
    · rw[z,Heap.size_push]; exact Nat.lt_succ_self _
    · have z:b=a:=by simpa using z
      rw[z,Heap.size_push]
      exact Nat.lt_succ_of_lt hlt
  · intro i v e
    have hi:i<its.toArray.size:=(Array.getElem?_eq_some_iff.mp e).1
    obtain⟨t,q⟩:=ints_at rv hi
    rw[Array.getElem?_eq_getElem hi] at e
    have e':=Option.some.inj e
    rw[q] at e'
    exact⟨t,e'.symm⟩
  · intro h' tk t' k
    refine⟨.int ns.sum,H,I.kept (h':=h') (t':=tk) fun b o e=>k b o ?_ (Heap.get?_push_of_some _ e),⟨t',?_⟩,q⟩
    · intro hm
      have:b=s.heap.objs.size:=by simpa using hm
      rw[this] at e
      exact absurd (Heap.lt_size e) (Nat.lt_irrefl _)
    · rw[hlen,preSum_take ns _ (Nat.le_refl _),List.take_length]
end
section
variable {prog:Program}{w:World}{A:Around}{E:Value->Shared->Prop}{s:Shared}
end
section
variable {X:Cx}
end
theorem comp_tup {K : PySem.W.Frag} {own : List Str} {js : List Nat} {g : TG} {tt : TT} {te : TE} {σ : St} {H1 : Hp} {Q : VK} {a : Addr} {xs : List V} (Pv : Addr → Nat → Hp → Prop) (h0 : ∀ acc, H1 acc = none → Pv acc 0 (upd H1 acc (.lst []))) (hl : ∀ acc i H, H1 acc = none → i ≤ xs.length → Pv acc i H → SqT K H a xs)
    (hs:∀ acc i x H,H1 acc=none->xs[i]?=some x->Pv acc i H->g x (blkσ own js σ) H fun τ H4=>tt τ H4 fun c H5=>
      if c=true then te τ H5 fun y H6=>∃ ys,H6 acc=some (.lst ys)/\ys.length<sizeLine/\(i+1<=xs.length/\Pv acc (i+1) (upd H6 acc (.lst (ys++[y])))) else (i+1<=xs.length/\Pv acc (i+1) H5))
    (hd:∀ acc H,H1 acc=none->Pv acc xs.length H->Q (.ref acc) H):tCompW own js g tt te σ (Itt K a) H1 Q:=by
  intro acc hacc
  refine⟨fun i H=>i<=xs.length/\Pv acc i H,xs.length,⟨Nat.zero_le _,h0 acc hacc⟩,?_⟩
  rintro i H ⟨hi,p⟩
  have q:=hl acc i H hacc hi p
  by_cases hlt:i<xs.length
  · refine .inr ⟨hlt,⟨xs,xs[i],q,by simp[hlt]⟩,fun x H' y=>?_⟩
    obtain⟨e,y⟩:=y
    subst e
    exact hs acc i x _ hacc (y xs q) p
  · have e:i=xs.length:=by omega
    subst e
    exact .inl ⟨⟨xs,q,Nat.le_refl _⟩,hd acc H hacc p⟩
end L2
namespace L2
open PySem PySem.Spec PyProof.Rows PySem.SeqAt
def HIt (b:Bool) (h:Heap) (it l:Addr) (i:Nat):Prop:=match b with | true=>h.IsListIter it l i | false=>h.IsTupleIter it l i
def HSq (b:Bool) (h:Heap) (l:Addr) (xs:Array Value):Prop:=match b with | true=>h.IsList l xs | false=>h.IsTuple l xs
theorem HIt.at {b:Bool}{h h':Heap}{it l:Addr}{i:Nat} (x:HIt b h it l i) (e:∀ o,h.get? it=some o->h'.get? it=some o):HIt b h' it l i:=by
  cases b
  · exact Heap.IsTupleIter.at x e
  · exact Heap.IsListIter.at x e
theorem HIt.ext {b:Bool}{h h':Heap}{it l c:Addr}{i:Nat} (x:HIt b h it l i) (hs:Heap.ExtBut c h h') (n:it≠c):HIt b h' it l i:=x.at fun o e=>hs _ _ n e
theorem HIt.obj {b:Bool}{h:Heap}{it l:Addr}{i:Nat} (x:HIt b h it l i):∃ o,h.get? it=some o/\∀ v:Option Value,o.data≠.cell v:=by
  cases b
  · obtain⟨o,e,_,d⟩:=x
    exact⟨o,e,fun v q=>by rw[d] at q; cases q⟩
  · obtain⟨o,e,_,d⟩:=x
    exact⟨o,e,fun v q=>by rw[d] at q; cases q⟩
theorem HSq.ext {b:Bool}{h h':Heap}{l c:Addr}{xs:Array Value} (x:HSq b h l xs) (hs:Heap.ExtBut c h h') (n:l≠c):HSq b h' l xs:=by
  cases b
  · exact Heap.IsTuple.extBut x hs n
  · exact Heap.IsList.extBut x hs n
section
variable {prog:Program}{w:World}{A:Around}{E:Value->Shared->Prop}{s:Shared}
theorem nextB {b : Bool} {it l : Addr} {i : Nat} {items : Array Value} {x : Value} {Q : Value → Shared → Prop} (hit : HIt b s.heap it l i) (hl : HSq b s.heap l items) (hx : items[i]? = some x) (hQ : ∀ h', HIt b h' it l (i + 1) → Heap.SameBut it s.heap h' → Q x { s with heap := h' }) :
    wpAny (model prog w) A (Builtin.SmallTypes.nextOf (.ref it)) Q E s:=by
  cases b
  · exact nextOf_tup hit hl hx hQ
  · exact wpAny_nextOf_list_item hit hl hx hQ
theorem nextB_end {b : Bool} {it l : Addr} {i : Nat} {items : Array Value} {Q : Value → Shared → Prop} (hh : A.handled = none) (hit : HIt b s.heap it l i) (hl : HSq b s.heap l items) (hx : items[i]? = none)
    (hE:∀ h' e,Heap.ExtBut it s.heap h'->(∃ o,h'.get? e=some o/\o.cls=.type "StopIteration")->E (.ref e) { s with heap:=h' }):wpAny (model prog w) A (Builtin.SmallTypes.nextOf (.ref it)) Q E s:=by
  cases b
  · exact nextOf_tup_end hh hit hl hx hE
  · exact wpAny_nextOf_list_end hh hit hl hx hE
theorem zipB_item {b1 b2 : Bool} {z TI TO i1 i2 l1 l2 : Addr} {k1 k2 : Nat} {xs ys : Array Value} {x y a b : Value} {Q : Value → Shared → Prop} (D : ZipApart z TI TO i1 i2 l1 l2) (hz : IsZip s.heap z TI TO .none) (hTI : IsPair s.heap TI (.ref i1) (.ref i2)) (hTO : IsPair s.heap TO a b)
    (h1:HIt b1 s.heap i1 l1 k1) (h2:HIt b2 s.heap i2 l2 k2) (hl1:HSq b1 s.heap l1 xs) (hl2:HSq b2 s.heap l2 ys) (hx:xs[k1]?=some x) (hy:ys[k2]?=some y)
    (hQ:∀ h',IsZip h' z TI TO (rawInt s.heap.objs.size)->IsPair h' TO x y->HIt b1 h' i1 l1 (k1+1)->HIt b2 h' i2 l2 (k2+1)->IsPair h' s.heap.objs.size x y->h'.objs.size=s.heap.objs.size+1 ->
      (∀ c o,c≠z->c≠TO->c≠i1->c≠i2->s.heap.get? c=some o->h'.get? c=some o)->Q (.ref s.heap.objs.size) { s with heap:=h' }) :
    wpAny (model prog w) A (Builtin.«zip.__next__» ⟨[.ref z],[]⟩) (fun fin s'=>∃ v,fin=.done (.ret v)/\Q v s') E s:=by
  refine wpAny_bind (m:=field (.ref z) 2) (wpAny_field hz rfl (x:=.bool false) rfl ?_)
  refine wpAny_bind (m:=field (.ref z) 3) (wpAny_field hz rfl (x:=.ref TI) rfl (wpAny_bind (wpAny_seqItems hTI rfl ?_)))
  refine wpAny_bind (m:=Builtin.SmallTypes.ownedTupleIsFree (.ref z)) ?_
  unfold Builtin.SmallTypes.ownedTupleIsFree
  refine wpAny_bind (wpAny_field hz rfl (x:=.none) rfl (wpAny_pure ?_))
  simp only[if_true]
  refine wpAny_bind (wpAny_rule (wpAny_bind (wpAny_field hz rfl (x:=.ref TO) rfl ?_)))
  refine wpAny_bind (wpAny_setField_rec hz (by simp) fun h₁ hz₁ hs₁=>?_)
  replace hz₁:IsZip h₁ z TI TO .ellipsis:=hz₁
  refine wpAny_bind ?_
  simp only[List.zipIdx_cons,List.zipIdx_nil,List.forIn_cons,List.forIn_nil]
  refine wpAny_bind (wpAny_bind (wpAny_onRaise (wpAny_bind (m:=Builtin.SmallTypes.nextOf (.ref i1)) ?_)))
  refine nextB (h1.ext hs₁.extBut D.i1z) (hl1.ext hs₁.extBut D.l1z) hx fun h₂ h1₂ hs₂=>wpAny_pure ?_
  have t2:IsPair h₂ TO a b:=hs₂.extBut _ _ D.TOi1 (hs₁.extBut _ _ D.TOz hTO)
  refine wpAny_bind (wpAny_seqItems t2 rfl (wpAny_bind (wpAny_updateSeq_pair t2 fun h₃ hTO₃ hs₃=>?_)))
  replace hTO₃:IsPair h₃ TO x b:=hTO₃
  refine wpAny_bind (wpAny_letGo (wpAny_pure (wpAny_bind (wpAny_bind (wpAny_onRaise (wpAny_bind (m:=Builtin.SmallTypes.nextOf (.ref i2)) ?_))))))
  refine nextB (((h2.ext hs₁.extBut D.i2z).ext hs₂.extBut D.i12.symm).ext hs₃.extBut D.TOi2.symm) (((hl2.ext hs₁.extBut D.l2z).ext hs₂.extBut D.l2i1).ext hs₃.extBut D.l2TO) hy fun h₄ h2₄ hs₄=>wpAny_pure ?_
  have t4:IsPair h₄ TO x b:=hs₄.extBut _ _ D.TOi2 hTO₃
  refine wpAny_bind (wpAny_seqItems t4 rfl (wpAny_bind (wpAny_updateSeq_pair t4 fun h₅ hTO₅ hs₅=>?_)))
  replace hTO₅:IsPair h₅ TO x y:=hTO₅
  refine wpAny_bind (wpAny_letGo (wpAny_pure (wpAny_pure (wpAny_bind (wpAny_seqItems hTO₅ rfl (wpAny_bind (wpAny_newTuple ?_)))))))
  have hsz:h₅.objs.size=s.heap.objs.size:=by rw[hs₅.1,hs₄.1,hs₃.1,hs₂.1,hs₁.1]
  have hz₅:IsZip h₅ z TI TO .ellipsis:=hs₅.extBut _ _ D.TOz.symm (hs₄.extBut _ _ D.i2z.symm (hs₃.extBut _ _ D.TOz.symm (hs₂.extBut _ _ D.i1z.symm hz₁)))
  have k5:∀ c o,c≠z->c≠TO->c≠i1->c≠i2->s.heap.get? c=some o->h₅.get? c=some o:=fun c o c1 c2 c3 c4 e=>hs₅.extBut _ _ c2 (hs₄.extBut _ _ c4 (hs₃.extBut _ _ c2 (hs₂.extBut _ _ c3 (hs₁.extBut _ _ c1 e))))
  have j1:HIt b1 h₅ i1 l1 (k1+1):=((h1₂.ext hs₃.extBut D.TOi1.symm).ext hs₄.extBut D.i12).ext hs₅.extBut D.TOi1.symm
  have j2:HIt b2 h₅ i2 l2 (k2+1):=h2₄.ext hs₅.extBut D.TOi2.symm
  have zlt:z<h₅.objs.size:=Heap.lt_size hz₅
  refine wpAny_bind (m:=Builtin.SmallTypes.ownedTupleHandOut (.ref z) (.ref h₅.objs.size)) ?_
  unfold Builtin.SmallTypes.ownedTupleHandOut
  have hz₆:IsZip (h₅.push { cls:=.type "tuple",data:=.seq #[x,y] }) z TI TO .ellipsis:=Heap.get?_push_of_some _ hz₅
  refine wpAny_bind (wpAny_setField_rec hz₆ (by simp) fun h₇ hz₇ hs₇=>?_)
  replace hz₇:IsZip h₇ z TI TO (rawInt h₅.objs.size):=hz₇
  refine wpAny_setField_rec hz₇ (by simp) fun h₈ hz₈ hs₈=>?_
  replace hz₈:IsZip h₈ z TI TO (rawInt h₅.objs.size):=hz₈
  have up:∀ c o,c≠z->h₅.get? c=some o->h₈.get? c=some o:=fun c o c1 e=>hs₈.extBut _ _ c1 (hs₇.extBut _ _ c1 (Heap.get?_push_of_some _ e))
  have t8:IsPair h₈ h₅.objs.size x y:=hs₈.extBut _ _ (Nat.ne_of_gt zlt) (hs₇.extBut _ _ (Nat.ne_of_gt zlt) (Heap.get?_push_size _ rfl))
  have z8:h₈.objs.size=h₅.objs.size+1:=by rw[hs₈.1,hs₇.1,Heap.size_push]
  rw[hsz] at hz₈ t8 z8
  refine wpAny_pure ⟨_,rfl,?_⟩
  show Q (.ref h₅.objs.size) _
  rw[hsz]
  exact hQ h₈ hz₈ (up _ _ D.TOz hTO₅) (j1.at fun o e=>up _ o D.i1z e) (j2.at fun o e=>up _ o D.i2z e) t8 z8 fun c o c1 c2 c3 c4 e=>up c o c1 (k5 c o c1 c2 c3 c4 e)
theorem zipB_end {b1 b2 : Bool} {z TI TO i1 i2 l1 l2 : Addr} {k1 k2 : Nat} {xs ys : Array Value} {a b : Value} {Q : Fin → Shared → Prop} (hh : A.handled = none) (D : ZipApart z TI TO i1 i2 l1 l2) (hz : IsZip s.heap z TI TO .none) (hTI : IsPair s.heap TI (.ref i1) (.ref i2)) (hTO : IsPair s.heap TO a b)
    (h1:HIt b1 s.heap i1 l1 k1) (h2:HIt b2 s.heap i2 l2 k2) (hl1:HSq b1 s.heap l1 xs) (hl2:HSq b2 s.heap l2 ys) (hend:xs[k1]?=none∨ys[k2]?=none)
    (hE:∀ h' e,(∀ c o,c≠z->c≠TO->c≠i1->c≠i2->s.heap.get? c=some o->h'.get? c=some o)->(∃ o,h'.get? e=some o/\o.cls=.type "StopIteration")->E (.ref e) { s with heap:=h' }):wpAny (model prog w) A (Builtin.«zip.__next__» ⟨[.ref z],[]⟩) Q E s:=by
  refine wpAny_bind (m:=field (.ref z) 2) (wpAny_field hz rfl (x:=.bool false) rfl ?_)
  refine wpAny_bind (m:=field (.ref z) 3) (wpAny_field hz rfl (x:=.ref TI) rfl (wpAny_bind (wpAny_seqItems hTI rfl ?_)))
  refine wpAny_bind (m:=Builtin.SmallTypes.ownedTupleIsFree (.ref z)) ?_
  unfold Builtin.SmallTypes.ownedTupleIsFree
  refine wpAny_bind (wpAny_field hz rfl (x:=.none) rfl (wpAny_pure ?_))
  simp only[if_true]
  refine wpAny_bind (wpAny_rule (wpAny_bind (wpAny_field hz rfl (x:=.ref TO) rfl ?_)))
  refine wpAny_bind (wpAny_setField_rec hz (by simp) fun h₁ hz₁ hs₁=>?_)
  replace hz₁:IsZip h₁ z TI TO .ellipsis:=hz₁
  refine wpAny_bind ?_
  simp only[List.zipIdx_cons,List.zipIdx_nil,List.forIn_cons,List.forIn_nil]
  refine wpAny_bind (wpAny_bind (wpAny_onRaise (wpAny_bind (m:=Builtin.SmallTypes.nextOf (.ref i1)) ?_)))
  cases hx:xs[k1]? with
  | none=>
    refine nextB_end hh (h1.ext hs₁.extBut D.i1z) (hl1.ext hs₁.extBut D.l1z) hx fun h₂ e hs₂ ⟨oe,hoe,hce⟩=>?_
    have hz₂:IsZip h₂ z TI TO .ellipsis:=hs₂ _ _ D.i1z.symm hz₁
    have ez:e≠z:=fun x=>by subst x; rw[hz₂] at hoe; cases hoe; simp at hce
    exact wpAny_setField_rec hz₂ (by simp) fun h₃ _ hs₃=>hE h₃ e (fun c o c1 _ c3 _ x=>hs₃.extBut _ _ c1 (hs₂ _ _ c3 (hs₁.extBut _ _ c1 x))) ⟨oe,hs₃.extBut _ _ ez hoe,hce⟩
  | some x=>
    have hy:ys[k2]?=none:=hend.resolve_left (by rw[hx]; simp)
    refine nextB (h1.ext hs₁.extBut D.i1z) (hl1.ext hs₁.extBut D.l1z) hx fun h₂ h1₂ hs₂=>wpAny_pure ?_
    have t2:IsPair h₂ TO a b:=hs₂.extBut _ _ D.TOi1 (hs₁.extBut _ _ D.TOz hTO)
    refine wpAny_bind (wpAny_seqItems t2 rfl (wpAny_bind (wpAny_updateSeq_pair t2 fun h₃ hTO₃ hs₃=>?_)))
    refine wpAny_bind (wpAny_letGo (wpAny_pure (wpAny_bind (wpAny_bind (wpAny_onRaise (wpAny_bind (m:=Builtin.SmallTypes.nextOf (.ref i2)) ?_))))))
    refine nextB_end hh (((h2.ext hs₁.extBut D.i2z).ext hs₂.extBut D.i12.symm).ext hs₃.extBut D.TOi2.symm) (((hl2.ext hs₁.extBut D.l2z).ext hs₂.extBut D.l2i1).ext hs₃.extBut D.l2TO) hy fun h₄ e hs₄ ⟨oe,hoe,hce⟩=>?_
    have hz₄:IsZip h₄ z TI TO .ellipsis:=hs₄ _ _ D.i2z.symm (hs₃.extBut _ _ D.TOz.symm (hs₂.extBut _ _ D.i1z.symm hz₁))
    have ez:e≠z:=fun x=>by subst x; rw[hz₄] at hoe; cases hoe; simp at hce
    exact wpAny_setField_rec hz₄ (by simp) fun h₅ _ hs₅=>hE h₅ e (fun c o c1 c2 c3 c4 x=>hs₅.extBut _ _ c1 (hs₄ _ _ c4 (hs₃.extBut _ _ c2 (hs₂.extBut _ _ c3 (hs₁.extBut _ _ c1 x))))) ⟨oe,hs₅.extBut _ _ ez hoe,hce⟩
theorem pyNextB_item {b1 b2 : Bool} {z TI TO i1 i2 l1 l2 : Addr} {k1 k2 : Nat} {xs ys : Array Value} {x y a b : Value} {Q : Option Value → Shared → Prop} (D : ZipApart z TI TO i1 i2 l1 l2) (hz : IsZip s.heap z TI TO .none) (hTI : IsPair s.heap TI (.ref i1) (.ref i2)) (hTO : IsPair s.heap TO a b)
    (h1:HIt b1 s.heap i1 l1 k1) (h2:HIt b2 s.heap i2 l2 k2) (hl1:HSq b1 s.heap l1 xs) (hl2:HSq b2 s.heap l2 ys) (hx:xs[k1]?=some x) (hy:ys[k2]?=some y)
    (hQ:∀ h',IsZip h' z TI TO (rawInt s.heap.objs.size)->IsPair h' TO x y->HIt b1 h' i1 l1 (k1+1)->HIt b2 h' i2 l2 (k2+1)->IsPair h' s.heap.objs.size x y->h'.objs.size=s.heap.objs.size+1 ->
      (∀ c o,c≠z->c≠TO->c≠i1->c≠i2->s.heap.get? c=some o->h'.get? c=some o)->Q (some (.ref s.heap.objs.size)) { s with heap:=h' }):wpAny (model prog w) A (pyNext (.ref z)) Q E s:=by
  have hT:s.TypeIs (.ref z) "zip":=⟨_,hz,rfl⟩
  unfold pyNext
  exact wpAny_bind (wpAny_attempt (wpAny_callSpecial?_slot (name:=Str.ofString "__next__") hT F.slot_zip_next (wpAny_call_entry F.slot_zip_next hT F.entry_zip_next (zipB_item D hz hTI hTO h1 h2 hl1 hl2 hx hy fun h' a1 a2 a3 a4 a5 a6 a7=>wpAny_pure (hQ h' a1 a2 a3 a4 a5 a6 a7)) (F.args_zip_next_1 _))))
theorem pyNextB_end {b1 b2 : Bool} {z TI TO i1 i2 l1 l2 : Addr} {k1 k2 : Nat} {xs ys : Array Value} {a b : Value} {Q : Option Value → Shared → Prop} (hh : A.handled = none) (D : ZipApart z TI TO i1 i2 l1 l2) (hz : IsZip s.heap z TI TO .none) (hTI : IsPair s.heap TI (.ref i1) (.ref i2)) (hTO : IsPair s.heap TO a b)
    (h1:HIt b1 s.heap i1 l1 k1) (h2:HIt b2 s.heap i2 l2 k2) (hl1:HSq b1 s.heap l1 xs) (hl2:HSq b2 s.heap l2 ys) (hend:xs[k1]?=none∨ys[k2]?=none)
    (hQ:∀ h',(∀ c o,c≠z->c≠TO->c≠i1->c≠i2->s.heap.get? c=some o->h'.get? c=some o)->Q none { s with heap:=h' }):wpAny (model prog w) A (pyNext (.ref z)) Q E s:=by
  have hT:s.TypeIs (.ref z) "zip":=⟨_,hz,rfl⟩
  unfold pyNext
  refine wpAny_bind (wpAny_attempt (wpAny_callSpecial?_slot (name:=Str.ofString "__next__") hT F.slot_zip_next (wpAny_call_entry F.slot_zip_next hT F.entry_zip_next (zipB_end hh D hz hTI hTO h1 h2 hl1 hl2 hend fun h' e hk ⟨o,ho,hc⟩=>?_) (F.args_zip_next_1 _))))
  exact wpAny_bind (wpAny_isInstance (T:="StopIteration") (b:=true) ⟨o,ho,hc⟩ isSubtype_stop (wpAny_pure (hQ _ hk)))
def itCls (b:Bool):String:=match b with | true=>"list_iterator" | false=>"tuple_iterator"
def zB1 (b1:Bool) (h:Heap) (l1:Addr):Heap:=h.push { cls:=.type (itCls b1),data:=.fields #[.ref l1,.int 0 0] }
def zB2 (b1 b2:Bool) (h:Heap) (l1 l2:Addr):Heap:=(zB1 b1 h l1).push { cls:=.type (itCls b2),data:=.fields #[.ref l2,.int 0 0] }
def zB3 (b1 b2:Bool) (h:Heap) (l1 l2:Addr):Heap:=(zB2 b1 b2 h l1 l2).push { cls:=.type "tuple",data:=.seq #[.ref h.objs.size,.ref (zB1 b1 h l1).objs.size] }
def zB4 (b1 b2:Bool) (h:Heap) (l1 l2:Addr):Heap:=(zB3 b1 b2 h l1 l2).push { cls:=.type "tuple",data:=.seq #[.none,.none] }
def zB5 (b1 b2:Bool) (h:Heap) (l1 l2:Addr):Heap:=(zB4 b1 b2 h l1 l2).push { cls:=.type "zip",data:=.fields #[.none,.bool false,.bool false,.ref (zB2 b1 b2 h l1 l2).objs.size,.ref (zB3 b1 b2 h l1 l2).objs.size] }
theorem zipB_new (b1 b2 : Bool) (l1 l2 : Addr) (xs ys : Array Value) :
    Meets (Builtin.«zip.__new__» ⟨[.type "zip",.ref l1,.ref l2],[]⟩) (fun _ R s=>HSq b1 s.heap l1 xs/\HSq b2 s.heap l2 ys/\R (.ok (.ret (.ref (zB4 b1 b2 s.heap l1 l2).objs.size))) { s with heap:=zB5 b1 b2 s.heap l1 l2 }) :=
  .of_wp fun prog w A R s h=>by
    obtain⟨hp,g,d,tk,os⟩:=s
    obtain⟨hl1,hl2,h⟩:=h
    have hsub:=sub_zip
    cases b1 <;> cases b2
    · have p1:Heap.IsTuple (Shared.heap ⟨hp,g,d,tk,os⟩) l1 xs:=hl1
      have p2:Heap.IsTuple (Shared.heap ⟨hp.push { cls:=.type "tuple_iterator",data:=.fields #[.ref l1,.int 0 0] },g,d,tk,os⟩) l2 ys:=Heap.IsTuple.push hl2 _
      wp_walk using wpAny_pyIter_tuple p1,wpAny_pyIter_tuple p2
      exact⟨_,rfl,h⟩
    · have p1:Heap.IsTuple (Shared.heap ⟨hp,g,d,tk,os⟩) l1 xs:=hl1
      have p2:Heap.IsList (Shared.heap ⟨hp.push { cls:=.type "tuple_iterator",data:=.fields #[.ref l1,.int 0 0] },g,d,tk,os⟩) l2 ys:=Heap.IsList.push hl2 _
      wp_walk using wpAny_pyIter_tuple p1,wpAny_pyIter_list p2
      exact⟨_,rfl,h⟩
    · have p1:Heap.IsList (Shared.heap ⟨hp,g,d,tk,os⟩) l1 xs:=hl1
      have p2:Heap.IsTuple (Shared.heap ⟨hp.push { cls:=.type "list_iterator",data:=.fields #[.ref l1,.int 0 0] },g,d,tk,os⟩) l2 ys:=Heap.IsTuple.push hl2 _
      wp_walk using wpAny_pyIter_list p1,wpAny_pyIter_tuple p2
      exact⟨_,rfl,h⟩
    · have p1:Heap.IsList (Shared.heap ⟨hp,g,d,tk,os⟩) l1 xs:=hl1
      have p2:Heap.IsList (Shared.heap ⟨hp.push { cls:=.type "list_iterator",data:=.fields #[.ref l1,.int 0 0] },g,d,tk,os⟩) l2 ys:=Heap.IsList.push hl2 _
      wp_walk using wpAny_pyIter_list p1,wpAny_pyIter_list p2
      exact⟨_,rfl,h⟩
theorem HIt.made {b:Bool}{h:Heap}{it l:Addr} (e:h.get? it=some { cls:=.type (itCls b),data:=.fields #[.ref l,.int 0 0] }):HIt b h it l 0:=by
  cases b
  · exact⟨_,e,rfl,rfl⟩
  · exact⟨_,e,rfl,rfl⟩
theorem call_zipB {b1 b2 : Bool} {l1 l2 : Addr} {xs ys : Array Value} {Q : Value → Shared → Prop} (hl1 : HSq b1 s.heap l1 xs) (hl2 : HSq b2 s.heap l2 ys)
    (h:∀ h',IsZip h' (s.heap.objs.size+4) (s.heap.objs.size+2) (s.heap.objs.size+3) .none->IsPair h' (s.heap.objs.size+2) (.ref s.heap.objs.size) (.ref (s.heap.objs.size+1))->IsPair h' (s.heap.objs.size+3) .none .none ->
      HIt b1 h' s.heap.objs.size l1 0->HIt b2 h' (s.heap.objs.size+1) l2 0->(∀ c o,s.heap.get? c=some o->h'.get? c=some o)->Q (.ref (s.heap.objs.size+4)) { s with heap:=h' }):wpAny (model prog w) A (call (.type "zip") [.ref l1,.ref l2]) Q E s:=by
  refine callType_new F.called_zip (by decide) (F.typeCall_zip_2 _ _) (F.newCall_zip_2 _ _) (fun obj=>F.args_object_init_3 obj _ _) F.entry_zip_new (zipB_new b1 b2 l1 l2 xs ys) ⟨hl1,hl2,?_⟩
  have z1:(zB1 b1 s.heap l1).objs.size=s.heap.objs.size+1:=Heap.size_push ..
  have z2:(zB2 b1 b2 s.heap l1 l2).objs.size=s.heap.objs.size+2:=by unfold zB2; rw[Heap.size_push,z1]
  have z3:(zB3 b1 b2 s.heap l1 l2).objs.size=s.heap.objs.size+3:=by unfold zB3; rw[Heap.size_push,z2]
  have z4:(zB4 b1 b2 s.heap l1 l2).objs.size=s.heap.objs.size+4:=by unfold zB4; rw[Heap.size_push,z3]
  have g5:(zB5 b1 b2 s.heap l1 l2).get? (zB4 b1 b2 s.heap l1 l2).objs.size=some _:=Heap.get?_push_size _ rfl
  have g4:(zB5 b1 b2 s.heap l1 l2).get? (zB3 b1 b2 s.heap l1 l2).objs.size=some _:=Heap.get?_push_of_some _ (Heap.get?_push_size _ rfl)
  have g3:(zB5 b1 b2 s.heap l1 l2).get? (zB2 b1 b2 s.heap l1 l2).objs.size=some _:=Heap.get?_push_of_some _ (Heap.get?_push_of_some _ (Heap.get?_push_size _ rfl))
  have g2:(zB5 b1 b2 s.heap l1 l2).get? (zB1 b1 s.heap l1).objs.size=some _:=Heap.get?_push_of_some _ (Heap.get?_push_of_some _ (Heap.get?_push_of_some _ (Heap.get?_push_size _ rfl)))
  have g1:(zB5 b1 b2 s.heap l1 l2).get? s.heap.objs.size=some _:=Heap.get?_push_of_some _ (Heap.get?_push_of_some _ (Heap.get?_push_of_some _ (Heap.get?_push_of_some _ (Heap.get?_push_size _ rfl))))
  show _/\_
  rw[z2,z3,z4] at g5
  rw[z1,z2] at g3
  rw[z3] at g4
  rw[z1] at g2
  rw[z4]
  exact⟨⟨_,g5,rfl⟩,h _ g5 g3 g4 (HIt.made g1) (HIt.made g2) fun c o x=>Heap.get?_push_of_some _ (Heap.get?_push_of_some _ (Heap.get?_push_of_some _ (Heap.get?_push_of_some _ (Heap.get?_push_of_some _ x))))⟩
end
theorem SqB.heap {X:Cx}{b:Bool}{pins:List (Addr × Obj)}{σ:St}{H:Hp}{s:Shared}{a:Addr}{xs:List V} (I:Inv X pins σ H s) (h:SqB b X.K H a xs):∃ its:List Value,Vals xs its/\HSq b s.heap a its.toArray:=by
  cases b
  · obtain⟨its,r,p,_⟩:=I.tuple h
    exact⟨its,r,p⟩
  · obtain⟨its,r,p,_⟩:=I.list h
    exact⟨its,r,p.isList⟩
theorem HSq.lt {b:Bool}{h:Heap}{l:Addr}{xs:Array Value} (x:HSq b h l xs):l<h.objs.size:=by
  cases b
  · obtain⟨o,e,_⟩:=x
    exact Heap.lt_size e
  · obtain⟨o,e,_⟩:=x
    exact Heap.lt_size e
theorem SqB.inj {X:Cx}{b:Bool}{pins:List (Addr × Obj)}{σ:St}{H:Hp}{s:Shared}{a:Addr}{xs ys:List V} (I:Inv X pins σ H s) (h:SqB b X.K H a xs) (g:SqB b X.K H a ys):xs=ys:=by
  cases b
  · exact I.tuple_inj h g
  · exact I.list_inj h g
def ItzB (b1 b2:Bool) (K:PySem.W.Frag) (a b:Addr):It :=
  ⟨fun i H=>∃ xs ys x y,SqB b1 K H a xs/\SqB b2 K H b ys/\xs[i]?=some x/\ys[i]?=some y,
   fun i H z H'=>∃ p x y,H p=none/\z=.ref p/\H'=upd H p (.tup [x,y])/\(∀ xs,SqB b1 K H a xs->xs[i]?=some x)/\∀ ys,SqB b2 K H b ys->ys[i]?=some y,
   fun i H=>∃ xs ys,SqB b1 K H a xs/\SqB b2 K H b ys/\(xs.length<=i∨ys.length<=i)⟩
end L2
namespace L2
open PySem PySem.Spec PyProof.Rows PySem.SeqAt
def zipStB (b1 b2:Bool) (z TI TO i1 i2 l1 l2:Addr) (i:Nat) (h:Heap):Prop:=IsZip h z TI TO .none/\IsPair h TI (.ref i1) (.ref i2)/\(∃ a b,IsPair h TO a b)/\HIt b1 h i1 l1 i/\HIt b2 h i2 l2 i
theorem turn_zipB {P:Program}{w:World}{K:PySem.W.Frag}{es:List Expr}{x1}{pos:Pos}{b1 b2:Bool}{z TI TO i1 i2 l1 l2:Addr} (D:ZipApart z TI TO i1 i2 l1 l2):Turn P w K (.Tuple es x1 pos) (ItzB b1 b2 K l1 l2) [z,TI,TO,i1,i2] z (zipStB b1 b2 z TI TO i1 i2 l1 l2) where
  mem:=by simp
  obj:=fun i h st b hb=>by
    obtain⟨h1,h2,⟨a,c,h3⟩,h4,h5⟩:=st
    simp only[List.mem_cons,List.not_mem_nil,or_false] at hb
    rcases hb with rfl | rfl | rfl | rfl | rfl
    · exact⟨_,h1,fun v q=>nomatch q⟩
    · exact⟨_,h2,fun v q=>nomatch q⟩
    · exact⟨_,h3,fun v q=>nomatch q⟩
    · exact h4.obj
    · exact h5.obj
  keep:=fun i h h' st k=>by
    obtain⟨h1,h2,⟨a,c,h3⟩,h4,h5⟩:=st
    exact⟨k z (by simp) _ h1,k TI (by simp) _ h2,⟨a,c,k TO (by simp) _ h3⟩,h4.at fun o q=>k i1 (by simp) o q,h5.at fun o q=>k i2 (by simp) o q⟩
  item:=by
    intro X hP hw hK hc i pins s σ H E I hf st hg
    subst hP hw hK
    obtain⟨xs,ys,x,y,hq1,hq2,hx,hy⟩:=hg
    obtain⟨its,rv,p⟩:=hq1.heap I
    obtain⟨its2,rv2,p2⟩:=hq2.heap I
    obtain⟨u,hu,ru⟩:=rv.get hx
    obtain⟨u2,hu2,ru2⟩:=rv2.get hy
    obtain⟨s1,s2,⟨a,c,s3⟩,s4,s5⟩:=id st
    refine pyNextB_item D s1 s2 s3 s4 s5 p p2 (x:=u) (y:=u2) (by simpa using hu) (by simpa using hu2) fun h' g1 g2 g3 g4 g5 g6 hk=>?_
    refine⟨_,rfl,?_⟩
    refine wpAny_letOwnedTupleGo_zip g1 fun h'' he hs=>?_
    have live:∀ b∈[z,TI,TO,i1,i2],b<s.heap.objs.size:=fun b hb=>by
      obtain⟨h1,h2,⟨a,c,h3⟩,h4,h5⟩:=st
      obtain⟨o4,e4,_⟩:=h4.obj
      obtain⟨o5,e5,_⟩:=h5.obj
      simp only[List.mem_cons,List.not_mem_nil,or_false] at hb
      rcases hb with rfl | rfl | rfl | rfl | rfl
      · exact Heap.lt_size h1
      · exact Heap.lt_size h2
      · exact Heap.lt_size h3
      · exact Heap.lt_size e4
      · exact Heap.lt_size e5
    have hsz:s.heap.objs.size≠z:=Nat.ne_of_gt (live z (by simp))
    have k:∀ b o,b ∉ [z,TI,TO,i1,i2]->s.heap.get? b=some o->h''.get? b=some o:=fun b o hb q=>by
      simp only[List.mem_cons,List.not_mem_nil,or_false,not_or] at hb
      exact (hs.2 b hb.1).trans (hk b o hb.1 hb.2.2.1 hb.2.2.2.1 hb.2.2.2.2 q)
    have st':zipStB b1 b2 z TI TO i1 i2 l1 l2 (i+1) h'':=by
      refine⟨he,(hs.2 TI D.TIz).trans (hk TI _ D.TIz D.TITO D.TIi1 D.TIi2 s2),⟨u,u2,(hs.2 TO D.TOz).trans g2⟩,?_,?_⟩
      · exact g3.ext hs.extBut D.i1z
      · exact g4.ext hs.extBut D.i2z
    have th:∀ b∈[z,TI,TO,i1,i2],∃ o,h''.get? b=some o:=fun b hb=>by
      obtain⟨h1,h2,⟨a,c,h3⟩,h4,h5⟩:=st'
      obtain⟨o4,e4,_⟩:=h4.obj
      obtain⟨o5,e5,_⟩:=h5.obj
      simp only[List.mem_cons,List.not_mem_nil,or_false] at hb
      rcases hb with rfl | rfl | rfl | rfl | rfl
      · exact⟨_,h1⟩
      · exact⟨_,h2⟩
      · exact⟨_,h3⟩
      · exact⟨_,e4⟩
      · exact⟨_,e5⟩
    have fresh:H s.heap.objs.size=none:=I.hok.fresh (Nat.le_refl _)
    refine⟨.ref s.heap.objs.size,_,I.pairOut (fp:=[z,TI,TO,i1,i2]) (tk:=s.toks) hf k ((hs.2 _ hsz).trans g5) live th ru ru2,rfl,⟨s.heap.objs.size,x,y,fresh,rfl,rfl,fun ys hy=>by rw[hy.inj I hq1]; exact hx,fun zs hz=>by rw[hz.inj I hq2]; exact hy⟩,st',fun b hb=>?_⟩
    rw[upd_ne (Nat.ne_of_lt (live b hb))]
    exact (hf b hb).1
  done:=by
    intro X hP hw hK hc i pins s σ H E I hf st hg
    subst hP hw hK
    obtain⟨xs,ys,hq1,hq2,hx⟩:=hg
    obtain⟨its,rv,p⟩:=hq1.heap I
    obtain⟨its2,rv2,p2⟩:=hq2.heap I
    obtain⟨s1,s2,⟨a,c,s3⟩,s4,s5⟩:=st
    have e1:=rv.length
    have e2:=rv2.length
    refine pyNextB_end (I.ok.hd hc) D s1 s2 s3 s4 s5 p p2 (by rcases hx with q | q; exact .inl (by simp; omega); exact .inr (by simp; omega)) fun h' hk=>⟨rfl,I.turnedAll (fp:=[z,TI,TO,i1,i2]) (tk:=s.toks) hf fun b o hb q=>?_⟩
    simp only[List.mem_cons,List.not_mem_nil,or_false,not_or] at hb
    exact hk b o hb.1 hb.2.2.1 hb.2.2.2.1 hb.2.2.2.2 q
  self:=fun _ _ _ _ _ st h=>wpAny_pyIter_zip st.1 h
def iZipB (K:PySem.W.Frag) (ta:TA):TI:=fun σ H R=>ta σ H fun vs H1=>∃ b1 b2 a b,vs=[.ref a,.ref b]/\(∃ xs,SqB b1 K H1 a xs)/\(∃ ys,SqB b2 K H1 b ys)/\R (ItzB b1 b2 K a b) H1
theorem pi_zipB {X : Cx} {es : List Expr} {x1} {tpos : Pos} {e f : Expr} {ta : TA} {p pos : Pos} (hg : Gl X "zip") (hm : X.mg "zip" = none) (ha : PA X [e, f] ta) (hs : starEach [e, f] X.env = [(false, eval e X.env), (false, eval f X.env)] := by rfl) (hs2 : starEach [f] X.env = [(false, eval f X.env)] := by rfl) :
    PI X (.Tuple es x1 tpos) (.Call (.Name "zip" p) [e,f] [] pos) (iZipB X.K ta):=by
  intro pins s σ H R I h
  refine Call_ (ld_blt I hg hm (show bootBuiltins "zip"=some (.type "zip") by decide +kernel) (PyProof.Rows.callWith_type1 (thn (ha pos pins s σ H _ I h) fun us s1 ⟨vs,H1,I1,r1,q1⟩=>?_) (by rw[hs,hs2]) (by rw[hs2]; rfl)))
  obtain⟨b1,b2,a,b,e1,⟨xs,hq⟩,⟨ys,hq2⟩,q⟩:=q1
  subst e1
  obtain⟨u,u2,rfl,r,r2⟩:=vals2 r1
  cases r
  cases r2
  obtain⟨its,rv,pl⟩:=hq.heap I1
  obtain⟨its2,rv2,pl2⟩:=hq2.heap I1
  have la:=pl.lt
  have lb:=pl2.lt
  have ne:∀ {i j:Nat},i≠j->s1.heap.objs.size+i≠s1.heap.objs.size+j:=fun h z=>h (Nat.add_left_cancel z)
  have nl:∀ {c:Addr} (i:Nat),c<s1.heap.objs.size->c≠s1.heap.objs.size+i:=fun i h=>Nat.ne_of_lt (Nat.lt_of_lt_of_le h (Nat.le_add_right _ _))
  refine call_zipB pl pl2 fun h' g1 g2 g3 g4 g5 k=>wpAny_pyIter_zip g1 ?_
  have D:ZipApart (s1.heap.objs.size+4) (s1.heap.objs.size+2) (s1.heap.objs.size+3) (s1.heap.objs.size+0) (s1.heap.objs.size+1) a b :=
    ⟨ne (by decide),ne (by decide),ne (by decide),ne (by decide),ne (by decide),ne (by decide),ne (by decide),ne (by decide),ne (by decide),ne (by decide),nl 4 la,nl 3 la,nl 0 la,nl 1 la,nl 4 lb,nl 3 lb,nl 0 lb,nl 1 lb⟩
  refine⟨s1.heap.objs.size+4,[s1.heap.objs.size+4,s1.heap.objs.size+2,s1.heap.objs.size+3,s1.heap.objs.size+0,s1.heap.objs.size+1],_,_,H1,rfl,I1.kept (t':=s1.toks) k,turn_zipB D,⟨g1,g2,⟨_,_,g3⟩,g4,g5⟩,fun c hc=>?_,q⟩
  have ge:s1.heap.objs.size<=c:=by
    simp only[List.mem_cons,List.not_mem_nil,or_false] at hc
    rcases hc with rfl | rfl | rfl | rfl | rfl <;> exact Nat.le_add_right _ _
  exact I1.fpOk ge (I1.hok.fresh ge)
theorem comp_zip {b1 b2 : Bool} {K : PySem.W.Frag} {own : List Str} {js : List Nat} {g : TG} {tt : TT} {te : TE} {σ : St} {H1 : Hp} {Q : VK} {a b : Addr} {xs ys : List V} (hlen : xs.length ≤ ys.length) (Pv : Addr → Nat → Hp → Prop) (h0 : ∀ acc, H1 acc = none → Pv acc 0 (upd H1 acc (.lst [])))
    (hl:∀ acc i H,H1 acc=none->i<=xs.length->Pv acc i H->SqB b1 K H a xs/\SqB b2 K H b ys)
    (hs:∀ acc i x y p H,H1 acc=none->xs[i]?=some x->ys[i]?=some y->Pv acc i H->H p=none->g (.ref p) (blkσ own js σ) (upd H p (.tup [x,y])) fun τ H4=>tt τ H4 fun c H5=>
      if c=true then te τ H5 fun y H6=>∃ ys,H6 acc=some (.lst ys)/\ys.length<sizeLine/\(i+1<=xs.length/\Pv acc (i+1) (upd H6 acc (.lst (ys++[y])))) else (i+1<=xs.length/\Pv acc (i+1) H5))
    (hd:∀ acc H,H1 acc=none->Pv acc xs.length H->Q (.ref acc) H):tCompW own js g tt te σ (ItzB b1 b2 K a b) H1 Q:=by
  intro acc hacc
  refine⟨fun i H=>i<=xs.length/\Pv acc i H,xs.length,⟨Nat.zero_le _,h0 acc hacc⟩,?_⟩
  rintro i H ⟨hi,p⟩
  obtain⟨q1,q2⟩:=hl acc i H hacc hi p
  by_cases hlt:i<xs.length
  · have hl2:i<ys.length:=by omega
    refine .inr ⟨hlt,⟨xs,ys,xs[i],ys[i],q1,q2,by simp[hlt],by simp[hl2]⟩,fun x H' y=>?_⟩
    obtain⟨pa,z1,z2,hp,e1,e2,y1,y2⟩:=y
    subst e1 e2
    exact hs acc i z1 z2 pa H hacc (y1 xs q1) (y2 ys q2) p hp
  · have e:i=xs.length:=by omega
    subst e
    exact .inl ⟨⟨xs,ys,q1,q2,.inl (Nat.le_refl _)⟩,hd acc H hacc p⟩
end L2
namespace L2
open PySem PySem.Spec PyProof.Rows PySem.SeqAt
theorem noFill_tup_mul:fillsNumberSlot (.type "tuple") "mul"=pure false :=
  PySem.fillsNumberSlot_seq (id:="tuple.__mul__") (r:=some (.builtin "tuple.__rmul__")) F.slot_tuple_mul.lookup (by decide +kernel) F.slot_tuple_rmul.lookup (by decide +kernel)
theorem rep_tup:seqRepeat? (.type "tuple")=pure (some (.builtin "tuple.__mul__")):=by
  unfold seqRepeat?
  rw[PySem.seqSlot_of (T:="tuple") (name:="__mul__") (id:="tuple.__mul__") F.slot_tuple_mul.lookup (by decide +kernel),PySem.seqSlot_of (T:="tuple") (name:="__rmul__") (id:="tuple.__rmul__") F.slot_tuple_rmul.lookup (by decide +kernel)]
  rfl
theorem rmul_int_tup (a : Int) (t : Tok) (l : Addr) (items : Array Value) (n : Nat) (dct : Option Addr) (sl : Array (Option Value)) :
    Meets (Builtin.«int.__rmul__» ⟨[.int a t,.ref l],[]⟩) (fun _ R s=>s.heap.get? l=some { cls:=.type "tuple",dict:=dct,data:=.seq items n,slots:=sl }/\R (.ok (.ret Value.notImplemented)) s) :=
  .of_wp fun prog w A R s h=>by
    obtain⟨hp,g,d,tk,os⟩:=s
    obtain⟨hl,h⟩:=h
    wp_walk
    exact⟨_,rfl,h⟩
theorem mul_tup1 (l : Addr) (items : Array Value) (n : Nat) (dct : Option Addr) (sl : Array (Option Value)) (u : Tok) :
    Meets (Builtin.«tuple.__mul__» ⟨[.ref l,.int 1 u],[]⟩) (fun _ R s=>s.heap.get? l=some { cls:=.type "tuple",dict:=dct,data:=.seq items n,slots:=sl }/\R (.ok (.ret (.ref l))) s) :=
  .of_wp fun prog w A R s h=>by
    obtain⟨hp,g,d,tk,os⟩:=s
    obtain⟨hl,h⟩:=h
    unfold Builtin.«tuple.__mul__»
    wp_walk
    exact⟨_,rfl,h⟩
theorem mul_tupN (l : Addr) (items : Array Value) (n : Nat) (dct : Option Addr) (sl : Array (Option Value)) (k : Int) (u : Tok) (h0 : ¬ (decide (k < -(2 ^ 63)) || decide (k ≥ 2 ^ 63)) = true) (h1 : ¬ (items.isEmpty || k == 1) = true) (h2 : ¬ (decide (k ≤ 0) || items.isEmpty) = true) (h3 : ¬ items.size * k > (2 ^ 63 - 1) / 8) (h4 : ¬ Builtin.Tuple.tupleTooMany (items.size * k) = true) (h5 : ¬ (List.foldl (fun x1 x2 => x1 ++ x2) #[] (List.replicate k.toNat items)).size > sizeLine) :
    Meets (Builtin.«tuple.__mul__» ⟨[.ref l,.int k u],[]⟩) (fun _ R s=>s.heap.get? l=some { cls:=.type "tuple",dict:=dct,data:=.seq items n,slots:=sl } /\
      R (.ok (.ret (.ref s.heap.objs.size))) { s with heap:=s.heap.push { cls:=.type "tuple",data:=.seq ((List.replicate k.toNat items).foldl (fun x1 x2=>x1++x2) #[]) } }) :=
  .of_wp fun prog w A R s h=>by
    obtain⟨hp,g,d,tk,os⟩:=s
    obtain⟨hl,h⟩:=h
    unfold Builtin.«tuple.__mul__»
    wp_walk
    rw[if_neg h0]
    wp_walk
    rw[if_neg h3]
    wp_walk
    exact⟨_,rfl,h⟩
theorem opK_catT (K:PySem.W.Frag) {X:Cx} (hK:X.K=K:=by rfl):OpR X (binaryOp .Add) (rCatT K):=by subst hK; exact op_catT
theorem callK_isinst (K:PySem.W.Frag) {X:Cx} (hK:X.K=K:=by rfl):CallR X (.builtin "isinstance") (fun xs H Q=>∃ x T t b,xs=[x,.ty T]/\TyOf K H x t/\PySem.W.kitOne K t (.type T)=some b/\Q (.bl b) H):=by subst hK; exact call_isinst
theorem callK_len (K:PySem.W.Frag) {X:Cx} (hK:X.K=K:=by rfl):CallR X (.builtin "len") (fun xs H Q=>∃ p ys,xs=[.ref p]/\(SqL K H p ys∨SqT K H p ys)/\Q (.int ys.length) H):=by subst hK; exact call_len_seq
theorem CompOk.bare {X:Cx}{scope:Scope}{own:List Str} (h:((scope.kind == .function) && scope.names.all fun y=>(y.2 != .cell) && (y.2 != .free) && ((y.2 != .local) || (scope.names.lookup y.1 == some .local)))=true):CompOk X scope own []:=by
  simp only[Bool.and_eq_true,beq_iff_eq,List.all_eq_true,Bool.or_eq_true,bne_iff_ne,ne_eq] at h
  obtain⟨h1,h2⟩:=h
  refine⟨h1,fun y hy=>(h2 y hy).1.1,fun y hy hf=>absurd hf (h2 y hy).1.2,fun y hy hl=>?_,fun j hj=>by cases hj⟩
  rcases (h2 y hy).2 with z | z
  · exact absurd hl z
  · exact z
section
variable {X:Cx}
def LLs (H:Hp) (rs:List Addr) (N:List (List Int)):Prop:=rs.length=N.length/\∀ (j:Nat) r xs,rs[j]?=some r->N[j]?=some xs->H r=some (.lst (xs.map V.int))
def TTs (H:Hp) (rs:List Addr) (N:List (List Int)):Prop:=rs.length=N.length/\∀ (j:Nat) r xs,rs[j]?=some r->N[j]?=some xs->H r=some (.tup (xs.map V.int))
theorem LLs.same {H H':Hp}{rs:List Addr}{N:List (List Int)} (h:LLs H rs N) (s:Same H H'):LLs H' rs N:=⟨h.1,fun j r xs a b=>s _ _ (h.2 j r xs a b)⟩
theorem TTs.same {H H':Hp}{rs:List Addr}{N:List (List Int)} (h:TTs H rs N) (s:Same H H'):TTs H' rs N:=⟨h.1,fun j r xs a b=>s _ _ (h.2 j r xs a b)⟩
theorem TTs.lst {H:Hp}{rs:List Addr}{N:List (List Int)}{acc:Addr}{ys zs:List V} (h:TTs H rs N) (e:H acc=some (.lst zs)):TTs (upd H acc (.lst ys)) rs N:=⟨h.1,fun j r xs a b=>by
  have:=h.2 j r xs a b
  rw[upd_ne (by intro z; subst z; rw[e] at this; cases this)]
  exact this⟩
theorem LLs.lst {H:Hp}{rs:List Addr}{N:List (List Int)}{acc:Addr}{ys:List V} (h:LLs H rs N) (e:acc ∉ rs):LLs (upd H acc (.lst ys)) rs N:=⟨h.1,fun j r xs a b=>by
  rw[upd_ne (by intro z; subst z; exact e (List.mem_of_getElem? a))]
  exact h.2 j r xs a b⟩
theorem snoc_get {α:Type}{xs:List α}{x y:α}{j:Nat} (h:(xs++[x])[j]?=some y):xs[j]?=some y∨(j=xs.length/\y=x):=by
  by_cases hj:j<xs.length
  · rw[List.getElem?_append_left hj] at h; exact .inl h
  · rw[List.getElem?_append_right (by omega)] at h
    have:j - xs.length=0:=by
      cases e:j - xs.length with
      | zero=>rfl
      | succ m=>rw[e] at h; simp at h
    rw[this] at h
    exact .inr ⟨by omega,by simpa using h.symm⟩
theorem TTs.snoc {H:Hp}{rs:List Addr}{N:List (List Int)}{r:Addr}{x:List Int} (h:TTs H rs N) (e:H r=some (.tup (x.map V.int))):TTs H (rs++[r]) (N++[x]):=⟨by simp[h.1],fun j r' xs a b=>by
  rcases snoc_get a with a | ⟨a,rfl⟩
  · rcases snoc_get b with b | ⟨b,_⟩
    · exact h.2 j r' xs a b
    · have:=(List.getElem?_eq_some_iff.mp a).1; have:=h.1; omega
  · rcases snoc_get b with b | ⟨_,rfl⟩
    · have:=(List.getElem?_eq_some_iff.mp b).1; have:=h.1; omega
    · exact e⟩
theorem LLs.snoc {H:Hp}{rs:List Addr}{N:List (List Int)}{r:Addr}{x:List Int} (h:LLs H rs N) (e:H r=some (.lst (x.map V.int))):LLs H (rs++[r]) (N++[x]):=⟨by simp[h.1],fun j r' xs a b=>by
  rcases snoc_get a with a | ⟨a,rfl⟩
  · rcases snoc_get b with b | ⟨b,_⟩
    · exact h.2 j r' xs a b
    · have:=(List.getElem?_eq_some_iff.mp a).1; have:=h.1; omega
  · rcases snoc_get b with b | ⟨_,rfl⟩
    · have:=(List.getElem?_eq_some_iff.mp b).1; have:=h.1; omega
    · exact e⟩
theorem all_range (n:Nat):((List.range n).all fun _=>true)=true:=by simp
end
end L2
namespace L2
open PySem PySem.Spec PyProof.Rows
mutual
inductive RdN (H:Hp):V->PyData->Prop
  | non:RdN H .non .none
  | bl (b:Bool):RdN H (.bl b) (.bool b)
  | int (i:Int):RdN H (.int i) (.int i)
  | str (x:Str):RdN H (.str x) (.str x)
  | lst {a:Addr}{xs:List V}{ds:List PyData}:H a=some (.lst xs)->RdL H xs ds->RdN H (.ref a) (.list ds)
  | tup {a:Addr}{xs:List V}{ds:List PyData}:H a=some (.tup xs)->RdL H xs ds->RdN H (.ref a) (.tuple ds)
inductive RdL (H:Hp):List V->List PyData->Prop
  | nil:RdL H [] []
  | cons {x:V}{xs:List V}{d:PyData}{ds:List PyData}:RdN H x d->RdL H xs ds->RdL H (x::xs) (d::ds)
end
section
variable {P:Program}{w:World}{H:Hp}{h:Heap}
end
section
variable {X:Cx}
theorem op_isnotB:OpR X (compareOp .IsNot) (fun x y H Q=>∃ b c:Bool,x=.bl b/\y=.bl c/\Q (.bl (b != c)) H):=by
  intro pins s σ H x y v u Q I rx ry h
  obtain⟨b,c,rfl,rfl,q⟩:=h
  cases rx
  cases ry
  exact isnot_bool ⟨.bl _,H,I,rfl,q⟩
end
end L2
namespace L2
open PySem PySem.Spec PyProof.Rows PySem.SeqAt
inductive TyS (H:Hp):V->Value->Prop
  | int (i:Int):TyS H (.int i) (.type "int")
  | bl (b:Bool):TyS H (.bl b) (.type "bool")
  | lst {a:Addr}{xs:List V} (e:H a=some (.lst xs)):TyS H (.ref a) (.type "list")
  | tup {a:Addr}{xs:List V} (e:H a=some (.tup xs)):TyS H (.ref a) (.type "tuple")
section
variable {X:Cx}
end
end L2
namespace L2
open PySem PySem.Spec PyProof.Rows PySem.SeqAt
section
variable {X:Cx}
theorem argBest_max (f:Nat->Int):∀ k i,i<=k->f i<=f (argBest (fun i j=>decide (f j<f i)) k)
  | 0,i,h=>by
    have:i=0:=by omega
    subst this
    exact Int.le_refl _
  | k+1,i,h=>by
    unfold argBest
    by_cases e:f (argBest (fun i j=>decide (f j<f i)) k)<f (k+1)
    · rw[if_pos (decide_eq_true e)]
      by_cases hi:i=k+1
      · subst hi; exact Int.le_refl _
      · have:=argBest_max f k i (by omega)
        omega
    · rw[if_neg (by simpa using e)]
      by_cases hi:i=k+1
      · subst hi; omega
      · exact argBest_max f k i (by omega)
theorem walkB {b : Bool} {pins : List (Addr × Obj)} {σ : St} {H : Hp} {s : Shared} {a : Addr} {ns : List Int} {Q : Value → Shared → Prop} {A : Around} {E : Value → Shared → Prop} (I : Inv X pins σ H s) (hh : A.handled = none) (h : SqB b X.K H a (ns.map V.int))
    (k:∀ (I0:Addr) (fp wr:List Addr) (P:Nat->Value->Prop) (St:Nat->Heap->Prop) (s2:Shared),Walks X.prog X.w A I0 fp wr ns.length P St->St 0 s2.heap->(∀ c∈fp,c<s2.heap.objs.size)->(∀ i v,P i v->i<ns.length/\∃ t,v=.int (ns.getD i 0) t) ->
      (∀ h' tk,(∀ c o,c ∉ wr->s2.heap.get? c=some o->h'.get? c=some o)->Inv X pins σ H { s2 with heap:=h',toks:=tk })->Q (.ref I0) s2):wpAny (model X.prog X.w) A (pyIter (.ref a)) Q E s:=by
  have fin : ∀ (its : List Value) (rv : Vals (ns.map V.int) its) (ob : Obj), a < s.heap.objs.size → (∀ h' tk, (∀ c o, c ∉ [s.heap.objs.size] → (s.heap.push ob).get? c = some o → h'.get? c = some o) → Inv X pins σ H { s with heap := h', toks := tk }) ∧ its.toArray.size = ns.length ∧
      (∀ i v,its.toArray[i]?=some v->i<ns.length/\∃ t,v=.int (ns.getD i 0) t)/\∀ c∈[s.heap.objs.size,a],c<(s.heap.push ob).objs.size:=fun its rv ob hlt=>by
    have hlen:its.toArray.size=ns.length:=by rw[List.size_toArray,<- rv.length,List.length_map]
    refine⟨fun h' tk hk=>I.kept (h':=h') (t':=tk) fun c o e=>hk c o ?_ (Heap.get?_push_of_some _ e),hlen,fun i v e=>?_,fun c hc=>?_⟩
    · intro hm
      have:c=s.heap.objs.size:=by simpa using hm
      rw[this] at e
      exact absurd (Heap.lt_size e) (Nat.lt_irrefl _)
    · have hi:i<its.toArray.size:=(Array.getElem?_eq_some_iff.mp e).1
      obtain⟨t,q⟩:=ints_at rv hi
      rw[Array.getElem?_eq_getElem hi] at e
      have e':=Option.some.inj e
      rw[q] at e'
      exact⟨by rw[<- hlen]; exact hi,t,e'.symm⟩
    · rcases List.mem_cons.mp hc with z | z
      · rw[z,Heap.size_push]; exact Nat.lt_succ_self _
      · have z:c=a:=by simpa using z
        rw[z,Heap.size_push]
        exact Nat.lt_succ_of_lt hlt
  cases b with
  | true=>
    obtain⟨its,rv,p,hz⟩:=I.list h
    have hlt:a<s.heap.objs.size:=by obtain⟨o,n,e,_⟩:=p; exact Heap.lt_size e
    have hne:a≠s.heap.objs.size:=Nat.ne_of_lt hlt
    refine wpAny_pyIter_list p.isList ?_
    obtain⟨f1,f2,f3,f4⟩:=fin its rv _ hlt
    have W:=Walks.list (prog:=X.prog) (w:=X.w) (A:=A) hh s.heap.objs.size a hne its.toArray
    rw[f2] at W
    refine k _ _ _ _ _ _ W ⟨⟨_,Heap.get?_push_size _ rfl,rfl,rfl⟩,?_⟩ f4 f3 f1
    obtain⟨o,n,e,c,_,d⟩:=p
    exact⟨o,Heap.get?_push_of_some _ e,c,n,d⟩
  | false=>
    obtain⟨its,rv,p0,hz⟩:=I.tuple h
    have p:s.heap.IsTuple a its.toArray:=p0
    have hlt:a<s.heap.objs.size:=by obtain⟨o,e,_⟩:=p; exact Heap.lt_size e
    have hne:a≠s.heap.objs.size:=Nat.ne_of_lt hlt
    refine wpAny_pyIter_tuple p ?_
    obtain⟨f1,f2,f3,f4⟩:=fin its rv _ hlt
    have W:=Walks.tuple (prog:=X.prog) (w:=X.w) (A:=A) hh s.heap.objs.size a hne its.toArray
    rw[f2] at W
    refine k _ _ _ _ _ _ W ⟨⟨_,Heap.get?_push_size _ rfl,rfl,rfl⟩,?_⟩ f4 f3 f1
    obtain⟨o,e,c,d⟩:=p
    exact⟨o,Heap.get?_push_of_some _ e,c,d⟩
theorem getD_mem {ns:List Int}{i:Nat} (h:i<ns.length):ns.getD i 0∈ns:=by
  rw[List.getD_eq_getElem?_getD,List.getElem?_eq_getElem h]
  exact List.getElem_mem h
theorem call_maxB (hc:X.calm=true):CallR X (.builtin "max") (fun xs H Q=>∃ (b:Bool) (a:Addr) (ns:List Int),xs=[.ref a]/\SqB b X.K H a (ns.map V.int)/\ns≠[]/\∀ m,m∈ns->(∀ x∈ns,x<=m)->Q (.int m) H):=by
  intro pins s σ H xs us Q I r h
  obtain⟨b,a,ns,rfl,hq,hn,q⟩:=h
  obtain⟨u,rfl,r1⟩:=vals1 r
  cases r1
  have hpos:0<ns.length:=List.length_pos_iff.mpr hn
  refine call_max_walk (walkB I (I.ok.hd hc) hq fun I0 fp wr P St s2 W st hfp hP hk=>?_)
  refine⟨I0,fp,wr,ns.length,P,St,fun i j=>decide (ns.getD j 0<ns.getD i 0),rfl,W,st,hfp,hpos,?_,?_⟩
  · intro i j vi vj s' Q' E' hi hj hQ
    obtain⟨_,t,rfl⟩:=hP i vi hi
    obtain⟨_,t',rfl⟩:=hP j vj hj
    exact gt_int hQ
  · intro v h' tk hPv hkk
    obtain⟨hi,t,rfl⟩:=hP _ v hPv
    refine⟨.int _,H,hk h' tk hkk,⟨t,rfl⟩,q _ (getD_mem hi) fun x hx=>?_⟩
    obtain⟨i,hi',e⟩:=List.getElem_of_mem hx
    have:=argBest_max (fun i=>ns.getD i 0) (ns.length - 1) i (by omega)
    have e2:ns.getD i 0=ns[i]:=by rw[List.getD_eq_getElem?_getD,List.getElem?_eq_getElem hi']; rfl
    rw[<- e,<- e2]
    exact this
theorem call_minB (hc:X.calm=true):CallR X (.builtin "min") (fun xs H Q=>∃ (b:Bool) (a:Addr) (ns:List Int),xs=[.ref a]/\SqB b X.K H a (ns.map V.int)/\ns≠[]/\∀ m,m∈ns->(∀ x∈ns,m<=x)->Q (.int m) H):=by
  intro pins s σ H xs us Q I r h
  obtain⟨b,a,ns,rfl,hq,hn,q⟩:=h
  obtain⟨u,rfl,r1⟩:=vals1 r
  cases r1
  have hpos:0<ns.length:=List.length_pos_iff.mpr hn
  refine call_min_walk (walkB I (I.ok.hd hc) hq fun I0 fp wr P St s2 W st hfp hP hk=>?_)
  refine⟨I0,fp,wr,ns.length,P,St,fun i j=>decide (ns.getD i 0<ns.getD j 0),rfl,W,st,hfp,hpos,?_,?_⟩
  · intro i j vi vj s' Q' E' hi hj hQ
    obtain⟨_,t,rfl⟩:=hP i vi hi
    obtain⟨_,t',rfl⟩:=hP j vj hj
    exact lt_int hQ
  · intro v h' tk hPv hkk
    obtain⟨hi,t,rfl⟩:=hP _ v hPv
    refine⟨.int _,H,hk h' tk hkk,⟨t,rfl⟩,q _ (getD_mem hi) fun x hx=>?_⟩
    obtain⟨i,hi',e⟩:=List.getElem_of_mem hx
    have:=argBest_min (fun i=>ns.getD i 0) (ns.length - 1) i (by omega)
    have e2:ns.getD i 0=ns[i]:=by rw[List.getD_eq_getElem?_getD,List.getElem?_eq_getElem hi']; rfl
    rw[<- e,<- e2]
    exact this
end
end L2
namespace L2
open PySem PySem.Spec PyProof.Rows PySem.SeqAt
section
variable {prog:Program}{w:World}{A:Around}{E:Value->Shared->Prop}{s:Shared}
end
section
variable {X:Cx}
end
theorem comp_enumB {b : Bool} {K : PySem.W.Frag} {own : List Str} {js : List Nat} {g : TG} {tt : TT} {te : TE} {σ : St} {H1 : Hp} {Q : VK} {a : Addr} {xs : List V} (Pv : Addr → Nat → Hp → Prop) (h0 : ∀ acc, H1 acc = none → Pv acc 0 (upd H1 acc (.lst []))) (hl : ∀ acc i H, H1 acc = none → i ≤ xs.length → Pv acc i H → SqB b K H a xs)
    (hs:∀ acc i x p H,H1 acc=none->xs[i]?=some x->Pv acc i H->H p=none->g (.ref p) (blkσ own js σ) (upd H p (.tup [.int i,x])) fun τ H4=>tt τ H4 fun c H5=>
      if c=true then te τ H5 fun y H6=>∃ ys,H6 acc=some (.lst ys)/\ys.length<sizeLine/\(i+1<=xs.length/\Pv acc (i+1) (upd H6 acc (.lst (ys++[y])))) else (i+1<=xs.length/\Pv acc (i+1) H5))
    (hd:∀ acc H,H1 acc=none->Pv acc xs.length H->Q (.ref acc) H):tCompW own js g tt te σ (IteB b K a) H1 Q:=by
  intro acc hacc
  refine⟨fun i H=>i<=xs.length/\Pv acc i H,xs.length,⟨Nat.zero_le _,h0 acc hacc⟩,?_⟩
  rintro i H ⟨hi,p⟩
  have q:=hl acc i H hacc hi p
  by_cases hlt:i<xs.length
  · refine .inr ⟨hlt,by cases b <;> exact⟨xs,xs[i],q,by simp[hlt]⟩,fun x H' y=>?_⟩
    have y:∃ pa z,H pa=none/\x=.ref pa/\H'=upd H pa (.tup [.int i,z])/\xs[i]?=some z:=by
      cases b with
      | true=>obtain⟨pa,z,hp,e1,e2,y⟩:=y; exact⟨pa,z,hp,e1,e2,y xs q⟩
      | false=>obtain⟨pa,z,hp,e1,e2,y⟩:=y; exact⟨pa,z,hp,e1,e2,y xs q⟩
    obtain⟨pa,z,hp,e1,e2,y'⟩:=y
    subst e1 e2
    exact hs acc i z pa H hacc y' p hp
  · have e:i=xs.length:=by omega
    subst e
    exact .inl ⟨by cases b <;> exact⟨xs,q,Nat.le_refl _⟩,hd acc H hacc p⟩
end L2
namespace Lv
open PySem L2
theorem pe_ty {X:Cx}{x:Str}{T:String}{pos:Pos} (hg:Gl X x) (hm:X.mg x=none) (hv:bootBuiltins x=some (.type T)) (hn:x≠"__name__":=by decide) (hd:(x == ("__debug__":Str))=false:=by decide):PE X (.Name x pos) (tC (.ty T)) :=
  pe_bltn hg hm hv rfl hn hd
theorem pe_gint {X:Cx}{x:Str}{i:Int}{t:Tok}{pos:Pos} (hg:Gl X x) (hm:X.mg x=some (.int i t)) (hd:(x == ("__debug__":Str))=false:=by decide):PE X (.Name x pos) (tC (.int i)) :=
  pe_glob hg hm ⟨t,rfl⟩ hd
structure Txt (mg:Str->Option Value):Prop where
  isinstance:mg "isinstance"=none
  int:mg "int"=none
  bool:mg "bool"=none
  list:mg "list"=none
  tuple:mg "tuple"=none
  min:mg "min"=none
  max:mg "max"=none
  len:mg "len"=none
  range:mg "range"=none
  all:mg "all"=none
  sum:mg "sum"=none
  sorted:mg "sorted"=none
  zip:mg "zip"=none
theorem b_isinstance:bootBuiltins "isinstance"=some (.builtin "isinstance"):=by decide +kernel
theorem b_int:bootBuiltins "int"=some (.type "int"):=by decide +kernel
theorem b_bool:bootBuiltins "bool"=some (.type "bool"):=by decide +kernel
theorem b_list:bootBuiltins "list"=some (.type "list"):=by decide +kernel
theorem b_tuple:bootBuiltins "tuple"=some (.type "tuple"):=by decide +kernel
theorem b_min:bootBuiltins "min"=some (.builtin "min"):=by decide +kernel
theorem b_max:bootBuiltins "max"=some (.builtin "max"):=by decide +kernel
theorem b_all:bootBuiltins "all"=some (.builtin "all"):=by decide +kernel
theorem b_sum:bootBuiltins "sum"=some (.builtin "sum"):=by decide +kernel
theorem b_sorted:bootBuiltins "sorted"=some (.builtin "sorted"):=by decide +kernel
theorem kit_int_int {K:PySem.W.Frag}:PySem.W.kitOne K (.type "int") (.type "int")=some true:=by rfl
theorem kit_int_bool {K:PySem.W.Frag}:PySem.W.kitOne K (.type "int") (.type "bool")=some false:=by with_unfolding_all rfl
theorem kit_tuple_tuple {K:PySem.W.Frag}:PySem.W.kitOne K (.type "tuple") (.type "tuple")=some true:=by rfl
structure Cal (P:Program) (w:World) (K:PySem.W.Frag) (mg:Str->Option Value) (base:Heap) (k:Nat) (x:Str) (ps:List Str) (sp:Sp) (f:Addr) (fd:FuncData):Prop where
  ok:FnOk P w K mg base CX0 k f fd ps sp
  mg:mg x=some (.ref f)
  kp:PySem.W.keepIn K (.ref f)=true
  bd:Binds K fd ps []
theorem pe_cal {X : Cx} {k : Nat} {x : Str} {ps : List Str} {sp : Sp} {f : Addr} {fd : FuncData} {e : Expr} {es : List Expr} {t : TA} {p pos : Pos} (C : Cal X.prog X.w X.K X.mg X.base k x ps sp f fd) (hr : Room k X.A) (hg : Gl X x) (ha : PA X (e :: es) t)
    (hdb:(x == ("__debug__":Str))=false:=by decide) (he:starEach (e::es) X.env=(false,eval e X.env)::starEach es X.env:=by rfl) (hpl:(backTo pos (starEach es X.env)).any (·.1)=false:=by rfl) :
    PE X (.Call (.Name x p) (e::es) [] pos) (tCall sp [] E0 t):=pe_call C.ok hr hg C.mg C.kp C.bd .nil pass0 ha hdb he hpl
theorem ixK_list (K:PySem.W.Frag) {X:Cx} (hK:X.K=K:=by rfl):IxR X (rIxL K):=by subst hK; exact ix_list
theorem map_get {xs:List Int}{i:Nat}{x:V} (h:(xs.map V.int)[i]?=some x):∃ p,xs[i]?=some p/\x=.int p:=by
  rw[List.getElem?_map] at h
  cases e:xs[i]? with
  | none=>rw[e] at h; cases h
  | some p=>rw[e] at h; exact⟨p,rfl,(Option.some.inj h).symm⟩
theorem _root_.L2.Same.new {q:Addr}{H:Hp}{o:HO} (h:H q=none):Same H (upd H q o):=fun b u e=>by rw[upd_ne (ne_of_none e h)]; exact e
theorem _root_.L2.Same.put {q:Addr}{H H':Hp}{o:HO} (s:Same H H') (h:H q=none):Same H (upd H' q o):=fun b u e=>by rw[upd_ne (ne_of_none e h)]; exact s b u e
theorem _root_.L2.Same.tup {K:PySem.W.Frag}{H H':Hp}{a:Addr}{xs:List V} (e:Same H H') (h:SqT K H a xs):SqT K H' a xs:=by
  rcases h with (h | ⟨o,h⟩) | h
  · exact .inl (.inl (e _ _ h))
  · exact .inl (.inr ⟨o,e _ _ h⟩)
  · exact .inr h
theorem ixN_of {n:Nat}{x:Int} (h0:0<=x) (h1:x<n):ixN n x=some x.toNat:=by
  unfold ixN
  rw[if_pos h0,if_pos h1]
theorem atI_int {fs:List Int}{x:Int} (h0:0<=x) (h1:x<fs.length):atI (fs.map V.int) x=some (.int (fs.getD x.toNat 0)):=by
  unfold atI
  have hx:x.toNat<fs.length:=by omega
  rw[List.length_map,ixN_of h0 h1]
  show (fs.map V.int)[x.toNat]?=_
  rw[List.getElem?_map,List.getElem?_eq_getElem hx,List.getD_eq_getElem?_getD,List.getElem?_eq_getElem hx]
  rfl
theorem atI_head {c0:Int}{cr:List Int}:atI ((c0::cr).map V.int) 0=some (.int c0):=atI_nat (j:=0) rfl
theorem all_true (n:Nat):(List.replicate n true).all id=true:=by
  rw[List.all_eq_true]
  intro b hb
  exact (List.mem_replicate.mp hb).2
theorem cut2 {a b R:TS}{D:Ends}{σ:St}{H:Hp} (M:St->Hp->Prop) (h1:∀ R':TS,(∀ σ' H',M σ' H'->R' D σ' H')->tSeq a (tSeq b R') D σ H) (h2:∀ σ' H',M σ' H'->R D σ' H'):tSeq a (tSeq b R) D σ H:=h1 R h2
theorem cutG {i:Nat}{x:V}{a R:TS}{D:Ends}{σ:St}{H:Hp} (M:St->Hp->Prop) (h1:∀ R':TS,(∀ σ' H',M σ' H'->R' D σ' H')->gName i x σ H (tSeq a R' D)) (h2:∀ σ' H',M σ' H'->R D σ' H'):gName i x σ H (tSeq a R D):=h1 R h2
def Sm (p:Addr) (H H':Hp):Prop:=∀ b o,H b=some o->b≠p->H' b=some o
theorem Sm.trans {p:Addr}{H H1 H2:Hp} (a:Sm p H H1) (b:Sm p H1 H2):Sm p H H2:=fun c o h n=>b c o (a c o h n) n
theorem Sm.refl (p:Addr) (H:Hp):Sm p H H:=fun _ _ h _=>h
theorem Sm.of {p:Addr}{H H':Hp} (h:Same H H'):Sm p H H':=fun b o e _=>h b o e
theorem Sm.new {p q:Addr}{H:Hp}{o:HO} (h:H q=none):Sm p H (upd H q o):=fun b u e _=>by rw[upd_ne (ne_of_none e h)]; exact e
theorem Sm.put {p:Addr}{H:Hp}{o:HO}:Sm p H (upd H p o):=fun b u e n=>by rw[upd_ne n]; exact e
theorem Sm.free {p q:Addr}{H H':Hp} (s:Sm p H H') (hn:q≠p) (h:H' q=none):H q=none:=by
  cases e:H q with
  | none=>rfl
  | some o=>rw[s q o e hn] at h; cases h
theorem Sm.after {p:Addr}{H H1 H2:Hp} (s:Same H H1) (m:Sm p H1 H2) (h:H p=none):Same H H2:=fun b o e=>m b o (s b o e) (ne_of_none e h)
def spWhole:Sp:=fun vs H Q _=>∃ i,vs=[.int i]/\Q (.bl true) H
theorem bits_small {m:Int} (h0:0<=m) (h1:m<2 ^ 64):Builtin.Int.intBits m<=8000:=Nat.le_trans (intBits_le_64 (by omega) h1) (by decide)
def nextC (c:List Int):List Int:=(c.tail.map (c.getD 0 0+·))++[c.getD 0 0]
def firstC (p:Nat):List Int:=1::List.replicate (p - 1) 0
def cnt (p:Nat):Nat->List Int
  | 0=>firstC p
  | n+1=>nextC (cnt p n)
theorem nextC_len {c:List Int} (h:c≠[]):(nextC c).length=c.length:=by
  cases c with
  | nil=>exact absurd rfl h
  | cons x r=>simp[nextC]
theorem cnt_len {p:Nat} (hp:1<=p):∀ n,(cnt p n).length=p
  | 0=>by simp[cnt,firstC]; omega
  | n+1=>by
    have:=cnt_len hp n
    show (nextC (cnt p n)).length=p
    rw[nextC_len (by intro z; rw[z] at this; simp at this; omega),this]
def Down (c:List Int):Prop:=c.Pairwise (· ≥ ·)/\∀ x∈c,0<=x
theorem down_next {c:List Int} (h:Down c):Down (nextC c):=by
  cases c with
  | nil=>exact⟨by simp[nextC],by intro x hx; simp[nextC] at hx; omega⟩
  | cons a r=>
    obtain⟨h1,h2⟩:=h
    have h3:=List.pairwise_cons.mp h1
    have h0:0<=a:=h2 a (by simp)
    refine⟨?_,?_⟩
    · show ((r.map (a+·))++[a]).Pairwise (· ≥ ·)
      rw[List.pairwise_append]
      refine⟨?_,by simp,?_⟩
      · rw[List.pairwise_map]
        exact h3.2.imp fun h=>by omega
      · intro x hx y hy
        obtain⟨z,hz,rfl⟩:=List.mem_map.mp hx
        have:=h2 z (by simp[hz])
        have:y=a:=by simpa using hy
        omega
    · show ∀ x∈(r.map (a+·))++[a],0<=x
      intro x hx
      rcases List.mem_append.mp hx with hx | hx
      · obtain⟨z,hz,rfl⟩:=List.mem_map.mp hx
        have:=h2 z (by simp[hz])
        omega
      · have:x=a:=by simpa using hx
        omega
theorem down_cnt (p:Nat):∀ n,Down (cnt p n)
  | 0=>by
    refine⟨?_,?_⟩
    · show (1::List.replicate (p - 1) (0:Int)).Pairwise (· ≥ ·)
      rw[List.pairwise_cons]
      refine⟨fun y hy=>?_,?_⟩
      · have:=(List.mem_replicate.mp hy).2
        omega
      · rw[List.pairwise_replicate]
        exact .inr (Int.le_refl _)
    · intro x hx
      rcases List.mem_cons.mp hx with rfl | hx
      · decide
      · have:=(List.mem_replicate.mp hx).2
        omega
  | n+1=>down_next (down_cnt p n)
def spWays:Sp:=fun vs H Q _=>∃ i,vs=[.int i]/\2<=i/\i<=7/\Q .non H
def spFirst:Sp:=fun vs H Q _=>∃ p:Nat,vs=[.int p]/\2<=p/\p<=7/\∀ l H',H l=none->H' l=some (.tup ((firstC p).map V.int))->Same H H'->Q (.ref l) H'
def spNext (K:PySem.W.Frag):Sp:=fun vs H Q _=>∃ (a:Addr) (c:List Int),vs=[.ref a]/\SqT K H a (c.map V.int)/\2<=c.length/\c.length<=7/\∀ l H',H l=none->H' l=some (.tup ((nextC c).map V.int))->Same H H'->Q (.ref l) H'
def spCounts:Sp:=fun vs H Q _=>∃ p n:Nat,vs=[.int p,.int n]/\2<=p/\p<=7/\n<=300/\∀ l H',H l=none->H' l=some (.tup ((cnt p n).map V.int))->Same H H'->Q (.ref l) H'
def spTotal:Sp:=fun vs H Q _=>∃ p n:Nat,vs=[.int p,.int n]/\2<=p/\p<=7/\n<=300/\∀ H',Same H H'->Q (.int (cnt p n).sum) H'
def spLaw (K:PySem.W.Frag):Sp:=fun vs H Q _=>∃ (a:Addr) (ns:List Int),vs=[.ref a]/\SqL K H a (ns.map V.int)/\ns.length<=63/\∀ H',Q (.bl true) H'
end Lv
namespace Lv
open PySem L2 PySem.Spec PyProof.Rows
structure FunD (K:PySem.W.Frag) (x qual:Str) (st:Stmt) (f da:Addr) (fd:FuncData):Prop where
  ex:∃ (oc:Value) (od:Option Addr) (kV doc pm:Value) (an:Option Addr) (cdv ct:Value) (osl:Array (Option Value)),
    fd=PySem.W.fnOf x qual (defArgs st) (defBody st) (defScope st) (.ref da) kV doc pm an cdv ct/\K.lookup f=some ⟨oc,od,.func fd,osl⟩/\PySem.W.codeIn K cdv qual=true
  kp:PySem.W.keepIn K (.ref f)=true
section
variable {P:Program}{w:World}{K:PySem.W.Frag}{mg:Str->Option Value}{base:Heap}
theorem FunD.ok {x qual : Str} {st : Stmt} {f da : Addr} {fd : FuncData} {N ps : List Str} {k : Nat} {sp : Sp} (F : FunD K x qual st f da fd) (S : FnScope N ps (defScope st)) (len : ∀ vs H Q E, sp vs H Q E → vs.length = ps.length)
    (hbody:∀ (cdv:Value) (A:Around) (outer:List Env) (s:Shared) (H:Hp) (vs:List V) (Q:VK) (E:XK),Room k (A.deeper (envOfC qual (defScope st) s.heap.objs.size f cdv))->sp vs H Q E ->
      ∃ t,PSs (cxOf CX0 P w K mg base N qual (defScope st) f cdv A outer s H E).nox (defBody st) t/\t { nx:=fun _ H'=>Q .non H',rt:=Q } (start N vs) H):FnOk P w K mg base CX0 (k+1) f fd ps sp:=by
  obtain⟨oc,od,kV,doc,pm,an,cdv,ct,osl,rfl,lk,hcd⟩:=F.ex
  refine fn_of lk hcd S len fun A outer s H vs Q E hr hsp=>?_
  obtain⟨t,h,q⟩:=hbody cdv A outer s H vs Q E hr hsp
  exact⟨t,h.nox,q⟩
theorem FunD.binds {x qual : Str} {st : Stmt} {f da : Addr} {fd : FuncData} {ps : List Str} {o : Obj} {items : Array Value} {n : Nat} (F : FunD K x qual st f da fd) (ho : K.lookup da = some o) (hs : o.data = .seq items n) (ds : List Value) (qs : List Str) (hq : qs.length + ds.length = ps.length)
    (h:∀ (kV doc pm:Value) (an:Option Addr) (cdv ct:Value) (us:List Value),us.length=qs.length ->
      ∃ k:Option (Array Value)->Sem (List (Str × Value)),bindArgs (PySem.W.fnOf x qual (defArgs st) (defBody st) (defScope st) (.ref da) kV doc pm an cdv ct) ⟨us,[]⟩=seqItems? (.ref da) >>= k/\k (some items)=pure (ps.zip (us++ds))):Binds K fd ps ds:=by
  obtain⟨oc,od,kV,doc,pm,an,cdv,ct,osl,rfl,lk,hcd⟩:=F.ex
  intro s us X hl
  obtain⟨k,h1,h2⟩:=h kV doc pm an cdv ct us (by rw[List.length_append] at hl; omega)
  exact PySem.W.binds_K X rfl ho hs h1 h2
theorem funD_mk {x qual : Str} {st : Stmt} {f da : Addr} {oc : Value} {od an : Option Addr} {osl : Array (Option Value)} {kV doc pm cdv ct : Value} (l : K.lookup f = some ⟨oc, od, .func (PySem.W.fnOf x qual (defArgs st) (defBody st) (defScope st) (.ref da) kV doc pm an cdv ct), osl⟩)
    (c:PySem.W.codeIn K cdv qual=true) (k:PySem.W.keepIn K (.ref f)=true):FunD K x qual st f da (PySem.W.fnOf x qual (defArgs st) (defBody st) (defScope st) (.ref da) kV doc pm an cdv ct):=⟨⟨oc,od,kV,doc,pm,an,cdv,ct,osl,rfl,l,c⟩,k⟩
end
structure CalD (P:Program) (w:World) (K:PySem.W.Frag) (mg:Str->Option Value) (base:Heap) (k:Nat) (x:Str) (ps:List Str) (dvs:List V) (sp:Sp) (f:Addr) (fd:FuncData):Prop where
  ok:FnOk P w K mg base CX0 k f fd ps sp
  mg:mg x=some (.ref f)
  kp:PySem.W.keepIn K (.ref f)=true
  bd:∃ ds,Binds K fd ps ds/\Vals dvs ds
theorem pe_calD {X : Cx} {k : Nat} {x : Str} {ps : List Str} {dvs : List V} {sp : Sp} {f : Addr} {fd : FuncData} {e : Expr} {es : List Expr} {t : TA} {p pos : Pos} (C : CalD X.prog X.w X.K X.mg X.base k x ps dvs sp f fd) (hr : Room k X.A) (hg : Gl X x) (ha : PA X (e :: es) t)
    (hdb:(x == ("__debug__":Str))=false:=by decide) (he:starEach (e::es) X.env=(false,eval e X.env)::starEach es X.env:=by rfl) (hpl:(backTo pos (starEach es X.env)).any (·.1)=false:=by rfl) :
    PE X (.Call (.Name x p) (e::es) [] pos) (tCall sp dvs E0 t):=by
  obtain⟨ds,h1,h2⟩:=C.bd
  exact pe_call C.ok hr hg C.mg C.kp h1 h2 pass0 ha hdb he hpl
def tCallV (j:Nat) (f:Addr) (t:TE):TE:=fun σ H Q=>σ[j]?=some (some (.ref f))/\t σ H Q
theorem pe_calV {X : Cx} {k : Nat} {x y : Str} {ps : List Str} {sp : Sp} {f : Addr} {fd : FuncData} {e : Expr} {es : List Expr} {t : TA} {p pos : Pos} (j : Nat) (C : Cal X.prog X.w X.K X.mg X.base k y ps sp f fd) (hr : Room k X.A) (ha : PA X (e :: es) t) (hN : X.N[j]? = some x := by rfl) (hv : Vis X.env.scope x := by first | exact Or.inl rfl | exact Or.inr (Or.inl rfl) | exact Or.inr (Or.inr rfl))
    (hdb:(x == ("__debug__":Str))=false:=by decide) (hcd:(x == ("__classdict__":Str))=false:=by decide) (he:starEach (e::es) X.env=(false,eval e X.env)::starEach es X.env:=by rfl) (hpl:(backTo pos (starEach es X.env)).any (·.1)=false:=by rfl) :
    PE X (.Call (.Name x p) (e::es) [] pos) (tCallV j f (tCall sp [] E0 t)):=by
  intro pins s σ H Q I h
  obtain⟨h0,h⟩:=h
  refine wpAny_Call_Name_kw ?_
  refine thn (pe_var hN hv hdb hcd pins s σ H (fun v H1=>v=.ref f/\t σ H1 fun vs H2=>sp (vs++[]) H2 Q E0) I ⟨_,h0,rfl,h⟩) fun u s1 ⟨v,H1,I1,r,ev,q⟩=>?_
  subst ev
  obtain rfl:u=Value.ref f:=r
  refine PySem.W.callWith_K (h₀:=X.base) I.ok.mod.kin C.kp (thn (ha pos pins s1 σ H1 _ I1 q) fun us s2 ⟨vs,H2,I2,r2,q2⟩=>⟨I2.kIn,?_⟩) he hpl
  exact run_fn C.ok hr C.bd .nil pass0 I2 r2 q2
theorem pe_gfn {X:Cx}{k:Nat}{x:Str}{ps:List Str}{sp:Sp}{f:Addr}{fd:FuncData}{pos:Pos} (C:Cal X.prog X.w X.K X.mg X.base k x ps sp f fd) (hg:Gl X x) (hd:(x == ("__debug__":Str))=false:=by decide):PE X (.Name x pos) (tC (.ref f)) :=
  pe_glob hg C.mg rfl hd
def spLevelD:Sp:=fun vs H Q _=>∃ i m,vs=[.int i,.int m]/\0<=i/\i<=m/\Q .non H
end Lv
namespace Lv
open PySem L2 PySem.Spec PyProof.Rows
end Lv
namespace Lv
open PySem L2
def hd (p n:Nat):Int:=(cnt p n).getD 0 0
def tot (p n:Nat):Int:=(cnt p n).sum
theorem cnt_cons {p:Nat} (hp:2<=p) (n:Nat):∃ a b r,cnt p n=a::b::r/\r.length=p - 2:=by
  have h:=cnt_len (p:=p) (by omega) n
  match hc:cnt p n with
  | []=>rw[hc] at h; simp at h; omega
  | [x]=>rw[hc] at h; simp at h; omega
  | a::b::r=>rw[hc] at h; exact⟨a,b,r,rfl,by simp at h; omega⟩
theorem hd_pos {p:Nat} (hp:2<=p):∀ n,1<=hd p n
  | 0=>by simp[hd,cnt,firstC]
  | n+1=>by
    obtain⟨a,b,r,e,_⟩:=cnt_cons hp n
    have ih:=hd_pos hp n
    have nn:=(down_cnt p n).2 b (by rw[e]; simp)
    unfold hd at ih ⊢
    show 1<=(nextC (cnt p n)).getD 0 0
    rw[e] at ih ⊢
    simp[nextC] at ih ⊢
    omega
theorem sum_add (c:Int):∀ r:List Int,(r.map (c+·)).sum=r.length*c+r.sum
  | []=>by simp
  | x::r=>by
    rw[List.map_cons,List.sum_cons,sum_add c r,List.sum_cons,List.length_cons,Int.natCast_succ,Int.add_mul]
    omega
theorem sum_next (a:Int) (r:List Int):(nextC (a::r)).sum=(a::r).sum+r.length*a:=by
  show ((r.map (a+·))++[a]).sum=_
  rw[List.sum_append,sum_add,List.sum_cons,List.sum_cons,List.sum_nil]
  omega
theorem tot_succ {p:Nat} (hp:2<=p) (n:Nat):tot p (n+1)=tot p n+(p - 1:Nat)*hd p n:=by
  obtain⟨a,b,r,e,hr⟩:=cnt_cons hp n
  unfold tot hd
  show (nextC (cnt p n)).sum=_
  rw[e,sum_next]
  have:(b::r).length=p - 1:=by simp; omega
  rw[this]
  rfl
theorem tot_lt {p:Nat} (hp:2<=p) (n:Nat):tot p n+1<=tot p (n+1):=by
  rw[tot_succ hp]
  have h1:=hd_pos hp n
  have h2:((1:Nat):Int)*1<=((p - 1:Nat):Int)*hd p n:=Int.mul_le_mul (by omega) h1 (by decide) (by omega)
  omega
theorem tot_mono {p:Nat} (hp:2<=p) {m n:Nat} (h:m<=n):tot p m<=tot p n:=by
  induction n with
  | zero => have : m = 0 := by omega
            subst this; exact Int.le_refl _
  | succ n ih=>
    by_cases e:m=n+1
    · subst e; exact Int.le_refl _
    · have:=ih (by omega)
      have:=tot_lt hp n
      omega
end Lv
namespace Lv
open PySem L2
theorem pgK_tup (K:PySem.W.Frag) {X:Cx}{es:List Expr}{k:Nat}{t:TGs}{n:Nat}{pos:Pos} (hc:X.calm=true) (h:PGs X es t) (hK:X.K=K:=by rfl) (hn:(assignEach es X.env).length=n:=by rfl) (hst:(assignEach es X.env).findIdx? (·.1)=none:=by rfl):PG X (.Tuple es k pos) (gTup K n t):=by
  subst hK; exact pg_tup hc h hn hst
end Lv
namespace HT
open PySem PySem.Spec PyProof.Rows
section
variable {prog:Program}{w:World}{A:Around}{E:Value->Shared->Prop}{s:Shared}
end
end HT
namespace L2
open PySem PySem.Spec PyProof.Rows PySem.SeqAt
inductive TyA (H:Hp):V->String->Prop
  | non:TyA H .non "NoneType"
  | int (i:Int):TyA H (.int i) "int"
  | bl (b:Bool):TyA H (.bl b) "bool"
  | str (x:Str):TyA H (.str x) "str"
  | lst {a:Addr}{xs:List V} (e:H a=some (.lst xs)):TyA H (.ref a) "list"
  | tup {a:Addr}{xs:List V} (e:H a=some (.tup xs)):TyA H (.ref a) "tuple"
  | dK {a:Addr}{kvs:List (Key × V)} (e:H a=some (.dK kvs)):TyA H (.ref a) "dict"
section
variable {X:Cx}
end
end L2
namespace Lv
open PySem L2
def PotC (H:Hp) (p:Addr) (c:Int):Prop:=∃ a b m:Int,H p=some (.lst [.int a,.int b,.int m])/\0<=b/\b<=c/\0<=m/\m<2147483647
theorem PotC.put {H:Hp}{p q:Addr}{o:HO}{c:Int} (h:PotC H p c) (hq:H q=none):PotC (upd H q o) p c:=by
  obtain⟨a,b,m,e,z⟩:=h
  exact⟨a,b,m,by rw[upd_ne (ne_of_none e hq)]; exact e,z⟩
theorem PotC.ne {H:Hp}{p q:Addr}{c:Int} (h:PotC H p c) (hq:H q=none):q≠p:=by
  obtain⟨a,b,m,e,_⟩:=h
  exact Ne.symm (ne_of_none e hq)
theorem PotC.same {H H':Hp}{p:Addr}{c:Int} (h:PotC H p c) (s:Same H H'):PotC H' p c:=by
  obtain⟨a,b,m,e,z⟩:=h
  exact⟨a,b,m,s p _ e,z⟩
theorem PotC.up {H:Hp}{p:Addr}{c d:Int} (h:PotC H p c) (hd:c<=d):PotC H p d:=by
  obtain⟨a,b,m,e,z1,z2,z⟩:=h
  exact⟨a,b,m,e,z1,by omega,z⟩
theorem PotC.off {H:Hp}{p q:Addr}{o:HO}{c:Int} (h:PotC H p c) (hq:q≠p):PotC (upd H q o) p c:=by
  obtain⟨a,b,m,e,z⟩:=h
  exact⟨a,b,m,by rw[upd_ne (Ne.symm hq)]; exact e,z⟩
theorem Sm.putC {p q:Addr}{H H2:Hp}{o:HO} (s:Sm p H H2) (h:H q=none):Sm p H (upd H2 q o):=fun b u e n=>by
  rw[upd_ne (ne_of_none e h)]
  exact s b u e n
def spBegun:Sp:=fun vs H Q _=>∃ z:Int,vs=[.int z]/\∀ p H',H p=none->PotC H' p 0->Same H H'->Q (.ref p) H'
def spTakeC:Sp:=fun vs H Q _=>∃ (p:Addr) (m c:Int),vs=[.ref p,.int m]/\PotC H p c/\c<=1000000000/\0<m/\Builtin.Int.intBits m<=8000/\∀ d H',0<=d->d<m->PotC H' p (c+1)->Sm p H H'->Q (.int d) H'
def spFold (K:PySem.W.Frag):Sp:=fun vs H Q _=>∃ (a:Addr) (ns:List Int) (m:Nat),vs=[.ref a,.int m]/\SqL K H a (ns.map V.int)/\ns.length<=63/\1<=m/\m<=50/\∀ l (fs:List Int) H',H l=none->H' l=some (.lst (fs.map V.int))->fs.length<=50->Same H H'->Q (.ref l) H'
def big61:Int:=10000000000000000000000000000000000000000000000000000000000000
def upI:List Int->Bool
  | []=>true
  | [_]=>true
  | a::b::r=>decide (a<=b) && upI (b::r)
inductive El (H:Hp):V->Prop
  | int {z:Int} (h1:-big61 - 2<z) (h2:z<big61+2):El H (.int z)
  | bl (b:Bool):El H (.bl b)
  | non:El H .non
  | str {x:Str} (h:x.length<=400) (hc:∀ c∈x.cps.toList,c<16 ^ 8):El H (.str x)
  | lst {a:Addr}{zs:List Int} (e:H a=some (.lst (zs.map V.int))) (hl:zs.length<=3) (hb:∀ z∈zs,-big61 - 2<z/\z<big61+2):El H (.ref a)
  | tup {a:Addr}{zs:List Int} (e:H a=some (.tup (zs.map V.int))) (hl:zs.length<=3) (hb:∀ z∈zs,-big61 - 2<z/\z<big61+2):El H (.ref a)
inductive Lf (H:Hp):V->Prop
  | non:Lf H .non
  | int (i:Int) (h:i=7):Lf H (.int i)
  | bl (b:Bool):Lf H (.bl b)
  | str (x:Str):Lf H (.str x)
  | d0 {a:Addr} (e:H a=some (.dK [])):Lf H (.ref a)
  | d1 {a:Addr} (e:H a=some (.dK [(.inl 1,.int 2)])):Lf H (.ref a)
structure Sh (d:PyData) (n:Nat):Prop where
  ok:d.showable=true
  nd:d.hasDict=false
  dp:d.depth<=1
  sz:d.shown.length<=n
end Lv
namespace L2
open PySem PySem.Spec PyProof.Rows PySem.SeqAt
section
variable {X:Cx}
end
end L2
namespace Lv
open PySem L2
def Free (N:List (List Int)) (m:List Nat) (o:Int):Prop:=0<=o/\o<N.length/\m.getD o.toNat 0≠(N.getD o.toNat []).length
instance (N:List (List Int)) (m:List Nat) (o:Int):Decidable (Free N m o):=by unfold Free; infer_instance
def nextM (m:List Nat) (o:Int):List Nat:=m.set o.toNat (m.getD o.toNat 0+1)
def atO (N:List (List Int)) (m:List Nat) (o:Int):Int:=(N.getD o.toNat []).getD (m.getD o.toNat 0) 0
def hold (N:List (List Int)):List Nat->List Int->List Int->Option (List Nat × List Int)
  | m,t,[]=>some (m,t)
  | m,t,o::os=>if Free N m o then hold N (nextM m o) (t++[atO N m o]) os else none
def InM (N:List (List Int)) (m:List Nat):Prop:=m.length=N.length/\∀ j,j<N.length->m.getD j 0<=(N.getD j []).length
end Lv
namespace Lv
open PySem L2
def lenN (N:List (List Int)):List Nat:=N.map List.length
def opn (N:List (List Int)) (m:List Nat) (j:Nat):Bool:=decide (m.getD j 0<(N.getD j []).length)
def opnL (N:List (List Int)) (m:List Nat):List Nat:=(List.range N.length).filter (opn N m)
structure OrS (N:List (List Int)) (m:List Nat) (t os:List Int):Prop where
  hd:hold N (N.map fun _=>0) [] os=some (m,t)
  up:upI t=true
  lst:∀ l,t.getLast?=some l->∀ j∈opnL N m,l<=atO N m j
  inm:InM N m
  sm:m.sum=os.length
end Lv
namespace L2
open PySem PySem.Spec PyProof.Rows
abbrev two (elt t1 i1:Expr) (f1:List Expr) (t2 i2:Expr) (f2:List Expr) (scope:Scope) (pos:Pos):Expr:=.ListComp elt [⟨t1,i1,f1,0⟩,⟨t2,i2,f2,0⟩] scope pos
theorem turn_two0 (elt t1 i1 : Expr) (f1 : List Expr) (t2 i2 : Expr) (f2 : List Expr) (scope : Scope) (pos : Pos) (it acc : Value) (env : Env) :
    compTurn (two elt t1 i1 f1 t2 i2 f2 scope pos) 0 it acc env=(do
      standAt i1.pos
      match <- pyNext it with
      | none=>pure (.done .next)
      | some v=>
        letOwnedTupleGo t1 it v
        assign t1 env v
        let mut ok:=true
        for c in f1 do
          if ok then ok <- isTrue c env (eval c env)
        if ok then
          let x <- eval i2 env
          standAt i2.pos
          let x <- foldedSetIterable i2 env x
          let _ <- runOwn (.compStart (two elt t1 i1 f1 t2 i2 f2 scope pos) 1 (<- holding [x] (pyIter x)) acc env) env
        again (.compLoop (two elt t1 i1 f1 t2 i2 f2 scope pos) 0 it acc env)):=by rfl
theorem turn_two1 (elt t1 i1 : Expr) (f1 : List Expr) (t2 i2 : Expr) (f2 : List Expr) (scope : Scope) (pos : Pos) (it acc : Value) (env : Env) :
    compTurn (two elt t1 i1 f1 t2 i2 f2 scope pos) 1 it acc env=(do
      standAt i2.pos
      match <- pyNext it with
      | none=>pure (.done .next)
      | some v=>
        letOwnedTupleGo t2 it v
        assign t2 env v
        let mut ok:=true
        for c in f2 do
          if ok then ok <- isTrue c env (eval c env)
        if ok then
          (do let _ <- call (.builtin "list.append") [acc,<- eval elt env])
        again (.compLoop (two elt t1 i1 f1 t2 i2 f2 scope pos) 1 it acc env)):=by rfl
section
variable {prog:Program}{w:World}{A:Around}{R:Result->Shared->Prop}{s:Shared}{elt t1 i1:Expr}{f1:List Expr}{t2 i2:Expr}{f2:List Expr}{scope:Scope}{pos:Pos}{it acc:Value}{env:Env}
theorem loop_two1 (I : Nat → Shared → Prop)
    (turn:∀ n s,I n s->wpAny (model prog w) A (pyNext it) (fun r s₁=>match r with
      | none=>R (.ok .next) s₁
      | some v => wpAny (model prog w) A (letOwnedTupleGo t2 it v) (fun _ s₁' => wpAny (model prog w) A (assign t2 env v) (fun _ s₂ =>
          wpAny (model prog w) A (forIn f2 true fun c r=>if r=true then do let ok <- isTrue c env (eval c env); pure (ForInStep.yield ok) else pure (ForInStep.yield r)) (fun ok s₃=>
            if ok=true then wpAny (model prog w) A (eval elt env) (fun x s₄=>
              wpAny (model prog w) A (call (.builtin "list.append") [acc,x]) (fun _ s₅=>∃ m,m<n/\I m s₅) (fun _ _=>False) s₄) (fun _ _=>False) s₃
            else ∃ m,m<n/\I m s₃) (fun _ _=>False) s₂) (fun _ _=>False) s₁') (fun _ _=>False) s₁) (fun _ _=>False) s)
    (n:Nat) (h:I n s):codeAny (model prog w) A (.compLoop (two elt t1 i1 f1 t2 i2 f2 scope pos) 1 it acc env) R s:=by
  refine codeAny_loop rfl I (fun n s hI=>?_) n h
  show wpAny _ A ((compTurn (two elt t1 i1 f1 t2 i2 f2 scope pos) 1 it acc env).onRaise (fun x=>do noteFrame x env; theTreesLotGoes x)) _ _ s
  refine wpAny_noted ?_
  rw[turn_two1]
  refine wpAny_bind (wpAny_standAt (wpAny_bind (wpAny_mono (turn n s hI) (fun r s₁ h₁=>?_) fun _ _ h'=>h'.elim)))
  cases r with
  | none=>exact wpAny_pure h₁
  | some v=>
    refine wpAny_bind (wpAny_mono h₁ (fun _ s₁' h₁=>?_) fun _ _ h'=>h'.elim)
    refine wpAny_bind (wpAny_mono h₁ (fun _ s₂ h₂=>wpAny_bind (wpAny_mono h₂ (fun ok s₃ h₃=>?_) fun _ _ h'=>h'.elim)) fun _ _ h'=>h'.elim)
    cases ok with
    | false=>exact wpAny_pure ⟨rfl,h₃⟩
    | true=>
      exact wpAny_bind (wpAny_bind (wpAny_mono h₃ (fun x s₄ h₄=>wpAny_bind (wpAny_mono h₄ (fun _ s₅ h₅=>wpAny_pure (wpAny_pure ⟨rfl,h₅⟩)) fun _ _ h'=>h'.elim)) fun _ _ h'=>h'.elim))
theorem start_two1
    (h0:codeAny (model prog w) A (.compLoop (two elt t1 i1 f1 t2 i2 f2 scope pos) 1 it acc env) R s)
    (h:wpAny (model prog w) A (pyIter it) (fun it' s'=>codeAny (model prog w) A (.compLoop (two elt t1 i1 f1 t2 i2 f2 scope pos) 1 it' acc env) R s')
      (notedBy (model prog w) A env fun x s'=>R (.error x) s') s) :
    codeAny (model prog w) A (.compStart (two elt t1 i1 f1 t2 i2 f2 scope pos) 1 it acc env) R s:=by
  refine codeAny_of_tree ?_
  show wpAny _ _ ((compStart (two elt t1 i1 f1 t2 i2 f2 scope pos) 1 it acc env).onRaise (fun x=>do noteFrame x env; standAt theWindowsPlace)) _ _ s
  refine wpAny_notedAt ?_
  unfold compStart
  show wpAny _ _ (ask >>= _) _ _ s
  refine wpAny_bind (wpAny_askSetting (wpAny_ite ?_))
  split
  · first
      | exact wpAny_bind (wpAny_pure (wpAny_pure (And.intro rfl h0)))
      | exact wpAny_pure (And.intro rfl h0)
  · refine wpAny_bind (wpAny_rule ?_)
    show wpAny _ _ (standAt i2.pos >>= _) _ _ s
    exact wpAny_bind (wpAny_standAt (wpAny_bind (wpAny_mono h (fun it' s' h'=>wpAny_pure (And.intro rfl h')) fun _ _ x=>x)))
theorem loop_two0 (I : Nat → Shared → Prop) (hs : ∀ x, foldedSetIterable i2 env x = pure x)
    (turn:∀ n s,I n s->wpAny (model prog w) A (pyNext it) (fun r s₁=>match r with
      | none=>R (.ok .next) s₁
      | some v => wpAny (model prog w) A (letOwnedTupleGo t1 it v) (fun _ s₁' => wpAny (model prog w) A (assign t1 env v) (fun _ s₂ =>
          wpAny (model prog w) A (forIn f1 true fun c r=>if r=true then do let ok <- isTrue c env (eval c env); pure (ForInStep.yield ok) else pure (ForInStep.yield r)) (fun ok s₃=>
            if ok=true then wpAny (model prog w) A (eval i2 env) (fun x s₄=>wpAny (model prog w) A (pyIter x) (fun itv s₅=>
              codeAny (model prog w) A (.compStart (two elt t1 i1 f1 t2 i2 f2 scope pos) 1 itv acc env) (fun r s₆=>∃ fl,r=.ok fl/\∃ m,m<n/\I m s₆) s₅) (fun _ _=>False) s₄) (fun _ _=>False) s₃
            else ∃ m,m<n/\I m s₃) (fun _ _=>False) s₂) (fun _ _=>False) s₁') (fun _ _=>False) s₁) (fun _ _=>False) s)
    (n:Nat) (h:I n s):codeAny (model prog w) A (.compLoop (two elt t1 i1 f1 t2 i2 f2 scope pos) 0 it acc env) R s:=by
  refine codeAny_loop rfl I (fun n s hI=>?_) n h
  show wpAny _ A ((compTurn (two elt t1 i1 f1 t2 i2 f2 scope pos) 0 it acc env).onRaise (fun x=>do noteFrame x env; theTreesLotGoes x)) _ _ s
  refine wpAny_noted ?_
  rw[turn_two0]
  refine wpAny_bind (wpAny_standAt (wpAny_bind (wpAny_mono (turn n s hI) (fun r s₁ h₁=>?_) fun _ _ h'=>h'.elim)))
  cases r with
  | none=>exact wpAny_pure h₁
  | some v=>
    refine wpAny_bind (wpAny_mono h₁ (fun _ s₁' h₁=>?_) fun _ _ h'=>h'.elim)
    refine wpAny_bind (wpAny_mono h₁ (fun _ s₂ h₂=>wpAny_bind (wpAny_mono h₂ (fun ok s₃ h₃=>?_) fun _ _ h'=>h'.elim)) fun _ _ h'=>h'.elim)
    cases ok with
    | false=>exact wpAny_pure ⟨rfl,h₃⟩
    | true=>
      refine wpAny_bind (wpAny_mono h₃ (fun x s₄ h₄=>wpAny_bind (wpAny_standAt ?_)) fun _ _ h'=>h'.elim)
      rw[hs]
      refine wpAny_bind (wpAny_pure (wpAny_bind (wpAny_holding (wpAny_mono h₄ (fun itv s₅ h₅=>?_) fun _ _ h'=>h'.elim))))
      refine wpAny_bind (wpAny_runOwn (h:=none) (codeAny_mono h₅ fun r s₆ ⟨fl,er,h₆⟩=>?_))
      subst er
      exact wpAny_pure ⟨rfl,h₆⟩
end
end L2
namespace L2
open PySem PySem.Spec PyProof.Rows
def tInW (g2:TG) (tt2:TT) (te:TE) (τ:St) (acc:Addr) (J2:It) (H6:Hp) (Z:Hp->Prop):Prop :=
  ∃ (W2:Nat->Hp->Prop) (n2:Nat),W2 0 H6/\∀ k H7,W2 k H7->(J2.stop k H7/\Z H7)∨(k<n2/\J2.go k H7/\∀ y H8,J2.yld k H7 y H8->g2 y τ H8 fun τ2 H9=>tt2 τ2 H9 fun c H10=>
    if c=true then te τ2 H10 fun z H11=>∃ ys,H11 acc=some (.lst ys)/\ys.length<sizeLine/\W2 (k+1) (upd H11 acc (.lst (ys++[z]))) else W2 (k+1) H10)
def tComp2W (own:List Str) (js:List Nat) (g1:TG) (tt1:TT) (wi2:TI) (g2:TG) (tt2:TT) (te:TE) (σ:St) (J:It) (H1:Hp) (Q:VK):Prop :=
  ∀ acc,H1 acc=none->∃ (W:Nat->Hp->Prop) (n:Nat),W 0 (upd H1 acc (.lst []))/\∀ i H2,W i H2 ->
    (J.stop i H2/\Q (.ref acc) H2)∨(i<n/\J.go i H2/\∀ x H3,J.yld i H2 x H3->g1 x (blkσ own js σ) H3 fun τ H4=>tt1 τ H4 fun c H5=>
      if c=true then wi2 τ H5 fun J2 H6=>tInW g2 tt2 te τ acc J2 H6 (W (i+1)) else W (i+1) H5)
def tComp2 (own:List Str) (js:List Nat) (wi:TI) (g1:TG) (tt1:TT) (wi2:TI) (g2:TG) (tt2:TT) (te:TE):TE:=fun σ H Q=>wi σ H fun J H1=>tComp2W own js g1 tt1 wi2 g2 tt2 te σ J H1 Q
def Unset (fr:List Nat) (τ:St):Prop:=∀ i∈fr,∀ v,τ[i]?≠some (some v)
def GKeepF (own:List Str) (fr:List Nat) (g:TG):Prop:=∀ (js:List Nat) (σ:St) (x:V) (H:Hp) (Q:St->Hp->Prop),g x (blkσ own js σ) H Q ->
  g x (blkσ own js σ) H fun τ H'=>((∀ (j:Nat) v,(blkσ own js σ)[j]?=some (some v)->τ[j]?=some (some v))/\Unset fr τ)/\Q τ H'
def GKeepT (fr:List Nat) (g:TG):Prop:=∀ (τ:St),Unset fr τ->∀ (x:V) (H:Hp) (Q:St->Hp->Prop),g x τ H Q->g x τ H fun τ' H'=>(∀ (j:Nat) v,τ[j]?=some (some v)->τ'[j]?=some (some v))/\Q τ' H'
theorem gkeepF_two {K:PySem.W.Frag}{own:List Str}{i k:Nat}{fr:List Nat} (hi:i<own.length:=by decide) (hk:k<own.length:=by decide) (hf:∀ j∈fr,j<own.length/\j≠i/\j≠k:=by decide):GKeepF own fr (gTup K 2 (gCons (gName i) (gCons (gName k) gNil))):=fun js σ x H Q h=>by
  obtain⟨a,xs,rfl,hq,hl,v,r,rfl,w,r',rfl,e,h⟩:=h
  refine⟨a,_,rfl,hq,hl,v,_,rfl,w,r',rfl,e,⟨fun j z e=>?_,fun j hj z e=>?_⟩,h⟩
  · have hj:j≠i:=by rintro rfl; exact blkσ_own hi e
    have hj':j≠k:=by rintro rfl; exact blkσ_own hk e
    rw[List.getElem?_set_ne (Ne.symm hj'),List.getElem?_set_ne (Ne.symm hj)]
    exact e
  · obtain⟨h1,h2,h3⟩:=hf j hj
    rw[List.getElem?_set_ne (Ne.symm h3),List.getElem?_set_ne (Ne.symm h2)] at e
    exact blkσ_own h1 e
theorem gkeepF_name {own : List Str} {i : Nat} {fr : List Nat} (hi : i < own.length := by decide) (hf : ∀ j ∈ fr, j < own.length ∧ j ≠ i := by decide) : GKeepF own fr (gName i) := fun js σ x H Q h => ⟨⟨fun j v e => by
    have hj:j≠i:=by rintro rfl; exact blkσ_own hi e
    rw[List.getElem?_set_ne (Ne.symm hj)]
    exact e,fun j hj z e=>by
    obtain⟨h1,h2⟩:=hf j hj
    rw[List.getElem?_set_ne (Ne.symm h2)] at e
    exact blkσ_own h1 e⟩,h⟩
theorem gkeepT_two {K:PySem.W.Frag}{i k:Nat}:GKeepT [i,k] (gTup K 2 (gCons (gName i) (gCons (gName k) gNil))):=fun τ u x H Q h=>by
  obtain⟨a,xs,rfl,hq,hl,v,r,rfl,w,r',rfl,e,h⟩:=h
  refine⟨a,_,rfl,hq,hl,v,_,rfl,w,r',rfl,e,fun j z e=>?_,h⟩
  have hj:j≠i:=by rintro rfl; exact u j (by simp) _ e
  have hj':j≠k:=by rintro rfl; exact u j (by simp) _ e
  rw[List.getElem?_set_ne (Ne.symm hj'),List.getElem?_set_ne (Ne.symm hj)]
  exact e
theorem gkeepT_name {i:Nat}:GKeepT [i] (gName i):=fun τ u x H Q h=>⟨fun j v e=>by
  have hj:j≠i:=by rintro rfl; exact u j (by simp) _ e
  rw[List.getElem?_set_ne (Ne.symm hj)]
  exact e,h⟩
section
variable {X:Cx}{scope:Scope}{own:List Str}{js fr:List Nat}{elt t1 i1:Expr}{f1:List Expr}{t2 i2:Expr}{f2:List Expr}{wi wi2:TI}{g1 g2:TG}{tt1 tt2:TT}{te:TE}{pos:Pos}
theorem inner_run {pins : List (Addr × Obj)} {s₂ : Shared} {H2 : Hp} {C : Addr} {fp : List Addr} {τ : St} {H6 : Hp} {s6 : Shared} {it2 acc : Addr} {fp2 : List Addr} {tn2 : Nat → Heap → Prop} {J2 : It} {Z : Hp → Prop} {P : List (Addr × Obj)}
    (hc:X.calm=true) (hgk:GKeepT fr g2) (hu:Unset fr τ)
    (hg:PG (X.blk scope own js s₂ H2 C fp pins) t2 g2) (ht:PTs (X.blk scope own js s₂ H2 C fp pins) f2 tt2) (he:PE (X.blk scope own js s₂ H2 C fp pins) elt te)
    (I6:Inv (X.blk scope own js s₂ H2 C fp pins) P τ H6 s6) (T:Turn X.prog X.w X.K t2 J2 fp2 it2 tn2) (st:tn2 0 s6.heap) (hf:∀ b∈fp2,FpOk (X.blk scope own js s₂ H2 C fp pins) P H6 b) (h:tInW g2 tt2 te τ acc J2 H6 Z) :
    codeAny (model X.prog X.w) X.A (.compStart (two elt t1 i1 f1 t2 i2 f2 scope pos) 1 (.ref it2) (.ref acc) (compEnvC scope (clOf scope X.env) C X.env)) (fun r s'=>r=.ok .next/\∃ H',Inv (X.blk scope own js s₂ H2 C fp pins) P τ H' s'/\Z H') s6:=by
  obtain⟨W,nn,w0,turn⟩:=h
  have fOk:∀ {H':Hp},(∀ b∈fp2,H' b=none)->∀ b∈fp2,FpOk (X.blk scope own js s₂ H2 C fp pins) P H' b:=fun hn b hb=>⟨hn b hb,(hf b hb).2⟩
  have loop:codeAny (model X.prog X.w) X.A (.compLoop (two elt t1 i1 f1 t2 i2 f2 scope pos) 1 (.ref it2) (.ref acc) (compEnvC scope (clOf scope X.env) C X.env)) (fun r s'=>r=.ok .next/\∃ H',Inv (X.blk scope own js s₂ H2 C fp pins) P τ H' s'/\Z H') s6:=by
    refine loop_two1 (fun n s'=>∃ i H',n=nn - i/\Inv (X.blk scope own js s₂ H2 C fp pins) P τ H' s'/\tn2 i s'.heap/\(∀ b∈fp2,H' b=none)/\W i H') ?_ nn ⟨0,_,rfl,I6,st,fun b hb=>(hf b hb).1,w0⟩
    rintro n s3 ⟨i,H3,en,I3,st3,fr3,w3⟩
    rcases turn i H3 w3 with ⟨stop,qn⟩ | ⟨hin,go,step⟩
    · refine thn (T.done (X.blk scope own js s₂ H2 C fp pins) rfl rfl rfl hc i P s3 _ H3 (fun _ _=>False) I3 (fOk fr3) st3 stop) fun r s4 ⟨hr,I4⟩=>?_
      subst hr
      exact⟨rfl,H3,I4,qn⟩
    · refine thn (T.item (X.blk scope own js s₂ H2 C fp pins) rfl rfl rfl hc i P s3 _ H3 (fun _ _=>False) I3 (fOk fr3) st3 go) fun r s4 ⟨u,hr,h4⟩=>?_
      subst hr
      refine thn h4 fun _ s5 ⟨x,H5,I5,r5,y5,st5,fr5⟩=>?_
      have I5':=I5.pinned (fOk fr5) (T.obj _ _ st5)
      have again : ∀ {σ7 : St} {H7 : Hp} {s7 : Shared}, Inv (X.blk scope own js s₂ H2 C fp pins) (P ++ pinsAt fp2 s5.heap) σ7 H7 s7 → (∀ (j : Nat) v, τ[j]? = some (some v) → σ7[j]? = some (some v)) → W (i + 1) H7 →
          ∃ m,m<n/\∃ i H',m=nn - i/\Inv (X.blk scope own js s₂ H2 C fp pins) P τ H' s7/\tn2 i s7.heap/\(∀ b∈fp2,H' b=none)/\W i H':=fun {σ7 H7 s7} I7 hw w7=>by
        refine⟨nn - (i+1),by omega,i+1,H7,rfl,(I7.unpinned).weak (I3.len.trans I7.len.symm) hw,T.keep _ _ _ st5 fun b hb o e=>(I7.pin (b,o) (List.mem_append_right _ (List.mem_append_right _ (mem_pinsAt hb e)))).1,fun b hb=>?_,w7⟩
        obtain⟨o,e,d⟩:=T.obj _ _ st5 b hb
        exact (I7.pin (b,o) (List.mem_append_right _ (List.mem_append_right _ (mem_pinsAt hb e)))).2.1
      refine thn (hg _ s5 _ H5 x u _ I5' r5 (hgk τ hu _ _ _ (step x H5 y5))) fun _ s6 ⟨σ6,H6,I6,kp,q6⟩=>?_
      refine thn (ht _ s6 σ6 H6 _ I6 q6) fun ok s7 ⟨H7,I7,q7⟩=>?_
      cases ok with
      | false=>exact again I7 kp q7
      | true=>
        refine thn (he _ s7 σ6 H7 _ I7 q7) fun y s8 ⟨v,H8,I8,r8,ys,hl,hz,w8⟩=>?_
        refine thn (mt_append (X:=X.blk scope own js s₂ H2 C fp pins) _ s8 σ6 H8 (.ref acc) [v] (.ref acc) [y] (fun _ H9=>W (i+1) H9) I8 rfl (.cons r8 .nil) ⟨acc,ys,v,rfl,rfl,hl,hz,w8⟩) fun _ s9 ⟨_,H9,I9,_,w9⟩=>?_
        exact again I9 kp w9
  exact start_two1 loop (T.self _ 0 _ _ _ st loop)
theorem blk_run2 {pins : List (Addr × Obj)} {σ : St} {H2 : Hp} {s₂ : Shared} {it : Addr} {fp : List Addr} {tn : Nat → Heap → Prop} {J : It} {Q : VK} {E : Value → Shared → Prop} {RR : Value → Addr → Result → Shared → Prop}
    (c:CompOk X scope own js) (hc:X.calm=true) (hgk:GKeepF own fr g1) (hgt:GKeepT fr g2)
    (hg:∀ s H C fp pins,PG (X.blk scope own js s H C fp pins) t1 g1) (ht:∀ s H C fp pins,PTs (X.blk scope own js s H C fp pins) f1 tt1) (hi2:∀ s H C fp pins,PI (X.blk scope own js s H C fp pins) t2 i2 wi2)
    (hg2:∀ s H C fp pins,PG (X.blk scope own js s H C fp pins) t2 g2) (ht2:∀ s H C fp pins,PTs (X.blk scope own js s H C fp pins) f2 tt2) (he:∀ s H C fp pins,PE (X.blk scope own js s H C fp pins) elt te)
    (hs2:∀ env x,foldedSetIterable i2 env x=pure x)
    (I:Inv X pins σ H2 s₂) (T:Turn X.prog X.w X.K t1 J fp it tn) (st:tn 0 s₂.heap) (hf:∀ b∈fp,FpOk X pins H2 b) (h:tComp2W own js g1 tt1 wi2 g2 tt2 te σ J H2 Q)
    (hRR:∀ acc C H' s' m,s₂.heap.objs.size<=C->H' C=none->Inv X pins σ H' s'->s'.heap.Ns C m->Q (.ref acc) H'->RR (.ref acc) C (.ok .next) s') :
    wpAny (model X.prog X.w) X.A (newList []) (fun acc s₃=>wpAny (model X.prog X.w) X.A (newFunctionEnv scope X.env.globals (clOf scope X.env) [] X.env.qual none .none (some X.env)) (fun cenv s₄=>
      codeAny (model X.prog X.w) X.A (.compStart (two elt t1 i1 f1 t2 i2 f2 scope pos) 0 (.ref it) acc { cenv with scope:=relabel scope X.env }) (RR acc cenv.locals) s₄) E s₃) E s₂:=by
  refine wpAny_newObj_type (wpAny_newFunctionEnv c.cell (by intro y hy; simp at hy) (fun h₁ hns₁ hsb₁=>?_) c.kind)
  dsimp only at hns₁ hsb₁ ⊢
  generalize hH2:s₂.heap.push { cls:=.type "list",dict:=none,data:=.seq ([]:List Value).toArray }=G2 at hns₁ hsb₁ ⊢
  have hC:G2.objs.size=s₂.heap.objs.size+1:=by rw[<- hH2,Heap.size_push]
  have hDC:s₂.heap.objs.size≠G2.objs.size:=by rw[hC]; exact Nat.ne_of_lt (Nat.lt_succ_self _)
  have hCle:s₂.heap.objs.size<=G2.objs.size:=by rw[hC]; exact Nat.le_succ _
  have old:∀ b o,s₂.heap.get? b=some o->h₁.get? b=some o:=fun b o e=>hsb₁.extBut b o (Nat.ne_of_lt (Nat.lt_of_lt_of_le (Heap.lt_size e) hCle)) (Heap.get?_push_of_some _ (hH2 ▸ Heap.get?_push_of_some _ e))
  have hacc:h₁.get? s₂.heap.objs.size=some { cls:=.type "list",data:=.seq ([]:List Value).toArray 0 }:=hsb₁.extBut _ _ hDC (Heap.get?_push_of_some _ (hH2 ▸ Heap.get?_push_size _ rfl))
  have ho2:∀ b∈fp,∃ o,s₂.heap.get? b=some o:=fun b hb=>let ⟨o,e,_⟩:=T.obj 0 _ st b hb; ⟨o,e⟩
  have I0:∀ tk,Inv (X.blk scope own js s₂ H2 G2.objs.size fp pins) [] (blkσ own js σ) (upd H2 s₂.heap.objs.size (.lst [])) { s₂ with heap:=h₁,toks:=tk }:=fun tk=>
    blk_start c I hCle hf ho2 hns₁ old (Nat.le_refl _) hDC hacc
  obtain⟨W,nn,w0,turn⟩:=h s₂.heap.objs.size (I.hok.fresh (Nat.le_refl _))
  generalize hacc':s₂.heap.objs.size=acc at *
  generalize hGC:G2.objs.size=C at *
  have st1:tn 0 h₁:=T.keep 0 _ _ st fun b _ o e=>old b o e
  have fOk:∀ {H':Hp},(∀ b∈fp,H' b=none)->∀ b∈fp,FpOk (X.blk scope own js s₂ H2 C fp pins) [] H' b:=fun hn b hb=>by
    obtain⟨f0,f1,f2,f3,f4,f5⟩:=hf b hb
    obtain⟨o,e⟩:=ho2 b hb
    refine⟨hn b hb,Nat.ne_of_lt (Nat.lt_of_lt_of_le (Heap.lt_size e) (by rw[<- hacc'] at hCle; exact hCle)),fun z=>?_,.inl hb,fun x a h=>f4 x a (c.look I h),fun p hp=>f5 p (by simpa[Cx.blk] using hp)⟩
    rcases List.mem_cons.mp (I.stkSub b z) with q | q
    · exact f1 q
    · exact f2 q
  have loop : ∀ s₃ : Shared, s₃ = { s₂ with heap := h₁, toks := s₂.toks + ([] : List (Str × Value)).length } →
      codeAny (model X.prog X.w) X.A (.compLoop (two elt t1 i1 f1 t2 i2 f2 scope pos) 0 (.ref it) (.ref acc) (compEnvC scope (clOf scope X.env) C X.env)) (RR (.ref acc) C) s₃:=by
    rintro s₃ rfl
    refine loop_two0 (fun n s'=>∃ i H',n=nn - i/\Inv (X.blk scope own js s₂ H2 C fp pins) [] (blkσ own js σ) H' s'/\tn i s'.heap/\(∀ b∈fp,H' b=none)/\W i H') (hs2 _) ?_ nn ⟨0,_,rfl,I0 _,st1,fun b hb=>?_,w0⟩
    · rintro n s3 ⟨i,H3,en,I3,st3,fr3,w3⟩
      rcases turn i H3 w3 with ⟨stop,qn⟩ | ⟨hin,go,step⟩
      · refine thn (T.done (X.blk scope own js s₂ H2 C fp pins) rfl rfl rfl hc i [] s3 _ H3 (fun _ _=>False) I3 (fOk fr3) st3 stop) fun r s4 ⟨hr,I4⟩=>?_
        subst hr
        obtain⟨m,hn,_⟩:=I4.loc
        exact hRR acc C H3 s4 m hCle I4.free (blk_end I hf I4) hn qn
      · refine thn (T.item (X.blk scope own js s₂ H2 C fp pins) rfl rfl rfl hc i [] s3 _ H3 (fun _ _=>False) I3 (fOk fr3) st3 go) fun r s4 ⟨u,hr,h4⟩=>?_
        subst hr
        refine thn h4 fun _ s5 ⟨x,H5,I5,r5,y5,st5,fr5⟩=>?_
        have I5':=I5.pinned (fOk fr5) (T.obj _ _ st5)
        have again : ∀ {σ7 : St} {H7 : Hp} {s7 : Shared}, Inv (X.blk scope own js s₂ H2 C fp pins) ([] ++ pinsAt fp s5.heap) σ7 H7 s7 → (∀ (j : Nat) v, (blkσ own js σ)[j]? = some (some v) → σ7[j]? = some (some v)) → W (i + 1) H7 →
            ∃ m,m<n/\∃ i H',m=nn - i/\Inv (X.blk scope own js s₂ H2 C fp pins) [] (blkσ own js σ) H' s7/\tn i s7.heap/\(∀ b∈fp,H' b=none)/\W i H':=fun {σ7 H7 s7} I7 hw w7=>by
          refine⟨nn - (i+1),by omega,i+1,H7,rfl,(I7.unpinned).weak ((blk_len own js σ X).trans I7.len.symm) hw,T.keep _ _ _ st5 fun b hb o e=>(I7.pin (b,o) (List.mem_append_right _ (List.mem_append_right _ (mem_pinsAt hb e)))).1,fun b hb=>?_,w7⟩
          obtain⟨o,e,d⟩:=T.obj _ _ st5 b hb
          exact (I7.pin (b,o) (List.mem_append_right _ (List.mem_append_right _ (mem_pinsAt hb e)))).2.1
        refine thn (hg s₂ H2 C fp pins _ s5 _ H5 x u _ I5' r5 (hgk _ _ _ _ _ (step x H5 y5))) fun _ s6 ⟨σ6,H6,I6,⟨kp,un⟩,q6⟩=>?_
        refine thn (ht s₂ H2 C fp pins _ s6 σ6 H6 _ I6 q6) fun ok s7 ⟨H7,I7,q7⟩=>?_
        cases ok with
        | false=>exact again I7 kp q7
        | true=>
          refine thn (hi2 s₂ H2 C fp pins _ s7 σ6 H7 _ I7 q7) fun v s8 h8=>thn h8 fun itv s9 h9=>?_
          obtain⟨it2,fp2,tn2,J2,H9,e9,I9,T2,st9,f9,hw9⟩:=h9
          subst e9
          refine codeAny_mono (inner_run (t1:=t1) (i1:=i1) (f1:=f1) (i2:=i2) (pos:=pos) hc hgt un (hg2 s₂ H2 C fp pins) (ht2 s₂ H2 C fp pins) (he s₂ H2 C fp pins) I9 T2 st9 f9 hw9) fun r s10 ⟨er,H10,I10,w10⟩=>?_
          exact⟨_,er,again I10 kp w10⟩
    · rw[upd_ne ?_]
      · exact (hf b hb).1
      · obtain⟨o,e⟩:=ho2 b hb
        rw[<- hacc']
        exact Nat.ne_of_lt (Heap.lt_size e)
  exact codeAny_compStart_list (loop _ rfl) (T.self _ 0 _ _ _ st1 (loop _ rfl))
theorem pe_comp2 (c : CompOk X scope own js) (hc : X.calm = true) (hi : PI X t1 i1 wi) (hgk : GKeepF own fr g1) (hgt : GKeepT fr g2)
    (hg:∀ s H C fp pins,PG (X.blk scope own js s H C fp pins) t1 g1) (ht:∀ s H C fp pins,PTs (X.blk scope own js s H C fp pins) f1 tt1) (hi2:∀ s H C fp pins,PI (X.blk scope own js s H C fp pins) t2 i2 wi2)
    (hg2:∀ s H C fp pins,PG (X.blk scope own js s H C fp pins) t2 g2) (ht2:∀ s H C fp pins,PTs (X.blk scope own js s H C fp pins) f2 tt2) (he:∀ s H C fp pins,PE (X.blk scope own js s H C fp pins) elt te)
    (hs:∀ x,foldedSetIterable i1 X.env x=pure x:=by intro _; rfl) (hs2:∀ env x,foldedSetIterable i2 env x=pure x:=by intro _ _; rfl):PE X (two elt t1 i1 f1 t2 i2 f2 scope pos) (tComp2 own js wi g1 tt1 wi2 g2 tt2 te):=by
  intro pins s σ H Q I h
  rw[eval_ListComp]
  refine wpAny_comprehension_free (use:=none) rfl hs (closure_cl (c.cl I)) c.kind c.names (thn (hi pins s σ H _ I h) fun v s1 h1=>thn h1 fun itv s2 h2=>?_)
  obtain⟨it,fp,tn,J,H2,e,I2,T,st2,f2,hw⟩:=h2
  subst e
  refine blk_run2 (RR:=fun acc C=>compPost (model X.prog X.w) X.A X.xe none (EP X pins σ Q) acc C) c hc hgk hgt hg ht hi2 hg2 ht2 he hs2 I2 T st2 f2 hw ?_
  intro acc C H' s' m hCs hCn I' hn q
  refine⟨m,hn,fun h' hs'=>⟨.ref acc,H',I'.other hs' hCn ?_ ?_ ?_ ?_,rfl,q⟩⟩
  · exact Nat.ne_of_gt (Nat.lt_of_lt_of_le I2.lt hCs)
  · exact Nat.le_trans I2.sz hCs
  · intro x a e z
    obtain⟨v,q⟩:=I2.cell x a e
    exact absurd (Nat.lt_of_lt_of_le q.lt (by rw[z]; exact hCs)) (Nat.lt_irrefl _)
  · intro p hp z
    exact absurd (Nat.lt_of_lt_of_le (Heap.lt_size (I2.pin p hp).1) (by rw[z]; exact hCs)) (Nat.lt_irrefl _)
end
end L2
namespace L2
open PySem PySem.Spec PyProof.Rows PySem.SeqAt
def ItlB (b:Bool) (K:PySem.W.Frag) (a:Addr):It:=match b with | true=>Itl K a | false=>Itt K a
def iSeqB (K:PySem.W.Frag) (tl:TE):TI:=fun σ H R=>tl σ H fun x H1=>∃ a b,x=.ref a/\(∃ xs,SqB b K H1 a xs)/\R (ItlB b K a) H1
theorem piK_seqB (K:PySem.W.Frag) {X:Cx}{tg l:Expr}{tl:TE} (hl:PE X l tl) (hK:X.K=K:=by rfl):PI X tg l (iSeqB K tl):=by
  subst hK
  intro pins s σ H R I h
  refine thn (hl pins s σ H _ I h) fun v s1 ⟨x,H1,I1,r1,q1⟩=>?_
  obtain⟨a,b,e,⟨xs,hq⟩,q⟩:=q1
  subst e
  cases r1
  have fp:∀ b∈[s1.heap.objs.size],FpOk X pins H1 b:=fun b hb=>by
    have e:b=s1.heap.objs.size:=by simpa using hb
    subst e
    exact I1.fpOk (Nat.le_refl _) (I1.hok.fresh (Nat.le_refl _))
  cases b with
  | true=>
    obtain⟨its,rv,p,hz⟩:=I1.list hq
    exact wpAny_pyIter_list p.isList ⟨s1.heap.objs.size,[s1.heap.objs.size],_,_,H1,rfl,I1.kept (t':=s1.toks) fun b o e=>Heap.get?_push_of_some _ e,turn_list a _,⟨_,Heap.get?_push_size _ rfl,rfl,rfl⟩,fp,q⟩
  | false=>
    obtain⟨its,rv,p,hz⟩:=I1.tuple hq
    exact wpAny_pyIter_tuple (show s1.heap.IsTuple a its.toArray from p) ⟨s1.heap.objs.size,[s1.heap.objs.size],_,_,H1,rfl,I1.kept (t':=s1.toks) fun b o e=>Heap.get?_push_of_some _ e,turn_tuple a _,⟨_,Heap.get?_push_size _ rfl,rfl,rfl⟩,fp,q⟩
theorem pi_seqB {X:Cx}{tg l:Expr}{tl:TE} (hl:PE X l tl):PI X tg l (iSeqB X.K tl):=piK_seqB X.K hl
theorem itlB_go {b:Bool}{K:PySem.W.Frag}{H:Hp}{a:Addr}{xs:List V}{i:Nat} (q:SqB b K H a xs) (hi:i<xs.length):(ItlB b K a).go i H:=by
  cases b <;> exact⟨xs,xs[i],q,List.getElem?_eq_getElem hi⟩
theorem itlB_yld {b:Bool}{K:PySem.W.Frag}{H H':Hp}{a:Addr}{xs:List V}{i:Nat}{x:V} (q:SqB b K H a xs) (y:(ItlB b K a).yld i H x H'):H'=H/\xs[i]?=some x:=by
  cases b <;> exact⟨y.1,y.2 xs q⟩
theorem itlB_stop {b:Bool}{K:PySem.W.Frag}{H:Hp}{a:Addr}{xs:List V}{i:Nat} (q:SqB b K H a xs) (hi:xs.length<=i):(ItlB b K a).stop i H:=by
  cases b <;> exact⟨xs,q,hi⟩
theorem callK_tupleO (K:PySem.W.Frag) {X:Cx} (hK:X.K=K:=by rfl):CallR X (.type "tuple") (fun xs H Q=>∃ p ys,xs=[.ref p]/\((SqL K H p ys/\∀ l,H l=none->Q (.ref l) (upd H l (.tup ys)))∨(SqT K H p ys/\Q (.ref p) H))):=by subst hK; exact call_tuple_of
section
variable {b:Bool}{K:PySem.W.Frag}{own:List Str}{js:List Nat}{g1 g2 g:TG}{tt1 tt2 tt:TT}{wi2:TI}{te:TE}{σ τ:St}{H1 H6:Hp}{Q:VK}{a acc:Addr}{xs:List V}
theorem comp_seqB (Pv : Addr → Nat → Hp → Prop) (h0 : ∀ acc, H1 acc = none → Pv acc 0 (upd H1 acc (.lst []))) (hl : ∀ acc i H, H1 acc = none → i ≤ xs.length → Pv acc i H → SqB b K H a xs)
    (hs:∀ acc i x H,H1 acc=none->xs[i]?=some x->Pv acc i H->g x (blkσ own js σ) H fun τ H4=>tt τ H4 fun c H5=>
      if c=true then te τ H5 fun y H6=>∃ ys,H6 acc=some (.lst ys)/\ys.length<sizeLine/\(i+1<=xs.length/\Pv acc (i+1) (upd H6 acc (.lst (ys++[y])))) else (i+1<=xs.length/\Pv acc (i+1) H5))
    (hd:∀ acc H,H1 acc=none->Pv acc xs.length H->Q (.ref acc) H):tCompW own js g tt te σ (ItlB b K a) H1 Q:=by
  intro acc hacc
  refine⟨fun i H=>i<=xs.length/\Pv acc i H,xs.length,⟨Nat.zero_le _,h0 acc hacc⟩,?_⟩
  rintro i H ⟨hi,p⟩
  have q:=hl acc i H hacc hi p
  rcases Nat.lt_or_ge i xs.length with hlt | hge
  · refine .inr ⟨hlt,itlB_go q hlt,fun x H' y=>?_⟩
    obtain⟨rfl,hx⟩:=itlB_yld q y
    exact hs acc i x _ hacc hx p
  · obtain rfl:i=xs.length:=by omega
    exact .inl ⟨itlB_stop q (Nat.le_refl _),hd acc H hacc p⟩
theorem comp2_seqB (Pv : Addr → Nat → Hp → Prop) (h0 : ∀ acc, H1 acc = none → Pv acc 0 (upd H1 acc (.lst []))) (hl : ∀ acc i H, H1 acc = none → i ≤ xs.length → Pv acc i H → SqB b K H a xs)
    (hs:∀ acc i x H,H1 acc=none->xs[i]?=some x->Pv acc i H->g1 x (blkσ own js σ) H fun τ H4=>tt1 τ H4 fun c H5=>
      if c=true then wi2 τ H5 fun J2 H6=>tInW g2 tt2 te τ acc J2 H6 (fun H7=>i+1<=xs.length/\Pv acc (i+1) H7) else (i+1<=xs.length/\Pv acc (i+1) H5))
    (hd:∀ acc H,H1 acc=none->Pv acc xs.length H->Q (.ref acc) H):tComp2W own js g1 tt1 wi2 g2 tt2 te σ (ItlB b K a) H1 Q:=by
  intro acc hacc
  refine⟨fun i H=>i<=xs.length/\Pv acc i H,xs.length,⟨Nat.zero_le _,h0 acc hacc⟩,?_⟩
  rintro i H ⟨hi,p⟩
  have q:=hl acc i H hacc hi p
  rcases Nat.lt_or_ge i xs.length with hlt | hge
  · refine .inr ⟨hlt,itlB_go q hlt,fun x H' y=>?_⟩
    obtain⟨rfl,hx⟩:=itlB_yld q y
    exact hs acc i x _ hacc hx p
  · obtain rfl:i=xs.length:=by omega
    exact .inl ⟨itlB_stop q (Nat.le_refl _),hd acc H hacc p⟩
theorem in_seqB {Z : Hp → Prop} (W2 : Nat → Hp → Prop) (h0 : W2 0 H6) (hl : ∀ i H, i ≤ xs.length → W2 i H → SqB b K H a xs)
    (hs:∀ i x H,xs[i]?=some x->W2 i H->g2 x τ H fun τ2 H9=>tt2 τ2 H9 fun c H10=>
      if c=true then te τ2 H10 fun z H11=>∃ zs,H11 acc=some (.lst zs)/\zs.length<sizeLine/\(i+1<=xs.length/\W2 (i+1) (upd H11 acc (.lst (zs++[z])))) else (i+1<=xs.length/\W2 (i+1) H10))
    (hd:∀ H,W2 xs.length H->Z H):tInW g2 tt2 te τ acc (ItlB b K a) H6 Z:=by
  refine⟨fun i H=>i<=xs.length/\W2 i H,xs.length,⟨Nat.zero_le _,h0⟩,?_⟩
  rintro i H ⟨hi,p⟩
  have q:=hl i H hi p
  rcases Nat.lt_or_ge i xs.length with hlt | hge
  · refine .inr ⟨hlt,itlB_go q hlt,fun x H' y=>?_⟩
    obtain⟨rfl,hx⟩:=itlB_yld q y
    exact hs i x _ hx p
  · obtain rfl:i=xs.length:=by omega
    exact .inl ⟨itlB_stop q (Nat.le_refl _),hd H p⟩
theorem for_seqB {tb : TS} {D : Ends} {H : Hp} (Pv : Nat → St → Hp → Prop) (h0 : Pv 0 σ H) (hl : ∀ i σ H, i ≤ xs.length → Pv i σ H → SqB b K H a xs)
    (hs:∀ i x σ H,xs[i]?=some x->Pv i σ H->g x σ H fun σ2 H2=>tb { D with nx:=Pv (i+1),ct:=Pv (i+1),bk:=D.nx } σ2 H2) (hd:∀ σ H,Pv xs.length σ H->D.nx σ H) :
    ∃ W:Nat->Nat->St->Hp->Prop,(∃ m,W 0 m σ H)/\∀ i m σ H,W i m σ H ->
      ((ItlB b K a).stop i H/\D.nx σ H)∨((ItlB b K a).go i H/\∃ N:St->Hp->Prop,(∀ σ' H',N σ' H'->∃ m',m'<m/\W (i+1) m' σ' H')/\∀ x H',(ItlB b K a).yld i H x H'->g x σ H' fun σ2 H2=>tb { D with nx:=N,ct:=N,bk:=D.nx } σ2 H2):=by
  refine⟨fun i m σ H=>m=xs.length - i/\i<=xs.length/\Pv i σ H,⟨xs.length,by simp,Nat.zero_le _,h0⟩,?_⟩
  rintro i m σ H ⟨rfl,hi,p⟩
  have q:=hl i σ H hi p
  rcases Nat.lt_or_ge i xs.length with hlt | hge
  · refine .inr ⟨itlB_go q hlt,Pv (i+1),fun σ' H' z=>⟨xs.length - (i+1),by omega,rfl,hlt,z⟩,fun x H' y=>?_⟩
    obtain⟨rfl,hx⟩:=itlB_yld q y
    exact hs i x σ _ hx p
  · obtain rfl:i=xs.length:=by omega
    exact .inl ⟨itlB_stop q (Nat.le_refl _),hd σ H p⟩
end
end L2
namespace L2
open PySem PyProof.Rows
structure KO extends KeyOrd where
  ky:Keyed->α
namespace KO
variable {O:KO}{x y z:Keyed}
def le (O:KO) (x y:Keyed):Prop:=O.blt (O.ky y) (O.ky x)=false
theorem le_refl:O.le x x:=O.irrefl _
theorem le_trans (h1:O.le x y) (h2:O.le y z):O.le x z:=KeyOrd.kle_trans (O:=O.toKeyOrd) h1 h2
theorem le_of_lt (h:O.blt (O.ky x) (O.ky y)=true):O.le x y:=KeyOrd.klt_asymm (O:=O.toKeyOrd) h
abbrev Srt (O:KO) (l:List Keyed):Prop:=l.Pairwise O.le
end KO
def gallop':Bool->Keyed->Array Keyed->Nat->Nat->Nat->StateT SortSt Sem (Option Nat):=sortPriv% PySem.Builtin.gallop
def mergeLo':Array Keyed->Array Keyed->StateT SortSt Sem (Array Keyed):=sortPriv% PySem.Builtin.mergeLo
def mergeHi':Array Keyed->Array Keyed->StateT SortSt Sem (Array Keyed):=sortPriv% PySem.Builtin.mergeHi
def setGallop':Nat->StateT SortSt Sem Unit:=sortPriv% PySem.Builtin.setMinGallop
section
variable {prog:Program}{w:World}{A:Around}{E:Value->Shared->Prop}{s:Shared}{O:KO}{knd:SortKind}{ok:Keyed->Prop}{st:SortSt}
def Asks (prog:Program) (w:World) (A:Around) (s:Shared) (O:KO) (knd:SortKind) (ok:Keyed->Prop):Prop :=
  ∀ x y,ok x->ok y->∀ (E:Value->Shared->Prop) (Q:Bool->Shared->Prop),Q (O.blt (O.ky x) (O.ky y)) s->wpAny (model prog w) A (keyLt' knd x.1 y.1) Q E s
theorem wpS_lt {x y:Keyed}{Q:Option Bool->SortSt->Prop} (hA:Asks prog w A s O knd ok) (hk:kindOf st=knd) (hx:ok x) (hy:ok y) (h:Q (some (O.blt (O.ky x) (O.ky y))) st):wpS (model prog w) A E s (lt' x y) Q st:=by
  rw[lt'_eq]
  refine wpS_bind (wpS_get ?_)
  rw[hk]
  refine wpS_bind (wpS_lift (wpAny_attempt (hA x y hx hy _ _ ⟨rfl,?_⟩)))
  exact wpS_pure h
theorem wpS_elem {arr:Array Keyed}{i:Nat}{x:Keyed}{Q:Keyed->SortSt->Prop} (e:arr[i]?=some x) (h:Q x st):wpS (model prog w) A E s (elem' arr i) Q st:=by
  rw[elem'_eq,e]
  exact wpS_pure h
def beyond' (left:Bool) (key:Keyed) (arr:Array Keyed) (base i:Nat):StateT SortSt Sem (Option Bool) :=
  elem' arr (base+i) >>= fun x=>if left=true then lt' x key else lt' key x >>= fun r=>pure (r.map (! ·))
theorem wpS_gallop {left : Bool} {key : Keyed} {arr : Array Keyed} {base n hint : Nat} {Q : Option Nat → SortSt → Prop} (hA : Asks prog w A s O knd ok) (hk : kindOf st = knd) (hkey : ok key) (B : Nat → Bool)
    (hB:∀ i,i<n->∃ x,arr[base+i]?=some x/\ok x/\B i=if left=true then O.blt (O.ky x) (O.ky key) else !(O.blt (O.ky key) (O.ky x)))
    (mono:∀ i j,i<=j->j<n->B j=true->B i=true) (hh:hint<n)
    (h:∀ k,k<=n->(∀ i,i<k->B i=true)->(∀ i,k<=i->i<n->B i=false)->Q (some k) st):wpS (model prog w) A E s (gallop' left key arr base n hint) Q st:=by
  have bey:∀ i,i<n->∀ {Q':Option Bool->SortSt->Prop},Q' (some (B i)) st->wpS (model prog w) A E s (beyond' left key arr base i) Q' st:=by
    intro i hi Q' hq
    obtain⟨x,e,hx,eb⟩:=hB i hi
    refine wpS_bind (wpS_elem e ?_)
    rw[eb] at hq
    cases left with
    | true=>simp only[if_true] at hq ⊢; exact wpS_lt hA hk hx hkey hq
    | false=>
      simp only[Bool.false_eq_true,if_false] at hq ⊢
      exact wpS_bind (wpS_lt hA hk hkey hx (wpS_pure hq))
  have monoF:∀ i j,i<=j->j<n->B i=false->B j=false:=by
    intro i j hij hj hf
    cases e:B j with
    | false=>rfl
    | true=>rw[mono i j hij hj e] at hf; cases hf
  have jp : ∀ lo hi, lo ≤ hi → hi ≤ n → (∀ i, i < lo → B i = true) → (∀ i, hi ≤ i → i < n → B i = false) →
      wpS (model prog w) A E s (forIn [:n] ((none : Option (Option Nat)), lo, hi) fun _ c => if c.2.1 ≥ c.2.2 then pure (ForInStep.done (none, c.2.1, c.2.2)) else beyond' left key arr base (c.2.1 + (c.2.2 - c.2.1) / 2) >>= fun x => match x with
          | some more=>if more=true then pure (ForInStep.yield (none,c.2.1+(c.2.2 - c.2.1) / 2+1,c.2.2)) else pure (ForInStep.yield (none,c.2.1,c.2.1+(c.2.2 - c.2.1) / 2))
          | _=>pure (ForInStep.done (some none,c.2.1,c.2.2)))
        (fun c st'=>st'=st/\∃ l k,c=(none,l,k)/\Q (some k) st) st:=by
    intro lo hi hle hin hlo hhi
    refine wpS_forRange (I:=fun x c st'=>st'=st/\∃ l k,c=(none,l,k)/\l<=k/\k<=n/\k - l<=n - x/\(∀ i,i<l->B i=true)/\(∀ i,k<=i->i<n->B i=false)) ?step ?fin ⟨rfl,lo,hi,rfl,hle,hin,by omega,hlo,hhi⟩
    case fin=>
      rintro c st' ⟨rfl,l,k,rfl,h1,h2,h3,h4,h5⟩
      have e:l=k:=by omega
      subst e
      exact⟨rfl,l,l,rfl,h l h2 h4 h5⟩
    case step=>
      rintro x c st' _ hx ⟨rfl,l,k,rfl,h1,h2,h3,h4,h5⟩
      dsimp only
      by_cases hge:l ≥ k
      · rw[if_pos hge]
        have e:l=k:=by omega
        subst e
        exact wpS_pure ⟨rfl,l,l,rfl,h l h2 h4 h5⟩
      · rw[if_neg hge]
        have hm:l+(k - l) / 2<k:=by omega
        refine wpS_bind (bey _ (by omega) ?_)
        cases e:B (l+(k - l) / 2) with
        | true=>
          simp only[if_true]
          exact wpS_pure ⟨rfl,_,_,rfl,by omega,h2,by omega,fun i hi=>mono i _ (by omega) (by omega) e,h5⟩
        | false=>
          simp only[Bool.false_eq_true,if_false]
          exact wpS_pure ⟨rfl,_,_,rfl,by omega,by omega,by omega,h4,fun i h6 h7=>monoF _ i h6 h7 e⟩
  refine wpS_bind (bey hint hh ?_)
  dsimp only
  cases e0:B hint with
  | true=>
    simp only[if_true]
    refine wpS_bind (wpS_mono (wpS_forRange (I:=fun x c st'=>st'=st/\∃ l k,c=((none:Option (Option Nat)),l,k)/\l<k/\x+1<=k/\hint+l<n/\B (hint+l)=true)
      (Q:=fun c st'=>st'=st/\∃ l k,c=((none:Option (Option Nat)),l,k)/\l<k/\hint+l<n/\B (hint+l)=true/\(n - hint<=k∨(hint+k<n/\B (hint+k)=false))) ?step ?fin ⟨rfl,0,1,rfl,by omega,by omega,hh,e0⟩) ?post)
    case fin=>
      rintro c st' ⟨rfl,l,k,rfl,h1,h2,h3,h4⟩
      exact⟨rfl,l,k,rfl,h1,h3,h4,.inl (by omega)⟩
    case step=>
      rintro x c st' _ hx ⟨rfl,l,k,rfl,h1,h2,h3,h4⟩
      dsimp only
      by_cases hge:k ≥ n - hint
      · rw[if_pos hge]
        exact wpS_pure ⟨rfl,l,k,rfl,h1,h3,h4,.inl hge⟩
      · rw[if_neg hge]
        refine wpS_bind (bey (hint+k) (by omega) ?_)
        cases e:B (hint+k) with
        | true=>
          simp only[Bool.not_true,Bool.false_eq_true,if_false]
          exact wpS_pure ⟨rfl,_,_,rfl,by omega,by omega,by omega,e⟩
        | false=>
          simp only[Bool.not_false,if_true]
          exact wpS_pure ⟨rfl,l,k,rfl,h1,h3,h4,.inr ⟨by omega,e⟩⟩
    case post=>
      rintro c st' ⟨rfl,l,k,rfl,h1,h3,h4,h5⟩
      dsimp only
      refine wpS_bind (wpS_mono (jp (hint+l+1) (hint+min k (n - hint)) (by omega) (by omega) (fun i hi=>mono i (hint+l) (by omega) h3 h4) (fun i h6 h7=>?_)) ?_)
      · rcases h5 with h5 | ⟨h5,h8⟩
        · omega
        · exact monoF (hint+k) i (by omega) h7 h8
      · rintro c st' ⟨rfl,l,k,rfl,q⟩
        exact wpS_pure q
  | false=>
    simp only[Bool.false_eq_true,if_false]
    refine wpS_bind (wpS_mono (wpS_forRange (I:=fun x c st'=>st'=st/\∃ l k,c=((none:Option (Option Nat)),l,k)/\l<k/\x+1<=k/\l<=hint/\B (hint - l)=false)
      (Q:=fun c st'=>st'=st/\∃ l k,c=((none:Option (Option Nat)),l,k)/\l<k/\l<=hint/\B (hint - l)=false/\(hint+1<=k∨(k<=hint/\B (hint - k)=true))) ?step ?fin ⟨rfl,0,1,rfl,by omega,by omega,by omega,e0⟩) ?post)
    case fin=>
      rintro c st' ⟨rfl,l,k,rfl,h1,h2,h3,h4⟩
      exact⟨rfl,l,k,rfl,h1,h3,h4,.inl (by omega)⟩
    case step=>
      rintro x c st' _ hx ⟨rfl,l,k,rfl,h1,h2,h3,h4⟩
      dsimp only
      by_cases hge:k ≥ hint+1
      · rw[if_pos hge]
        exact wpS_pure ⟨rfl,l,k,rfl,h1,h3,h4,.inl hge⟩
      · rw[if_neg hge]
        refine wpS_bind (bey (hint - k) (by omega) ?_)
        cases e:B (hint - k) with
        | true=>
          simp only[if_true]
          exact wpS_pure ⟨rfl,l,k,rfl,h1,h3,h4,.inr ⟨by omega,e⟩⟩
        | false=>
          simp only[Bool.false_eq_true,if_false]
          exact wpS_pure ⟨rfl,_,_,rfl,by omega,by omega,by omega,e⟩
    case post=>
      rintro c st' ⟨rfl,l,k,rfl,h1,h3,h4,h5⟩
      dsimp only
      refine wpS_bind (wpS_mono (jp (hint+1 - min k (hint+1)) (hint - l) (by omega) (by omega) (fun i hi=>?_) (fun i h6 h7=>monoF _ i h6 h7 h4)) ?_)
      · rcases h5 with h5 | ⟨h5,h8⟩
        · omega
        · exact mono i (hint - k) (by omega) (by omega) h8
      · rintro c st' ⟨rfl,l,k,rfl,q⟩
        exact wpS_pure q
end
section
variable {O:KO}{a b out:List Keyed}{ia ib:Nat}{x:Keyed}
theorem drop_at {l:List Keyed}{i:Nat}{x:Keyed} (e:l[i]?=some x):l.drop i=x::l.drop (i+1):=by
  obtain⟨h,rfl⟩:=List.getElem?_eq_some_iff.mp e
  exact List.drop_eq_getElem_cons h
theorem ext_to (a:Array Keyed) (i:Nat):(a.extract i a.size).toList=a.toList.drop i:=by
  rw[Array.toList_extract]
  simp only[List.extract]
  exact List.take_of_length_le (by simp)
theorem ext_to2 (a:Array Keyed) (i k:Nat):(a.extract i (i+k)).toList=(a.toList.drop i).take k:=by
  rw[Array.toList_extract]
  simp[List.extract]
structure MI (O:KO) (a b out:List Keyed) (ia ib:Nat):Prop where
  perm:(out++(a.drop ia++b.drop ib)).Perm (a++b)
  srt:O.Srt out
  le:∀ x∈out,∀ y∈a.drop ia++b.drop ib,O.le x y
theorem srt_snoc (h:O.Srt out) (hx:∀ y∈out,O.le y x):O.Srt (out++[x]) :=
  List.pairwise_append.mpr ⟨h,List.pairwise_singleton _ _,fun y hy z hz=>by rw[List.mem_singleton.mp hz]; exact hx y hy⟩
theorem MI.takeA (h:MI O a b out ia ib) (sa:O.Srt a) (e:a[ia]?=some x) (hb:∀ y∈b.drop ib,O.le x y):MI O a b (out++[x]) (ia+1) ib:=by
  have ed:=drop_at e
  have sd:O.Srt (x::a.drop (ia+1)):=ed ▸ sa.drop
  refine⟨?_,srt_snoc h.srt fun y hy=>h.le y hy x (by rw[ed]; simp),fun y hy z hz=>?_⟩
  · have p:=h.perm
    rw[ed] at p
    simpa using p
  · rcases List.mem_append.mp hy with hy | hy
    · refine h.le y hy z ?_
      rw[ed]
      rcases List.mem_append.mp hz with hz | hz
      · exact List.mem_append_left _ (List.mem_cons_of_mem _ hz)
      · exact List.mem_append_right _ hz
    · rw[List.mem_singleton.mp hy]
      rcases List.mem_append.mp hz with hz | hz
      · exact (List.pairwise_cons.mp sd).1 z hz
      · exact hb z hz
theorem MI.takeB (h:MI O a b out ia ib) (sb:O.Srt b) (e:b[ib]?=some x) (ha:∀ y∈a.drop ia,O.le x y):MI O a b (out++[x]) ia (ib+1):=by
  have ed:=drop_at e
  have sd:O.Srt (x::b.drop (ib+1)):=ed ▸ sb.drop
  refine⟨?_,srt_snoc h.srt fun y hy=>h.le y hy x (by rw[ed]; simp),fun y hy z hz=>?_⟩
  · have p:=h.perm
    rw[ed] at p
    refine List.Perm.trans ?_ p
    rw[List.append_assoc]
    exact List.Perm.append_left _ (show List.Perm (x::(a.drop ia++b.drop (ib+1))) _ from List.perm_middle.symm)
  · rcases List.mem_append.mp hy with hy | hy
    · refine h.le y hy z ?_
      rw[ed]
      rcases List.mem_append.mp hz with hz | hz
      · exact List.mem_append_left _ hz
      · exact List.mem_append_right _ (List.mem_cons_of_mem _ hz)
    · rw[List.mem_singleton.mp hy]
      rcases List.mem_append.mp hz with hz | hz
      · exact ha z hz
      · exact (List.pairwise_cons.mp sd).1 z hz
theorem take_snoc {l:List Keyed}{i k:Nat}{x:Keyed} (e:l[i+k]?=some x):(l.drop i).take (k+1)=(l.drop i).take k++[x]:=by
  rw[List.take_succ,List.getElem?_drop,e]
  rfl
theorem MI.takeAs (h:MI O a b out ia ib) (sa:O.Srt a):∀ k,ia+k<=a.length->(∀ i z,i<k->a[ia+i]?=some z->∀ y∈b.drop ib,O.le z y)->MI O a b (out++(a.drop ia).take k) (ia+k) ib
  | 0,_,_=>by simpa using h
  | k+1,hl,hz=>by
    have q:=MI.takeAs h sa k (by omega) fun i z hi e=>hz i z (by omega) e
    have e:a[ia+k]?=some a[ia+k]:=List.getElem?_eq_getElem (by omega)
    have r:=q.takeA sa e (hz k _ (by omega) e)
    rw[List.append_assoc,<- take_snoc e] at r
    exact r
theorem MI.takeBs (h:MI O a b out ia ib) (sb:O.Srt b):∀ k,ib+k<=b.length->(∀ i z,i<k->b[ib+i]?=some z->∀ y∈a.drop ia,O.le z y)->MI O a b (out++(b.drop ib).take k) ia (ib+k)
  | 0,_,_=>by simpa using h
  | k+1,hl,hz=>by
    have q:=MI.takeBs h sb k (by omega) fun i z hi e=>hz i z (by omega) e
    have e:b[ib+k]?=some b[ib+k]:=List.getElem?_eq_getElem (by omega)
    have r:=q.takeB sb e (hz k _ (by omega) e)
    rw[List.append_assoc,<- take_snoc e] at r
    exact r
def Mg (O:KO) (a b r:List Keyed):Prop:=r.Perm (a++b)/\O.Srt r
theorem MI.doneA (h:MI O a b out ia ib) (sa:O.Srt a) (e:b.length<=ib):Mg O a b (out++a.drop ia++b.drop ib):=by
  have eb:b.drop ib=[]:=List.drop_eq_nil_of_le e
  refine⟨by rw[List.append_assoc]; exact h.perm,?_⟩
  rw[eb,List.append_nil]
  exact List.pairwise_append.mpr ⟨h.srt,sa.drop,fun x hx y hy=>h.le x hx y (List.mem_append_left _ hy)⟩
theorem MI.doneB (h:MI O a b out ia ib) (sa:O.Srt a) (sb:O.Srt b) (hl:∀ x∈b.drop ib,∀ y∈a.drop ia,O.le x y):Mg O a b (out++b.drop ib++a.drop ia):=by
  refine⟨by rw[List.append_assoc]; exact (List.Perm.append_left _ List.perm_append_comm).trans h.perm,?_⟩
  rw[List.append_assoc]
  refine List.pairwise_append.mpr ⟨h.srt,List.pairwise_append.mpr ⟨sb.drop,sa.drop,hl⟩,fun x hx y hy=>h.le x hx y ?_⟩
  rcases List.mem_append.mp hy with hy | hy
  · exact List.mem_append_right _ hy
  · exact List.mem_append_left _ hy
end
section
variable {prog:Program}{w:World}{A:Around}{E:Value->Shared->Prop}{s:Shared}{O:KO}{knd:SortKind}{ok:Keyed->Prop}{st:SortSt}
theorem wpS_ite {α:Type}{c:Prop} [Decidable c] {p q:StateT SortSt Sem α}{Q:α->SortSt->Prop} (h1:c->wpS (model prog w) A E s p Q st) (h2:¬ c->wpS (model prog w) A E s q Q st):wpS (model prog w) A E s (if c then p else q) Q st:=by
  by_cases h:c
  · rw[if_pos h]; exact h1 h
  · rw[if_neg h]; exact h2 h
def Gal (st st':SortSt):Prop:=kindOf st'=kindOf st/\arrOf st'=arrOf st/\pendingOf st'=pendingOf st/\failedOf st'=failedOf st
theorem Gal.refl:Gal st st:=⟨rfl,rfl,rfl,rfl⟩
theorem wpS_setGallop {g:Nat}{st1:SortSt}{Q:Unit->SortSt->Prop} (hG:Gal st st1) (h:∀ st',Gal st st'->Q () st'):wpS (model prog w) A E s (setGallop' g) Q st1 :=
  wpS_modify (h _ ⟨hG.1,hG.2.1,hG.2.2.1,hG.2.2.2⟩)
theorem sorted_at {l:List Keyed} (sl:O.Srt l) {i j:Nat}{x y:Keyed} (hij:i<=j) (hx:l[i]?=some x) (hy:l[j]?=some y):O.le x y:=by
  obtain⟨h1,rfl⟩:=List.getElem?_eq_some_iff.mp hx
  obtain⟨h2,rfl⟩:=List.getElem?_eq_some_iff.mp hy
  rcases Nat.lt_or_eq_of_le hij with h | h
  · exact List.pairwise_iff_getElem.mp sl i j h1 h2 h
  · subst h; exact KO.le_refl
theorem mem_drop_at {l:List Keyed}{i:Nat}{y:Keyed} (h:y∈l.drop i):∃ j,i<=j/\l[j]?=some y:=by
  obtain⟨j,hj,e⟩:=List.mem_iff_getElem.mp h
  exact⟨i+j,by omega,by rw[<- List.getElem?_drop,List.getElem?_eq_getElem hj,e]⟩
theorem le_drop {l:List Keyed} (sl:O.Srt l) {i:Nat}{x:Keyed} (hx:l[i]?=some x):∀ y∈l.drop i,O.le x y:=fun y hy=>
  let ⟨_,hj,e⟩:=mem_drop_at hy
  sorted_at sl hj hx e
theorem arr_at {a:Array Keyed}{i:Nat} (h:i<a.size):∃ x,a[i]?=some x/\a.toList[i]?=some x/\x∈a.toList :=
  ⟨a[i],Array.getElem?_eq_getElem h,by rw[Array.getElem?_toList]; exact Array.getElem?_eq_getElem h,by simp⟩
theorem arr_to {a:Array Keyed}{i:Nat}{x:Keyed} (h:a[i]?=some x):a.toList[i]?=some x:=by rw[Array.getElem?_toList]; exact h
theorem wpS_gallopR {key : Keyed} {a : Array Keyed} {i n hint : Nat} {Q : Option Nat → SortSt → Prop} (hA : Asks prog w A s O knd ok) (hk : kindOf st = knd) (hkey : ok key) (oka : ∀ x ∈ a.toList, ok x) (hi : i + n ≤ a.size)
    (sa:∀ p q x y,i<=p->p<=q->q<i+n->a[p]?=some x->a[q]?=some y->O.le x y) (hh:hint<n)
    (h:∀ k,k<=n->(∀ j z,j<k->a[i+j]?=some z->O.le z key)->(∀ j z,k<=j->j<n->a[i+j]?=some z->O.blt (O.ky key) (O.ky z)=true)->Q (some k) st):wpS (model prog w) A E s (gallop' false key a i n hint) Q st:=by
  refine wpS_gallop hA hk hkey (fun j=>!(O.blt (O.ky key) (O.ky (a.getD (i+j) key)))) ?_ ?_ hh ?_
  · intro j hj
    obtain⟨x,e1,_,e3⟩:=arr_at (a:=a) (i:=i+j) (by omega)
    refine⟨x,e1,oka x e3,?_⟩
    have e4:a.getD (i+j) key=x:=by rw[Array.getD_eq_getD_getElem?,e1]; rfl
    simp[e4]
  · intro p q hpq hq hb
    obtain⟨x,e1,_,_⟩:=arr_at (a:=a) (i:=i+p) (by omega)
    obtain⟨y,f1,_,_⟩:=arr_at (a:=a) (i:=i+q) (by omega)
    have e4:a.getD (i+p) key=x:=by rw[Array.getD_eq_getD_getElem?,e1]; rfl
    have f4:a.getD (i+q) key=y:=by rw[Array.getD_eq_getD_getElem?,f1]; rfl
    rw[f4] at hb
    rw[e4]
    have z:O.le x key:=KO.le_trans (sa _ _ x y (by omega) (by omega) (by omega) e1 f1) (show O.blt _ _=false by simpa using hb)
    have z:O.blt (O.ky key) (O.ky x)=false:=z
    simpa using z
  · intro k hk1 h1 h2
    refine h k hk1 (fun j z hj e=>?_) (fun j z hj hj2 e=>?_)
    · have e4:a.getD (i+j) key=z:=by rw[Array.getD_eq_getD_getElem?,e]; rfl
      have:=h1 j hj
      rw[e4] at this
      exact (show O.blt _ _=false by simpa using this)
    · have e4:a.getD (i+j) key=z:=by rw[Array.getD_eq_getD_getElem?,e]; rfl
      have:=h2 j hj hj2
      rw[e4] at this
      simpa using this
theorem wpS_gallopL {key : Keyed} {a : Array Keyed} {i n hint : Nat} {Q : Option Nat → SortSt → Prop} (hA : Asks prog w A s O knd ok) (hk : kindOf st = knd) (hkey : ok key) (oka : ∀ x ∈ a.toList, ok x) (hi : i + n ≤ a.size)
    (sa:∀ p q x y,i<=p->p<=q->q<i+n->a[p]?=some x->a[q]?=some y->O.le x y) (hh:hint<n)
    (h:∀ k,k<=n->(∀ j z,j<k->a[i+j]?=some z->O.blt (O.ky z) (O.ky key)=true)->(∀ j z,k<=j->j<n->a[i+j]?=some z->O.le key z)->Q (some k) st):wpS (model prog w) A E s (gallop' true key a i n hint) Q st:=by
  refine wpS_gallop hA hk hkey (fun j=>O.blt (O.ky (a.getD (i+j) key)) (O.ky key)) ?_ ?_ hh ?_
  · intro j hj
    obtain⟨x,e1,_,e3⟩:=arr_at (a:=a) (i:=i+j) (by omega)
    refine⟨x,e1,oka x e3,?_⟩
    have e4:a.getD (i+j) key=x:=by rw[Array.getD_eq_getD_getElem?,e1]; rfl
    simp[e4]
  · intro p q hpq hq hb
    obtain⟨x,e1,_,_⟩:=arr_at (a:=a) (i:=i+p) (by omega)
    obtain⟨y,f1,_,_⟩:=arr_at (a:=a) (i:=i+q) (by omega)
    have e4:a.getD (i+p) key=x:=by rw[Array.getD_eq_getD_getElem?,e1]; rfl
    have f4:a.getD (i+q) key=y:=by rw[Array.getD_eq_getD_getElem?,f1]; rfl
    rw[f4] at hb
    rw[e4]
    exact KeyOrd.klt_of_kle_of_klt (O:=O.toKeyOrd) (sa _ _ x y (by omega) (by omega) (by omega) e1 f1) hb
  · intro k hk1 h1 h2
    refine h k hk1 (fun j z hj e=>?_) (fun j z hj hj2 e=>?_)
    · have e4:a.getD (i+j) key=z:=by rw[Array.getD_eq_getD_getElem?,e]; rfl
      have:=h1 j hj
      rw[e4] at this
      exact this
    · have e4:a.getD (i+j) key=z:=by rw[Array.getD_eq_getD_getElem?,e]; rfl
      have:=h2 j hj hj2
      rw[e4] at this
      exact this
theorem srtA {a:Array Keyed} (sa:O.Srt a.toList) (i n:Nat):∀ p q x y,i<=p->p<=q->q<i+n->a[p]?=some x->a[q]?=some y->O.le x y:=fun p q x y _ h _ e1 e2=>sorted_at sa h (arr_to e1) (arr_to e2)
theorem wpS_mergeLo {a b : Array Keyed} {Q : Array Keyed → SortSt → Prop} (hA : Asks prog w A s O knd ok) (hk : kindOf st = knd) (oka : ∀ x ∈ a.toList, ok x) (okb : ∀ x ∈ b.toList, ok x) (sa : O.Srt a.toList) (sb : O.Srt b.toList) (ha : 1 ≤ a.size) (hb : 1 ≤ b.size)
    (hfirst:∀ y,b[0]?=some y->∀ x∈a.toList,O.le y x) (hlast:∀ z,a[a.size - 1]?=some z->∀ y∈b.toList,O.blt (O.ky y) (O.ky z)=true)
    (h:∀ r st',Gal st st'->Mg O a.toList b.toList r.toList->Q r st'):wpS (model prog w) A E s (mergeLo' a b) Q st:=by
  obtain⟨b0,eb0,eb0',_⟩:=arr_at (a:=b) (i:=0) (by omega)
  have done:∀ {out:Array Keyed}{ia ib:Nat},MI O a.toList b.toList out.toList ia ib->b.size<=ib->Mg O a.toList b.toList (out++a.extract ia a.size++b.extract ib b.size).toList:=by
    intro out ia ib m hl
    rw[Array.toList_append,Array.toList_append,ext_to,ext_to]
    exact m.doneA sa hl
  have last:∀ {out:Array Keyed}{ia ib:Nat},MI O a.toList b.toList out.toList ia ib->ia+1=a.size->Mg O a.toList b.toList (out++b.extract ib b.size++a.extract ia a.size).toList:=by
    intro out ia ib m hl
    rw[Array.toList_append,Array.toList_append,ext_to,ext_to]
    refine m.doneB sa sb fun x hx y hy=>?_
    obtain⟨j,hj,e⟩:=mem_drop_at hy
    have hj2:j<a.size:=(List.getElem?_eq_some_iff.mp e).1
    have e2:j=a.size - 1:=by omega
    rw[e2] at e
    rw[Array.getElem?_toList] at e
    exact KO.le_of_lt (hlast y e x (List.mem_of_mem_drop hx))
  have pB:∀ {out:Array Keyed}{ia ib:Nat}{y:Keyed},MI O a.toList b.toList out.toList ia ib->b[ib]?=some y->(∀ z∈a.toList.drop ia,O.le y z)->MI O a.toList b.toList (out.push y).toList ia (ib+1):=by
    intro out ia ib y m e hz
    rw[Array.toList_push]
    exact m.takeB sb (arr_to e) hz
  have pA:∀ {out:Array Keyed}{ia ib:Nat}{y:Keyed},MI O a.toList b.toList out.toList ia ib->a[ia]?=some y->(∀ z∈b.toList.drop ib,O.le y z)->MI O a.toList b.toList (out.push y).toList (ia+1) ib:=by
    intro out ia ib y m e hz
    rw[Array.toList_push]
    exact m.takeA sa (arr_to e) hz
  refine wpS_bind (wpS_lift (wpAny_rule ⟨rfl,?_⟩))
  refine wpS_bind (wpS_elem eb0 ?_)
  have m0:MI O a.toList b.toList #[b0].toList 0 1 :=
    MI.takeB (out:=[]) (ib:=0) ⟨by simp,List.Pairwise.nil,fun x hx=>by cases hx⟩ sb eb0' (by simpa using hfirst b0 eb0)
  dsimp only
  by_cases c1:1=b.size
  · rw[if_pos (by simpa using c1)]
    exact wpS_pure (h _ _ Gal.refl (done m0 (by omega)))
  rw[if_neg (by simpa using c1)]
  by_cases c2:0+1=a.size
  · rw[if_pos (by simpa using c2)]
    exact wpS_pure (h _ _ Gal.refl (last m0 (by omega)))
  rw[if_neg (by simpa using c2)]
  refine wpS_bind (wpS_get ?_)
  refine wpS_bind (wpS_mono (wpS_forRange
    (I:=fun x c st'=>Gal st st'/\∃ (out:Array Keyed) (ia ib g:Nat),c=((none:Option (Array Keyed)),out,ia,ib,g)/\MI O a.toList b.toList out.toList ia ib/\ia+1<a.size/\ib<b.size/\x<=ia+ib)
    (Q:=fun c st'=>Gal st st'/\∃ (r out:Array Keyed) (ia ib g:Nat),c=(some r,out,ia,ib,g)/\Mg O a.toList b.toList r.toList) ?step ?fin ⟨Gal.refl,#[b0],0,1,gallopOf st,rfl,m0,by omega,by omega,by omega⟩) ?post)
  case fin=>
    rintro c st' ⟨_,out,ia,ib,g,rfl,_,h1,h2,h3⟩
    omega
  case post=>
    rintro c st' ⟨hG,r,out,ia,ib,g,rfl,hm⟩
    exact wpS_pure (h r st' hG hm)
  case step=>
    rintro x c st1 _ hx ⟨hG1,out,ia,ib,g,rfl,hm,h1,h2,h3⟩
    dsimp only
    have hk1:kindOf st1=knd:=hG1.1.trans hk
    refine wpS_bind (wpS_mono (wpS_forRange
      (I:=fun y c st'=>st'=st1/\∃ (out:Array Keyed) (ia ib p q:Nat),c=((none:Option (Array Keyed)),out,ia,ib,p,q)/\MI O a.toList b.toList out.toList ia ib/\ia+1<a.size/\ib<b.size/\x+y<=ia+ib)
      (Q:=fun c st'=>st'=st1/\((∃ (r out:Array Keyed) (ia ib p q:Nat),c=(some r,out,ia,ib,p,q)/\Mg O a.toList b.toList r.toList) ∨
        (∃ (out:Array Keyed) (ia ib p q:Nat),c=(none,out,ia,ib,p,q)/\MI O a.toList b.toList out.toList ia ib/\ia+1<a.size/\ib<b.size/\x+1<=ia+ib))) ?step1 ?fin1 ⟨rfl,out,ia,ib,0,0,rfl,hm,h1,h2,by omega⟩) ?post1)
    case fin1=>
      rintro c st' ⟨rfl,out,ia,ib,p,q,rfl,hm,h1,h2,h3⟩
      exact⟨rfl,.inr ⟨out,ia,ib,p,q,rfl,hm,h1,h2,by omega⟩⟩
    case step1=>
      rintro y c st' _ hy ⟨rfl,out,ia,ib,p,q,rfl,hm,h1,h2,h3⟩
      dsimp only
      obtain⟨u,eu,eu',mu⟩:=arr_at (a:=b) h2
      obtain⟨v,ev,ev',mv⟩:=arr_at (a:=a) (i:=ia) (by omega)
      refine wpS_bind (wpS_elem eu (wpS_bind (wpS_elem ev ?_)))
      refine wpS_bind (wpS_lt hA hk1 (okb u mu) (oka v mv) ?_)
      cases e:O.blt (O.ky u) (O.ky v) with
      | true=>
        simp only[if_true]
        refine wpS_bind (wpS_elem eu ?_)
        have m2:=pB hm eu fun z hz=>KO.le_trans (KO.le_of_lt e) (le_drop sa ev' z hz)
        by_cases c3:ib+1=b.size
        · rw[if_pos (by simpa using c3)]
          exact wpS_pure ⟨rfl,.inl ⟨_,_,_,_,_,_,rfl,done m2 (by omega)⟩⟩
        rw[if_neg (by simpa using c3)]
        refine wpS_ite (fun _=>?_) (fun _=>?_)
        · exact wpS_pure ⟨rfl,.inr ⟨_,_,_,_,_,rfl,m2,by omega,by omega,by omega⟩⟩
        · exact wpS_pure ⟨rfl,_,_,_,_,_,rfl,m2,by omega,by omega,by omega⟩
      | false=>
        simp only[Bool.false_eq_true,if_false]
        refine wpS_bind (wpS_elem ev ?_)
        have m2:=pA hm ev fun z hz=>KO.le_trans (show O.le v u from e) (le_drop sb eu' z hz)
        by_cases c3:ia+1+1=a.size
        · rw[if_pos (by simpa using c3)]
          exact wpS_pure ⟨rfl,.inl ⟨_,_,_,_,_,_,rfl,last m2 c3⟩⟩
        rw[if_neg (by simpa using c3)]
        refine wpS_ite (fun _=>?_) (fun _=>?_)
        · exact wpS_pure ⟨rfl,.inr ⟨_,_,_,_,_,rfl,m2,by omega,by omega,by omega⟩⟩
        · exact wpS_pure ⟨rfl,_,_,_,_,_,rfl,m2,by omega,by omega,by omega⟩
    case post1=>
      rintro c st' ⟨rfl,⟨r,out,ia,ib,p,q,rfl,hr⟩ | ⟨out,ia,ib,p,q,rfl,hm,h1,h2,h3⟩⟩
      · exact wpS_pure ⟨hG1,_,_,_,_,_,rfl,hr⟩
      dsimp only
      refine wpS_bind (wpS_lift (wpAny_rule ⟨rfl,?_⟩))
      refine wpS_bind (wpS_mono (wpS_forRange
        (I:=fun y c st'=>Gal st st'/\∃ (out:Array Keyed) (ia ib g p q:Nat),c=((none:Option (Array Keyed)),out,ia,ib,g,p,q)/\MI O a.toList b.toList out.toList ia ib/\ia+1<a.size/\ib<b.size/\x+1<=ia+ib)
        (Q:=fun c st'=>Gal st st'/\((∃ (r out:Array Keyed) (ia ib g p q:Nat),c=(some r,out,ia,ib,g,p,q)/\Mg O a.toList b.toList r.toList) ∨
          (∃ (out:Array Keyed) (ia ib g p q:Nat),c=(none,out,ia,ib,g,p,q)/\MI O a.toList b.toList out.toList ia ib/\ia+1<a.size/\ib<b.size/\x+1<=ia+ib))) ?step2 ?fin2 ⟨hG1,out,ia,ib,g+1,p,q,rfl,hm,h1,h2,h3⟩) ?post2)
      case fin2=>
        rintro c st' ⟨hG,out,ia,ib,g,p,q,rfl,hm,h1,h2,h3⟩
        exact⟨hG,.inr ⟨out,ia,ib,g,p,q,rfl,hm,h1,h2,h3⟩⟩
      case post2=>
        rintro c st' ⟨hG,⟨r,out,ia,ib,g,p,q,rfl,hr⟩ | ⟨out,ia,ib,g,p,q,rfl,hm,h1,h2,h3⟩⟩
        · exact wpS_pure ⟨hG,_,_,_,_,_,rfl,hr⟩
        exact wpS_bind (wpS_setGallop hG fun st2 hG2=>wpS_pure ⟨hG2,_,_,_,_,rfl,hm,h1,h2,h3⟩)
      case step2=>
        rintro y c st' _ hy ⟨hG,out,ia,ib,g,p,q,rfl,hm,h1,h2,h3⟩
        dsimp only
        obtain⟨u,eu,eu',mu⟩:=arr_at (a:=b) h2
        refine wpS_ite (fun cg=>?_) (fun cg=>?_)
        all_goals
          refine wpS_bind (wpS_setGallop hG fun st2 hG2=>wpS_bind (wpS_elem eu ?_))
          refine wpS_bind (wpS_gallopR hA (hG2.1.trans hk) (okb u mu) oka (by omega) (srtA sa _ _) (by omega) fun k hk1 b1 b2=>?_)
          have m3:=hm.takeAs sa k (by simp; omega) fun i z hi e y hy=>KO.le_trans (b1 i z hi (by rw[<- Array.getElem?_toList]; exact e)) (le_drop sb eu' y hy)
          have hu:∀ z∈a.toList.drop (ia+k),O.le u z:=by
            intro z hz
            obtain⟨j,hj,e⟩:=mem_drop_at hz
            have hj2:j<a.size:=(List.getElem?_eq_some_iff.mp e).1
            refine KO.le_of_lt (b2 (j - ia) z (by omega) (by omega) ?_)
            rw[show ia+(j - ia)=j by omega,<- Array.getElem?_toList]
            exact e
          have hka:ia+k<a.size:=by
            rcases Nat.lt_or_eq_of_le hk1 with z | z
            · omega
            · obtain⟨zl,el,_,_⟩:=arr_at (a:=a) (i:=a.size - 1) (by omega)
              have q1:=hlast zl el u mu
              have q2:=b1 (a.size - 1 - ia) zl (by omega) (by rw[show ia+(a.size - 1 - ia)=a.size - 1 by omega]; exact el)
              rw[show O.blt (O.ky u) (O.ky zl)=false from q2] at q1
              cases q1
          dsimp only
          by_cases ck:k > 0
          · rw[if_pos ck]
            rw[<- ext_to2,<- Array.toList_append] at m3
            by_cases c3:ia+k+1=a.size
            · rw[if_pos (by simpa using c3)]
              exact wpS_pure ⟨hG2,.inl ⟨_,_,_,_,_,_,_,rfl,last m3 c3⟩⟩
            rw[if_neg (by simpa using c3),if_neg (by simp; omega)]
            refine wpS_bind (wpS_elem eu ?_)
            have m4:=pB m3 eu hu
            by_cases c4:ib+1=b.size
            · rw[if_pos (by simpa using c4)]
              exact wpS_pure ⟨hG2,.inl ⟨_,_,_,_,_,_,_,rfl,done m4 (by omega)⟩⟩
            rw[if_neg (by simpa using c4)]
            obtain⟨v,ev,ev',mv⟩:=arr_at (a:=a) (i:=ia+k) (by omega)
            refine wpS_bind (wpS_elem ev ?_)
            refine wpS_bind (wpS_gallopL hA (hG2.1.trans hk) (oka v mv) okb (by omega) (srtA sb _ _) (by omega) fun k2 hk2 d1 d2=>?_)
            have m5:=m4.takeBs sb k2 (by simp; omega) fun i z hi e y hy=>KO.le_trans (KO.le_of_lt (d1 i z hi (by rw[<- Array.getElem?_toList]; exact e))) (le_drop sa ev' y hy)
            have hv:∀ z∈b.toList.drop (ib+1+k2),O.le v z:=by
              intro z hz
              obtain⟨j,hj,e⟩:=mem_drop_at hz
              have hj2:j<b.size:=(List.getElem?_eq_some_iff.mp e).1
              refine d2 (j - (ib+1)) z (by omega) (by omega) ?_
              rw[show ib+1+(j - (ib+1))=j by omega,<- Array.getElem?_toList]
              exact e
            dsimp only
            by_cases ck2:k2 > 0
            · rw[if_pos ck2]
              rw[<- ext_to2,<- Array.toList_append] at m5
              by_cases c6:ib+1+k2=b.size
              · rw[if_pos (by simpa using c6)]
                exact wpS_pure ⟨hG2,.inl ⟨_,_,_,_,_,_,_,rfl,done m5 (by omega)⟩⟩
              rw[if_neg (by simpa using c6)]
              refine wpS_bind (wpS_elem ev ?_)
              have m7:=pA m5 ev hv
              by_cases c7:ia+k+1+1=a.size
              · rw[if_pos (by simpa using c7)]
                exact wpS_pure ⟨hG2,.inl ⟨_,_,_,_,_,_,_,rfl,last m7 c7⟩⟩
              rw[if_neg (by simpa using c7)]
              refine wpS_ite (fun _=>?_) (fun _=>?_)
              · exact wpS_pure ⟨hG2,.inr ⟨_,_,_,_,_,_,rfl,m7,by omega,by omega,by omega⟩⟩
              · exact wpS_pure ⟨hG2,_,_,_,_,_,_,rfl,m7,by omega,by omega,by omega⟩
            · rw[if_neg ck2]
              have k0:k2=0:=by omega
              subst k0
              rw[List.take_zero,List.append_nil] at m5
              refine wpS_bind (wpS_elem ev ?_)
              have m7:=pA m5 ev hv
              by_cases c7:ia+k+1+1=a.size
              · rw[if_pos (by simpa using c7)]
                exact wpS_pure ⟨hG2,.inl ⟨_,_,_,_,_,_,_,rfl,last m7 c7⟩⟩
              rw[if_neg (by simpa using c7)]
              refine wpS_ite (fun _=>?_) (fun _=>?_)
              · exact wpS_pure ⟨hG2,.inr ⟨_,_,_,_,_,_,rfl,m7,by omega,by omega,by omega⟩⟩
              · exact wpS_pure ⟨hG2,_,_,_,_,_,_,rfl,m7,by omega,by omega,by omega⟩
          · rw[if_neg ck]
            have k0:k=0:=by omega
            subst k0
            rw[List.take_zero,List.append_nil] at m3
            refine wpS_bind (wpS_elem eu ?_)
            have m4:=pB m3 eu hu
            by_cases c4:ib+1=b.size
            · rw[if_pos (by simpa using c4)]
              exact wpS_pure ⟨hG2,.inl ⟨_,_,_,_,_,_,_,rfl,done m4 (by omega)⟩⟩
            rw[if_neg (by simpa using c4)]
            obtain⟨v,ev,ev',mv⟩:=arr_at (a:=a) (i:=ia+0) (by omega)
            refine wpS_bind (wpS_elem ev ?_)
            refine wpS_bind (wpS_gallopL hA (hG2.1.trans hk) (oka v mv) okb (by omega) (srtA sb _ _) (by omega) fun k2 hk2 d1 d2=>?_)
            have m5:=m4.takeBs sb k2 (by simp; omega) fun i z hi e y hy=>KO.le_trans (KO.le_of_lt (d1 i z hi (by rw[<- Array.getElem?_toList]; exact e))) (le_drop sa ev' y hy)
            have hv:∀ z∈b.toList.drop (ib+1+k2),O.le v z:=by
              intro z hz
              obtain⟨j,hj,e⟩:=mem_drop_at hz
              have hj2:j<b.size:=(List.getElem?_eq_some_iff.mp e).1
              refine d2 (j - (ib+1)) z (by omega) (by omega) ?_
              rw[show ib+1+(j - (ib+1))=j by omega,<- Array.getElem?_toList]
              exact e
            dsimp only
            by_cases ck2:k2 > 0
            · rw[if_pos ck2]
              rw[<- ext_to2,<- Array.toList_append] at m5
              by_cases c6:ib+1+k2=b.size
              · rw[if_pos (by simpa using c6)]
                exact wpS_pure ⟨hG2,.inl ⟨_,_,_,_,_,_,_,rfl,done m5 (by omega)⟩⟩
              rw[if_neg (by simpa using c6)]
              refine wpS_bind (wpS_elem ev ?_)
              have m7:=pA m5 ev hv
              by_cases c7:ia+0+1+1=a.size
              · rw[if_pos (by simpa using c7)]
                exact wpS_pure ⟨hG2,.inl ⟨_,_,_,_,_,_,_,rfl,last m7 c7⟩⟩
              rw[if_neg (by simpa using c7)]
              refine wpS_ite (fun _=>?_) (fun _=>?_)
              · exact wpS_pure ⟨hG2,.inr ⟨_,_,_,_,_,_,rfl,m7,by omega,by omega,by omega⟩⟩
              · exact wpS_pure ⟨hG2,_,_,_,_,_,_,rfl,m7,by omega,by omega,by omega⟩
            · rw[if_neg ck2]
              have k0:k2=0:=by omega
              subst k0
              rw[List.take_zero,List.append_nil] at m5
              refine wpS_bind (wpS_elem ev ?_)
              have m7:=pA m5 ev hv
              by_cases c7:ia+0+1+1=a.size
              · rw[if_pos (by simpa using c7)]
                exact wpS_pure ⟨hG2,.inl ⟨_,_,_,_,_,_,_,rfl,last m7 c7⟩⟩
              rw[if_neg (by simpa using c7)]
              refine wpS_ite (fun _=>?_) (fun _=>?_)
              · exact wpS_pure ⟨hG2,.inr ⟨_,_,_,_,_,_,rfl,m7,by omega,by omega,by omega⟩⟩
              · exact wpS_pure ⟨hG2,_,_,_,_,_,_,rfl,m7,by omega,by omega,by omega⟩
end
section
variable {O:KO}{a b out:List Keyed}{na nb:Nat}{x:Keyed}
structure MH (O:KO) (a b out:List Keyed) (na nb:Nat):Prop where
  perm:(a.take na++b.take nb++out.reverse).Perm (a++b)
  srt:O.Srt out.reverse
  le:∀ x∈a.take na++b.take nb,∀ y∈out,O.le x y
theorem take_at {l:List Keyed}{i:Nat}{x:Keyed} (e:l[i]?=some x):l.take (i+1)=l.take i++[x]:=by
  rw[List.take_succ,e]; rfl
theorem MH.takeA (h:MH O a b out (na+1) nb) (sa:O.Srt a) (e:a[na]?=some x) (hb:∀ y∈b.take nb,O.le y x):MH O a b (out++[x]) na nb:=by
  have ed:=take_at e
  have sd:O.Srt (a.take na++[x]):=ed ▸ sa.take
  have hx:x∈a.take (na+1)++b.take nb:=by rw[ed]; simp
  refine⟨?_,?_,fun y hy z hz=>?_⟩
  · have p:=h.perm
    rw[ed] at p
    refine List.Perm.trans ?_ p
    rw[List.reverse_append]
    simp only[List.reverse_cons,List.reverse_nil,List.nil_append,List.append_assoc,List.singleton_append]
    refine List.Perm.append_left _ ?_
    exact (List.perm_middle (a:=x) (l₁:=b.take nb) (l₂:=out.reverse))
  · rw[List.reverse_append]
    exact List.pairwise_cons.mpr ⟨fun y hy=>h.le x hx y (List.mem_reverse.mp hy),h.srt⟩
  · rcases List.mem_append.mp hz with hz | hz
    · refine h.le y ?_ z hz
      rw[ed]
      rcases List.mem_append.mp hy with hy | hy
      · exact List.mem_append_left _ (List.mem_append_left _ hy)
      · exact List.mem_append_right _ hy
    · rw[List.mem_singleton.mp hz]
      rcases List.mem_append.mp hy with hy | hy
      · exact (List.pairwise_append.mp sd).2.2 y hy x (by simp)
      · exact hb y hy
theorem MH.takeB (h:MH O a b out na (nb+1)) (sb:O.Srt b) (e:b[nb]?=some x) (ha:∀ y∈a.take na,O.le y x):MH O a b (out++[x]) na nb:=by
  have ed:=take_at e
  have sd:O.Srt (b.take nb++[x]):=ed ▸ sb.take
  have hx:x∈a.take na++b.take (nb+1):=by rw[ed]; simp
  refine⟨?_,?_,fun y hy z hz=>?_⟩
  · have p:=h.perm
    rw[ed] at p
    rw[List.reverse_append]
    simpa using p
  · rw[List.reverse_append]
    exact List.pairwise_cons.mpr ⟨fun y hy=>h.le x hx y (List.mem_reverse.mp hy),h.srt⟩
  · rcases List.mem_append.mp hz with hz | hz
    · refine h.le y ?_ z hz
      rw[ed]
      rcases List.mem_append.mp hy with hy | hy
      · exact List.mem_append_left _ hy
      · exact List.mem_append_right _ (List.mem_append_left _ hy)
    · rw[List.mem_singleton.mp hz]
      rcases List.mem_append.mp hy with hy | hy
      · exact ha y hy
      · exact (List.pairwise_append.mp sd).2.2 y hy x (by simp)
theorem seg_cons {l:List Keyed}{i d:Nat}{x:Keyed} (e:l[i]?=some x):(l.drop i).take (d+1)=x::(l.drop (i+1)).take d:=by
  rw[drop_at e]; rfl
theorem MH.takeAs (h:MH O a b out na nb) (sa:O.Srt a) (hn:na<=a.length):∀ d,d<=na->(∀ i z,na - d<=i->i<na->a[i]?=some z->∀ y∈b.take nb,O.le y z)->MH O a b (out++((a.drop (na - d)).take d).reverse) (na - d) nb
  | 0,_,_=>by simpa using h
  | d+1,hl,hz=>by
    have q:=MH.takeAs h sa hn d (by omega) fun i z h1 h2 e=>hz i z (by omega) h2 e
    have e:a[na - (d+1)]?=some a[na - (d+1)]:=List.getElem?_eq_getElem (by omega)
    rw[show na - d=na - (d+1)+1 by omega] at q
    have r:=q.takeA sa e (hz _ _ (by omega) (by omega) e)
    rw[List.append_assoc,<- List.reverse_cons,<- seg_cons e] at r
    exact r
theorem MH.takeBs (h:MH O a b out na nb) (sb:O.Srt b) (hn:nb<=b.length):∀ d,d<=nb->(∀ i z,nb - d<=i->i<nb->b[i]?=some z->∀ y∈a.take na,O.le y z)->MH O a b (out++((b.drop (nb - d)).take d).reverse) na (nb - d)
  | 0,_,_=>by simpa using h
  | d+1,hl,hz=>by
    have q:=MH.takeBs h sb hn d (by omega) fun i z h1 h2 e=>hz i z (by omega) h2 e
    have e:b[nb - (d+1)]?=some b[nb - (d+1)]:=List.getElem?_eq_getElem (by omega)
    rw[show nb - d=nb - (d+1)+1 by omega] at q
    have r:=q.takeB sb e (hz _ _ (by omega) (by omega) e)
    rw[List.append_assoc,<- List.reverse_cons,<- seg_cons e] at r
    exact r
theorem MH.doneA (h:MH O a b out 0 nb) (sb:O.Srt b):Mg O a b (a.take 0++b.take nb++out.reverse):=by
  refine⟨h.perm,?_⟩
  rw[List.take_zero,List.nil_append]
  exact List.pairwise_append.mpr ⟨sb.take,h.srt,fun x hx y hy=>h.le x (List.mem_append_right _ hx) y (List.mem_reverse.mp hy)⟩
theorem MH.doneB (h:MH O a b out na nb) (sa:O.Srt a) (sb:O.Srt b) (hl:∀ x∈b.take nb,∀ y∈a.take na,O.le x y):Mg O a b (b.take nb++a.take na++out.reverse):=by
  refine⟨(List.Perm.append_right _ List.perm_append_comm).trans h.perm,?_⟩
  refine List.pairwise_append.mpr ⟨List.pairwise_append.mpr ⟨sb.take,sa.take,hl⟩,h.srt,fun x hx y hy=>h.le x ?_ y (List.mem_reverse.mp hy)⟩
  rcases List.mem_append.mp hx with hx | hx
  · exact List.mem_append_right _ hx
  · exact List.mem_append_left _ hx
theorem mem_take_at {l:List Keyed}{i:Nat}{y:Keyed} (h:y∈l.take i):∃ j,j<i/\l[j]?=some y:=by
  obtain⟨j,hj,e⟩:=List.mem_iff_getElem.mp h
  rw[List.length_take] at hj
  refine⟨j,by omega,?_⟩
  rw[List.getElem_take] at e
  rw[List.getElem?_eq_getElem (by omega),e]
theorem le_take {l:List Keyed} (sl:O.Srt l) {i:Nat}{x:Keyed} (hx:l[i]?=some x):∀ y∈l.take (i+1),O.le y x:=fun y hy=>
  let ⟨_,hj,e⟩:=mem_take_at hy
  sorted_at sl (by omega) e hx
theorem ext_to0 (a:Array Keyed) (i:Nat):(a.extract 0 i).toList=a.toList.take i:=by
  rw[Array.toList_extract]
  simp[List.extract]
theorem ext_toR (a:Array Keyed) (i n:Nat):(a.extract i n).toList=(a.toList.drop i).take (n - i):=by
  rw[Array.toList_extract]
end
section
variable {prog:Program}{w:World}{A:Around}{E:Value->Shared->Prop}{s:Shared}{O:KO}{knd:SortKind}{ok:Keyed->Prop}{st:SortSt}
theorem wpS_mergeHi {a b : Array Keyed} {Q : Array Keyed → SortSt → Prop} (hA : Asks prog w A s O knd ok) (hk : kindOf st = knd) (oka : ∀ x ∈ a.toList, ok x) (okb : ∀ x ∈ b.toList, ok x) (sa : O.Srt a.toList) (sb : O.Srt b.toList) (ha : 1 ≤ a.size) (hb : 1 ≤ b.size)
    (hfirst:∀ y,b[0]?=some y->∀ x∈a.toList,O.blt (O.ky y) (O.ky x)=true) (hlast:∀ z,a[a.size - 1]?=some z->∀ y∈b.toList,O.le y z)
    (h:∀ r st',Gal st st'->Mg O a.toList b.toList r.toList->Q r st'):wpS (model prog w) A E s (mergeHi' a b) Q st:=by
  obtain⟨a0,ea0,ea0',_⟩:=arr_at (a:=a) (i:=a.size - 1) (by omega)
  have done:∀ {out:Array Keyed}{nb:Nat},MH O a.toList b.toList out.toList 0 nb->Mg O a.toList b.toList (a.extract 0 0++b.extract 0 nb++out.reverse).toList:=by
    intro out nb m
    rw[Array.toList_append,Array.toList_append,ext_to0,ext_to0,Array.toList_reverse]
    exact m.doneA sb
  have first:∀ {out:Array Keyed}{na:Nat},MH O a.toList b.toList out.toList na 1->Mg O a.toList b.toList (b.extract 0 1++a.extract 0 na++out.reverse).toList:=by
    intro out na m
    rw[Array.toList_append,Array.toList_append,ext_to0,ext_to0,Array.toList_reverse]
    refine m.doneB sa sb fun x hx y hy=>?_
    obtain⟨j,hj,e⟩:=mem_take_at hx
    have e2:j=0:=by omega
    rw[e2,Array.getElem?_toList] at e
    exact KO.le_of_lt (hfirst x e y (List.mem_of_mem_take hy))
  have pB:∀ {out:Array Keyed}{na nb:Nat}{y:Keyed},1<=nb->MH O a.toList b.toList out.toList na nb->b[nb - 1]?=some y->(∀ z∈a.toList.take na,O.le z y)->MH O a.toList b.toList (out.push y).toList na (nb - 1):=by
    intro out na nb y hn m e hz
    rw[Array.toList_push]
    exact MH.takeB (by rw[show nb - 1+1=nb by omega]; exact m) sb (arr_to e) hz
  have pA:∀ {out:Array Keyed}{na nb:Nat}{y:Keyed},1<=na->MH O a.toList b.toList out.toList na nb->a[na - 1]?=some y->(∀ z∈b.toList.take nb,O.le z y)->MH O a.toList b.toList (out.push y).toList (na - 1) nb:=by
    intro out na nb y hn m e hz
    rw[Array.toList_push]
    exact MH.takeA (by rw[show na - 1+1=na by omega]; exact m) sa (arr_to e) hz
  have leT:∀ {l:List Keyed}{i:Nat}{x:Keyed},O.Srt l->1<=i->l[i - 1]?=some x->∀ y∈l.take i,O.le y x:=by
    intro l i x sl hi e y hy
    exact le_take sl e y (by rw[show i - 1+1=i by omega]; exact hy)
  refine wpS_bind (wpS_lift (wpAny_rule ⟨rfl,?_⟩))
  refine wpS_bind (wpS_elem ea0 ?_)
  have m0:MH O a.toList b.toList #[a0].toList (a.size - 1) b.size:=by
    refine MH.takeA (out:=[]) (na:=a.size - 1) (nb:=b.size) ⟨?_,List.Pairwise.nil,fun x hx y hy=>by cases hy⟩ sa ea0' fun y hy=>hlast a0 ea0 y (List.mem_of_mem_take hy)
    rw[show a.size - 1+1=a.size by omega,List.take_of_length_le (by simp),List.take_of_length_le (by simp)]
    simp
  dsimp only
  by_cases c1:a.size - 1=0
  · rw[if_pos (by simpa using c1)]
    rw[c1] at m0 ⊢
    exact wpS_pure (h _ _ Gal.refl (done m0))
  rw[if_neg (by simpa using c1)]
  by_cases c2:b.size=1
  · rw[if_pos (by simpa using c2)]
    rw[c2] at m0
    rw[c2]
    exact wpS_pure (h _ _ Gal.refl (first m0))
  rw[if_neg (by simpa using c2)]
  refine wpS_bind (wpS_get ?_)
  refine wpS_bind (wpS_mono (wpS_forRange
    (I:=fun x c st'=>Gal st st'/\∃ (out:Array Keyed) (na nb g:Nat),c=((none:Option (Array Keyed)),na,nb,out,g)/\MH O a.toList b.toList out.toList na nb/\1<=na/\na<=a.size/\2<=nb/\nb<=b.size/\x+na+nb<=a.size+b.size)
    (Q:=fun c st'=>Gal st st'/\∃ (r out:Array Keyed) (na nb g:Nat),c=(some r,na,nb,out,g)/\Mg O a.toList b.toList r.toList) ?step ?fin ⟨Gal.refl,#[a0],a.size - 1,b.size,gallopOf st,rfl,m0,by omega,by omega,by omega,by omega,show 0+(a.size - 1)+b.size<=_ by omega⟩) ?post)
  case fin=>
    rintro c st' ⟨_,out,na,nb,g,rfl,_,h1,h1',h2,h2',h3⟩
    omega
  case post=>
    rintro c st' ⟨hG,r,out,na,nb,g,rfl,hm⟩
    exact wpS_pure (h r st' hG hm)
  case step=>
    rintro x c st1 _ hx ⟨hG1,out,na,nb,g,rfl,hm,h1,h1',h2,h2',h3⟩
    dsimp only
    have hk1:kindOf st1=knd:=hG1.1.trans hk
    refine wpS_bind (wpS_mono (wpS_forRange
      (I:=fun y c st'=>st'=st1/\∃ (out:Array Keyed) (na nb p q:Nat),c=((none:Option (Array Keyed)),na,nb,out,p,q)/\MH O a.toList b.toList out.toList na nb/\1<=na/\na<=a.size/\2<=nb/\nb<=b.size/\x+y+na+nb<=a.size+b.size)
      (Q:=fun c st'=>st'=st1/\((∃ (r out:Array Keyed) (na nb p q:Nat),c=(some r,na,nb,out,p,q)/\Mg O a.toList b.toList r.toList) ∨
        (∃ (out:Array Keyed) (na nb p q:Nat),c=(none,na,nb,out,p,q)/\MH O a.toList b.toList out.toList na nb/\1<=na/\na<=a.size/\2<=nb/\nb<=b.size/\x+1+na+nb<=a.size+b.size))) ?step1 ?fin1 ⟨rfl,out,na,nb,0,0,rfl,hm,h1,h1',h2,h2',by omega⟩) ?post1)
    case fin1=>
      rintro c st' ⟨rfl,out,na,nb,p,q,rfl,hm,h1,h1',h2,h2',h3⟩
      exact⟨rfl,.inr ⟨out,na,nb,p,q,rfl,hm,h1,h1',h2,h2',by omega⟩⟩
    case step1=>
      rintro y c st' _ hy ⟨rfl,out,na,nb,p,q,rfl,hm,h1,h1',h2,h2',h3⟩
      dsimp only
      obtain⟨u,eu,eu',mu⟩:=arr_at (a:=b) (i:=nb - 1) (by omega)
      obtain⟨v,ev,ev',mv⟩:=arr_at (a:=a) (i:=na - 1) (by omega)
      refine wpS_bind (wpS_elem eu (wpS_bind (wpS_elem ev ?_)))
      refine wpS_bind (wpS_lt hA hk1 (okb u mu) (oka v mv) ?_)
      cases e:O.blt (O.ky u) (O.ky v) with
      | true=>
        simp only[if_true]
        refine wpS_bind (wpS_elem ev ?_)
        have m2:=pA h1 hm ev fun z hz=>KO.le_trans (leT sb (by omega) eu' z hz) (KO.le_of_lt e)
        by_cases c3:na - 1=0
        · rw[if_pos (by simpa using c3)]
          rw[c3] at m2 ⊢
          exact wpS_pure ⟨rfl,.inl ⟨_,_,_,_,_,_,rfl,done m2⟩⟩
        rw[if_neg (by simpa using c3)]
        refine wpS_ite (fun _=>?_) (fun _=>?_)
        · exact wpS_pure ⟨rfl,.inr ⟨_,_,_,_,_,rfl,m2,by omega,by omega,by omega,by omega,by omega⟩⟩
        · exact wpS_pure ⟨rfl,_,_,_,_,_,rfl,m2,by omega,by omega,by omega,by omega,by omega⟩
      | false=>
        simp only[Bool.false_eq_true,if_false]
        refine wpS_bind (wpS_elem eu ?_)
        have m2:=pB (by omega) hm eu fun z hz=>KO.le_trans (leT sa (by omega) ev' z hz) (show O.le v u from e)
        by_cases c3:nb - 1=1
        · rw[if_pos (by simpa using c3)]
          rw[c3] at m2 ⊢
          exact wpS_pure ⟨rfl,.inl ⟨_,_,_,_,_,_,rfl,first m2⟩⟩
        rw[if_neg (by simpa using c3)]
        refine wpS_ite (fun _=>?_) (fun _=>?_)
        · exact wpS_pure ⟨rfl,.inr ⟨_,_,_,_,_,rfl,m2,by omega,by omega,by omega,by omega,by omega⟩⟩
        · exact wpS_pure ⟨rfl,_,_,_,_,_,rfl,m2,by omega,by omega,by omega,by omega,by omega⟩
    case post1=>
      rintro c st' ⟨rfl,⟨r,out,na,nb,p,q,rfl,hr⟩ | ⟨out,na,nb,p,q,rfl,hm,h1,h1',h2,h2',h3⟩⟩
      · exact wpS_pure ⟨hG1,_,_,_,_,_,rfl,hr⟩
      dsimp only
      refine wpS_bind (wpS_lift (wpAny_rule ⟨rfl,?_⟩))
      refine wpS_bind (wpS_mono (wpS_forRange
        (I:=fun y c st'=>Gal st st'/\∃ (out:Array Keyed) (na nb g p q:Nat),c=((none:Option (Array Keyed)),na,nb,out,g,p,q)/\MH O a.toList b.toList out.toList na nb/\1<=na/\na<=a.size/\2<=nb/\nb<=b.size/\x+1+na+nb<=a.size+b.size)
        (Q:=fun c st'=>Gal st st'/\((∃ (r out:Array Keyed) (na nb g p q:Nat),c=(some r,na,nb,out,g,p,q)/\Mg O a.toList b.toList r.toList) ∨
          (∃ (out:Array Keyed) (na nb g p q:Nat),c=(none,na,nb,out,g,p,q)/\MH O a.toList b.toList out.toList na nb/\1<=na/\na<=a.size/\2<=nb/\nb<=b.size/\x+1+na+nb<=a.size+b.size))) ?step2 ?fin2 ⟨hG1,out,na,nb,g+1,p,q,rfl,hm,h1,h1',h2,h2',h3⟩) ?post2)
      case fin2=>
        rintro c st' ⟨hG,out,na,nb,g,p,q,rfl,hm,h1,h1',h2,h2',h3⟩
        exact⟨hG,.inr ⟨out,na,nb,g,p,q,rfl,hm,h1,h1',h2,h2',h3⟩⟩
      case post2=>
        rintro c st' ⟨hG,⟨r,out,na,nb,g,p,q,rfl,hr⟩ | ⟨out,na,nb,g,p,q,rfl,hm,h1,h1',h2,h2',h3⟩⟩
        · exact wpS_pure ⟨hG,_,_,_,_,_,rfl,hr⟩
        exact wpS_bind (wpS_setGallop hG fun st2 hG2=>wpS_pure ⟨hG2,_,_,_,_,rfl,hm,h1,h1',h2,h2',h3⟩)
      case step2=>
        rintro y c st' _ hy ⟨hG,out,na,nb,g,p,q,rfl,hm,h1,h1',h2,h2',h3⟩
        dsimp only
        obtain⟨u,eu,eu',mu⟩:=arr_at (a:=b) (i:=nb - 1) (by omega)
        refine wpS_ite (fun cg=>?_) (fun cg=>?_)
        all_goals
          refine wpS_bind (wpS_setGallop hG fun st2 hG2=>wpS_bind (wpS_elem eu ?_))
          refine wpS_bind (wpS_gallopR hA (hG2.1.trans hk) (okb u mu) oka (by omega) (srtA sa _ _) (by omega) fun k hk1 b1 b2=>?_)
          have m3:=hm.takeAs sa (by simp; omega) (na - k) (by omega) fun i z h6 h7 e y hy=>KO.le_trans (leT sb (by omega) eu' y hy) (KO.le_of_lt (b2 i z (by omega) (by omega) (by rw[Nat.zero_add,<- Array.getElem?_toList]; exact e)))
          rw[show na - (na - k)=k by omega] at m3
          have hu:∀ z∈a.toList.take k,O.le z u:=by
            intro z hz
            obtain⟨j,hj,e⟩:=mem_take_at hz
            refine b1 j z hj ?_
            rw[Nat.zero_add,<- Array.getElem?_toList]
            exact e
          dsimp only
          by_cases ck:na - k > 0
          · rw[if_pos ck]
            rw[<- ext_toR,<- Array.toList_reverse,<- Array.toList_append] at m3
            by_cases c3:k=0
            · rw[if_pos (by simpa using c3)]
              rw[c3] at m3 ⊢
              exact wpS_pure ⟨hG2,.inl ⟨_,_,_,_,_,_,_,rfl,done m3⟩⟩
            rw[if_neg (by simpa using c3)]
            refine wpS_bind (wpS_elem eu ?_)
            have m4:=pB (by omega) m3 eu hu
            by_cases c4:nb - 1=1
            · rw[if_pos (by simpa using c4)]
              rw[c4] at m4 ⊢
              exact wpS_pure ⟨hG2,.inl ⟨_,_,_,_,_,_,_,rfl,first m4⟩⟩
            rw[if_neg (by simpa using c4)]
            obtain⟨v,ev,ev',mv⟩:=arr_at (a:=a) (i:=k - 1) (by omega)
            refine wpS_bind (wpS_elem ev ?_)
            refine wpS_bind (wpS_gallopL hA (hG2.1.trans hk) (oka v mv) okb (by omega) (srtA sb _ _) (by omega) fun k2 hk2 d1 d2=>?_)
            have hk20:1<=k2:=by
              rcases Nat.eq_zero_or_pos k2 with z | z
              · obtain⟨zl,el,_,_⟩:=arr_at (a:=b) (i:=0) (by omega)
                have q1:=hfirst zl el v mv
                have q2:=d2 0 zl (by omega) (by omega) (by rw[Nat.zero_add]; exact el)
                rw[show O.blt (O.ky zl) (O.ky v)=false from q2] at q1
                cases q1
              · exact z
            have m5:=m4.takeBs sb (by simp; omega) (nb - 1 - k2) (by omega) fun i z h6 h7 e y hy=>KO.le_trans (leT sa (by omega) ev' y hy) (d2 i z (by omega) (by omega) (by rw[Nat.zero_add,<- Array.getElem?_toList]; exact e))
            rw[show nb - 1 - (nb - 1 - k2)=k2 by omega] at m5
            have hv:∀ z∈b.toList.take k2,O.le z v:=by
              intro z hz
              obtain⟨j,hj,e⟩:=mem_take_at hz
              refine KO.le_of_lt (d1 j z hj ?_)
              rw[Nat.zero_add,<- Array.getElem?_toList]
              exact e
            dsimp only
            by_cases ck2:nb - 1 - k2 > 0
            · rw[if_pos ck2]
              rw[<- ext_toR,<- Array.toList_reverse,<- Array.toList_append] at m5
              by_cases c6:k2=1
              · rw[if_pos (by simpa using c6)]
                rw[c6] at m5 ⊢
                exact wpS_pure ⟨hG2,.inl ⟨_,_,_,_,_,_,_,rfl,first m5⟩⟩
              rw[if_neg (by simpa using c6),if_neg (by simp; omega)]
              obtain⟨v2,ev2,ev2',mv2⟩:=arr_at (a:=a) (i:=k - 1) (by omega)
              refine wpS_bind (wpS_elem ev2 ?_)
              have ee:v2=v:=Option.some.inj (ev2.symm.trans ev)
              subst ee
              have m7:=pA (by omega) m5 ev2 hv
              by_cases c7:k - 1=0
              · rw[if_pos (by simpa using c7)]
                rw[c7] at m7 ⊢
                exact wpS_pure ⟨hG2,.inl ⟨_,_,_,_,_,_,_,rfl,done m7⟩⟩
              rw[if_neg (by simpa using c7)]
              refine wpS_ite (fun _=>?_) (fun _=>?_)
              · exact wpS_pure ⟨hG2,.inr ⟨_,_,_,_,_,_,rfl,m7,by omega,by omega,by omega,by omega,by omega⟩⟩
              · exact wpS_pure ⟨hG2,_,_,_,_,_,_,rfl,m7,by omega,by omega,by omega,by omega,by omega⟩
            · rw[if_neg ck2]
              have k0:nb - 1=k2:=by omega
              rw[show nb - 1 - k2=0 by omega,List.take_zero,List.reverse_nil,List.append_nil] at m5
              rw[k0]
              obtain⟨v2,ev2,ev2',mv2⟩:=arr_at (a:=a) (i:=k - 1) (by omega)
              refine wpS_bind (wpS_elem ev2 ?_)
              have ee:v2=v:=Option.some.inj (ev2.symm.trans ev)
              subst ee
              have m7:=pA (by omega) m5 ev2 hv
              by_cases c7:k - 1=0
              · rw[if_pos (by simpa using c7)]
                rw[c7] at m7 ⊢
                exact wpS_pure ⟨hG2,.inl ⟨_,_,_,_,_,_,_,rfl,done m7⟩⟩
              rw[if_neg (by simpa using c7)]
              refine wpS_ite (fun _=>?_) (fun _=>?_)
              · exact wpS_pure ⟨hG2,.inr ⟨_,_,_,_,_,_,rfl,m7,by omega,by omega,by omega,by omega,by omega⟩⟩
              · exact wpS_pure ⟨hG2,_,_,_,_,_,_,rfl,m7,by omega,by omega,by omega,by omega,by omega⟩
          · rw[if_neg ck]
            have k0:na=k:=by omega
            rw[show na - k=0 by omega,List.take_zero,List.reverse_nil,List.append_nil] at m3
            rw[k0]
            refine wpS_bind (wpS_elem eu ?_)
            have m4:=pB (by omega) m3 eu hu
            by_cases c4:nb - 1=1
            · rw[if_pos (by simpa using c4)]
              rw[c4] at m4 ⊢
              exact wpS_pure ⟨hG2,.inl ⟨_,_,_,_,_,_,_,rfl,first m4⟩⟩
            rw[if_neg (by simpa using c4)]
            obtain⟨v,ev,ev',mv⟩:=arr_at (a:=a) (i:=k - 1) (by omega)
            refine wpS_bind (wpS_elem ev ?_)
            refine wpS_bind (wpS_gallopL hA (hG2.1.trans hk) (oka v mv) okb (by omega) (srtA sb _ _) (by omega) fun k2 hk2 d1 d2=>?_)
            have hk20:1<=k2:=by
              rcases Nat.eq_zero_or_pos k2 with z | z
              · obtain⟨zl,el,_,_⟩:=arr_at (a:=b) (i:=0) (by omega)
                have q1:=hfirst zl el v mv
                have q2:=d2 0 zl (by omega) (by omega) (by rw[Nat.zero_add]; exact el)
                rw[show O.blt (O.ky zl) (O.ky v)=false from q2] at q1
                cases q1
              · exact z
            have m5:=m4.takeBs sb (by simp; omega) (nb - 1 - k2) (by omega) fun i z h6 h7 e y hy=>KO.le_trans (leT sa (by omega) ev' y hy) (d2 i z (by omega) (by omega) (by rw[Nat.zero_add,<- Array.getElem?_toList]; exact e))
            rw[show nb - 1 - (nb - 1 - k2)=k2 by omega] at m5
            have hv:∀ z∈b.toList.take k2,O.le z v:=by
              intro z hz
              obtain⟨j,hj,e⟩:=mem_take_at hz
              refine KO.le_of_lt (d1 j z hj ?_)
              rw[Nat.zero_add,<- Array.getElem?_toList]
              exact e
            dsimp only
            by_cases ck2:nb - 1 - k2 > 0
            · rw[if_pos ck2]
              rw[<- ext_toR,<- Array.toList_reverse,<- Array.toList_append] at m5
              by_cases c6:k2=1
              · rw[if_pos (by simpa using c6)]
                rw[c6] at m5 ⊢
                exact wpS_pure ⟨hG2,.inl ⟨_,_,_,_,_,_,_,rfl,first m5⟩⟩
              rw[if_neg (by simpa using c6),if_neg (by simp; omega)]
              obtain⟨v2,ev2,ev2',mv2⟩:=arr_at (a:=a) (i:=k - 1) (by omega)
              refine wpS_bind (wpS_elem ev2 ?_)
              have ee:v2=v:=Option.some.inj (ev2.symm.trans ev)
              subst ee
              have m7:=pA (by omega) m5 ev2 hv
              by_cases c7:k - 1=0
              · rw[if_pos (by simpa using c7)]
                rw[c7] at m7 ⊢
                exact wpS_pure ⟨hG2,.inl ⟨_,_,_,_,_,_,_,rfl,done m7⟩⟩
              rw[if_neg (by simpa using c7)]
              refine wpS_ite (fun _=>?_) (fun _=>?_)
              · exact wpS_pure ⟨hG2,.inr ⟨_,_,_,_,_,_,rfl,m7,by omega,by omega,by omega,by omega,by omega⟩⟩
              · exact wpS_pure ⟨hG2,_,_,_,_,_,_,rfl,m7,by omega,by omega,by omega,by omega,by omega⟩
            · rw[if_neg ck2]
              have k0:nb - 1=k2:=by omega
              rw[show nb - 1 - k2=0 by omega,List.take_zero,List.reverse_nil,List.append_nil] at m5
              rw[k0]
              obtain⟨v2,ev2,ev2',mv2⟩:=arr_at (a:=a) (i:=k - 1) (by omega)
              refine wpS_bind (wpS_elem ev2 ?_)
              have ee:v2=v:=Option.some.inj (ev2.symm.trans ev)
              subst ee
              have m7:=pA (by omega) m5 ev2 hv
              by_cases c7:k - 1=0
              · rw[if_pos (by simpa using c7)]
                rw[c7] at m7 ⊢
                exact wpS_pure ⟨hG2,.inl ⟨_,_,_,_,_,_,_,rfl,done m7⟩⟩
              rw[if_neg (by simpa using c7)]
              refine wpS_ite (fun _=>?_) (fun _=>?_)
              · exact wpS_pure ⟨hG2,.inr ⟨_,_,_,_,_,_,rfl,m7,by omega,by omega,by omega,by omega,by omega⟩⟩
              · exact wpS_pure ⟨hG2,_,_,_,_,_,_,rfl,m7,by omega,by omega,by omega,by omega,by omega⟩
def ka (O:KO) (xs:Array Keyed) (i:Nat):O.α:=O.ky ((xs[i]?).getD (.none,.none))
def Up (O:KO) (lo n:Nat) (xs:Array Keyed):Prop:=∀ i j,i<=j->j<n->O.kle (ka O xs (lo+i)) (ka O xs (lo+j))
def Dn (O:KO) (lo n:Nat) (xs:Array Keyed):Prop:=∀ i j,i<=j->j<n->O.kle (ka O xs (lo+j)) (ka O xs (lo+i))
structure FB (knd:SortKind) (b₀:Array Keyed) (p₀:Array (Nat × Nat × Nat)) (lo:Nat) (st:SortSt):Prop where
  perm:(arrOf st).Perm b₀
  keep:∀ i,i<lo->(arrOf st)[i]?=b₀[i]?
  kind:kindOf st=knd
  failed:failedOf st=none
  pend:pendingOf st=p₀
section
variable {b₀:Array Keyed}{p₀:Array (Nat × Nat × Nat)}{lo:Nat}
theorem FB.size (h:FB knd b₀ p₀ lo st):(arrOf st).size=b₀.size:=h.perm.size_eq
theorem FB.put {xs:Array Keyed} (h:FB knd b₀ p₀ lo st) (hp:xs.Perm (arrOf st)) (hx:∀ i,i<lo->xs[i]?=(arrOf st)[i]?):FB knd b₀ p₀ lo (setArr st xs) :=
  ⟨hp.trans h.perm,fun i hi=>(hx i hi).trans (h.keep i hi),h.kind,h.failed,h.pend⟩
theorem FB.mir (h:FB knd b₀ p₀ lo st) {i j:Nat} (hi:lo<=i) (hj:j<=b₀.size):FB knd b₀ p₀ lo (setArr st (mirror (arrOf st) i j ((j - i) / 2))) :=
  h.put (mirror_perm _ _ _ _) fun k hk=>by rw[getElem?_mirror_all (by rw[h.size]; exact hj),if_neg (by omega)]
theorem ka_congr {xs ys:Array Keyed}{i j:Nat} (h:xs[i]?=ys[j]?):ka O xs i=ka O ys j:=by unfold ka; rw[h]
theorem ka_mir {xs:Array Keyed}{i j:Nat} (hj:j<=xs.size) (k:Nat):ka O (mirror xs i j ((j - i) / 2)) k=if i<=k/\k<j then ka O xs (i+j - 1 - k) else ka O xs k:=by
  have e:=getElem?_mirror_all (i:=i) hj k
  split
  · rename_i c; rw[if_pos c] at e; exact ka_congr e
  · rename_i c; rw[if_neg c] at e; exact ka_congr e
theorem ka_mirE {xs:Array Keyed}{i j:Nat} (hj:j<=xs.size) (he:∀ k,i<=k->k<j->ka O xs k=ka O xs (j - 1)) (k:Nat):ka O (mirror xs i j ((j - i) / 2)) k=ka O xs k:=by
  rw[ka_mir hj]
  split
  · rw[he _ (by omega) (by omega),he k (by omega) (by omega)]
  · rfl
theorem ka_bub {xs:Array Keyed}{src d:Nat} (hs:src<xs.size) (hd:d<=src) (k:Nat):ka O (bubble xs src d) k=if k=src - d then ka O xs src else if src - d<k/\k<=src then ka O xs (k - 1) else ka O xs k:=by
  have e:=getElem?_bubble hs d hd k
  split
  · rename_i c; rw[if_pos c] at e; exact ka_congr e
  · rename_i c
    rw[if_neg c] at e
    split
    · rename_i c2; rw[if_pos c2] at e; exact ka_congr e
    · rename_i c2; rw[if_neg c2] at e; exact ka_congr e
theorem wpS_ltA {i j:Nat}{Q:Option Bool->SortSt->Prop} (hA:Asks prog w A s O knd ok) (h0:∀ x∈b₀.toList,ok x) (hF:FB knd b₀ p₀ lo st) (hi:i<b₀.size) (hj:j<b₀.size) (h:Q (some (O.blt (ka O (arrOf st) i) (ka O (arrOf st) j))) st):wpS (model prog w) A E s (ltAt' i j) Q st:=by
  obtain⟨x,ex,_,mx⟩:=arr_at (a:=arrOf st) (i:=i) (by rw[hF.size]; exact hi)
  obtain⟨y,ey,_,my⟩:=arr_at (a:=arrOf st) (i:=j) (by rw[hF.size]; exact hj)
  have pm:=Array.perm_iff_toList_perm.mp hF.perm
  rw[ltAt'_eq]
  refine wpS_bind (wpS_get ?_)
  refine wpS_bind (wpS_elem ex (wpS_bind (wpS_elem ey ?_)))
  refine wpS_lt hA hF.kind (h0 x (pm.mem_iff.mp mx)) (h0 y (pm.mem_iff.mp my)) ?_
  unfold ka at h
  rw[ex,ey] at h
  exact h
theorem wpS_rev {i j:Nat}{Q:Unit->SortSt->Prop} (h:Q () (setArr st (mirror (arrOf st) i j ((j - i) / 2)))):wpS (model prog w) A E s (reverseSlice' i j) Q st:=by
  rw[reverseSlice'_eq]; exact wpS_modify h
def ascL (lo a nrem:Nat):StateT SortSt Sem (Option (Option Nat) × Nat) :=
  forIn [a:nrem] ((none,a):Option (Option Nat) × Nat) fun _ c=>ltAt' (lo+c.2) (lo+c.2 - 1) >>= fun x=>match x with
    | some sm=>if sm=true then pure (ForInStep.done (none,c.2)) else pure (ForInStep.yield (none,c.2+1))
    | _=>pure (ForInStep.done (some none,c.2))
theorem wpS_ascL {a nrem : Nat} {Q : Option (Option Nat) × Nat → SortSt → Prop} (hA : Asks prog w A s O knd ok) (h0 : ∀ x ∈ b₀.toList, ok x) (hF : FB knd b₀ p₀ lo st) (hn : lo + nrem ≤ b₀.size) (ha : 1 ≤ a) (hl : a ≤ nrem) (hu : Up O lo a (arrOf st))
    (h:∀ n,a<=n->n<=nrem->Up O lo n (arrOf st)->(n=nrem∨O.klt (ka O (arrOf st) (lo+n)) (ka O (arrOf st) (lo+n - 1)))->Q (none,n) st):wpS (model prog w) A E s (ascL lo a nrem) Q st:=by
  unfold ascL
  refine wpS_forRange (I:=fun n c τ=>τ=st/\c=((none:Option (Option Nat)),n)/\Up O lo n (arrOf st)) ?go ?out ⟨rfl,rfl,hu⟩
  case out=>
    rintro c τ ⟨rfl,rfl,u⟩
    rw[Nat.max_eq_right hl] at u ⊢
    exact h nrem hl (Nat.le_refl _) u (.inl rfl)
  case go=>
    rintro n c τ h1 h2 ⟨rfl,rfl,u⟩
    refine wpS_bind (wpS_ltA hA h0 hF (by dsimp only; omega) (by dsimp only; omega) ?_)
    dsimp only
    cases e:O.blt (ka O (arrOf τ) (lo+n)) (ka O (arrOf τ) (lo+n - 1)) with
    | true=>
      simp only[if_true]
      exact wpS_pure (h n h1 (by omega) u (.inr e))
    | false=>
      simp only[Bool.false_eq_true,if_false]
      refine wpS_pure ⟨rfl,rfl,fun i j hij hj=>?_⟩
      rcases Nat.lt_or_ge j n with z | z
      · exact u i j hij z
      · obtain rfl:j=n:=by omega
        rcases Nat.lt_or_ge i j with y | y
        · exact KeyOrd.kle_trans (u i (j - 1) (by omega) (by omega)) (by rw[show lo+(j - 1)=lo+j - 1 by omega]; exact e)
        · obtain rfl:i=j:=by omega
          exact KeyOrd.kle_refl _
theorem up_mir {n:Nat}{xs:Array Keyed} (hd:Dn O lo n xs) (hsz:lo+n<=xs.size):Up O lo n (mirror xs lo (lo+n) ((lo+n - lo) / 2)):=by
  intro i j hij hj
  rw[ka_mir hsz,ka_mir hsz,if_pos (by omega),if_pos (by omega)]
  have q:=hd (n - 1 - j) (n - 1 - i) (by omega) (by omega)
  rw[show lo+(n - 1 - j)=lo+(lo+n) - 1 - (lo+j) by omega,show lo+(n - 1 - i)=lo+(lo+n) - 1 - (lo+i) by omega] at q
  exact q
def dscL (lo n nrem:Nat):StateT SortSt Sem (Option (Option Nat) × Nat × Nat) :=
  forIn [n:nrem] ((none,n,0):Option (Option Nat) × Nat × Nat) fun _ c=>ltAt' (lo+c.2.1) (lo+c.2.1 - 1) >>= fun x=>match x with
    | some sm=>if sm=true then (if c.2.2 > 0 then reverseSlice' (lo+c.2.1 - (c.2.2+1)) (lo+c.2.1) >>= fun _=>pure (ForInStep.yield (none,c.2.1+1,0)) else pure (ForInStep.yield (none,c.2.1+1,0)))
      else ltAt' (lo+c.2.1 - 1) (lo+c.2.1) >>= fun y=>match y with
        | some lg=>if lg=true then pure (ForInStep.done (none,c.2.1,c.2.2)) else pure (ForInStep.yield (none,c.2.1+1,c.2.2+1))
        | _=>pure (ForInStep.done (some none,c.2.1,c.2.2))
    | _=>pure (ForInStep.done (some none,c.2.1,c.2.2))
theorem wpS_dscL {n nrem : Nat} {Q : Option (Option Nat) × Nat × Nat → SortSt → Prop} (hA : Asks prog w A s O knd ok) (h0 : ∀ x ∈ b₀.toList, ok x) (hF : FB knd b₀ p₀ lo st) (hn : lo + nrem ≤ b₀.size) (h1 : 1 ≤ n) (hl : n ≤ nrem) (hd : Dn O lo n (arrOf st))
    (h:∀ m e τ,FB knd b₀ p₀ lo τ->n<=m->m<=nrem->Dn O lo m (arrOf τ)->e+1<=m->(∀ i,m - (e+1)<=i->i<m->ka O (arrOf τ) (lo+i)=ka O (arrOf τ) (lo+m - 1))->Q (none,m,e) τ):wpS (model prog w) A E s (dscL lo n nrem) Q st:=by
  unfold dscL
  refine wpS_forRange (I:=fun m c τ=>∃ e,c=((none:Option (Option Nat)),m,e)/\FB knd b₀ p₀ lo τ/\Dn O lo m (arrOf τ)/\e+1<=m/\∀ i,m - (e+1)<=i->i<m->ka O (arrOf τ) (lo+i)=ka O (arrOf τ) (lo+m - 1)) ?go ?out
    ⟨0,rfl,hF,hd,by omega,fun i h2 h3=>by congr 1; omega⟩
  case out=>
    rintro c τ ⟨e,rfl,hT,d,q,he⟩
    rw[Nat.max_eq_right hl] at d q he ⊢
    exact h nrem e τ hT hl (Nat.le_refl _) d q he
  case go=>
    rintro m c τ h2 h3 ⟨e,rfl,hT,d,q,he⟩
    have hsz:lo+m<=(arrOf τ).size:=by rw[hT.size]; omega
    have more:∀ xs:Array Keyed,(∀ k,ka O xs k=ka O (arrOf τ) k)->O.kle (ka O (arrOf τ) (lo+m)) (ka O (arrOf τ) (lo+m - 1))->Dn O lo (m+1) xs:=by
      intro xs hk hle i j hij hj
      rw[hk,hk]
      rcases Nat.lt_or_ge j m with z | z
      · exact d i j hij z
      · obtain rfl:j=m:=by omega
        rcases Nat.lt_or_ge i j with y | y
        · exact KeyOrd.kle_trans hle (by rw[show lo+j - 1=lo+(j - 1) by omega]; exact d i (j - 1) (by omega) (by omega))
        · obtain rfl:i=j:=by omega
          exact KeyOrd.kle_refl _
    have eq1:∀ k,lo+m - (e+1)<=k->k<lo+m->ka O (arrOf τ) k=ka O (arrOf τ) (lo+m - 1):=fun k k1 k2=>by
      have:=he (k - lo) (by omega) (by omega)
      rwa [show lo+(k - lo)=k by omega] at this
    refine wpS_bind (wpS_ltA hA h0 hT (by dsimp only; omega) (by dsimp only; omega) ?_)
    dsimp only
    cases ew:O.blt (ka O (arrOf τ) (lo+m)) (ka O (arrOf τ) (lo+m - 1)) with
    | true=>
      simp only[if_true]
      refine wpS_ite (fun _=>?_) (fun _=>?_)
      · exact wpS_bind (wpS_rev (wpS_pure ⟨0,rfl,hT.mir (by omega) (by omega),more _ (ka_mirE hsz eq1) (KeyOrd.kle_of_klt ew),by omega,fun i h2 h3=>by congr 1; omega⟩))
      · exact wpS_pure ⟨0,rfl,hT,more _ (fun _=>rfl) (KeyOrd.kle_of_klt ew),by omega,fun i h2 h3=>by congr 1; omega⟩
    | false=>
      simp only[Bool.false_eq_true,if_false]
      refine wpS_bind (wpS_ltA hA h0 hT (by omega) (by omega) ?_)
      dsimp only
      cases eg:O.blt (ka O (arrOf τ) (lo+m - 1)) (ka O (arrOf τ) (lo+m)) with
      | true=>
        simp only[if_true]
        exact wpS_pure (h m e τ hT h2 (by omega) d q he)
      | false=>
        simp only[Bool.false_eq_true,if_false]
        have hx:ka O (arrOf τ) (lo+m)=ka O (arrOf τ) (lo+m - 1):=KeyOrd.kle_antisymm (O:=O.toKeyOrd) eg ew
        refine wpS_pure ⟨e+1,rfl,hT,more _ (fun _=>rfl) eg,by omega,fun i i1 i2=>?_⟩
        rw[show lo+(m+1) - 1=lo+m by omega]
        rcases Nat.lt_or_ge i m with z | z
        · rw[hx]; exact he i (by omega) z
        · obtain rfl:i=m:=by omega
          rfl
theorem wpS_run {nrem : Nat} {Q : Option Nat → SortSt → Prop} (hA : Asks prog w A s O knd ok) (h0 : ∀ x ∈ b₀.toList, ok x) (hF : FB knd b₀ p₀ lo st) (hn : lo + nrem ≤ b₀.size) (h1 : 1 ≤ nrem)
    (h:∀ m τ,FB knd b₀ p₀ lo τ->1<=m->m<=nrem->Up O lo m (arrOf τ)->Q (some m) τ):wpS (model prog w) A E s (countRun' lo nrem) Q st:=by
  refine wpS_bind (wpS_ascL (a:=1) hA h0 hF hn (Nat.le_refl 1) h1 (fun i j hij hj=>?_) fun n n1 n2 u hor=>?_)
  · obtain rfl:i=j:=by omega
    exact KeyOrd.kle_refl _
  dsimp only
  by_cases c:n=nrem
  · rw[if_pos (by simpa using c)]
    exact wpS_pure (h n st hF n1 n2 u)
  rw[if_neg (by simpa using c)]
  have hlt:=hor.resolve_left c
  have hsz:lo+n<=(arrOf st).size:=by rw[hF.size]; omega
  by_cases cg:n > 1
  · rw[if_pos cg]
    refine wpS_bind (wpS_ltA hA h0 hF (by omega) (by omega) ?_)
    cases e:O.blt (ka O (arrOf st) lo) (ka O (arrOf st) (lo+n - 1)) with
    | true=>
      simp only[if_true]
      exact wpS_pure (h n st hF n1 n2 u)
    | false=>
      simp only[Bool.false_eq_true,if_false]
      have all:∀ k,lo<=k->k<lo+n->ka O (arrOf st) k=ka O (arrOf st) (lo+n - 1):=by
        intro k k1 k2
        have a1:=u 0 (k - lo) (by omega) (by omega)
        have a2:=u (k - lo) (n - 1) (by omega) (by omega)
        rw[show lo+(k - lo)=k by omega] at a1 a2
        rw[show lo+(n - 1)=lo+n - 1 by omega] at a2
        exact KeyOrd.kle_antisymm a2 (KeyOrd.kle_trans (O:=O.toKeyOrd) e a1)
      refine wpS_bind (wpS_rev ?_)
      have hF7:=FB.mir hF (i:=lo) (j:=lo+n) (Nat.le_refl _) (by omega)
      have d7:Dn O lo (n+1) (arrOf (setArr st (mirror (arrOf st) lo (lo+n) ((lo+n - lo) / 2)))):=by
        intro i j hij hj
        show O.kle (ka O (mirror (arrOf st) _ _ _) _) (ka O (mirror (arrOf st) _ _ _) _)
        rw[ka_mirE hsz all,ka_mirE hsz all]
        rcases Nat.lt_or_ge j n with z | z
        · rw[all _ (by omega) (show lo+j<lo+n by omega),all _ (by omega) (show lo+i<lo+n by omega)]; exact KeyOrd.kle_refl _
        · obtain rfl:j=n:=by omega
          rcases Nat.lt_or_ge i j with y | y
          · rw[all _ (by omega) (show lo+i<lo+j by omega)]; exact KeyOrd.kle_of_klt hlt
          · obtain rfl:i=j:=by omega
            exact KeyOrd.kle_refl _
      refine wpS_bind (wpS_lift (wpAny_rule ⟨rfl,?_⟩))
      refine wpS_bind (wpS_dscL hA h0 hF7 hn (by omega) (by omega) d7 fun m e τ hT m1 m2 d q he=>?_)
      dsimp only
      have hsz:lo+m<=(arrOf τ).size:=by rw[hT.size]; omega
      have eq1:∀ k,lo+m - (e+1)<=k->k<lo+m->ka O (arrOf τ) k=ka O (arrOf τ) (lo+m - 1):=fun k k1 k2=>by
        have:=he (k - lo) (by omega) (by omega)
        rwa [show lo+(k - lo)=k by omega] at this
      refine wpS_ite (fun _=>?_) (fun _=>?_)
      · refine wpS_bind (wpS_rev ?_)
        have hF8:=FB.mir hT (i:=lo+m - (e+1)) (j:=lo+m) (by omega) (by omega)
        have d8:Dn O lo m (arrOf (setArr τ (mirror (arrOf τ) (lo+m - (e+1)) (lo+m) ((lo+m - (lo+m - (e+1))) / 2)))):=by
          intro i j hij hj
          show O.kle (ka O (mirror (arrOf τ) _ _ _) _) (ka O (mirror (arrOf τ) _ _ _) _)
          rw[ka_mirE hsz eq1,ka_mirE hsz eq1]
          exact d i j hij hj
        refine wpS_bind (wpS_rev ?_)
        have hF9:=FB.mir hF8 (i:=lo) (j:=lo+m) (Nat.le_refl _) (by omega)
        refine wpS_bind (wpS_ascL hA h0 hF9 hn (by omega) m2 (up_mir d8 (by rw[FB.size hF8]; omega)) fun m' m1' m2' u' _=>wpS_pure (h m' _ hF9 (by omega) m2' u'))
      ·
        refine wpS_bind (wpS_rev ?_)
        have hF9:=FB.mir hT (i:=lo) (j:=lo+m) (Nat.le_refl _) (by omega)
        refine wpS_bind (wpS_ascL hA h0 hF9 hn (by omega) m2 (up_mir d (by rw[FB.size hT]; omega)) fun m' m1' m2' u' _=>wpS_pure (h m' _ hF9 (by omega) m2' u'))
  · rw[if_neg cg]
    obtain rfl:n=1:=by omega
    have d7:Dn O lo (1+1) (arrOf st):=by
      intro i j hij hj
      rcases Nat.lt_or_ge i j with y | y
      · obtain rfl:i=0:=by omega
        obtain rfl:j=1:=by omega
        exact KeyOrd.kle_of_klt hlt
      · obtain rfl:i=j:=by omega
        exact KeyOrd.kle_refl _
    refine wpS_bind (wpS_lift (wpAny_rule ⟨rfl,?_⟩))
    refine wpS_bind (wpS_dscL hA h0 hF hn (by omega) (by omega) d7 fun m e τ hT m1 m2 d q he=>?_)
    dsimp only
    have hsz:lo+m<=(arrOf τ).size:=by rw[hT.size]; omega
    have eq1:∀ k,lo+m - (e+1)<=k->k<lo+m->ka O (arrOf τ) k=ka O (arrOf τ) (lo+m - 1):=fun k k1 k2=>by
      have:=he (k - lo) (by omega) (by omega)
      rwa [show lo+(k - lo)=k by omega] at this
    refine wpS_ite (fun _=>?_) (fun _=>?_)
    · refine wpS_bind (wpS_rev ?_)
      have hF8:=FB.mir hT (i:=lo+m - (e+1)) (j:=lo+m) (by omega) (by omega)
      have d8:Dn O lo m (arrOf (setArr τ (mirror (arrOf τ) (lo+m - (e+1)) (lo+m) ((lo+m - (lo+m - (e+1))) / 2)))):=by
        intro i j hij hj
        show O.kle (ka O (mirror (arrOf τ) _ _ _) _) (ka O (mirror (arrOf τ) _ _ _) _)
        rw[ka_mirE hsz eq1,ka_mirE hsz eq1]
        exact d i j hij hj
      refine wpS_bind (wpS_rev ?_)
      have hF9:=FB.mir hF8 (i:=lo) (j:=lo+m) (Nat.le_refl _) (by omega)
      refine wpS_bind (wpS_ascL hA h0 hF9 hn (by omega) m2 (up_mir d8 (by rw[FB.size hF8]; omega)) fun m' m1' m2' u' _=>wpS_pure (h m' _ hF9 (by omega) m2' u'))
    ·
      refine wpS_bind (wpS_rev ?_)
      have hF9:=FB.mir hT (i:=lo) (j:=lo+m) (Nat.le_refl _) (by omega)
      refine wpS_bind (wpS_ascL hA h0 hF9 hn (by omega) m2 (up_mir d (by rw[FB.size hT]; omega)) fun m' m1' m2' u' _=>wpS_pure (h m' _ hF9 (by omega) m2' u'))
end
end
end L2
namespace L2
open PySem PyProof.Rows
section
variable {prog:Program}{w:World}{A:Around}{E:Value->Shared->Prop}{s:Shared}{O:KO}{knd:SortKind}{ok:Keyed->Prop}{st:SortSt}{b₀:Array Keyed}{p₀:Array (Nat × Nat × Nat)}{lo:Nat}
theorem mid_lt {l r:Nat} (h:l<r):l<=(l+r) / 2/\(l+r) / 2<r:=by omega
theorem mid_a {l r k x N:Nat} (m1:l<=(l+r) / 2) (m2:(l+r) / 2<r) (hx:x<N) (e2:r<=k) (e3:r - l<=k - x):(l+r) / 2 - l<=k - (x+1):=by omega
theorem mid_b {l r k x N:Nat} (m1:l<=(l+r) / 2) (m2:(l+r) / 2<r) (hx:x<N) (e2:r<=k) (e3:r - l<=k - x):r - ((l+r) / 2+1)<=k - (x+1):=by omega
theorem wpS_ins {n m : Nat} {Q : Bool → SortSt → Prop} (hA : Asks prog w A s O knd ok) (h0 : ∀ x ∈ b₀.toList, ok x) (hF : FB knd b₀ p₀ lo st) (hn : lo + n ≤ b₀.size) (h1 : 1 ≤ m) (hm : m ≤ n) (hu : Up O lo m (arrOf st))
    (h:∀ τ,FB knd b₀ p₀ lo τ->Up O lo n (arrOf τ)->Q true τ):wpS (model prog w) A E s (binarySort' lo n m) Q st:=by
  rw[binarySort'_eq,Nat.max_eq_left h1]
  refine wpS_bind (wpS_mono (wpS_forRange (I:=fun k c τ=>c=(none,())/\FB knd b₀ p₀ lo τ/\Up O lo k (arrOf τ))
    (Q:=fun c τ=>c=(none,())/\FB knd b₀ p₀ lo τ/\Up O lo n (arrOf τ)) ?go ?out ⟨rfl,hF,hu⟩) ?fin)
  case fin=>
    rintro c τ ⟨rfl,hT,u⟩
    exact wpS_pure (h τ hT u)
  case out=>
    rintro c τ ⟨hc,hT,u⟩
    rw[Nat.max_eq_right hm] at u
    exact⟨hc,hT,u⟩
  case go=>
    rintro k c τ k1 k2 ⟨rfl,hT,u⟩
    refine wpS_bind (wpS_mono (wpS_forRange (I := fun x c τ' => τ' = τ ∧ ∃ l r, c = (none, l, r) ∧ l ≤ r ∧ r ≤ k ∧ r - l ≤ k - x ∧
        (∀ i,i<l->O.kle (ka O (arrOf τ) (lo+i)) (ka O (arrOf τ) (lo+k)))/\∀ i,r<=i->i<k->O.klt (ka O (arrOf τ) (lo+k)) (ka O (arrOf τ) (lo+i)))
      (Q:=fun c τ'=>τ'=τ/\∃ l,c=(none,l,l)/\l<=k/\(∀ i,i<l->O.kle (ka O (arrOf τ) (lo+i)) (ka O (arrOf τ) (lo+k)))/\∀ i,l<=i->i<k->O.klt (ka O (arrOf τ) (lo+k)) (ka O (arrOf τ) (lo+i))) ?go2 ?out2
      ⟨rfl,0,k,rfl,Nat.zero_le _,Nat.le_refl _,Nat.le_refl _,fun i hi=>absurd hi (Nat.not_lt_zero _),fun i i1 i2=>absurd i2 (Nat.not_lt.mpr i1)⟩) ?fin2)
    case out2=>
      rintro c τ' ⟨rfl,l,r,rfl,e1,e2,e3,e4,e5⟩
      obtain rfl:l=r:=by omega
      exact⟨rfl,l,rfl,e2,e4,e5⟩
    case go2=>
      rintro x c τ' _ hx ⟨rfl,l,r,rfl,e1,e2,e3,e4,e5⟩
      dsimp only
      by_cases hge:l ≥ r
      · rw[if_pos hge]
        obtain rfl:l=r:=by omega
        exact wpS_pure ⟨rfl,l,rfl,e2,e4,e5⟩
      rw[if_neg hge]
      obtain⟨m1,m2⟩:=mid_lt (Nat.lt_of_not_le hge)
      have mk:(l+r) / 2<k:=Nat.lt_of_lt_of_le m2 e2
      have kn:lo+k<b₀.size:=Nat.lt_of_lt_of_le (Nat.add_lt_add_left k2 lo) hn
      refine wpS_bind (wpS_ltA hA h0 hT kn (Nat.lt_trans (Nat.add_lt_add_left mk lo) kn) ?_)
      cases e:O.blt (ka O (arrOf τ') (lo+k)) (ka O (arrOf τ') (lo+(l+r) / 2)) with
      | true=>
        simp only[if_true]
        exact wpS_pure ⟨rfl,l,(l+r) / 2,rfl,m1,Nat.le_of_lt mk,mid_a m1 m2 hx e2 e3,e4,fun i i1 i2=>KeyOrd.klt_of_klt_of_kle e (u _ _ i1 i2)⟩
      | false=>
        simp only[Bool.false_eq_true,if_false]
        exact wpS_pure ⟨rfl,(l+r) / 2+1,r,rfl,m2,e2,mid_b m1 m2 hx e2 e3,fun i i1=>KeyOrd.kle_trans (u i ((l+r) / 2) (Nat.le_of_lt_succ i1) mk) e,e5⟩
    case fin2=>
      rintro c τ' ⟨rfl,l,rfl,e2,e4,e5⟩
      dsimp only
      rw[moveDown'_eq]
      have hks:lo+k<(arrOf τ').size:=by rw[hT.size]; omega
      refine wpS_bind (wpS_modify (wpS_pure ⟨rfl,hT.put (bubble_perm _ _ _) (fun i hi=>?_),?_⟩))
      · rw[getElem?_bubble hks _ (by omega),if_neg (by omega),if_neg (by omega)]
      · intro i j hij hj
        show O.kle (ka O (bubble (arrOf τ') (lo+k) (lo+k - (lo+l))) _) (ka O (bubble (arrOf τ') (lo+k) (lo+k - (lo+l))) _)
        rw[ka_bub hks (by omega),ka_bub hks (by omega),show lo+k - (lo+k - (lo+l))=lo+l by omega]
        repeat' split
        all_goals first
          | (exfalso; omega)
          | exact KeyOrd.kle_refl _
          | exact e4 _ (by omega)
          | (rw[show lo+j - 1=lo+(j - 1) by omega]; exact KeyOrd.kle_of_klt (e5 _ (by omega) (by omega)))
          | exact KeyOrd.kle_of_klt (e5 _ (by omega) (by omega))
          | (rw[show lo+i - 1=lo+(i - 1) by omega,show lo+j - 1=lo+(j - 1) by omega]; exact u _ _ (by omega) (by omega))
          | (rw[show lo+j - 1=lo+(j - 1) by omega]; exact u _ _ (by omega) (by omega))
          | exact u _ _ (by omega) (by omega)
def pos:Nat->List (List Keyed)->List (Nat × Nat)
  | _,[]=>[]
  | o,r::rs=>(o,r.length)::pos (o+r.length) rs
theorem pos_append:∀ (o:Nat) (xs ys:List (List Keyed)),pos o (xs++ys)=pos o xs++pos (o+xs.flatten.length) ys
  | o,[],ys=>by simp[pos]
  | o,r::rs,ys=>by
    simp only[List.cons_append,pos,pos_append,List.flatten_cons,List.length_append]
    rw[Nat.add_assoc]
theorem pos_length:∀ (o:Nat) (xs:List (List Keyed)),(pos o xs).length=xs.length
  | _,[]=>rfl
  | o,r::rs=>by simp only[pos,List.length_cons,pos_length]
def pr (p:Nat × Nat × Nat):Nat × Nat:=(p.1,p.2.1)
structure RI (O:KO) (knd:SortKind) (a₀:List Keyed) (runs:List (List Keyed)) (rest:List Keyed) (st:SortSt):Prop where
  arr:(arrOf st).toList=runs.flatten++rest
  perm:(arrOf st).toList.Perm a₀
  srt:∀ r∈runs,O.Srt r
  ne:∀ r∈runs,1<=r.length
  kind:kindOf st=knd
  failed:failedOf st=none
  pend:(pendingOf st).toList.map pr=pos 0 runs
theorem write_back : ∀ (l : List Keyed) (n sa : Nat) (xs : Array Keyed) (P M S : List Keyed), xs.toList = P ++ M ++ S → M.length = l.length → P.length = sa + n →
    ((l.zipIdx n).foldl (fun a (q:Keyed × Nat)=>a.setIfInBounds (sa+q.2) q.1) xs).toList=P++l++S
  | [],n,sa,xs,P,M,S,e,h1,h2=>by
    have:M=[]:=List.length_eq_zero_iff.mp h1
    subst this
    simpa using e
  | x::l,n,sa,xs,P,[],S,e,h1,h2=>by cases h1
  | x::l,n,sa,xs,P,y::M,S,e,h1,h2=>by
    rw[List.zipIdx_cons,List.foldl_cons]
    have q:=write_back l (n+1) sa (xs.setIfInBounds (sa+n) x) (P++[x]) M S ?_ (by simpa using h1) (by simp; omega)
    · rw[q]; simp
    · rw[Array.toList_setIfInBounds,e,<- h2]
      simp
theorem map_split {α β:Type}{f:α->β}{l:List α}{X Z:List β}{x y:β} (h:l.map f=X++x::y::Z):∃ P p q S,l=P++p::q::S/\P.map f=X/\f p=x/\f q=y/\S.map f=Z:=by
  obtain⟨P,l2,e1,e2,e3⟩:=List.map_eq_append_iff.mp h
  obtain⟨p,l3,e4,e5,e6⟩:=List.map_eq_cons_iff.mp e3
  obtain⟨q,S,e7,e8,e9⟩:=List.map_eq_cons_iff.mp e6
  exact⟨P,p,q,S,by rw[e1,e4,e7],e2,e5,e8,e9⟩
theorem at_mid {α:Type}{pre m post:List α}{l:List α}{i:Nat} (e:l=pre++m++post) (hi:i<m.length):l[pre.length+i]?=m[i]?:=by
  rw[e,List.append_assoc,List.getElem?_append_right (by omega),Nat.add_sub_cancel_left,List.getElem?_append_left hi]
theorem seg_le {xs:Array Keyed}{pre m post:List Keyed} (e:xs.toList=pre++m++post) (sm:O.Srt m):∀ p q x y,pre.length<=p->p<=q->q<pre.length+m.length->xs[p]?=some x->xs[q]?=some y->O.le x y:=by
  intro p q x y h1 h2 h3 e1 e2
  have f1:=at_mid (i:=p - pre.length) e (by omega)
  have f2:=at_mid (i:=q - pre.length) e (by omega)
  rw[show pre.length+(p - pre.length)=p by omega,Array.getElem?_toList,e1] at f1
  rw[show pre.length+(q - pre.length)=q by omega,Array.getElem?_toList,e2] at f2
  exact sorted_at sm (by omega) f1.symm f2.symm
theorem ext_mid {xs:Array Keyed}{P M S:List Keyed}{i j:Nat} (e:xs.toList=P++M++S) (hi:i=P.length) (hj:j=P.length+M.length):(xs.extract i j).toList=M:=by
  rw[ext_toR,e,hi,hj,List.append_assoc,List.drop_left,Nat.add_sub_cancel_left,List.take_left]
theorem srt3 {x y z:List Keyed} (hx:O.Srt x) (hy:O.Srt y) (hz:O.Srt z) (xy:∀ p∈x,∀ q∈y,O.le p q) (yz:∀ p∈y,∀ q∈z,O.le p q) (xz:∀ p∈x,∀ q∈z,O.le p q):O.Srt (x++y++z):=by
  refine List.pairwise_append.mpr ⟨List.pairwise_append.mpr ⟨hx,hy,xy⟩,hz,fun p hp q hq=>?_⟩
  rcases List.mem_append.mp hp with hp | hp
  · exact xz p hp q hq
  · exact yz p hp q hq
theorem wpS_set {M:Model}{σ:Type}{x y:σ}{Q:PUnit->σ->Prop} (h:Q ⟨⟩ x):wpS M A E s (set x:StateT σ Sem PUnit) Q y:=by
  unfold wpS; rw[StateT.run_set]; exact wpAny_pure ⟨rfl,h⟩
theorem wpS_mergeAt {a₀ rest : List Keyed} {R1 R2 : List (List Keyed)} {a b : List Keyed} {i : Nat} {Q : Bool → SortSt → Prop} (hA : Asks prog w A s O knd ok) (h0 : ∀ x ∈ a₀, ok x) (hR : RI O knd a₀ (R1 ++ a :: b :: R2) rest st) (hi : R1.length = i)
    (h:∀ m τ,m.Perm (a++b)->RI O knd a₀ (R1++m::R2) rest τ->Q true τ):wpS (model prog w) A E s (mergeAt' i) Q st:=by
  have hp:=hR.pend
  rw[pos_append] at hp
  obtain⟨P,p,q,S,ep,e1,e2,e3,e4⟩:=map_split hp
  obtain⟨p1,p2,w1⟩:=p
  obtain⟨q1,q2,w2⟩:=q
  simp only[pr,Prod.mk.injEq,Nat.zero_add] at e2 e3
  obtain⟨rfl,rfl⟩:=e2
  obtain⟨rfl,rfl⟩:=e3
  have hP:P.length=i:=by rw[<- hi,<- pos_length 0 R1,<- e1,List.length_map]
  have g1:(pendingOf st)[i]?=some (R1.flatten.length,a.length,w1):=by
    rw[<- Array.getElem?_toList,ep,List.getElem?_append_right (by omega),hP,Nat.sub_self]; rfl
  have g2:(pendingOf st)[i+1]?=some (R1.flatten.length+a.length,b.length,w2):=by
    rw[<- Array.getElem?_toList,ep,List.getElem?_append_right (by omega),hP,Nat.add_sub_cancel_left]; rfl
  have ea:(arrOf st).toList=R1.flatten++a++(b++(R2.flatten++rest)):=by
    rw[hR.arr]; simp
  have eb:(arrOf st).toList=(R1.flatten++a)++b++(R2.flatten++rest):=by
    rw[hR.arr]; simp
  have sa:O.Srt a:=hR.srt a (by simp)
  have sb:O.Srt b:=hR.srt b (by simp)
  have la:1<=a.length:=hR.ne a (by simp)
  have lb:1<=b.length:=hR.ne b (by simp)
  have oks:∀ x∈(arrOf st).toList,ok x:=fun x hx=>h0 x (hR.perm.mem_iff.mp hx)
  have oka:∀ x∈a,ok x:=fun x hx=>oks x (by rw[ea]; simp[hx])
  have okb:∀ x∈b,ok x:=fun x hx=>oks x (by rw[eb]; simp[hx])
  have fin:∀ (τ:SortSt) (m:List Keyed),m.Perm (a++b)->O.Srt m->(arrOf τ).toList=R1.flatten++m++(R2.flatten++rest)->kindOf τ=knd->failedOf τ=none->(pendingOf τ).toList=P++(R1.flatten.length,a.length+b.length,w1)::S->Q true τ:=by
    intro τ m pm sm em k1 k2 k3
    have lm:m.length=a.length+b.length:=by rw[pm.length_eq,List.length_append]
    refine h m τ pm ⟨by rw[em]; simp,?_,?_,?_,k1,k2,?_⟩
    · refine List.Perm.trans ?_ hR.perm
      rw[em,ea]
      have:=List.Perm.append_left R1.flatten (List.Perm.append_right (R2.flatten++rest) pm)
      simpa using this
    · intro r hr
      rcases List.mem_append.mp hr with hr | hr
      · exact hR.srt r (List.mem_append_left _ hr)
      · rcases List.mem_cons.mp hr with hr | hr
        · rw[hr]; exact sm
        · exact hR.srt r (by simp[hr])
    · intro r hr
      rcases List.mem_append.mp hr with hr | hr
      · exact hR.ne r (List.mem_append_left _ hr)
      · rcases List.mem_cons.mp hr with hr | hr
        · rw[hr]; omega
        · exact hR.ne r (by simp[hr])
    · rw[k3,pos_append,List.map_append,e1,List.map_cons,e4,Nat.zero_add]
      simp only[pos,pr,lm,Nat.add_assoc]
  have new:(((pendingOf st).setIfInBounds i (R1.flatten.length,a.length+b.length,w1)).eraseIdxIfInBounds (i+1)).toList=P++(R1.flatten.length,a.length+b.length,w1)::S:=by
    rw[Array.toList_eraseIdxIfInBounds,Array.toList_setIfInBounds,ep,<- hP]
    simp[List.eraseIdx_append_of_length_le]
  refine wpS_bind (wpS_get ?_)
  rw[show (pendingOf st)[i]?=_ from g1,show (pendingOf st)[i+1]?=_ from g2]
  dsimp only
  refine wpS_bind (wpS_set ?_)
  have eb0:(arrOf st).toList[(R1.flatten++a).length+0]?=b[0]?:=at_mid eb (by omega)
  have hb0:b[0]?=some b[0]:=List.getElem?_eq_getElem lb
  have eb1:(arrOf st)[R1.flatten.length+a.length]?=some b[0]:=by
    rw[<- Array.getElem?_toList,<- hb0,<- eb0,List.length_append,Nat.add_zero]
  have mb0:b[0]∈b:=List.getElem_mem _
  refine wpS_bind (wpS_elem eb1 ?_)
  have hlen:(arrOf st).size=R1.flatten.length+a.length+b.length+(R2.flatten++rest).length:=by
    rw[<- Array.length_toList,eb]; simp only[List.length_append]
  refine wpS_bind (wpS_gallopR hA hR.kind (okb _ mb0) oks (show R1.flatten.length+a.length<=(arrOf st).size by omega) (seg_le ea sa) (by omega) fun k hk1 u1 u2=>?_)
  have ka1:∀ z∈a.take k,O.le z b[0]:=by
    intro z hz
    obtain⟨j,hj,e⟩:=mem_take_at hz
    refine u1 j z hj ?_
    rw[<- Array.getElem?_toList,at_mid ea (by omega)]
    exact e
  have ka2:∀ z∈a.drop k,O.blt (O.ky b[0]) (O.ky z)=true:=by
    intro z hz
    obtain⟨j,hj,e⟩:=mem_drop_at hz
    have hj2:j<a.length:=(List.getElem?_eq_some_iff.mp e).1
    refine u2 j z hj hj2 ?_
    rw[<- Array.getElem?_toList,at_mid ea hj2]
    exact e
  have bb:∀ z∈b,O.le b[0] z:=fun z hz=>le_drop sb hb0 z (by simpa using hz)
  dsimp only
  by_cases ck:a.length - k=0
  · rw[if_pos (by simpa using ck)]
    have ek:a.take k=a:=List.take_of_length_le (by omega)
    rw[ek] at ka1
    refine wpS_pure (fin _ (a++b) (List.Perm.refl _) (List.pairwise_append.mpr ⟨sa,sb,fun x hx y hy=>KO.le_trans (ka1 x hx) (bb y hy)⟩) ?_ hR.kind hR.failed new)
    show (arrOf st).toList=_
    rw[ea]; simp
  rw[if_neg (by simpa using ck)]
  have hla:a[a.length - 1]?=some a[a.length - 1]:=List.getElem?_eq_getElem (by omega)
  have mla:a[a.length - 1]∈a:=List.getElem_mem _
  have mla2:a[a.length - 1]∈a.drop k:=by
    refine List.mem_iff_getElem?.mpr ⟨a.length - 1 - k,?_⟩
    rw[List.getElem?_drop,show k+(a.length - 1 - k)=a.length - 1 by omega]
    exact hla
  have ela:(arrOf st)[R1.flatten.length+k+(a.length - k) - 1]?=some a[a.length - 1]:=by
    rw[<- Array.getElem?_toList,show R1.flatten.length+k+(a.length - k) - 1=R1.flatten.length+(a.length - 1) by omega,at_mid ea (by omega)]
    exact hla
  refine wpS_bind (wpS_elem ela ?_)
  refine wpS_bind (wpS_gallopL hA hR.kind (oka _ mla) oks (show R1.flatten.length+a.length+b.length<=(arrOf st).size by omega) (by rw[<- List.length_append]; exact seg_le eb sb) (by omega) fun n hn1 v1 v2=>?_)
  have kb1:∀ z∈b.take n,O.blt (O.ky z) (O.ky a[a.length - 1])=true:=by
    intro z hz
    obtain⟨j,hj,e⟩:=mem_take_at hz
    refine v1 j z hj ?_
    rw[<- Array.getElem?_toList,<- List.length_append,at_mid eb (by omega)]
    exact e
  have kb2:∀ z∈b.drop n,O.le a[a.length - 1] z:=by
    intro z hz
    obtain⟨j,hj,e⟩:=mem_drop_at hz
    have hj2:j<b.length:=(List.getElem?_eq_some_iff.mp e).1
    refine v2 j z hj hj2 ?_
    rw[<- Array.getElem?_toList,<- List.length_append,at_mid eb hj2]
    exact e
  have hn0:1<=n:=by
    rcases Nat.eq_zero_or_pos n with z | z
    · subst z
      have q1:=ka2 _ mla2
      rw[show O.blt (O.ky b[0]) (O.ky a[a.length - 1])=false from kb2 b[0] (by simpa using mb0)] at q1
      cases q1
    · exact z
  have aa:∀ z∈a,O.le z a[a.length - 1]:=fun z hz=>le_take sa hla z (by rw[show a.length - 1+1=a.length by omega,List.take_length]; exact hz)
  dsimp only
  rw[if_neg (by simp; omega)]
  have exx:((arrOf st).extract (R1.flatten.length+k) (R1.flatten.length+a.length)).toList=a.drop k :=
    ext_mid (P:=R1.flatten++a.take k) (S:=b++(R2.flatten++rest)) (by rw[ea]; simp[<- List.append_assoc]; simp[List.append_assoc,List.take_append_drop]) (by simp; omega) (by simp; omega)
  have exy:((arrOf st).extract (R1.flatten.length+a.length) (R1.flatten.length+a.length+n)).toList=b.take n :=
    ext_mid (P:=R1.flatten++a) (S:=b.drop n++(R2.flatten++rest)) (by rw[eb]; simp only[List.append_assoc]; rw[<- List.append_assoc (b.take n),List.take_append_drop]) (by simp) (by simp; omega)
  have sx:O.Srt (a.drop k):=sa.drop
  have sy:O.Srt (b.take n):=sb.take
  have after : ∀ (r : Array Keyed) (τ : SortSt), Gal (SortSt.mk' (kindOf st) (arrOf st) (((pendingOf st).setIfInBounds i (R1.flatten.length, a.length + b.length, w1)).eraseIdxIfInBounds (i + 1)) (gallopOf st) (failedOf st)) τ → Mg O (a.drop k) (b.take n) r.toList →
      Q true (SortSt.mk' (kindOf τ) (r.toList.zipIdx.foldl (fun a (q:Keyed × Nat)=>a.setIfInBounds (R1.flatten.length+k+q.2) q.1) (arrOf τ)) (pendingOf τ) (gallopOf τ) (failedOf τ)):=by
    intro r τ hG hM
    have mem:∀ z∈r.toList,z∈a.drop k∨z∈b.take n:=fun z hz=>List.mem_append.mp (hM.1.mem_iff.mp hz)
    refine fin _ (a.take k++r.toList++b.drop n) ?_ (srt3 sa.take hM.2 sb.drop (fun p hp q hq=>?_) (fun p hp q hq=>?_) fun p hp q hq=>?_) ?_ (hG.1.trans hR.kind) (hG.2.2.2.trans hR.failed) (by rw[show pendingOf τ=_ from hG.2.2.1]; exact new)
    · have p1:(a.take k++r.toList++b.drop n).Perm (a.take k++(a.drop k++b.take n)++b.drop n):=List.Perm.append_right _ (List.Perm.append_left _ hM.1)
      refine p1.trans (List.Perm.of_eq ?_)
      rw[<- List.append_assoc,List.take_append_drop,List.append_assoc,List.take_append_drop]
    · rcases mem q hq with m | m
      · refine (List.pairwise_append.mp (show O.Srt (a.take k++a.drop k) from by rw[List.take_append_drop]; exact sa)).2.2 p hp q m
      · exact KO.le_trans (ka1 p hp) (bb q (List.mem_of_mem_take m))
    · rcases mem p hp with m | m
      · exact KO.le_trans (aa p (List.mem_of_mem_drop m)) (kb2 q hq)
      · refine (List.pairwise_append.mp (show O.Srt (b.take n++b.drop n) from by rw[List.take_append_drop]; exact sb)).2.2 p m q hq
    · exact KO.le_trans (ka1 p hp) (bb q (List.mem_of_mem_drop hq))
    · show (List.foldl _ (arrOf τ) _).toList=_
      rw[show arrOf τ=arrOf st from hG.2.1]
      have:=write_back r.toList 0 (R1.flatten.length+k) (arrOf st) (R1.flatten++a.take k) (a.drop k++b.take n) (b.drop n++(R2.flatten++rest)) ?_ (by rw[hM.1.length_eq]) (by simp; omega)
      · rw[this]; simp
      · rw[eb]
        simp only[List.append_assoc]
        rw[<- List.append_assoc (a.take k),List.take_append_drop,<- List.append_assoc (b.take n),List.take_append_drop]
  have xsz:((arrOf st).extract (R1.flatten.length+k) (R1.flatten.length+a.length)).size=a.length - k:=by
    rw[<- Array.length_toList,exx,List.length_drop]
  have ysz:((arrOf st).extract (R1.flatten.length+a.length) (R1.flatten.length+a.length+n)).size=n:=by
    rw[<- Array.length_toList,exy,List.length_take]; omega
  have y0:∀ y,((arrOf st).extract (R1.flatten.length+a.length) (R1.flatten.length+a.length+n))[0]?=some y->y=b[0]:=by
    intro y e
    rw[<- Array.getElem?_toList,exy,List.getElem?_take_of_lt (by omega),hb0] at e
    exact (Option.some.inj e).symm
  have xl:∀ z,((arrOf st).extract (R1.flatten.length+k) (R1.flatten.length+a.length))[((arrOf st).extract (R1.flatten.length+k) (R1.flatten.length+a.length)).size - 1]?=some z->z=a[a.length - 1]:=by
    intro z e
    rw[xsz,<- Array.getElem?_toList,exx,List.getElem?_drop,show k+(a.length - k - 1)=a.length - 1 by omega,hla] at e
    exact (Option.some.inj e).symm
  have hx1:1<=((arrOf st).extract (R1.flatten.length+k) (R1.flatten.length+a.length)).size:=by rw[xsz]; omega
  have hy1:1<=((arrOf st).extract (R1.flatten.length+a.length) (R1.flatten.length+a.length+n)).size:=by rw[ysz]; omega
  refine wpS_ite (fun _=>?_) (fun _=>?_)
  · refine wpS_bind (wpS_mergeLo hA hR.kind (by rw[exx]; exact fun x hx=>oka x (List.mem_of_mem_drop hx)) (by rw[exy]; exact fun x hx=>okb x (List.mem_of_mem_take hx)) (by rw[exx]; exact sx) (by rw[exy]; exact sy) hx1 hy1 ?_ ?_ ?_)
    · intro y e x hx
      rw[y0 y e]
      rw[exx] at hx
      exact KO.le_of_lt (ka2 x hx)
    · intro z e y hy
      rw[xl z e]
      rw[exy] at hy
      exact kb1 y hy
    · intro r τ hG hM
      rw[exx,exy] at hM
      refine wpS_bind (wpS_modify (wpS_bind (wpS_get ?_)))
      have e9:failedOf τ=none:=hG.2.2.2.trans hR.failed
      refine wpS_pure ?_
      show Q (failedOf τ).isNone _
      rw[e9]
      exact after r τ hG hM
  · refine wpS_bind (wpS_mergeHi hA hR.kind (by rw[exx]; exact fun x hx=>oka x (List.mem_of_mem_drop hx)) (by rw[exy]; exact fun x hx=>okb x (List.mem_of_mem_take hx)) (by rw[exx]; exact sx) (by rw[exy]; exact sy) hx1 hy1 ?_ ?_ ?_)
    · intro y e x hx
      rw[y0 y e]
      rw[exx] at hx
      exact ka2 x hx
    · intro z e y hy
      rw[xl z e]
      rw[exy] at hy
      exact KO.le_of_lt (kb1 y hy)
    · intro r τ hG hM
      rw[exx,exy] at hM
      refine wpS_bind (wpS_modify (wpS_bind (wpS_get ?_)))
      have e9:failedOf τ=none:=hG.2.2.2.trans hR.failed
      refine wpS_pure ?_
      show Q (failedOf τ).isNone _
      rw[e9]
      exact after r τ hG hM
end
end L2
namespace L2
open PySem PyProof.Rows
section
variable {prog:Program}{w:World}{A:Around}{E:Value->Shared->Prop}{s:Shared}{O:KO}{knd:SortKind}{ok:Keyed->Prop}{st τ:SortSt}
theorem ite_le' {c:Prop} [Decidable c] {a b n:Nat} (h1:a<=n) (h2:b<=n):(if c then a else b)<=n:=by split <;> assumption
theorem split_two {α:Type}:∀ {l:List α}{i:Nat},i+1<l.length->∃ R1 a b R2,l=R1++a::b::R2/\R1.length=i
  | [],_,h=>by simp at h
  | [_],_,h=>by simp at h
  | a::b::l,0,_=>⟨[],a,b,l,rfl,rfl⟩
  | a::b::l,i+1,h=>by
    obtain⟨R1,x,y,R2,e,q⟩:=split_two (l:=b::l) (i:=i) (by simpa using h)
    exact⟨a::R1,x,y,R2,by rw[e]; rfl,by simp[q]⟩
theorem RI.len {a₀ rest:List Keyed}{runs:List (List Keyed)} (h:RI O knd a₀ runs rest st):(pendingOf st).size=runs.length:=by
  rw[<- Array.length_toList,<- pos_length 0 runs,<- h.pend,List.length_map]
theorem RI.size {a₀ rest:List Keyed}{runs:List (List Keyed)} (h:RI O knd a₀ runs rest st):(arrOf st).size=runs.flatten.length+rest.length:=by
  rw[<- Array.length_toList,h.arr,List.length_append]
theorem RI.size0 {a₀ rest:List Keyed}{runs:List (List Keyed)} (h:RI O knd a₀ runs rest st):(arrOf st).size=a₀.length:=by
  rw[<- Array.length_toList,h.perm.length_eq]
theorem runs_le:∀ {runs:List (List Keyed)},(∀ r∈runs,1<=r.length)->runs.length<=runs.flatten.length
  | [],_=>by simp
  | r::rs,h=>by
    have q:=runs_le (runs:=rs) fun x hx=>h x (by simp[hx])
    have:=h r (by simp)
    simp only[List.length_cons,List.flatten_cons,List.length_append]
    omega
theorem fb_ri {a₀ rest : List Keyed} {runs : List (List Keyed)} {n : Nat} (h : RI O knd a₀ runs rest st) (hF : FB knd (arrOf st) (pendingOf st) runs.flatten.length τ) (hu : Up O runs.flatten.length n (arrOf τ)) (hn : n ≤ rest.length) :
    ∃ r rest',r.length=n/\O.Srt r/\rest.length=n+rest'.length/\RI O knd a₀ runs (r++rest') τ:=by
  have hpm:=Array.perm_iff_toList_perm.mp hF.perm
  have hsz:(arrOf τ).size=runs.flatten.length+rest.length:=by rw[hF.size,h.size]
  have e1:(arrOf τ).toList.take runs.flatten.length=runs.flatten:=by
    have:(arrOf τ).toList.take runs.flatten.length=(arrOf st).toList.take runs.flatten.length:=by
      apply List.ext_getElem?
      intro i
      rcases Nat.lt_or_ge i runs.flatten.length with hi | hi
      · rw[List.getElem?_take_of_lt hi,List.getElem?_take_of_lt hi,Array.getElem?_toList,Array.getElem?_toList]
        exact hF.keep i hi
      · rw[List.getElem?_eq_none (by rw[List.length_take]; omega),List.getElem?_eq_none (by rw[List.length_take]; omega)]
    rw[this,h.arr,List.take_left]
  have e2:(arrOf τ).toList=runs.flatten++(arrOf τ).toList.drop runs.flatten.length:=by
    conv=>lhs; rw[<- List.take_append_drop runs.flatten.length (arrOf τ).toList,e1]
  have lr:((arrOf τ).toList.drop runs.flatten.length).length=rest.length:=by
    rw[List.length_drop,Array.length_toList]; omega
  refine⟨((arrOf τ).toList.drop runs.flatten.length).take n,((arrOf τ).toList.drop runs.flatten.length).drop n,by rw[List.length_take]; omega,?_,by rw[List.length_drop]; omega,⟨by rw[List.take_append_drop]; exact e2,hpm.trans h.perm,h.srt,h.ne,hF.kind,hF.failed,by rw[hF.pend]; exact h.pend⟩⟩
  refine List.pairwise_iff_getElem.mpr fun i j hi hj hij=>?_
  rw[List.length_take] at hi hj
  have q:=hu i j (by omega) (by omega)
  rw[List.getElem_take,List.getElem_take,List.getElem_drop,List.getElem_drop]
  have g:∀ k (hk:runs.flatten.length+k<(arrOf τ).toList.length),ka O (arrOf τ) (runs.flatten.length+k)=O.ky ((arrOf τ).toList[runs.flatten.length+k]):=by
    intro k hk
    unfold ka
    rw[<- Array.getElem?_toList,List.getElem?_eq_getElem hk]
    rfl
  have hlt:(arrOf τ).toList.length=runs.flatten.length+rest.length:=by rw[Array.length_toList]; exact hsz
  rw[g i (by omega),g j (by omega)] at q
  exact q
theorem RI.push {a₀ rest r:List Keyed}{runs:List (List Keyed)}{lo n:Nat} (h:RI O knd a₀ runs (r++rest) st) (hs:O.Srt r) (hr:r.length=n) (hn:1<=n) (hl:lo=runs.flatten.length):RI O knd a₀ (runs++[r]) rest (setPending st ((pendingOf st).push (lo,n,0))):=by
  refine⟨?_,h.perm,?_,?_,h.kind,h.failed,?_⟩
  · show (arrOf st).toList=_
    rw[h.arr]; simp
  · intro x hx
    rcases List.mem_append.mp hx with hx | hx
    · exact h.srt x hx
    · rw[List.mem_singleton.mp hx]; exact hs
  · intro x hx
    rcases List.mem_append.mp hx with hx | hx
    · exact h.ne x hx
    · rw[List.mem_singleton.mp hx]; omega
  · show ((pendingOf st).push (lo,n,0)).toList.map pr=_
    rw[Array.toList_push,List.map_append,h.pend,pos_append,hl,<- hr]
    simp[pos,pr]
theorem RI.pow {a₀ rest:List Keyed}{runs:List (List Keyed)}{pw:Nat} (h:RI O knd a₀ runs rest st):RI O knd a₀ runs rest (setPending st ((pendingOf st).modify ((pendingOf st).size - 1) fun x=>(x.1,x.2.1,pw))):=by
  refine⟨h.arr,h.perm,h.srt,h.ne,h.kind,h.failed,?_⟩
  show ((pendingOf st).modify _ _).toList.map pr=_
  rw[<- h.pend]
  apply List.ext_getElem?
  intro i
  rw[List.getElem?_map,List.getElem?_map,Array.getElem?_toList,Array.getElem?_toList,Array.getElem?_modify]
  split
  · cases (pendingOf st)[i]? <;> rfl
  · rfl
theorem wpS_sortAll {a₀ : Array Keyed} {Q : Unit → SortSt → Prop} (hA : Asks prog w A s O knd ok) (h0 : ∀ x ∈ a₀.toList, ok x) (ha : arrOf st = a₀) (hk : kindOf st = knd) (hf : failedOf st = none) (hp : pendingOf st = #[])
    (h:∀ τ,(arrOf τ).toList.Perm a₀.toList->failedOf τ=none->O.Srt (arrOf τ).toList->Q () τ):wpS (model prog w) A E s sortRuns' Q st:=by
  refine wpS_bind (wpS_get ?_)
  dsimp only
  have hN:(arrOf st).size=a₀.size:=by rw[ha]
  have hN2:a₀.toList.length=a₀.size:=Array.length_toList
  rw[hN]
  refine wpS_bind (wpS_mono (wpS_forRange
    (I:=fun x c τ=>∃ lo runs rest,c=((none:Option Unit),lo)/\RI O knd a₀.toList runs rest τ/\lo=runs.flatten.length/\(x<=lo))
    (Q:=fun c τ=>∃ lo runs,c=((none:Option Unit),lo)/\RI O knd a₀.toList runs [] τ) ?go ?out ⟨0,[],a₀.toList,rfl,⟨by rw[ha]; simp,by rw[ha],(fun r hr=>nomatch hr),(fun r hr=>nomatch hr),hk,hf,by rw[hp]; rfl⟩,rfl,Nat.le_refl 0⟩) ?fin)
  case out=>
    rintro c τ ⟨lo,runs,rest,rfl,hR,e1,e2⟩
    have q1:=hR.size
    have q2:=hR.size0
    have q3:=hN2
    have:rest=[]:=List.length_eq_zero_iff.mp (by
      have q4:max 0 a₀.size<=lo:=e2
      omega)
    subst this
    exact⟨lo,runs,rfl,hR⟩
  case fin=>
    rintro c τ ⟨lo,runs,rfl,hR⟩
    dsimp only
    have q1:=hR.size
    have q2:=runs_le hR.ne
    have q3:=hN2
    have q4:=hR.size0
    refine wpS_bind (wpS_mono (wpS_forRange (I:=fun x c τ'=>c=((none:Option Unit),())/\∃ runs',RI O knd a₀.toList runs' [] τ'/\runs'.length+x<=a₀.size)
      (Q:=fun c τ'=>c=((none:Option Unit),())/\∃ runs',RI O knd a₀.toList runs' [] τ'/\runs'.length<=1) ?g2 ?o2 ⟨rfl,runs,hR,by simp only[List.length_nil] at q1; omega⟩) ?f2)
    case o2=>
      rintro c τ' ⟨hc,runs',hR',e⟩
      have e:runs'.length+max 0 a₀.size<=a₀.size:=e
      exact⟨hc,runs',hR',by omega⟩
    case f2=>
      rintro c τ' ⟨rfl,runs',hR',e⟩
      refine wpS_pure (h τ' hR'.perm hR'.failed ?_)
      rw[hR'.arr,List.append_nil]
      match runs',e,hR' with
      | [],_,_=>exact List.Pairwise.nil
      | [r],_,hR'=>simpa using hR'.srt r (by simp)
    case g2=>
      rintro x c τ' _ _ ⟨rfl,runs',hR',e⟩
      refine wpS_bind (wpS_get ?_)
      by_cases c1:(pendingOf τ').size<=1
      · rw[if_pos c1]
        exact wpS_pure ⟨rfl,runs',hR',by rw[<- hR'.len]; exact c1⟩
      rw[if_neg c1]
      have key:∀ j,j<=(pendingOf τ').size - 2->wpS (model prog w) A E s (mergeAt' j) (fun b τ3=>b=true/\∃ runs',RI O knd a₀.toList runs' [] τ3/\runs'.length+(x+1)<=a₀.size) τ':=by
        intro j hj
        obtain⟨R1,a,b,R2,e3,e4⟩:=split_two (l:=runs') (i:=j) (by rw[<- hR'.len]; omega)
        subst e3
        refine wpS_mergeAt hA h0 hR' e4 fun m τ3 pm hR3=>⟨rfl,_,hR3,?_⟩
        simp only[List.length_append,List.length_cons] at e ⊢
        omega
      refine wpS_bind (wpS_mono (key _ ?_) ?_)
      · have:=hR'.len
        rw[show (pendingOf τ').size=runs'.length from this]
        exact ite_le' (by omega) (by omega)
      · rintro b τ3 ⟨rfl,runs3,hR3,e3⟩
        simp only[Bool.not_true,Bool.false_eq_true,if_false]
        exact wpS_pure ⟨rfl,runs3,hR3,e3⟩
  case go=>
    rintro x c τ _ hx ⟨lo,runs,rest,rfl,hR,e1,e2⟩
    have q1:=hR.size
    have q2:=hR.size0
    have q3:=hN2
    dsimp only
    by_cases c0:lo ≥ a₀.size
    · rw[if_pos c0]
      have:rest=[]:=List.length_eq_zero_iff.mp (by omega)
      subst this
      exact wpS_pure ⟨lo,runs,rfl,hR⟩
    rw[if_neg c0]
    have oks:∀ x∈(arrOf τ).toList,ok x:=fun x hx=>h0 x (hR.perm.mem_iff.mp hx)
    refine wpS_bind (wpS_run (b₀:=arrOf τ) (p₀:=pendingOf τ) (lo:=lo) hA oks ⟨Array.Perm.refl _,fun _ _=>rfl,hR.kind,hR.failed,rfl⟩ (by omega) (by omega) fun m τ1 hF m1 m2 u=>?_)
    dsimp only
    refine wpS_ite (fun cm=>?_) (fun cm=>?_)
    · refine wpS_bind (wpS_lift (wpAny_rule ⟨rfl,?_⟩))
      refine wpS_bind (wpS_ins hA oks hF (by omega) m1 (by omega) u fun τ2 hF2 u2=>?_)
      simp only[Bool.not_true,Bool.false_eq_true,if_false]
      rw[e1] at hF2 u2
      obtain⟨r,rest',hr,hs,hl,hR2⟩:=fb_ri hR hF2 u2 (by omega)
      rw[<- e1] at hr
      have h1n:1<=r.length:=by omega
      rw[hr] at h1n
      refine wpS_bind (wpS_get ?_)
      cases eb:(pendingOf τ2).back? with
      | none=>
        dsimp only
        exact wpS_bind (wpS_modify (wpS_pure ⟨_,runs++[r],rest',rfl,hR2.push hs hr h1n e1,by simp[hr,e1],by omega⟩))
      | some p=>
        obtain⟨s1,n1,w1⟩:=p
        dsimp only
        refine wpS_bind (wpS_mono (wpS_forRange (I:=fun _ c τ'=>c=((none:Option Unit),())/\∃ runs',RI O knd a₀.toList runs' (r++rest') τ'/\runs'.flatten.length=lo)
          (Q:=fun c τ'=>c=((none:Option Unit),())/\∃ runs',RI O knd a₀.toList runs' (r++rest') τ'/\runs'.flatten.length=lo) ?g2 (fun _ _ z=>z) ⟨rfl,runs,hR2,e1.symm⟩) ?f2)
        case f2=>
          rintro c τ' ⟨rfl,runs',hR',e⟩
          exact wpS_bind (wpS_modify (wpS_bind (wpS_modify (wpS_pure ⟨_,runs'++[r],rest',rfl,hR'.pow.push hs hr h1n e.symm,by simp[hr,e],by omega⟩))))
        case g2=>
          rintro y c τ' _ _ ⟨rfl,runs',hR',e⟩
          refine wpS_bind (wpS_get ?_)
          by_cases c1:(pendingOf τ').size > 1
          · rw[if_pos c1]
            cases ep:(pendingOf τ')[(pendingOf τ').size - 2]? with
            | none=>exact wpS_pure ⟨rfl,runs',hR',e⟩
            | some p=>
              obtain⟨s3,n3,w3⟩:=p
              dsimp only
              refine wpS_ite (fun _=>wpS_pure ⟨rfl,runs',hR',e⟩) (fun _=>?_)
              obtain⟨R1,a,b,R2,e3,e4⟩:=split_two (l:=runs') (i:=(pendingOf τ').size - 2) (by rw[<- hR'.len]; omega)
              subst e3
              refine wpS_bind (wpS_mergeAt hA h0 hR' e4 fun m τ3 pm hR3=>?_)
              simp only[Bool.not_true,Bool.false_eq_true,if_false]
              refine wpS_pure ⟨rfl,_,hR3,?_⟩
              rw[<- e]
              have:=pm.length_eq
              simp only[List.flatten_append,List.flatten_cons,List.length_append] at this ⊢
              omega
          · rw[if_neg c1]
            exact wpS_pure ⟨rfl,runs',hR',e⟩
    · rw[e1] at hF u
      obtain⟨r,rest',hr,hs,hl,hR2⟩:=fb_ri hR hF u (by omega)
      have h1n:1<=m:=m1
      refine wpS_bind (wpS_get ?_)
      cases eb:(pendingOf τ1).back? with
      | none=>
        dsimp only
        exact wpS_bind (wpS_modify (wpS_pure ⟨_,runs++[r],rest',rfl,hR2.push hs hr h1n e1,by simp[hr,e1],by omega⟩))
      | some p=>
        obtain⟨s1,n1,w1⟩:=p
        dsimp only
        refine wpS_bind (wpS_mono (wpS_forRange (I:=fun _ c τ'=>c=((none:Option Unit),())/\∃ runs',RI O knd a₀.toList runs' (r++rest') τ'/\runs'.flatten.length=lo)
          (Q:=fun c τ'=>c=((none:Option Unit),())/\∃ runs',RI O knd a₀.toList runs' (r++rest') τ'/\runs'.flatten.length=lo) ?g2 (fun _ _ z=>z) ⟨rfl,runs,hR2,e1.symm⟩) ?f2)
        case f2=>
          rintro c τ' ⟨rfl,runs',hR',e⟩
          exact wpS_bind (wpS_modify (wpS_bind (wpS_modify (wpS_pure ⟨_,runs'++[r],rest',rfl,hR'.pow.push hs hr h1n e.symm,by simp[hr,e],by omega⟩))))
        case g2=>
          rintro y c τ' _ _ ⟨rfl,runs',hR',e⟩
          refine wpS_bind (wpS_get ?_)
          by_cases c1:(pendingOf τ').size > 1
          · rw[if_pos c1]
            cases ep:(pendingOf τ')[(pendingOf τ').size - 2]? with
            | none=>exact wpS_pure ⟨rfl,runs',hR',e⟩
            | some p=>
              obtain⟨s3,n3,w3⟩:=p
              dsimp only
              refine wpS_ite (fun _=>wpS_pure ⟨rfl,runs',hR',e⟩) (fun _=>?_)
              obtain⟨R1,a,b,R2,e3,e4⟩:=split_two (l:=runs') (i:=(pendingOf τ').size - 2) (by rw[<- hR'.len]; omega)
              subst e3
              refine wpS_bind (wpS_mergeAt hA h0 hR' e4 fun m τ3 pm hR3=>?_)
              simp only[Bool.not_true,Bool.false_eq_true,if_false]
              refine wpS_pure ⟨rfl,_,hR3,?_⟩
              rw[<- e]
              have:=pm.length_eq
              simp only[List.flatten_append,List.flatten_cons,List.length_append] at this ⊢
              omega
          · rw[if_neg c1]
            exact wpS_pure ⟨rfl,runs',hR',e⟩
end
end L2
namespace L2
open PySem PyProof.Rows
section
variable {prog:Program}{w:World}{A:Around}{E:Value->Shared->Prop}{s:Shared}{O:KO}{knd:SortKind}{ok:Keyed->Prop}
def Ord2 (O:KO) (b:Bool) (us:List Value):Prop:=us.Pairwise fun u v=>if b=true then O.le (v,v) (u,u) else O.le (u,u) (v,v)
theorem out_of {vs:List Value}{out:List Keyed} (hp:out.Perm (vs.zip vs)) (hs:O.Srt out) (b:Bool):∃ us:List Value,(if b=true then (out.map (·.2)).reverse else out.map (·.2))=us/\us.Perm vs/\Ord2 O b us:=by
  have hm:∀ p∈out,p=(p.2,p.2):=fun p hp'=>by
    have:=(mem_zip_self (hp.mem_iff.mp hp')).1
    exact Prod.ext this rfl
  have p1:(out.map (·.2)).Perm vs:=by
    have:=hp.map (·.2)
    rwa [List.map_snd_zip (Nat.le_refl _)] at this
  have s1:(out.map (·.2)).Pairwise fun u v=>O.le (u,u) (v,v):=by
    rw[List.pairwise_map]
    refine hs.imp_of_mem fun {x y} hx hy q=>?_
    rw[hm x hx,hm y hy] at q
    exact q
  cases b with
  | false=>exact⟨_,rfl,p1,by simpa[Ord2] using s1⟩
  | true=>exact⟨_,rfl,(List.reverse_perm _).trans p1,by simp only[Ord2,if_true,List.pairwise_reverse]; exact s1⟩
theorem sort_heap {a:Addr}{vs:List Value}{n:Nat}{h:Heap} (ho:h.get? a=some (seqObj "list" vs.toArray n)) {b:Addr}{o:Obj} (hb:h.get? b=some o) (hne:b≠a):(((h.update a (Obj.mapSeq fun _=>#[])).push (seqObj "tuple" vs.toArray 0)).push (seqObj "list" #[] 0)).get? b=some o :=
  Heap.get?_push_of_some _ (Heap.get?_push_of_some _ (by rw[Heap.get?_update_ne _ _ _ _ hne]; exact hb))
theorem sort_any {a : Addr} {vs : List Value} {n : Nat} {P : PySem.Fin → Shared → Prop} (ho : s.heap.get? a = some (seqObj "list" vs.toArray n)) (hz : vs.length ≤ sizeLine)
    (hkk:∀ h',(∀ b o,s.heap.get? b=some o->b≠a->h'.get? b=some o)->2<=vs.length->∀ Q:SortKind->Shared->Prop,Q knd { s with heap:=h' }->wpAny (model prog w) A (keyKind' vs.toArray) Q E { s with heap:=h' })
    (hA:∀ h',(∀ b o,s.heap.get? b=some o->b≠a->h'.get? b=some o)->Asks prog w A { s with heap:=h' } O knd ok) (hok:∀ v∈vs,ok (v,v))
    (h:∀ us:List Value,us.Perm vs->Ord2 O false us->P (.done (.ret .none)) { s with heap:=sortedHeap s.heap a vs us.toArray }):wpAny (model prog w) A (Builtin.«list.sort» ⟨[.ref a],[]⟩) P E s:=by
  have ha:a<s.heap.objs.size:=Heap.lt_size ho
  have keep:=fun (b:Addr) (o:Obj) (hb:s.heap.get? b=some o) (hne:b≠a)=>sort_heap ho hb hne
  obtain⟨e1,ho1⟩:∃ c,(s.heap.update a (Obj.mapSeq fun _=>#[])).get? a=some (seqObj "list" #[] c):=⟨_,get?_update_seq ho (fun _=>#[])⟩
  have ho6:=Heap.get?_push_of_some (seqObj "list" #[] 0) (Heap.get?_push_of_some (seqObj "tuple" vs.toArray 0) ho1)
  have hsv:vs.toArray.size=vs.length:=List.size_toArray
  have hz1:vs.toArray.size<=sizeLine:=by rw[hsv]; exact hz
  have fin:∀ (τ:SortSt),(arrOf τ).toList.Perm (vs.zip vs)->O.Srt (arrOf τ).toList->P (.done (.ret .none)) { s with heap:=sortedHeap s.heap a vs ((arrOf τ).map (·.2)) }:=by
    intro τ hp hs
    obtain⟨us,e,p1,p2⟩:=out_of hp hs false
    have e2:(arrOf τ).map (·.2)=us.toArray:=by rw[<- e]; apply Array.toList_inj.mp; simp
    rw[e2]
    exact h us p1 p2
  have osz:∀ τ:SortSt,(arrOf τ).toList.Perm (vs.zip vs)->((arrOf τ).map (·.2)).size<=sizeLine+1:=by
    intro τ hp
    rw[Array.size_map,<- Array.length_toList,hp.length_eq,List.length_zip]
    omega
  rw[list_sort_plain]
  refine wpAny_bind (listItems_at ho rfl (wpAny_bind (listUpdate_at ho rfl ?_ hz1 (Nat.zero_le _))))
  refine wpAny_bind (seqEpoch_at ho1 rfl (wpAny_bind (wpAny_newTuple ?_ hz)))
  refine wpAny_bind (wpAny_newList ?_ (Nat.zero_le _))
  refine wpAny_holding ?_
  show wpAny (model prog w) A _ P E ({ s with heap:=((s.heap.update a (Obj.mapSeq fun _=>#[])).push (seqObj "tuple" vs.toArray 0)).push (seqObj "list" #[] 0) }:Shared)
  dsimp only
  by_cases h2:vs.toArray.size<2
  · rw[if_pos h2,if_pos h2]
    refine wpAny_bind (wpAny_pure ?_)
    rw[StateT.run_pure]
    have hp0:(vs.toArray.zip vs.toArray).toList.Perm (vs.zip vs):=by simp
    refine wpAny_bind (wpAny_pure (wpAny_bind (seqEpoch_at ho6 rfl (wpAny_bind (listUpdate_at ho6 rfl ?_ (Nat.zero_le _) (osz (SortSt.mk' general' (vs.toArray.zip vs.toArray) #[] 7 none) hp0))))))
    simp only[bne_self_eq_false,Bool.false_eq_true,if_false]
    refine wpAny_pure (fin (SortSt.mk' general' (vs.toArray.zip vs.toArray) #[] 7 none) hp0 ?_)
    show O.Srt (vs.toArray.zip vs.toArray).toList
    rw[show (vs.toArray.zip vs.toArray).toList=vs.zip vs by simp]
    match vs,h2 with
    | [],_=>exact List.Pairwise.nil
    | [v],_=>exact List.pairwise_singleton _ _
  · rw[if_neg h2,if_neg h2]
    refine wpAny_bind (hkk _ keep (by omega) _ ?_)
    refine wpAny_bind (wpAny_mono (wpS_sortAll (a₀:=vs.toArray.zip vs.toArray) (st:=SortSt.mk' knd (vs.toArray.zip vs.toArray) #[] 7 none) (Q:=fun _ τ=>(arrOf τ).toList.Perm (vs.zip vs)/\failedOf τ=none/\O.Srt (arrOf τ).toList)
      (hA _ keep) (fun x hx=>?_) rfl rfl rfl rfl fun τ a1 a2 a3=>⟨by simpa using a1,a2,a3⟩) ?_ fun _ _ z=>z)
    · have hx:x∈vs.zip vs:=by simpa using hx
      have q:=mem_zip_self hx
      rw[show x=(x.1,x.1) from Prod.ext rfl q.1.symm]
      exact hok _ q.2
    · rintro⟨⟨⟩,τ⟩ s' ⟨rfl,hp,hf,hs⟩
      refine wpAny_bind (seqEpoch_at ho6 rfl (wpAny_bind (listUpdate_at ho6 rfl ?_ (Nat.zero_le _) (osz τ hp))))
      dsimp only
      rw[hf]
      simp only[bne_self_eq_false,Bool.false_eq_true,if_false]
      exact wpAny_pure (fin τ hp hs)
theorem sorted_old {l:Addr}{vs:List Value} (h:Heap):∀ b o,h.get? b=some o->(((h.push (seqObj "list" #[] 0)).update h.objs.size (Obj.mapSeq (·++vs.toArray))).push (seqObj "list" vs.toArray 0)).get? b=some o:=by
  intro b o q
  have hlt:b<h.objs.size:=Heap.lt_size q
  refine Heap.get?_push_of_some _ ?_
  rw[Heap.get?_update_ne _ _ _ _ (Nat.ne_of_lt hlt)]
  exact Heap.get?_push_of_some _ q
structure Sortable (prog:Program) (w:World) (s:Shared) (O:KO) (vs:List Value):Prop where
  ex:∃ (knd:SortKind) (ok:Keyed->Prop),(∀ v∈vs,ok (v,v))/\(∀ A h',(∀ b o,s.heap.get? b=some o->h'.get? b=some o)->Asks prog w A { s with heap:=h' } O knd ok) /\
    ∀ (A:Around) (E:Value->Shared->Prop) h',(∀ b o,s.heap.get? b=some o->h'.get? b=some o)->2<=vs.length->∀ Q:SortKind->Shared->Prop,Q knd { s with heap:=h' }->wpAny (model prog w) A (keyKind' vs.toArray) Q E { s with heap:=h' }
theorem sortedL_any {l : Addr} {vs : List Value} {Q : Value → Shared → Prop} (hl : s.heap.IsList l vs.toArray) (hz : vs.length ≤ sizeLine) (hS : Sortable prog w s O vs)
    (h:∀ us:List Value,us.Perm vs->Ord2 O false us->Q (.ref (s.heap.objs.size+1)) { s with heap:=sortedAll s.heap vs us.toArray }):wpAny (model prog w) A (call (.builtin "sorted") [.ref l]) Q E s:=by
  obtain⟨knd,ok,h1,h2,h3⟩:=hS.ex
  have zz:((s.heap.push (seqObj "list" #[] 0)).update s.heap.objs.size (Obj.mapSeq (·++vs.toArray))).objs.size=s.heap.objs.size+1:=by rw[Heap.size_update,size_push']
  have at1:(((s.heap.push (seqObj "list" #[] 0)).update s.heap.objs.size (Obj.mapSeq (·++vs.toArray))).push (seqObj "list" vs.toArray 0)).get? (s.heap.objs.size+1)=some (seqObj "list" vs.toArray 0):=by
    have:=Heap.get?_push_size ((s.heap.push (seqObj "list" #[] 0)).update s.heap.objs.size (Obj.mapSeq (·++vs.toArray))) (o:=seqObj "list" vs.toArray 0) rfl
    rwa [zz] at this
  refine Calls.call_function_entry kind_sorted plain_sorted entry_sorted (args_sorted1 _) ?_
  unfold Builtin.«sorted»
  refine wpAny_bind (m:=checkCount "sorted" 1 1 _) (wpAny_pure (wpAny_bind (collect_list hl (wpAny_bind (wpAny_newList ?_ hz)) hz)))
  show wpAny _ _ _ _ _ { s with heap:=((s.heap.push (seqObj "list" #[] 0)).update s.heap.objs.size (Obj.mapSeq (·++vs.toArray))).push (seqObj "list" vs.toArray 0) }
  rw[zz]
  have up:∀ h':Heap,(∀ b o,(((s.heap.push (seqObj "list" #[] 0)).update s.heap.objs.size (Obj.mapSeq (·++vs.toArray))).push (seqObj "list" vs.toArray 0)).get? b=some o->b≠s.heap.objs.size+1->h'.get? b=some o)->∀ b o,s.heap.get? b=some o->h'.get? b=some o:=fun h' k b o q=>
    k b o (sorted_old (l:=l) s.heap b o q) (Nat.ne_of_lt (Nat.lt_succ_of_lt (Heap.lt_size q)))
  exact wpAny_bind (wpAny_holding (wpAny_call_entry slot_list_sort ⟨_,at1,rfl⟩ entry_list_sort (sort_any at1 hz (fun h' k hl2 Q' q=>h3 _ _ h' (up h' k) hl2 Q' q) (fun h' k=>h2 _ h' (up h' k)) h1 fun us p1 p2=>⟨_,rfl,wpAny_pure ⟨_,rfl,h us p1 p2⟩⟩) (args_list_sort _)))
def KOi:KO where
  α:=Int
  blt a b:=decide (a<b)
  irrefl a:=by simp
  trans a b c h1 h2:=by simp only[decide_eq_true_eq] at *; omega
  negTrans a b c h:=by simp only[decide_eq_true_eq] at *; omega
  total a b h1 h2:=by simp only[decide_eq_false_iff_not] at *; omega
  ky p:=numOf p.1
theorem sortable_ints {vs:List Value}{ns:List Int} (hI:IntsAre vs ns):Sortable prog w s KOi vs:=by
  refine⟨oneType',(fun p=>∃ n t,p.1=.int n t),fun v hv=>?_,fun A h' _ x y hx hy E Q q=>?_,fun A E h' _ h2 Q q=>?_⟩
  · obtain⟨n,t,e⟩:=hI.all v hv
    exact⟨n,t,e⟩
  · obtain⟨n,t,e1⟩:=hx
    obtain⟨m,u,e2⟩:=hy
    rw[keyLt'_oneType,e1,e2]
    refine oneLt_int ?_
    have q:Q (decide (numOf x.1<numOf y.1)) { s with heap:=h' }:=q
    rw[e1,e2] at q
    exact q
  · match vs,h2,hI with
    | v1::v2::r,_,hI=>
      rw[keyKind_ints hI]
      exact wpAny_pure q
theorem ord_ints {us:List Value}{ms:List Int}{b:Bool} (hI:IntsAre us ms) (h:Ord2 KOi b us):if b=true then ms.Pairwise (· ≥ ·) else ms.Pairwise (·<=·):=by
  have e:=hI.nums
  subst e
  cases b with
  | false=>
    simp only[Bool.false_eq_true,if_false,Ord2] at h ⊢
    rw[List.pairwise_map]
    exact h.imp fun {x y} q=>by
      have q:decide (numOf y<numOf x)=false:=q
      simpa using q
  | true=>
    simp only[if_true,Ord2] at h ⊢
    rw[List.pairwise_map]
    exact h.imp fun {x y} q=>by
      have q:decide (numOf x<numOf y)=false:=q
      simpa using q
theorem ints_perm {vs us:List Value}{ns:List Int} (hI:IntsAre vs ns) (hp:us.Perm vs):∃ ms,IntsAre us ms/\ms.Perm ns:=by
  refine⟨us.map numOf,intsAre_map us fun v hv=>hI.all v (hp.mem_iff.mp hv),?_⟩
  rw[<- hI.nums]
  exact hp.map _
end
end L2
namespace L2
open PySem PySem.Spec PyProof.Rows PySem.SeqAt
section
variable {X:Cx}
theorem call_sortA:CallR X (.builtin "sorted") (fun xs H Q=>∃ (a:Addr) (ns:List Int),xs=[.ref a]/\SqL X.K H a (ns.map V.int)/\∀ (l:Addr) (ms:List Int),H l=none->ms.Perm ns->ms.Pairwise (·<=·)->Q (.ref l) (upd H l (.lst (ms.map V.int)))):=by
  intro pins s σ H xs us Q I r h
  obtain⟨a,ns,rfl,hq,q⟩:=h
  obtain⟨u,rfl,r1⟩:=vals1 r
  cases r1
  obtain⟨its,rv,p,hz⟩:=I.list hq
  have hl:its.length=ns.length:=by rw[<- rv.length,List.length_map]
  rw[List.length_map] at hz
  refine sortedL_any p.isList (by rw[hl]; exact hz) (sortable_ints (intsAre_of rv)) fun us p1 p2=>?_
  obtain⟨ms,hI,pm⟩:=ints_perm (intsAre_of rv) p1
  obtain⟨e,he⟩:=sortedAll_at s.heap its us.toArray
  have hle:s.heap.objs.size<=s.heap.objs.size+1:=Nat.le_succ _
  refine⟨.ref (s.heap.objs.size+1),_,I.laid (a:=s.heap.objs.size+1) (o:=.lst (ms.map V.int)) (t':=s.toks) (fun b o q=>sortedAll_old q) hle ⟨?_,us,e,vals_of_ints hI,he⟩,rfl,q _ ms (I.hok.fresh hle) pm (ord_ints hI p2)⟩
  rw[List.length_map,pm.length_eq]; exact hz
def adr:Value->Addr
  | .ref a=>a
  | _=>0
end
end L2
namespace Lv
open PySem L2
def prs:Nat->List (List Int)->List Nat->List (Int × Nat)
  | k,x::N,m::ms=>(x.drop m).map (fun z=>(z,k))++prs (k+1) N ms
  | _,_,_=>[]
def lexle (p q:Int × Nat):Prop:=p.1<q.1∨(p.1=q.1/\p.2<=q.2)
structure MgS (N:List (List Int)) (m:List Nat) (tk:List (Int × Nat)):Prop where
  inm:InM N m
  perm:(tk++prs 0 N m).Perm (prs 0 N (N.map fun _=>0))
  srt:tk.Pairwise lexle
  le:∀ p∈tk,∀ q∈prs 0 N m,lexle p q
  sm:m.sum=tk.length
theorem srt_eq {a b:List Int} (h:a.Perm b) (h1:a.Pairwise (·<=·)) (h2:b.Pairwise (·<=·)):a=b :=
  List.Perm.eq_of_pairwise (fun a b _ _ h1 h2=>Int.le_antisymm h1 h2) h1 h2 h
def SeqI (H:Hp) (r:Addr) (xs:List V):Prop:=H r=some (.lst xs)∨H r=some (.tup xs)
theorem SeqI.same {H H':Hp}{r:Addr}{xs:List V} (h:SeqI H r xs) (s:Same H H'):SeqI H' r xs:=h.imp (s _ _) (s _ _)
theorem SeqI.both {H:Hp}{r:Addr}{xs:List V} (h:SeqI H r xs):∃ b,∀ (K:PySem.W.Frag) (H':Hp),Same H H'->SqB b K H' r xs:=by
  rcases h with h | h
  · exact⟨true,fun K H' s=>SqL.of (s _ _ h)⟩
  · exact⟨false,fun K H' s=>SqT.of (s _ _ h)⟩
structure RwS (H:Hp) (a:Addr) (rs:List Addr) (N:List (List Int)):Prop where
  top:SeqI H a (rs.map V.ref)
  len:rs.length=N.length
  row:∀ (j:Nat) r xs,rs[j]?=some r->N[j]?=some xs->SeqI H r (xs.map V.int)
theorem RwS.of {H:Hp}{a:Addr}{rs:List Addr}{N:List (List Int)} (h1:H a=some (.lst (rs.map V.ref))) (h2:LLs H rs N):RwS H a rs N:=⟨.inl h1,h2.1,fun j r xs e1 e2=>.inl (h2.2 j r xs e1 e2)⟩
theorem RwS.get {H:Hp}{a:Addr}{rs:List Addr}{N:List (List Int)} (h:RwS H a rs N) {i:Nat}{x:V} (hx:(rs.map V.ref)[i]?=some x):∃ r xs,x=.ref r/\rs[i]?=some r/\N[i]?=some xs/\SeqI H r (xs.map V.int):=by
  have hi:=(List.getElem?_eq_some_iff.mp hx).1
  rw[List.length_map] at hi
  have e:rs[i]?=some rs[i]:=List.getElem?_eq_getElem hi
  have hN:i<N.length:=by rw[<- h.len]; exact hi
  have e2:N[i]?=some N[i]:=List.getElem?_eq_getElem hN
  refine⟨rs[i],N[i],?_,e,e2,h.row i _ _ e e2⟩
  rw[List.getElem?_map,e] at hx
  exact (Option.some.inj hx).symm
theorem flat_take {N:List (List Int)}{i:Nat}{xs:List Int} (h:N[i]?=some xs):(N.take (i+1)).flatten=(N.take i).flatten++xs:=by
  rw[List.take_add_one,h,Option.toList_some,List.flatten_append]; simp
theorem flat_le {N:List (List Int)} (i:Nat):(N.take i).flatten.length<=(lenN N).sum:=by
  have:(lenN N).sum=N.flatten.length:=by unfold lenN; rw[List.length_flatten]
  rw[this]
  conv=>rhs; rw[<- List.take_append_drop i N,List.flatten_append,List.length_append]
  omega
theorem flat_le1 {N:List (List Int)}{i j:Nat}{xs:List Int} (h:N[i]?=some xs) (hj:j<=xs.length):(N.take i).flatten.length+j<=(lenN N).sum:=by
  have:=flat_le (N:=N) (i+1)
  rw[flat_take h,List.length_append] at this
  omega
theorem get_ref {qs:List Addr}{i:Nat}{x:V} (h:(qs.map V.ref)[i]?=some x):∃ p,qs[i]?=some p/\x=.ref p:=by
  rw[List.getElem?_map] at h
  cases e:qs[i]? with
  | none=>rw[e] at h; cases h
  | some p=>rw[e] at h; exact⟨p,rfl,(Option.some.inj h).symm⟩
theorem rdl_ints {H:Hp}:∀ zs:List Int,RdL H (zs.map V.int) (zs.map PyData.int)
  | []=>.nil
  | z::zs=>.cons (.int z) (rdl_ints zs)
structure GoodT (N:List (List Int)):Prop where
  many:N.length<=12
  tot:(lenN N).sum<=400
  bnd:∀ xs∈N,∀ z∈xs,-big61<z/\z<big61
  srt:∀ xs∈N,xs.Pairwise (·<=·)
structure GoodB (b:Nat) (N:List (List Int)):Prop where
  len:∀ xs∈N,xs.length<=b
  bnd:∀ xs∈N,∀ z∈xs,-big61<z/\z<big61
  srt:∀ xs∈N,xs.Pairwise (·<=·)
end Lv
namespace L2
open PySem PySem.Spec PyProof.Rows PySem.SeqAt
section
variable {P:Program}{w:World}{H:Hp}{s:Shared}
theorem RdL.len_eq:∀ {xs ys:List V}{ds:List PyData},RdL H xs ds->RdL H ys ds->xs.length=ys.length
  | _,_,_,.nil,r=>by cases r; rfl
  | _,_,_,.cons _ q,r=>by
    cases r with
    | cons _ q2=>rw[List.length_cons,List.length_cons,RdL.len_eq q q2]
mutual
theorem RdN.eqs (ok:HOk P w H s.heap):∀ {x:V}{d:PyData},RdN H x d->∀ {y:V},RdN H y d->∀ {u v:Value},RelV x u->RelV y v->∀ A:Around,A.units+d.depth<cLine->EqAt A s u v true
  | _,_,.non,y,r,u,v,h1,h2,A,hu=>by
    cases r
    cases (show u=Value.none from h1); cases (show v=Value.none from h2)
    exact EqAt.same _
  | _,_,.bl b,y,r,u,v,h1,h2,A,hu=>by
    cases r
    cases (show u=Value.bool b from h1); cases (show v=Value.bool b from h2)
    exact EqAt.same _
  | _,_,.int i,y,r,u,v,h1,h2,A,hu=>by
    cases r
    obtain⟨t,z⟩:=(show ∃ t,u=Value.int i t from h1); cases z
    obtain⟨t2,z⟩:=(show ∃ t,v=Value.int i t from h2); cases z
    have:=EqAt.int_int (A:=A) (s:=s) i t i t2
    rw[beq_self_eq_true] at this
    exact this
  | _,_,.str x,y,r,u,v,h1,h2,A,hu=>by
    cases r
    obtain⟨t,z⟩:=(show ∃ t,u=Value.str x t from h1); cases z
    obtain⟨t2,z⟩:=(show ∃ t,v=Value.str x t from h2); cases z
    have:=EqAt.str_str (A:=A) (s:=s) x t x t2
    rw[show (x == x)=true from by rw[<- str_beq]; exact beq_self_eq_true _] at this
    exact this
  | _,_,.lst (a:=a) (xs:=xs) (ds:=ds) e q,y,r,u,v,h1,h2,A,hu=>by
    cases r with
    | lst e2 q2=>
      rename_i b ys
      cases (show u=Value.ref a from h1); cases (show v=Value.ref b from h2)
      by_cases hab:a=b
      · subst hab; exact EqAt.same _
      obtain⟨_,i1,n1,v1,g1⟩:=(show ObjOk P w H s.heap a (.lst xs) from ok a _ e)
      obtain⟨_,i2,n2,v2,g2⟩:=(show ObjOk P w H s.heap b (.lst ys) from ok b _ e2)
      have hd:A.units+(PyData.depthAll ds+1)<cLine:=hu
      have hl:=q.len_eq q2
      refine EqAt.of_refs hab ?_
      have:=RcAt.lists (A:=A) (s:=s) (e:=fun _=>true) (l:=a) (b:=b) (items:=i1.toArray) (items2:=i2.toArray) ⟨_,g1,rfl,n1,rfl⟩ ⟨_,g2,rfl,n2,rfl⟩ (by rw[List.size_toArray,List.size_toArray,<- v1.length,<- v2.length,hl]) (by omega) (fun j h1 h2=>by
        have:=RdL.eqs ok q q2 v1 v2 A.in1 (by show A.units+1+_<_; omega) j (by simpa using h1) (by simpa using h2)
        simpa using this)
      rw[all_range] at this
      exact this
  | _,_,.tup (a:=a) (xs:=xs) (ds:=ds) e q,y,r,u,v,h1,h2,A,hu=>by
    cases r with
    | tup e2 q2=>
      rename_i b ys
      cases (show u=Value.ref a from h1); cases (show v=Value.ref b from h2)
      by_cases hab:a=b
      · subst hab; exact EqAt.same _
      obtain⟨_,i1,v1,o1,g1,c1,_,n1,k1⟩:=(show ObjOk P w H s.heap a (.tup xs) from ok a _ e)
      obtain⟨_,i2,v2,o2,g2,c2,_,n2,k2⟩:=(show ObjOk P w H s.heap b (.tup ys) from ok b _ e2)
      have hd:A.units+(PyData.depthAll ds+1)<cLine:=hu
      have hl:=q.len_eq q2
      refine EqAt.of_refs hab ?_
      have:=RcAt.tuples (A:=A) (s:=s) (e:=fun _=>true) (l:=a) (b:=b) (items:=i1.toArray) (items2:=i2.toArray) ⟨o1,g1,c1,n1,k1⟩ ⟨o2,g2,c2,n2,k2⟩ (by omega) (fun j h1 h2=>by
        have:=RdL.eqs ok q q2 v1 v2 A.in1 (by show A.units+1+_<_; omega) j (by simpa using h1) (by simpa using h2)
        simpa using this)
      rw[all_range,List.size_toArray,List.size_toArray,<- v1.length,<- v2.length,hl,beq_self_eq_true] at this
      exact this
theorem RdL.eqs (ok:HOk P w H s.heap):∀ {xs:List V}{ds:List PyData},RdL H xs ds->∀ {ys:List V},RdL H ys ds->∀ {us vs:List Value},Vals xs us->Vals ys vs->∀ A:Around,A.units+PyData.depthAll ds<cLine->∀ (j:Nat) (h1:j<us.length) (h2:j<vs.length),EqAt A s us[j] vs[j] true
  | _,_,.nil,ys,r,us,vs,v1,v2,A,hu,j,h1,h2=>by
    cases v1
    exact absurd h1 (Nat.not_lt_zero _)
  | _,_,.cons (d:=d) (ds:=ds) p q,ys,r,us,vs,v1,v2,A,hu,j,h1,h2=>by
    cases r with
    | cons p2 q2=>
      cases v1 with
      | cons a1 b1=>
        cases v2 with
        | cons a2 b2=>
          have hm:PyData.depthAll (d::ds)=max d.depth (PyData.depthAll ds):=by rw[PyData.depthAll]
          rw[hm] at hu
          cases j with
          | zero=>exact RdN.eqs ok p p2 a1 a2 A (by omega)
          | succ j=>exact RdL.eqs ok q q2 b1 b2 A (by omega) j (by simpa using h1) (by simpa using h2)
end
end
def rNeR:R2:=fun x y H Q=>∃ (a b:Addr) (d:PyData),x=.ref a/\y=.ref b/\RdN H (.ref a) d/\RdN H (.ref b) d/\d.depth<=10/\Q (.bl false) H
section
variable {X:Cx}
theorem rd_els {P : Program} {w : World} {H : Hp} {s : Shared} {A : Around} {xs ys : List V} {ds : List PyData} {i1 i2 : List Value} (ok : HOk P w H s.heap) (q : RdL H xs ds) (q2 : RdL H ys ds) (v1 : Vals xs i1) (v2 : Vals ys i2) (hu : A.units + 1 + PyData.depthAll ds < cLine) :
    ∀ j (h1:j<i1.toArray.size) (h2:j<i2.toArray.size),EqAt A.in1 s i1.toArray[j] i2.toArray[j] true:=fun j h1 h2=>by
  have:=RdL.eqs ok q q2 v1 v2 A.in1 (by show A.units+1+_<_; omega) j (by simpa using h1) (by simpa using h2)
  simpa using this
theorem op_neR (hu:X.A.units+12<cLine):OpR X (compareOp .NotEq) rNeR:=by
  intro pins s σ H x y v u Q I rx ry h
  obtain⟨a,b,d,rfl,rfl,r1,r2,hd,q⟩:=h
  cases rx
  cases ry
  cases r1 with
  | lst e p=>
    rename_i xs ds
    cases r2 with
    | lst e2 p2=>
      rename_i ys
      obtain⟨_,i1,n1,v1,g1⟩:=(show ObjOk X.prog X.w H s.heap a (.lst xs) from I.hok a _ e)
      obtain⟨_,i2,n2,v2,g2⟩:=(show ObjOk X.prog X.w H s.heap b (.lst ys) from I.hok b _ e2)
      have hd':PyData.depthAll ds+1<=10:=hd
      refine RcNeAt.lists (e:=fun _=>true) (items:=i1.toArray) (items2:=i2.toArray) ⟨_,g1,rfl,n1,rfl⟩ ⟨_,g2,rfl,n2,rfl⟩ (by rw[List.size_toArray,List.size_toArray,<- v1.length,<- v2.length,p.len_eq p2]) (by omega) (rd_els I.hok p p2 v1 v2 (by omega)) _ _ _ _ ?_
      rw[all_range]
      exact⟨.bl false,H,I,rfl,q⟩
  | tup e p=>
    rename_i xs ds
    cases r2 with
    | tup e2 p2=>
      rename_i ys
      obtain⟨_,i1,v1,o1,g1,c1,_,n1,k1⟩:=(show ObjOk X.prog X.w H s.heap a (.tup xs) from I.hok a _ e)
      obtain⟨_,i2,v2,o2,g2,c2,_,n2,k2⟩:=(show ObjOk X.prog X.w H s.heap b (.tup ys) from I.hok b _ e2)
      have hd':PyData.depthAll ds+1<=10:=hd
      refine RcNeAt.tuples (e:=fun _=>true) (items:=i1.toArray) (items2:=i2.toArray) ⟨o1,g1,c1,n1,k1⟩ ⟨o2,g2,c2,n2,k2⟩ (by omega) (rd_els I.hok p p2 v1 v2 (by omega)) _ _ _ _ ?_
      rw[all_range,List.size_toArray,List.size_toArray,<- v1.length,<- v2.length,p.len_eq p2,beq_self_eq_true]
      exact⟨.bl false,H,I,rfl,q⟩
end
end L2
namespace L2
open PySem PySem.Spec PyProof.Rows PySem.SeqAt
def LBs (H:Hp) (rs:List Addr) (N:List (List Bool)):Prop:=rs.length=N.length/\∀ (j:Nat) r xs,rs[j]?=some r->N[j]?=some xs->H r=some (.lst (xs.map V.bl))
section
variable {X:Cx}
end
end L2
namespace Lv
open PySem L2
def Fr (S:List Addr) (H H':Hp):Prop:=∀ b o,H b=some o->b ∉ S->H' b=some o
abbrev Rows:=List (Option (List Int))
def datO:Option (List Int)->PyData
  | none=>.none
  | some xs=>.list (xs.map PyData.int)
def reelD (ds:Rows):PyData:=.list (ds.map datO)
def shp (D:List Rows):List (List Bool):=D.map fun ds=>ds.map Option.isSome
def rws (D:List Rows):List (List Int):=D.flatten.filterMap id
theorem ints_depth:∀ (zs:List Int),PyData.depthAll (zs.map PyData.int)=0
  | []=>rfl
  | z::zs=>by simp only[List.map_cons,PyData.depthAll,PyData.depth,ints_depth zs]; rfl
theorem datO_depth (c:Option (List Int)):(datO c).depth<=1:=by
  cases c with
  | none=>simp[datO,PyData.depth]
  | some xs=>simp only[datO,PyData.depth,ints_depth]; decide
theorem reel_depth (ds:Rows):(reelD ds).depth<=2:=by
  have:∀ ds:Rows,PyData.depthAll (ds.map datO)<=1:=by
    intro ds
    induction ds with
    | nil=>simp[PyData.depthAll]
    | cons c r ih=>simp only[List.map_cons,PyData.depthAll]; have:=datO_depth c; omega
  unfold reelD
  simp only[PyData.depth]
  have:=this ds
  omega
abbrev Cell:=Option (Addr × List Int)
abbrev Reel:=Addr × List Cell
def cV:Cell->V
  | none=>.non
  | some (r,_)=>.ref r
def cD:Cell->Option (List Int):=Option.map (·.2)
def cA:Cell->List Addr
  | none=>[]
  | some (r,_)=>[r]
def cOk (H:Hp):Cell->Prop
  | none=>True
  | some (r,xs)=>H r=some (.lst (xs.map V.int))
def tA (t:Reel):List Addr:=t.1::t.2.flatMap cA
def adr (T:List Reel):List Addr:=T.flatMap tA
def tOk (H:Hp) (t:Reel):Prop:=H t.1=some (.lst (t.2.map cV))/\∀ c∈t.2,cOk H c
def NRL (H:Hp) (T:List Reel):Prop:=∀ t∈T,tOk H t
def datT (T:List Reel):List Rows:=T.map fun t=>t.2.map cD
theorem cOk.frame {H H':Hp}{c:Cell} (h:cOk H c) (f:∀ x∈cA c,∀ o,H x=some o->H' x=some o):cOk H' c:=by
  cases c with
  | none=>trivial
  | some q=>exact f q.1 (by simp[cA]) _ h
theorem tOk.frame {H H':Hp}{t:Reel} (h:tOk H t) (f:∀ x∈tA t,∀ o,H x=some o->H' x=some o):tOk H' t:=by
  refine⟨f t.1 (by simp[tA]) _ h.1,fun c hc=>(h.2 c hc).frame fun x hx=>f x ?_⟩
  exact List.mem_cons_of_mem _ (List.mem_flatMap.mpr ⟨c,hc,hx⟩)
theorem NRL.frame {H H':Hp}{T:List Reel} (h:NRL H T) (f:∀ x∈adr T,∀ o,H x=some o->H' x=some o):NRL H' T:=fun t ht=>(h t ht).frame fun x hx=>f x (List.mem_flatMap.mpr ⟨t,ht,hx⟩)
theorem NRL.same {H H':Hp}{T:List Reel} (h:NRL H T) (s:Same H H'):NRL H' T:=h.frame fun x _ o e=>s x o e
theorem NRL.off {H:Hp}{T:List Reel}{a:Addr}{o:HO} (h:NRL H T) (n:a ∉ adr T):NRL (upd H a o) T:=h.frame fun x hx q e=>by rw[upd_ne fun z=>n (by rw[<- z]; exact hx)]; exact e
theorem cells_rd {H:Hp}:∀ {cs:List Cell},(∀ c∈cs,cOk H c)->RdL H (cs.map cV) ((cs.map cD).map datO)
  | [],_=>.nil
  | none::cs,h=>.cons .non (cells_rd fun c hc=>h c (List.mem_cons_of_mem _ hc))
  | some (r,xs)::cs,h=>.cons (.lst (h (some (r,xs)) List.mem_cons_self) (rdl_ints xs)) (cells_rd fun c hc=>h c (List.mem_cons_of_mem _ hc))
theorem adr_app (A B:List Reel):adr (A++B)=adr A++adr B:=List.flatMap_append
theorem adr_cons (t:Reel) (B:List Reel):adr (t::B)=tA t++adr B:=rfl
def TB (H:Hp) (tr:List Addr) (B:List (List Bool)):Prop:=tr.length=B.length/\∀ (j:Nat) r bs,tr[j]?=some r->B[j]?=some bs->H r=some (.tup (bs.map V.bl))
def spLaidR:Sp:=fun vs H Q _=>∃ (la rw:Addr) (tr rs:List Addr) (D:List Rows),vs=[.ref la,.ref rw]/\H la=some (.tup (tr.map V.ref))/\TB H tr (shp D)/\RwS H rw rs (Lv.rws D)/\D.length<=7/\(∀ ds∈D,ds.length<=6000000) /\
  ∀ (l:Addr) (T:List Reel) H',H l=none->H' l=some (.lst (T.map fun t=>V.ref t.1))->NRL H' T->datT T=D++[[]]->(adr T).Nodup->(∀ x∈adr T,H x=none/\x≠l)->Same H H'->Q (.ref l) H'
end Lv
namespace Lv
open PySem L2
def St (S:List Addr) (H:Hp) (Φ:Hp->Prop):Prop:=∀ H',Fr S H H'->Φ H'
theorem LLs.snoc {H:Hp}{rs:List Addr}{N:List (List Int)}{r:Addr}{xs:List Int} (h:LLs H rs N) (e:H r=some (.lst (xs.map V.int))):LLs H (rs++[r]) (N++[xs]):=by
  refine⟨by rw[List.length_append,List.length_append,h.1]; rfl,fun j q cs a b=>?_⟩
  rcases Nat.lt_or_ge j rs.length with hj | hj
  · rw[List.getElem?_append_left hj] at a
    rw[List.getElem?_append_left (by rw[<- h.1]; exact hj)] at b
    exact h.2 j q cs a b
  · rw[List.getElem?_append_right hj] at a
    rw[List.getElem?_append_right (by rw[<- h.1]; exact hj),<- h.1] at b
    cases e3:j - rs.length with
    | zero=>rw[e3] at a b; cases a; cases b; exact e
    | succ n=>rw[e3] at a; cases a
structure Bld (S:List Addr) (H:Hp) (us:List V) (rs tr:List Addr) (D:List Rows) (R:List (List Int)):Prop where
  due:St S H fun H'=>RdL H' us (D.map reelD)
  rows:St S H fun H'=>LLs H' rs R
  lay:St S H fun H'=>TB H' tr (shp D)
end Lv
namespace Lv
open PySem L2
end Lv
namespace Lv
open PySem L2
def les (m x:Int):Int:=if x - m > 0 then x - m else 0
def behindP (c:List Int) (out:Nat) (m:Int):List Int:=(c.map (les m)).set out m
def LeAll (a b:List Int):Prop:=a.length=b.length/\∀ j:Nat,a.getD j 0<=b.getD j 0
def Cov (c L:List Int):Prop:=∃ l:List Int,l.Perm (c)/\LeAll l (L++[0])
end Lv
namespace L2
open PySem PySem.Spec PyProof.Rows PySem.SeqAt
section
variable {X:Cx}
end
end L2
namespace L2
open PySem PySem.Spec PyProof.Rows PySem.SeqAt
section
variable {X:Cx}
def tBMT (r:V->List V->Hp->VK->Prop) (to:TE) (t:TA):TE:=fun σ H Q=>to σ H fun x H1=>(∃ p xs,x=.ref p/\H1 p=some (.tup xs))/\t σ H1 fun xs H2=>r x xs H2 Q
theorem pe_bmT {o e : Expr} {es : List Expr} {to : TE} {t : TA} {name : Str} {apos cpos : Pos} {id : String} {r : V → List V → Hp → VK → Prop} (slot : Slot "tuple" name id) (hty : typeOf (.builtin id) = pure (.type "method_descriptor")) (hm : MtR X id r) (ho : PE X o to) (ha : PA X (e :: es) t)
    (hbase:attributeBase o name X.env (eval o X.env)=eval o X.env:=by rfl)
    (hfew:((backTo cpos (starEach (e::es) X.env)).all (fun x=>!x.1) && (backToKw cpos (keywordEach [] X.env)).all (fun x=>x.1.isSome) && decide ((e::es).length+([]:List Keyword).length+(if ([]:List Keyword).isEmpty then 0 else 1)<30))=true:=by rfl)
    (hline:(apos.endLine == cpos.line)=true:=by rfl) (hs:starEach (e::es) X.env=(false,eval e X.env)::starEach es X.env:=by rfl) (hplain:(backTo cpos (starEach es X.env)).any (·.1)=false:=by rfl):PE X (.Call (.Attribute o name apos) (e::es) [] cpos) (tBMT r to t):=by
  intro pins s σ H Q I h
  refine wpAny_Call_method_late hbase hfew hline rfl (thn (ho pins s σ H _ I h) fun v s1 ⟨x,H1,I1,r1,⟨p,xs,ex,hp⟩,q1⟩=>?_)
  subst ex
  cases r1
  obtain⟨_,its,_,ob,h1,h2,h3,_⟩:=(show ObjOk X.prog X.w H1 s1.heap p (.tup xs) from I1.hok p _ hp)
  refine⟨"tuple",id,F.plainAttrs_tuple,slot,hty,⟨ob,h1,h2⟩,fun a e=>?_,?_⟩
  · cases e
    exact⟨ob,h1,h3⟩
  have hA:=ha cpos pins s1 σ H1 _ I1 q1
  rw[hs] at hA ⊢
  refine Calls.callWith_builtin (by show (false || (backTo cpos (starEach es X.env)).any (·.1))=false; rw[hplain] <;> rfl) (Calls.evalArgs_plain ?_)
  exact thn hA fun us s2 ⟨vs,H2,I2,r2,q2⟩=>hm pins s2 σ H2 (.ref p) vs (.ref p) us Q I2 rfl r2 q2
def isB (b:Bool) (y:Value):Bool:=match y with | .bool c=>c == b | _=>false
theorem countP_bl (b:Bool):∀ {bs:List Bool}{its:List Value},Vals (bs.map V.bl) its->its.countP (isB b)=bs.count b
  | [],_,r=>by cases r; rfl
  | c::bs,_,r=>by
    cases r with
    | cons r1 r2=>
      cases r1
      rw[List.countP_cons,List.count_cons,countP_bl b r2]
      rfl
theorem mt_countT:MtR X "tuple.count" (fun x vs H Q=>∃ (l:Addr) (bs:List Bool) (b:Bool),x=.ref l/\vs=[.bl b]/\H l=some (.tup (bs.map V.bl))/\Q (.int (bs.count b:Nat)) H):=by
  intro pins s σ H x vs v us Q I rx rv h
  obtain⟨l,bs,b,rfl,rfl,hq,q⟩:=h
  cases rx
  obtain⟨u,rfl,ru⟩:=vals1 rv
  cases ru
  obtain⟨_,its,r,⟨cls,dd,data,sl⟩,ho,hc,hdn,n,hd⟩:=(show ObjOk X.prog X.w H s.heap l (.tup (bs.map V.bl)) from I.hok l _ hq)
  simp only at hc hd
  subst hc hd
  have ev:∀ y∈its,∃ c:Bool,y=.bool c:=fun y hy=>by
    obtain⟨i,hi,rfl⟩:=List.getElem_of_mem hy
    have hi':i<bs.length:=by have:=r.length; rw[List.length_map] at this; omega
    obtain⟨u,hu,ru⟩:=r.get (x:=V.bl bs[i]) (i:=i) (by rw[List.getElem?_map,List.getElem?_eq_getElem hi']; rfl)
    cases ru
    rw[List.getElem?_eq_getElem hi] at hu
    exact⟨_,Option.some.inj hu⟩
  have ec:=countP_bl b r
  refine call_meets F.slot_tuple_count ⟨_,ho,rfl⟩ F.entry_tuple_count (F.args_tuple_count_2 _ _) (tuple_countAt l its.toArray n dd sl (.bool b) (isB b)) ⟨ho,fun y hy=>?_,?_⟩
  · obtain⟨c,rfl⟩:=ev y (by simpa using hy)
    exact EqAt.bool_bool c b
  · refine⟨.int _,H,I.tok _,⟨s.toks,?_⟩,q⟩
    rw[<- ec]
end
end L2
namespace L2
open PySem PySem.Spec PyProof.Rows PySem.SeqAt
section
variable {X:Cx}
end
end L2
namespace Lv
open PySem L2
def CovL (L r:List Int):Prop:=∀ j,j<L.length->r.getD j 0<=L.getD j 0
instance (L r:List Int):Decidable (CovL L r):=inferInstanceAs (Decidable (∀ j,j<L.length->r.getD j 0<=L.getD j 0))
def big:Int:=1000000000000000000000000000000000000000000000000000000000000
structure Stand (p:Nat) (st:List Int):Prop where
  p2:2<=p
  p7:p<=7
  len:st.length=p+1
  nn:∀ x∈st,0<=x
  le:∀ x∈st,x<=big
  zero:(0:Int)∈st
  pos:∃ x∈st,1<=x
def mxl:List Int->Int
  | []=>0
  | x::r=>if mxl r > x then mxl r else x
theorem mxl_ge:∀ (c:List Int),∀ x∈c,x<=mxl c
  | y::r,x,h=>by
    unfold mxl
    rcases List.mem_cons.mp h with rfl | h
    · split <;> omega
    · have:=mxl_ge r x h
      split <;> omega
theorem mxl_mem:∀ (c:List Int),(∀ x∈c,0<=x)->c≠[]->mxl c∈c
  | [],_,h=>absurd rfl h
  | y::r,hn,_=>by
    unfold mxl
    by_cases hr:r=[]
    · subst hr
      have:=hn y (by simp)
      rw[if_neg (by show ¬ (0:Int) > y; omega)]
      simp
    · have:=mxl_mem r (fun x hx=>hn x (by simp[hx])) hr
      split
      · exact List.mem_cons_of_mem _ this
      · simp
theorem mxl_eq {c:List Int}{m:Int} (hn:∀ x∈c,0<=x) (hm:m∈c) (hg:∀ x∈c,x<=m):m=mxl c:=by
  have h1:=mxl_ge c m hm
  have h2:=hg _ (mxl_mem c hn (List.ne_nil_of_mem hm))
  omega
def mn (a b:Int):Int:=if b<a then b else a
def ph (p:Nat) (c:List Int) (n:Nat):Int:=mn (hd p n) (mxl c)
structure On (p:Nat) (c:List Int) (n:Nat):Prop where
  len:c.length=p+1
  cov:Cov c (cnt p n)
  nn:∀ x∈c,0<=x
  pos:∃ x∈c,1<=x
end Lv
namespace Lv
open PySem L2
end Lv
namespace Lv
open PySem L2
end Lv
namespace L2
open PySem PySem.Spec PyProof.Rows
section
variable {X:Cx}
end
end L2
namespace Lv
open PySem L2
def spTupOf:Sp:=fun vs H Q _=>∃ (a:Addr) (xs:List V) (n:Int),vs=[.ref a,.int n]/\H a=some (.tup xs)/\(xs.length:Int)=n/\Q (.bl true) H
end Lv
namespace L2
open PySem PySem.Spec PyProof.Rows
end L2
namespace L2
open PySem PySem.Spec PyProof.Rows
def Fly (H:Hp) (h0 h:Heap) (ea:Addr) (cls:Value) (od:Option Addr) (fl:Value):Prop :=
  ∃ (a0:Value) (T:Addr) (oe oT:Obj) (vs ts:Array Value),(H ea=none/\H T=none/\h0.get? ea=none/\h0.get? T=none) /\
    h.get? ea=some oe/\((oe.cls=cls/\vs[0]?=some a0)/\oe.dict=od)/\oe.data=.fields vs/\vs[1]?=some (.ref T)/\T≠ea/\h.get? T=some oT/\oT.data=.fields ts/\ts[3]?=some fl
def CX1 (P:Program) (w:World):CXT:=fun outer H s E e s'=>∃ (ea:Addr) (cls:Value) (od:Option Addr) (H':Hp),e=.ref ea/\s'.os=s.os/\AllBare s'.gens/\Un (frs outer) [] H H' s.heap s'.heap/\HOk P w H' s'.heap/\Fly H' s.heap s'.heap ea cls od .none/\E cls od H'
section
variable {P:Program}{w:World}{K:PySem.W.Frag}{mg:Str->Option Value}{base:Heap}{N:List Str}{qual:Str}{scope:Scope}{f:Addr}{cd:Value}{A:Around}{outer:List Env}{s:Shared}{H:Hp}{E:XK}
end
end L2
namespace L2
open PySem PySem.Spec PyProof.Rows PySem.W
section
variable {prog:Program}{w:World}{A:Around}{E:Value->Shared->Prop}{s:Shared}{K:Frag}{x C D:Addr}{ox:Obj}
def excRest (K:Frag) (C:Addr):Bool:=findIn K (.ref C) "__getattribute__" == some (some (.builtin "BaseException.__getattribute__")) && (findIn K (.ref C) "__getattr__" == some none &&
  (findIn K (.ref C) "__class__" == some (some (.builtin "object.__class__")) && (mroIn K C (.type "object") == some true && (mroIn K C (.type "BaseException") == some true && ((clsIn K C).isSome &&
  (specialIn K (.builtin "object.__class__") "__get__" == some (some (.builtin "getset_descriptor.__get__")) && takesIn K (.builtin "object.__class__") == some true))))))
def excAll (K:Frag) (C:Addr):Bool:=excIn K C [.type "ValueError",.type "Exception",.type "BaseException",.type "object"] "ValueError.__new__" && excRest K C
end
section
variable {X:Cx}
end
end L2
namespace L2
open PySem PySem.Spec PyProof.Rows PySem.W
section
variable {P:Program}{w:World}{K:PySem.W.Frag}{mg:Str->Option Value}{base:Heap}
end
structure CalE (P:Program) (w:World) (K:PySem.W.Frag) (mg:Str->Option Value) (base:Heap) (k:Nat) (x:Str) (ps:List Str) (dvs:List V) (sp:Sp) (f:Addr) (fd:FuncData):Prop where
  ok:FnOk P w K mg base (CX1 P w) k f fd ps sp
  mg:mg x=some (.ref f)
  kp:PySem.W.keepIn K (.ref f)=true
  bd:∃ ds,Binds K fd ps ds/\Vals dvs ds
section
variable {X:Cx}
inductive FParts (X:Cx):List Expr->List TE->Prop
  | nil:FParts X [] []
  | con {x:Str}{j pos}{es:List Expr}{ts:List TE} (h:x.length<=1000) (r:FParts X es ts):FParts X (.Constant (.str x) j pos::es) ts
  | val {v:Expr}{t:TE}{pos:Pos}{es:List Expr}{ts:List TE} (h:PE X v t) (r:FParts X es ts):FParts X (.FormattedValue v (-1) none pos::es) (t::ts)
end
section
variable {X:Cx}{pins:List (Addr × Obj)}{σ:St}{H:Hp}{s:Shared}
end
def Ends.without (D:Ends) (i:Nat):Ends:={ nx:=fun σ H=>D.nx (σ.set i none) H,rt:=D.rt,bk:=fun σ H=>D.bk (σ.set i none) H,ct:=fun σ H=>D.ct (σ.set i none) H }
section
variable {X:Cx}
end
end L2
namespace Lv
open PySem L2 PySem.W
structure ExcTab (K:Frag) (reel C:Addr) (all:List Addr):Prop where
  ok:excAll K C=true
  exm:exmOne K (.ref C) (.ref reel)=some true
  isR:kitOne K (.ref C) (.ref reel)=some true
  isV:kitOne K (.ref C) (.type "ValueError")=some true
  one:∀ D∈all,kitOne K (.ref C) (.ref D)=some (D == C)
structure Excs (K:Frag) (mg:Str->Option Value) where
  reel:Addr
  nWays:Addr
  nRoom:Addr
  nLevel:Addr
  nStand:Addr
  tMany:Addr
  tFew:Addr
  nPlace:Addr
  nText:Addr
  nLine:Addr
  nBack:Addr
  nPhase:Addr
  clash:Addr
  mReel:mg "ReelError"=some (.ref reel)
  mWays:mg "NoWays"=some (.ref nWays)
  mRoom:mg "NoRoom"=some (.ref nRoom)
  mLevel:mg "NoLevel"=some (.ref nLevel)
  mStand:mg "NoStanding"=some (.ref nStand)
  mMany:mg "TooMany"=some (.ref tMany)
  mFew:mg "TooFew"=some (.ref tFew)
  mPlace:mg "NoPlace"=some (.ref nPlace)
  mText:mg "NoText"=some (.ref nText)
  mLine:mg "NoLine"=some (.ref nLine)
  mBack:mg "NoBack"=some (.ref nBack)
  mPhase:mg "NoPhase"=some (.ref nPhase)
  mClash:mg "Clash"=some (.ref clash)
  nd:([nWays,nRoom,nLevel,nStand,tMany,tFew,nPlace,nText,nLine,nBack,nPhase,clash]:List Addr).Nodup
def Excs.all {K:Frag}{mg:Str->Option Value} (X:Excs K mg):List Addr:=[X.nWays,X.nRoom,X.nLevel,X.nStand,X.tMany,X.tFew,X.nPlace,X.nText,X.nLine,X.nBack,X.nPhase,X.clash]
def anT:List String:=["NoneType","bool","int","str","list","tuple","dict"]
structure Thing (K:Frag) (H:Hp) (v:V) (T:String):Prop where
  ty:TyOf K H v (.type T)
  mem:T∈anT
def NotIn (lo hi:Int) (v:V) (T:String):Prop:=T≠"int"∨∃ i,v=.int i/\¬ (lo<=i/\i<=hi)
end Lv
namespace Lv
open PySem L2 PySem.W
end Lv
namespace Lv
open PySem L2 PySem.W
end Lv
namespace Lv
open PySem L2 PySem.W
end Lv
namespace L2
open PySem PySem.Spec PyProof.Rows PySem.W
end L2
namespace Lv
open PySem L2 PySem.W
end Lv
namespace L2
open PySem PySem.Spec PyProof.Rows PySem.W
abbrev VB:List Value:=[.type "ValueError",.type "Exception",.type "BaseException",.type "object"]
def excInI (K:Frag) (C:Addr):Bool:=match K.lookup C with
  | some ⟨.type "type",_,.cls cd,sl⟩=>(match cd.mro,sl.toList with
    | .ref D::bm,[_,_,_,_,some (.builtin n),_]=>D == C && (n == "ValueError.__new__" && (!cd.hasDel && (tailIn K VB bm && (nsOkIn K cd.ns && cd.hasDict))))
    | _,_=>false)
  | _=>false
def excAllI (K:Frag) (C fI:Addr):Bool:=excInI K C && (excRest K C && (findIn K (.ref C) "__setattr__" == some (some (.builtin "object.__setattr__")) && (findIn K (.ref C) "at" == some none && (isFn K (.ref fI) && (keepIn K (.ref C) && findIn K (.ref C) "__init__" == some (some (.ref fI)))))))
section
variable {prog:Program}{w:World}{A:Around}{E:Value->Shared->Prop}{s:Shared}{K:Frag}{x C fI:Addr}{v:Value}
abbrev newExc (C t:Addr):Obj:={ cls:=.ref C,data:=.fields #[.ref t,.none,.none,.none,.bool false,.none] }
end
end L2
namespace L2
open PySem PySem.Spec PyProof.Rows PySem.W
section
variable {X:Cx}{o value:Expr}{pos pos':Pos}{ta tv:TE}{C fI:Addr}
end
end L2
namespace Lv
open PySem L2 PySem.W
structure ExcTabI (K:Frag) (reel C fI:Addr) (all:List Addr):Prop where
  ok:excAllI K C fI=true
  exm:exmOne K (.ref C) (.ref reel)=some true
  exmS:exmOne K (.ref C) (.ref C)=some true
  isR:kitOne K (.ref C) (.ref reel)=some true
  isV:kitOne K (.ref C) (.type "ValueError")=some true
  one:∀ D∈all,kitOne K (.ref C) (.ref D)=some (D == C)
end Lv
namespace Lv
open PySem L2
def PhOk (c:List Int) (out m:Int):Prop:=(0<=out/\out<(c.length:Int))/\(c.getD out.toNat 0<=0/\(1<=m/\m<=mxl c))
instance (c:List Int) (out m:Int):Decidable (PhOk c out m):=by unfold PhOk; infer_instance
def spPlaceB:Sp:=fun vs H Q _=>∃ i n:Int,vs=[.int i,.int n]/\Q (.bl (decide (0<=i/\i<n))) H
end Lv
namespace Lv
open PySem L2
def prT (p:Int × Int):List Int:=[p.1,p.2]
def wk:List Int->List (Int × Int)->Nat->Except Nat (List Int)
  | c,[],_=>.ok c
  | c,(o,m)::r,i=>if PhOk c o m then wk (behindP c o.toNat m) r (i+1) else .error i
def fin (c:List Int) (ps:List (Int × Int)):Except Nat (List Int):=match wk c ps 0 with
  | .ok d=>if 1<d.sum then .error ps.length else .ok d
  | .error i=>.error i
structure Way (c0:List Int) (ps:List (Int × Int)) (i:Nat) (c:List Int):Prop where
  wk:wk c0 ps 0=wk c (ps.drop i) i
  len:c.length=c0.length
  nn:∀ x∈c,0<=x
theorem TTs.pr {H:Hp}{rs:List Addr}{ps:List (Int × Int)} (h:TTs H rs (ps.map prT)) {i:Nat}{q:Addr} (e:rs[i]?=some q):∃ o m,ps[i]?=some (o,m)/\H q=some (.tup [.int o,.int m]):=by
  have hl:rs.length=ps.length:=by simpa using h.1
  have hi:i<ps.length:=by have:=(List.getElem?_eq_some_iff.mp e).1; omega
  refine⟨ps[i].1,ps[i].2,List.getElem?_eq_getElem hi,h.2 i q (prT ps[i]) e ?_⟩
  rw[List.getElem?_map,List.getElem?_eq_getElem hi]
  rfl
structure Cts (p:Nat) (c:List Int):Prop where
  len:c.length=p+1
  nn:∀ x∈c,0<=x
  le:∀ x∈c,x<=big
  pos:∃ x∈c,1<=x
end Lv
namespace Lv
open PySem L2
end Lv
namespace Lv
open PySem L2
def srt (xs:List Int):List Int:=xs.mergeSort fun a b=>decide (a<=b)
theorem srt_perm (xs:List Int):(srt xs).Perm xs:=List.mergeSort_perm _ _
theorem srt_up (xs:List Int):(srt xs).Pairwise (·<=·):=by
  have h:=List.pairwise_mergeSort (le:=fun a b:Int=>decide (a<=b)) (fun a b c h1 h2=>by simp at *; omega) (fun a b=>by simp; omega) xs
  exact h.imp fun h=>by simpa using h
theorem srt_of {ms xs:List Int} (h:ms.Perm xs) (hs:ms.Pairwise (·<=·)):ms=srt xs:=srt_eq (h.trans (srt_perm xs).symm) hs (srt_up xs)
def rl90 (cs:Rows):List (List Int):=cs.filterMap id
def mrg (cs:Rows):Option (List Int):=if rl90 cs=[] then none else some (srt (rl90 cs).flatten)
def tkA (D:List Rows) (m i:Nat):Rows:=D.filterMap fun r=>(r.take m)[i]?
def phR (D:List Rows) (o m:Nat):List Rows:=(D.map (·.drop m)).set o ((List.range m).map fun i=>mrg (tkA D m i))
def thg (cs:Rows):Int:=((rl90 cs).map fun xs=>(xs.length:Int)).sum
def lns (D:List Rows):List Int:=D.map fun r=>(r.length:Int)
def allT (D:List Rows):List Int:=(rl90 D.flatten).flatten
theorem rl_app (a b:Rows):rl90 (a++b)=rl90 a++rl90 b:=List.filterMap_append
theorem allT_cons (r:Rows) (D:List Rows):allT (r::D)=(rl90 r).flatten++allT D:=by
  unfold allT
  rw[List.flatten_cons,rl_app,List.flatten_append]
theorem mrg_things (cs:Rows):((mrg cs).toList.flatten).Perm (rl90 cs).flatten:=by
  unfold mrg
  by_cases h:rl90 cs=[]
  · rw[if_pos h,h]
    exact List.Perm.refl _
  · rw[if_neg h]
    show ((srt (rl90 cs).flatten)++[]).Perm _
    rw[List.append_nil]
    exact srt_perm _
theorem rl_map (f:Nat->Option (List Int)):∀ (is:List Nat),(rl90 (is.map f)).flatten=(is.map fun i=>(f i).toList.flatten).flatten
  | []=>rfl
  | i::is=>by
    have ih:=rl_map f is
    rw[List.map_cons,List.map_cons,List.flatten_cons,<- ih]
    unfold rl90
    rw[List.filterMap_cons]
    cases f i with
    | none=>rfl
    | some xs=>
      show xs++_=(xs++[])++_
      rw[List.append_nil]
theorem take_at (r:Rows):∀ m,((List.range m).map fun i=>rl90 ((r.take m)[i]?.toList)).flatten=rl90 (r.take m)
  | 0=>by simp[rl90]
  | m+1=>by
    have ih:=take_at r m
    rw[List.range_succ,List.map_append,List.flatten_append]
    have e1:((List.range m).map fun i=>rl90 ((r.take (m+1))[i]?.toList))=(List.range m).map fun i=>rl90 ((r.take m)[i]?.toList):=by
      refine List.map_congr_left fun i hi=>?_
      have hi':=List.mem_range.mp hi
      rw[List.getElem?_take,List.getElem?_take,if_pos (by omega),if_pos hi']
    rw[e1,ih]
    show rl90 (r.take m)++(rl90 ((r.take (m+1))[m]?.toList)++[])=_
    rw[List.append_nil,<- rl_app]
    congr 1
    rw[List.getElem?_take,if_pos (by omega),List.take_add_one]
theorem zip_perm {α:Type} (f g:Nat->List α):∀ (is:List Nat),((is.map fun i=>f i++g i).flatten).Perm ((is.map f).flatten++(is.map g).flatten)
  | []=>List.Perm.refl _
  | i::is=>by
    have ih:=zip_perm f g is
    rw[List.map_cons,List.map_cons,List.map_cons,List.flatten_cons,List.flatten_cons,List.flatten_cons]
    refine ((ih.append_left (f i++g i))).trans ?_
    rw[List.append_assoc,List.append_assoc]
    refine List.Perm.append_left _ ?_
    rw[<- List.append_assoc,<- List.append_assoc]
    exact List.Perm.append_right _ List.perm_append_comm
theorem tk_perm (m:Nat):∀ D:List Rows,(((List.range m).map fun i=>rl90 (tkA D m i)).flatten).Perm ((D.map fun r=>rl90 (r.take m)).flatten)
  | []=>by
    have:((List.range m).map fun i=>rl90 (tkA [] m i)).flatten=[]:=by
      rw[List.flatten_eq_nil_iff]
      intro x hx
      obtain⟨i,_,rfl⟩:=List.mem_map.mp hx
      rfl
    rw[this]
    exact List.Perm.refl _
  | r::D=>by
    have ih:=tk_perm m D
    have e:((List.range m).map fun i=>rl90 (tkA (r::D) m i))=(List.range m).map fun i=>rl90 ((r.take m)[i]?.toList)++rl90 (tkA D m i):=by
      refine List.map_congr_left fun i _=>?_
      rw[<- rl_app]
      congr 1
      unfold tkA
      rw[List.filterMap_cons]
      cases (r.take m)[i]? <;> rfl
    rw[e,List.map_cons,List.flatten_cons]
    refine (zip_perm _ _ _).trans ?_
    rw[take_at]
    exact ih.append_left _
theorem flat_map_perm {f g:Nat->List Int}:∀ {is:List Nat},(∀ i∈is,(f i).Perm (g i))->((is.map f).flatten).Perm ((is.map g).flatten)
  | [],_=>List.Perm.refl _
  | i::is,h=>by
    rw[List.map_cons,List.map_cons,List.flatten_cons,List.flatten_cons]
    exact (h i List.mem_cons_self).append (flat_map_perm fun j hj=>h j (List.mem_cons_of_mem _ hj))
theorem allT_set:∀ {D:List Rows}{o:Nat}{r:Rows},D[o]?=some []->(allT (D.set o r)).Perm ((rl90 r).flatten++allT D)
  | d::D,0,r,h=>by
    have:d=[]:=by simpa using h
    subst this
    show (allT (r::D)).Perm _
    rw[allT_cons,allT_cons]
    exact List.Perm.refl _
  | d::D,o+1,r,h=>by
    have ih:=allT_set (D:=D) (o:=o) (r:=r) (by simpa using h)
    show (allT (d::D.set o r)).Perm _
    rw[allT_cons,allT_cons]
    refine (ih.append_left _).trans ?_
    rw[<- List.append_assoc,<- List.append_assoc]
    exact List.Perm.append_right _ List.perm_append_comm
theorem split_perm (m:Nat):∀ D:List Rows,(allT D).Perm (((D.map fun r=>rl90 (r.take m)).flatten).flatten++allT (D.map (·.drop m)))
  | []=>List.Perm.refl _
  | r::D=>by
    have ih:=split_perm m D
    rw[allT_cons,List.map_cons,List.map_cons,allT_cons,List.flatten_cons,List.flatten_append]
    have e:(rl90 r).flatten=(rl90 (r.take m)).flatten++(rl90 (r.drop m)).flatten:=by
      rw[<- List.flatten_append,<- rl_app,List.take_append_drop]
    rw[e,List.append_assoc,List.append_assoc]
    refine List.Perm.append_left _ ?_
    refine (ih.append_left _).trans ?_
    rw[<- List.append_assoc,<- List.append_assoc]
    exact List.Perm.append_right _ List.perm_append_comm
theorem ph_things {D:List Rows}{o m:Nat} (h:D[o]?=some []):(allT (phR D o m)).Perm (allT D):=by
  unfold phR
  have h':(D.map (·.drop m))[o]?=some []:=by rw[List.getElem?_map,h]; simp
  refine (allT_set h').trans ?_
  refine List.Perm.trans ?_ (split_perm m D).symm
  refine List.Perm.append_right _ ?_
  rw[rl_map]
  refine (flat_map_perm fun i _=>mrg_things _).trans ?_
  have e:((List.range m).map fun i=>(rl90 (tkA D m i)).flatten).flatten=(((List.range m).map fun i=>rl90 (tkA D m i)).flatten).flatten:=by
    rw[List.flatten_flatten,List.map_map]
    rfl
  rw[e]
  exact (tk_perm m D).flatten
def AllS (D:List Rows):Prop:=∀ r∈D,∀ c∈r,∃ xs:List Int,c=some xs/\xs.Pairwise (·<=·)
theorem ph_sorted {D:List Rows}{o m:Nat} (h:AllS D) (hm:∃ r∈D,m<=r.length):AllS (phR D o m):=by
  intro r hr c hc
  rcases List.mem_or_eq_of_mem_set hr with hr | rfl
  · obtain⟨r',hr',rfl⟩:=List.mem_map.mp hr
    exact h r' hr' c (List.mem_of_mem_drop hc)
  · obtain⟨i,hi,rfl⟩:=List.mem_map.mp hc
    have hi':=List.mem_range.mp hi
    obtain⟨r',hr',hl⟩:=hm
    have hx:(r'.take m)[i]?=some r'[i]:=by
      rw[List.getElem?_take,if_pos hi',List.getElem?_eq_getElem (by omega)]
    obtain⟨xs,hxs,_⟩:=h r' hr' r'[i] (List.getElem_mem _)
    have hmem:xs∈rl90 (tkA D m i):=by
      unfold rl90 tkA
      rw[List.mem_filterMap]
      exact⟨some xs,List.mem_filterMap.mpr ⟨r',hr',by rw[hx,hxs]⟩,rfl⟩
    unfold mrg
    rw[if_neg (List.ne_nil_of_mem hmem)]
    exact⟨_,rfl,srt_up _⟩
theorem lns_ph (D:List Rows) (o m:Nat):lns (phR D o m)=behindP (lns D) o m:=by
  unfold lns phR behindP les
  rw[List.map_set,List.map_map,List.map_map,List.length_map,List.length_range]
  congr 1
  refine List.map_congr_left fun r _=>?_
  show (((r.drop m).length:Nat):Int)=if (r.length:Int) - (m:Int) > 0 then (r.length:Int) - (m:Int) else 0
  rw[List.length_drop]
  split <;> omega
theorem small15 {n:Nat} (h:n<=15001):n<sizeLine:=by rw[sizeLine_eq]; omega
abbrev refT (T:List Reel):List V:=T.map fun t=>V.ref t.1
theorem cOk.same {H H':Hp}{c:Cell} (h:cOk H c) (s:Same H H'):cOk H' c:=h.frame fun x _ o e=>s x o e
theorem tOk.same {H H':Hp}{t:Reel} (h:tOk H t) (s:Same H H'):tOk H' t:=h.frame fun x _ o e=>s x o e
theorem cOk.off {H:Hp}{c:Cell}{a:Addr}{o:HO} (h:cOk H c) (n:a ∉ cA c):cOk (upd H a o) c:=h.frame fun x hx q e=>by rw[upd_ne fun z=>n (by rw[<- z]; exact hx)]; exact e
theorem cOk.has {H:Hp}{c:Cell} (h:cOk H c):∀ r∈cA c,H r≠none:=fun r hr z=>by
  cases c with
  | none=>simp[cA] at hr
  | some q=>
    have:r=q.1:=by simpa[cA] using hr
    subst this
    have h':H q.1=some (.lst (q.2.map V.int)):=h
    rw[h'] at z
    cases z
theorem tOk.has {H:Hp}{t:Reel} (h:tOk H t):∀ r∈tA t,H r≠none:=fun r hr z=>by
  rcases List.mem_cons.mp hr with rfl | hr
  · rw[h.1] at z; cases z
  · obtain⟨c,hc,hrc⟩:=List.mem_flatMap.mp hr
    exact (h.2 c hc).has r hrc z
theorem tOk.off {H:Hp}{t:Reel}{a:Addr}{o:HO} (h:tOk H t) (n:a ∉ tA t):tOk (upd H a o) t:=h.frame fun x hx q e=>by rw[upd_ne fun z=>n (by rw[<- z]; exact hx)]; exact e
theorem comp_cells {b : Bool} {K : PySem.W.Frag} {own : List Str} {js : List Nat} {g : TG} {te : TE} {σ : L2.St} {H1 : Hp} {Q : VK} {a : Addr} {xs : List V} (F : Nat → Option (List Int)) (O : Addr → Prop) (hO : ∀ x, O x → H1 x ≠ none) (hq : SqB b K H1 a xs) (hlen : xs.length ≤ 15000)
    (hs:∀ (i:Nat) x,xs[i]?=some x->∀ H,Same H1 H->∀ R:VK,(∀ c H',cOk H' c->cD c=F i->(∀ r∈cA c,H r=none∨O r)->Same H H'->R (cV c) H')->g x (blkσ own js σ) H fun τ H4=>te τ H4 R)
    (hd:∀ acc cs H,H1 acc=none->tOk H (acc,cs)->cs.map cD=(List.range xs.length).map F->acc ∉ cs.flatMap cA->(∀ x∈cs.flatMap cA,H1 x=none∨O x)->Same H1 H->Q (.ref acc) H):tCompW own js g tTrue te σ (ItlB b K a) H1 Q:=by
  refine comp_seqB (b:=b) (K:=K) (a:=a) (xs:=xs) (fun acc i H=>∃ cs:List Cell,H acc=some (.lst (cs.map cV))/\(∀ c∈cs,cOk H c)/\cs.map cD=(List.range i).map F/\acc ∉ cs.flatMap cA/\Same H1 H/\∀ x∈cs.flatMap cA,H1 x=none∨O x) (fun acc h0=>⟨[],upd_same,fun c hc=>by simp at hc,rfl,by simp,Same.new h0,fun x hx=>by simp at hx⟩) (fun acc i H h0 _ z=>?_) ?_ ?_
  · obtain⟨_,_,_,_,_,s,_⟩:=z
    cases b with
    | true=>exact s.seq hq
    | false=>exact s.tup hq
  · rintro acc i x H h0 hx ⟨cs,hacc,hok,hD,hn,s1,hO'⟩
    have hi:=(List.getElem?_eq_some_iff.mp hx).1
    have hl:cs.length=i:=by have:=congrArg List.length hD; simpa using this
    refine (cast ?_ (hs i x hx H s1 (fun y H6=>∃ zs,H6 acc=some (.lst zs)/\zs.length<sizeLine/\(i+1<=xs.length/\∃ cs:List Cell,upd H6 acc (.lst (zs++[y])) acc=some (.lst (cs.map cV))/\(∀ c∈cs,cOk (upd H6 acc (.lst (zs++[y]))) c)/\cs.map cD=(List.range (i+1)).map F/\acc ∉ cs.flatMap cA/\Same H1 (upd H6 acc (.lst (zs++[y])))/\∀ x∈cs.flatMap cA,H1 x=none∨O x)) fun c H6 ok6 hcD hcA s6=>?_))
    · unfold tTrue
      simp only[if_true]
    · have nc : acc ∉ cA c := fun z => by
        rcases hcA acc z with y | y
        · rw[hacc] at y; cases y
        · exact hO _ y h0
      refine⟨_,s6 _ _ hacc,small15 (by rw[List.length_map]; omega),hi,cs++[c],by rw[upd_same,List.map_append]; rfl,fun d hd'=>?_,by rw[List.map_append,hD,List.range_succ,List.map_append]; simp[hcD],?_,(s1.trans s6).put h0,fun x hx=>?_⟩
      · rcases List.mem_append.mp hd' with hd' | hd'
        · exact ((hok d hd').same s6).off fun z=>hn (List.mem_flatMap.mpr ⟨d,hd',z⟩)
        · rw[List.mem_singleton.mp hd']
          exact ok6.off nc
      · rw[List.flatMap_append]
        intro z
        rcases List.mem_append.mp z with z | z
        · exact hn z
        · exact nc (by simpa using z)
      · rw[List.flatMap_append] at hx
        rcases List.mem_append.mp hx with hx | hx
        · exact hO' x hx
        · rcases hcA x (by simpa using hx) with y | y
          · exact .inl (s1.free y)
          · exact .inr y
  · rintro acc H h0 ⟨cs,hacc,hok,hD,hn,s1,hO'⟩
    exact hd acc cs H h0 ⟨hacc,hok⟩ hD hn hO' s1
theorem comp_cellsR {own : List Str} {js : List Nat} {g : TG} {te : TE} {σ : L2.St} {H1 : Hp} {Q : VK} {lo : Int} {n : Nat} (F : Nat → Option (List Int)) (O : Addr → Prop) (hO : ∀ x, O x → H1 x ≠ none) (hlen : n ≤ 15000)
    (hs:∀ (i:Nat),i<n->∀ H,Same H1 H->∀ R:VK,(∀ c H',cOk H' c->cD c=F i->(∀ r∈cA c,H r=none∨O r)->Same H H'->R (cV c) H')->g (.int (lo+i)) (blkσ own js σ) H fun τ H4=>te τ H4 R)
    (hd:∀ acc cs H,H1 acc=none->tOk H (acc,cs)->cs.map cD=(List.range n).map F->acc ∉ cs.flatMap cA->(∀ x∈cs.flatMap cA,H1 x=none∨O x)->Same H1 H->Q (.ref acc) H):tCompW own js g tTrue te σ (Itr lo n) H1 Q:=by
  refine comp_range (fun acc i H=>∃ cs:List Cell,H acc=some (.lst (cs.map cV))/\(∀ c∈cs,cOk H c)/\cs.map cD=(List.range i).map F/\acc ∉ cs.flatMap cA/\Same H1 H/\∀ x∈cs.flatMap cA,H1 x=none∨O x) (fun acc h0=>⟨[],upd_same,fun c hc=>by simp at hc,rfl,by simp,Same.new h0,fun x hx=>by simp at hx⟩) ?_ ?_
  · rintro acc i H h0 hi ⟨cs,hacc,hok,hD,hn,s1,hO'⟩
    have hl:cs.length=i:=by have:=congrArg List.length hD; simpa using this
    refine (cast ?_ (hs i hi H s1 (fun y H6=>∃ zs,H6 acc=some (.lst zs)/\zs.length<sizeLine/\(i+1<=n/\∃ cs:List Cell,upd H6 acc (.lst (zs++[y])) acc=some (.lst (cs.map cV))/\(∀ c∈cs,cOk (upd H6 acc (.lst (zs++[y]))) c)/\cs.map cD=(List.range (i+1)).map F/\acc ∉ cs.flatMap cA/\Same H1 (upd H6 acc (.lst (zs++[y])))/\∀ x∈cs.flatMap cA,H1 x=none∨O x)) fun c H6 ok6 hcD hcA s6=>?_))
    · unfold tTrue
      simp only[if_true]
    · have nc : acc ∉ cA c := fun z => by
        rcases hcA acc z with y | y
        · rw[hacc] at y; cases y
        · exact hO _ y h0
      refine⟨_,s6 _ _ hacc,small15 (by rw[List.length_map]; omega),hi,cs++[c],by rw[upd_same,List.map_append]; rfl,fun d hd'=>?_,by rw[List.map_append,hD,List.range_succ,List.map_append]; simp[hcD],?_,(s1.trans s6).put h0,fun x hx=>?_⟩
      · rcases List.mem_append.mp hd' with hd' | hd'
        · exact ((hok d hd').same s6).off fun z=>hn (List.mem_flatMap.mpr ⟨d,hd',z⟩)
        · rw[List.mem_singleton.mp hd']
          exact ok6.off nc
      · rw[List.flatMap_append]
        intro z
        rcases List.mem_append.mp z with z | z
        · exact hn z
        · exact nc (by simpa using z)
      · rw[List.flatMap_append] at hx
        rcases List.mem_append.mp hx with hx | hx
        · exact hO' x hx
        · rcases hcA x (by simpa using hx) with y | y
          · exact .inl (s1.free y)
          · exact .inr y
  · rintro acc H h0 ⟨cs,hacc,hok,hD,hn,s1,hO'⟩
    exact hd acc cs H h0 ⟨hacc,hok⟩ hD hn hO' s1
theorem comp_reels {b : Bool} {K : PySem.W.Frag} {own : List Str} {js : List Nat} {g : TG} {te : TE} {σ : L2.St} {H1 : Hp} {Q : VK} {a : Addr} {xs : List V} (F : Nat → Rows) (O : Addr → Prop) (hO : ∀ x, O x → H1 x ≠ none) (hq : SqB b K H1 a xs) (hlen : xs.length ≤ 15000)
    (hs:∀ (i:Nat) x,xs[i]?=some x->∀ H,Same H1 H->∀ R:VK,(∀ t H',tOk H' t->t.2.map cD=F i->(∀ r∈tA t,H r=none∨O r)->Same H H'->R (.ref t.1) H')->g x (blkσ own js σ) H fun τ H4=>te τ H4 R)
    (hd:∀ acc T H,H1 acc=none->H acc=some (.lst (refT T))->NRL H T->datT T=(List.range xs.length).map F->acc ∉ adr T->(∀ x∈adr T,H1 x=none∨O x)->Same H1 H->Q (.ref acc) H):tCompW own js g tTrue te σ (ItlB b K a) H1 Q:=by
  refine comp_seqB (b:=b) (K:=K) (a:=a) (xs:=xs) (fun acc i H=>∃ T:List Reel,H acc=some (.lst (refT T))/\NRL H T/\datT T=(List.range i).map F/\acc ∉ adr T/\Same H1 H/\∀ x∈adr T,H1 x=none∨O x) (fun acc h0=>⟨[],upd_same,fun c hc=>by simp at hc,rfl,by simp[adr],Same.new h0,fun x hx=>by simp[adr] at hx⟩) (fun acc i H h0 _ z=>?_) ?_ ?_
  · obtain⟨_,_,_,_,_,s,_⟩:=z
    cases b with
    | true=>exact s.seq hq
    | false=>exact s.tup hq
  · rintro acc i x H h0 hx ⟨T,hacc,hok,hD,hn,s1,hO'⟩
    have hi:=(List.getElem?_eq_some_iff.mp hx).1
    have hl:T.length=i:=by have:=congrArg List.length hD; simpa[datT] using this
    refine (cast ?_ (hs i x hx H s1 (fun y H6=>∃ zs,H6 acc=some (.lst zs)/\zs.length<sizeLine/\(i+1<=xs.length/\∃ T:List Reel,upd H6 acc (.lst (zs++[y])) acc=some (.lst (refT T))/\NRL (upd H6 acc (.lst (zs++[y]))) T/\datT T=(List.range (i+1)).map F/\acc ∉ adr T/\Same H1 (upd H6 acc (.lst (zs++[y])))/\∀ x∈adr T,H1 x=none∨O x)) fun t H6 ok6 hcD hcA s6=>?_))
    · unfold tTrue
      simp only[if_true]
    · have nc : acc ∉ tA t := fun z => by
        rcases hcA acc z with y | y
        · rw[hacc] at y; cases y
        · exact hO _ y h0
      refine⟨_,s6 _ _ hacc,small15 (by rw[List.length_map]; omega),hi,T++[t],by rw[upd_same]; simp[refT],fun d hd'=>?_,?_,?_,(s1.trans s6).put h0,fun x hx=>?_⟩
      · rcases List.mem_append.mp hd' with hd' | hd'
        · exact ((hok d hd').same s6).off fun z=>hn (List.mem_flatMap.mpr ⟨d,hd',z⟩)
        · rw[List.mem_singleton.mp hd']
          exact ok6.off nc
      · unfold datT at hD ⊢
        rw[List.map_append,hD,List.range_succ,List.map_append]
        simp[hcD]
      · unfold adr at hn ⊢
        rw[List.flatMap_append]
        intro z
        rcases List.mem_append.mp z with z | z
        · exact hn z
        · exact nc (by simpa using z)
      · unfold adr at hx hO'
        rw[List.flatMap_append] at hx
        rcases List.mem_append.mp hx with hx | hx
        · exact hO' x hx
        · rcases hcA x (by simpa using hx) with y | y
          · exact .inl (s1.free y)
          · exact .inr y
  · rintro acc H h0 ⟨T,hacc,hok,hD,hn,s1,hO'⟩
    exact hd acc T H h0 hacc hok hD hn hO' s1
def spMergeB:Sp:=fun vs H Q _=>∃ (a:Addr) (rs:List Addr) (N:List (List Int)),vs=[.ref a]/\RwS H a rs N/\(lenN N).sum<=15000/\∀ l (ms:List Int) H',H l=none->H' l=some (.lst (ms.map V.int))->ms.Perm N.flatten->ms.Pairwise (·<=·)->Same H H'->Q (.ref l) H'
def spCopyR:Sp:=fun vs H Q _=>∃ c:Cell,vs=[cV c]/\cOk H c/\∀ c' H',cD c'=cD c->cOk H' c'->(∀ r∈cA c',H r=none)->Same H H'->Q (cV c') H'
def spThinR:Sp:=fun vs H Q _=>∃ (l:Addr) (cs:List Cell),vs=[.ref l]/\tOk H (l,cs)/\cs.length<=15000/\∀ H',Same H H'->Q (.int (thg (cs.map cD))) H'
def spIdleR:Sp:=fun vs H Q _=>∃ (l:Addr) (cs:List Cell),vs=[.ref l]/\tOk H (l,cs)/\cs.length<=15000/\((rl90 (cs.map cD)).flatten).length<=15000/\∀ c' H',cD c'=mrg (cs.map cD)->cOk H' c'->(∀ r∈cA c',H r=none)->Same H H'->Q (cV c') H'
def spTkAtR:Sp:=fun vs H Q _=>∃ (l:Addr) (T:List Reel) (i:Nat),vs=[.ref l,.int i]/\H l=some (.lst (refT T))/\NRL H T/\T.length<=20/\∀ a cs H',H a=none->tOk H' (a,cs)->cs.map cD=(datT T).filterMap (·[i]?)->Same H H'->Q (.ref a) H'
def SzD (D:List Rows):Prop:=D.length<=20/\(∀ r∈D,r.length<=15000)/\(allT D).length<=15000
def spPhPlR:Sp:=fun vs H Q _=>∃ (l q:Addr) (T:List Reel) (o m:Nat),vs=[.ref l,.ref q]/\H l=some (.lst (refT T))/\NRL H T/\H q=some (.tup [.int o,.int m])/\o<T.length/\m<=15000/\SzD (datT T) /\
  ∀ t b e T' H',H' t=some (.tup [.ref b,.ref e])->H' b=some (.lst (refT T'))->NRL H' T'->datT T'=phR (datT T) o m->H' e=some (.lst (((datT T).map fun r=>thg (r.take m)).map V.int))->H e=none->H b=none->b ∉ adr T'->(∀ x∈adr T',H x=none∨x∈adr T)->Same H H'->Q (.ref t) H'
def plR:List Rows->List (Int × Int)->List Rows
  | D,[]=>D
  | D,(o,m)::r=>plR (phR D o.toNat m.toNat) r
def rdR:List Rows->List (Int × Int)->List (List Int)
  | _,[]=>[]
  | D,(o,m)::r=>(D.map fun q=>thg (q.take m.toNat))::rdR (phR D o.toNat m.toNat) r
def Pls:List Rows->List (Int × Int)->Prop
  | _,[]=>True
  | D,(o,m)::r=>PhOk (lns D) o m/\Pls (phR D o.toNat m.toNat) r
theorem plR_snoc:∀ (D:List Rows) (ps:List (Int × Int)) (o m:Int),plR D (ps++[(o,m)])=phR (plR D ps) o.toNat m.toNat
  | D,[],o,m=>rfl
  | D,(a,b)::ps,o,m=>plR_snoc (phR D a.toNat b.toNat) ps o m
theorem rdR_snoc:∀ (D:List Rows) (ps:List (Int × Int)) (o m:Int),rdR D (ps++[(o,m)])=rdR D ps++[(plR D ps).map fun q=>thg (q.take m.toNat)]
  | D,[],o,m=>rfl
  | D,(a,b)::ps,o,m=>by
    show _::rdR _ (ps++[(o,m)])=_::(rdR _ ps++_)
    rw[rdR_snoc]
    rfl
theorem Pls.at:∀ {D:List Rows}{ps:List (Int × Int)},Pls D ps->∀ {i:Nat}{o m:Int},ps[i]?=some (o,m)->PhOk (lns (plR D (ps.take i))) o m
  | D,(a,b)::ps,h,0,o,m,e=>by
    cases e
    exact h.1
  | D,(a,b)::ps,h,i+1,o,m,e=>Pls.at (D:=phR D a.toNat b.toNat) h.2 (i:=i) (by simpa using e)
theorem phok_nat {D:List Rows}{o m:Int} (h:PhOk (lns D) o m):∃ (a b:Nat),o=a/\m=b/\a<D.length/\D[a]?=some []/\1<=b/\∃ r∈D,b<=r.length:=by
  obtain⟨⟨h1,h2⟩,h3,h4,h5⟩:=h
  have hl:(lns D).length=D.length:=by unfold lns; rw[List.length_map]
  have ha:o.toNat<D.length:=by omega
  refine⟨o.toNat,m.toNat,by omega,by omega,ha,?_,by omega,?_⟩
  · rw[List.getD_eq_getElem?_getD] at h3
    unfold lns at h3
    rw[List.getElem?_map,List.getElem?_eq_getElem ha] at h3
    have:(D[o.toNat].length:Int)<=0:=h3
    rw[List.getElem?_eq_getElem ha]
    exact congrArg some (List.eq_nil_of_length_eq_zero (by omega))
  · have hne:lns D≠[]:=fun z=>by rw[z] at hl; simp at hl; omega
    have hm:=mxl_mem (lns D) (fun x hx=>by obtain⟨r,_,rfl⟩:=List.mem_map.mp hx; omega) hne
    obtain⟨r,hr,e⟩:=List.mem_map.mp hm
    exact⟨r,hr,by omega⟩
theorem SzD.ph {D:List Rows}{a b:Nat} (z:SzD D) (h0:D[a]?=some []) (hb:∃ r∈D,b<=r.length):SzD (phR D a b):=by
  obtain⟨z1,z2,z3⟩:=z
  refine⟨by unfold phR; rw[List.length_set,List.length_map]; exact z1,fun r hr=>?_,by rw[(ph_things h0).length_eq]; exact z3⟩
  rcases List.mem_or_eq_of_mem_set hr with hr | rfl
  · obtain⟨r',hr',rfl⟩:=List.mem_map.mp hr
    have:=z2 r' hr'
    rw[List.length_drop]
    omega
  · obtain⟨r',hr',hl⟩:=hb
    have:=z2 r' hr'
    rw[List.length_map,List.length_range]
    omega
theorem plR_all {D:List Rows}:∀ {ps:List (Int × Int)},Pls D ps->SzD D->SzD (plR D ps)/\(plR D ps).length=D.length/\(allT (plR D ps)).Perm (allT D)/\(AllS D->AllS (plR D ps))/\(∀ i,wk (lns D) ps i=.ok (lns (plR D ps))):=by
  intro ps
  induction ps generalizing D with
  | nil=>intro _ z; exact⟨z,rfl,List.Perm.refl _,id,fun i=>rfl⟩
  | cons q ps ih=>
    obtain⟨o,m⟩:=q
    intro h z
    obtain⟨a,b,rfl,rfl,ha,h0,hb1,hb⟩:=phok_nat h.1
    have h2:=h.2
    rw[Int.toNat_natCast,Int.toNat_natCast] at h2
    obtain⟨i1,i2,i3,i4,i5⟩:=ih h2 (z.ph h0 hb)
    have e:plR D (((a:Int),(b:Int))::ps)=plR (phR D a b) ps:=by
      show plR (phR D ((a:Int).toNat) ((b:Int).toNat)) ps=_
      rw[Int.toNat_natCast,Int.toNat_natCast]
    rw[e]
    refine⟨i1,by rw[i2]; unfold phR; rw[List.length_set,List.length_map],i3.trans (ph_things h0),fun s=>i4 (ph_sorted s hb),fun i=>?_⟩
    rw[wk,if_pos h.1,Int.toNat_natCast,<- lns_ph]
    exact i5 (i+1)
def spIsPhL:Sp:=fun vs H Q _=>∃ (a q:Addr) (c:List Int) (out m:Int),vs=[.ref a,.ref q]/\H a=some (.lst (c.map V.int))/\H q=some (.tup [.int out,.int m])/\c≠[]/\(∀ x∈c,0<=x)/\Q (.bl (decide (PhOk c out m))) H
def spPlayR:Sp:=fun vs H Q _=>∃ (l b:Addr) (T:List Reel) (rs:List Addr) (ps:List (Int × Int)),vs=[.ref l,.ref b]/\H l=some (.lst (refT T))/\NRL H T/\H b=some (.lst (rs.map V.ref))/\TTs H rs (ps.map prT)/\rs.length<=1000/\T≠[]/\SzD (datT T)/\Pls (datT T) ps /\
  ∀ t bl rl T' es H',H' t=some (.tup [.ref bl,.ref rl])->H' bl=some (.lst (refT T'))->NRL H' T'->datT T'=plR (datT T) ps->H' rl=some (.lst (es.map V.ref))->LLs H' es (rdR (datT T) ps)->(∀ x∈adr T',H x=none)->Same H H'->Q (.ref t) H'
end Lv
namespace Lv
open PySem L2
theorem comp_potC {own : List Str} {js : List Nat} {g : TG} {te : TE} {σ : L2.St} {H1 : Hp} {Q : VK} {lo : Int} {n : Nat} {pl : Addr} {c0 per M : Int} (hp : PotC H1 pl c0) (hn : n ≤ 15000)
    (hs:∀ (i:Nat) H c,i<n->c<=c0+per*i->PotC H pl c->Sm pl H1 H->∀ R:VK,(∀ d H' c',0<=d->d<M->c'<=c+per->PotC H' pl c'->Sm pl H H'->R (.int d) H')->g (.int (lo+(i:Int))) (blkσ own js σ) H fun τ H4=>te τ H4 R)
    (hd:∀ acc (ns:List Int) H c,acc≠pl->H1 acc=none->H acc=some (.lst (ns.map V.int))->ns.length=n->(∀ x∈ns,0<=x/\x<M)->PotC H pl c->c<=c0+per*n->Sm pl H1 H->Q (.ref acc) H):tCompW own js g tTrue te σ (Itr lo n) H1 Q:=by
  refine comp_range (fun acc i H=>∃ (ns:List Int) (c:Int),H acc=some (.lst (ns.map V.int))/\ns.length=i/\(∀ x∈ns,0<=x/\x<M)/\PotC H pl c/\c<=c0+per*i/\Sm pl H1 H) (fun acc h0=>⟨[],c0,upd_same,rfl,by simp,hp.put h0,by simp,Sm.new h0⟩) ?_ ?_
  · rintro acc i H h0 hi ⟨ns,c,hacc,hl,hP,hp2,hc,s2⟩
    have ha:acc≠pl:=hp.ne h0
    refine (cast ?_ (hs i H c hi hc hp2 s2 (fun y H6=>∃ zs,H6 acc=some (.lst zs)/\zs.length<sizeLine/\(i+1<=n/\∃ (ns:List Int) (c:Int),upd H6 acc (.lst (zs++[y])) acc=some (.lst (ns.map V.int))/\ns.length=i+1/\(∀ x∈ns,0<=x/\x<M)/\PotC (upd H6 acc (.lst (zs++[y]))) pl c/\c<=c0+per*((i+1:Nat):Int)/\Sm pl H1 (upd H6 acc (.lst (zs++[y]))))) fun d H6 c6 d0 d1 hc6 hp6 s6=>?_))
    · unfold tTrue
      simp only[if_true]
    · have h6:=s6 _ _ hacc ha
      refine⟨_,h6,small15 (by rw[List.length_map]; omega),hi,ns++[d],c6,by rw[upd_same,List.map_append]; rfl,by simp[hl],fun x hx=>?_,hp6.off ha,?_,(s2.trans s6).putC h0⟩
      · rcases List.mem_append.mp hx with z | z
        · exact hP x z
        · rw[List.mem_singleton.mp z]
          exact⟨d0,d1⟩
      · have:per*((i+1:Nat):Int)=per*(i:Int)+per:=by rw[Int.natCast_add,Int.mul_add]; simp
        omega
  · rintro acc H h0 ⟨ns,c,hacc,hl,hP,hp2,hc,s2⟩
    exact hd acc ns H c (hp.ne h0) h0 hacc hl hP hp2 hc s2
end Lv
namespace Lv
open PySem L2
theorem datT_flat:∀ T:List Reel,(datT T).flatten=(T.flatMap (·.2)).map cD
  | []=>rfl
  | t::T=>by
    rw[List.flatMap_cons,List.map_append,<- datT_flat T]
    rfl
structure Bl (H:Hp) (l pl cl rl tg:Addr) (fs cs:List Int) (T:List Reel) (ts:List Int):Prop where
  hl:H l=some (.lst (fs.map V.int))
  hc:H cl=some (.lst (cs.map V.int))
  hr:H rl=some (.lst (refT T))
  ht:H tg=some (.lst (ts.map V.int))
  hN:NRL H T
  hA:∀ x∈adr T,x≠pl/\x≠rl/\x≠tg
structure Dst (l pl cl rl tg:Addr):Prop where
  lp:l≠pl
  lr:l≠rl
  lt:l≠tg
  cp:cl≠pl
  cr:cl≠rl
  ct:cl≠tg
  rp:rl≠pl
  rt:rl≠tg
  tp:tg≠pl
variable {H H':Hp}{l pl cl rl tg:Addr}{fs cs:List Int}{T:List Reel}{ts:List Int}
end Lv
namespace Lv
open PySem L2
def fstN (N:List (List Int)):List Int:=(N.headD []).map (·+1)
def nextN (N:List (List Int)):List (List Int):=(N.tail.map (fstN N++·))++[fstN N]
def num0 (p:Nat):List (List Int):=[0]::List.replicate (p - 1) []
def num (p:Nat):Nat->List (List Int)
  | 0=>num0 p
  | n+1=>nextN (num p n)
def lens (N:List (List Int)):List Int:=N.map fun l=>(l.length:Int)
theorem lens_next (N:List (List Int)):lens (nextN N)=nextC (lens N):=by
  cases N with
  | nil=>simp[lens,nextN,nextC,fstN]
  | cons a r=>
    simp[lens,nextN,nextC,fstN,Function.comp_def]
theorem lens_num (p:Nat):∀ n,lens (num p n)=cnt p n
  | 0=>by simp[lens,num,num0,cnt,firstC]
  | n+1=>by
    show lens (nextN (num p n))=nextC (cnt p n)
    rw[lens_next,lens_num p n]
theorem num_len {p:Nat} (hp:1<=p) (n:Nat):(num p n).length=p:=by
  have:=congrArg List.length (lens_num p n)
  rw[cnt_len hp] at this
  simpa[lens] using this
theorem le_sum {c:List Int} (h:∀ x∈c,0<=x) {x:Int} (hx:x∈c):x<=c.sum:=by
  induction c with
  | nil=>cases hx
  | cons a r ih=>
    have nn:∀ l:List Int,(∀ x∈l,0<=x)->0<=l.sum:=by
      intro l
      induction l with
      | nil=>intro _; simp
      | cons x y ih=>
        intro h
        rw[List.sum_cons]
        have:=h x (by simp)
        have:=ih fun z hz=>h z (by simp[hz])
        omega
    rw[List.sum_cons]
    have ha:=h a (by simp)
    have hr:∀ x∈r,0<=x:=fun x hx=>h x (by simp[hx])
    rcases List.mem_cons.mp hx with rfl | hx
    · have:=nn r hr
      omega
    · have:=ih hr hx
      omega
theorem num_le {p n:Nat}{xs:List Int} (h:xs∈num p n):(xs.length:Int)<=tot p n:=by
  refine le_sum (down_cnt p n).2 ?_
  rw[<- lens_num p n]
  exact List.mem_map.mpr ⟨xs,h,rfl⟩
theorem num_cons {p:Nat} (hp:2<=p) (n:Nat):∃ a r,num p n=a::r/\a≠[]/\r.length=p - 1:=by
  have h:=num_len (p:=p) (by omega) n
  cases e:num p n with
  | nil=>rw[e] at h; simp at h; omega
  | cons a r=>
    rw[e] at h
    refine⟨a,r,rfl,?_,by simp at h; omega⟩
    rintro rfl
    have h1:=hd_pos hp n
    unfold hd at h1
    rw[<- lens_num p n,e] at h1
    simp[lens] at h1
theorem small8000 {n:Nat} (h:n<=8000):n<sizeLine:=Nat.lt_of_le_of_lt h (by decide)
def spPlaces:Sp:=fun vs H Q _=>∃ p n:Nat,vs=[.int p,.int n]/\2<=p/\p<=7/\n<=300/\tot p n<=4000/\∀ H',Same H H'->Q .non H'
def spNextN:Sp:=fun vs H Q _=>∃ (a:Addr) (rs:List Addr) (N:List (List Int)),vs=[.ref a]/\H a=some (.tup (rs.map V.ref))/\TTs H rs N/\2<=N.length/\N.length<=7/\N.headD []≠[]/\(∀ xs∈N,xs.length<=4000) /\
  ∀ l qs H',H l=none->H' l=some (.tup (qs.map V.ref))->TTs H' qs (nextN N)->Same H H'->Q (.ref l) H'
def spNum:Sp:=fun vs H Q _=>∃ p n:Nat,vs=[.int p,.int n]/\2<=p/\p<=7/\n<=300/\tot p n<=4000/\∀ l qs H',H l=none->H' l=some (.tup (qs.map V.ref))->TTs H' qs (num p n)->Same H H'->Q (.ref l) H'
theorem rep_get {α:Type}{n j:Nat}{x y:α} (h:(List.replicate n x)[j]?=some y):y=x:=by
  rw[List.getElem?_replicate] at h
  split at h
  · exact (Option.some.inj h).symm
  · cases h
theorem map_ref_get {rs:List Addr}{i:Nat}{x:V} (h:(rs.map V.ref)[i]?=some x):∃ r,rs[i]?=some r/\x=.ref r:=by
  rw[List.getElem?_map] at h
  cases e:rs[i]? with
  | none=>rw[e] at h; cases h
  | some p=>rw[e] at h; exact⟨p,rfl,(Option.some.inj h).symm⟩
def spTot:Sp:=fun vs H Q _=>∃ i,vs=[.int i]/\i<=4000/\Q .non H
def spFirstN:Sp:=fun vs H Q _=>∃ p:Nat,vs=[.int p]/\2<=p/\p<=7/\∀ l qs H',H l=none->H' l=some (.tup (qs.map V.ref))->TTs H' qs (num0 p)->Same H H'->Q (.ref l) H'
def spAfter (fn:Addr):Sp:=fun vs H Q _=>∃ p n:Nat,vs=[.int p,.int n,.ref fn]/\2<=p/\p<=7/\n<=300/\tot p n<=4000/\∀ l qs H',H l=none->H' l=some (.tup (qs.map V.ref))->TTs H' qs (num p n)->Same H H'->Q (.ref l) H'
end Lv
namespace L2
open PySem PySem.Spec PyProof.Rows
def notStarW:Expr->Bool
  | .Starred ..=>false
  | _=>true
theorem star_consW {e:Expr}{es:List Expr}{env:Env} (h:notStarW e=true):starEach (e::es) env=(false,eval e env)::starEach es env:=by
  cases e <;> first | rfl | (cases h)
structure WA (X:Cx) (es:List Expr) (t:TA):Prop where
  out:PA X es t
structure WS (X:Cx) (st:Stmt) (t:TS):Prop where
  out:PS X st t
structure WSs (X:Cx) (sts:List Stmt) (t:TS):Prop where
  out:PSs X sts t
section
variable {X:Cx}{st:Stmt}{rest a b:List Stmt}{t u:TS}{c e:Expr}{tc:TT}{pos:Pos}{es:List Expr}{te:TE}{ta:TA}
theorem wss_cons (h1:WS X st t) (h2:WSs X rest u):WSs X (st::rest) (tSeq t u):=⟨pss_cons h1.out h2.out⟩
theorem wss_one (h:WS X st t):WSs X [st] t:=⟨pss_one h.out⟩
theorem wss_nil:WSs X [] tNext:=⟨pss_nil⟩
theorem wss {sts:List Stmt} (h:PSs X sts t):WSs X sts t:=⟨h⟩
theorem ws_if (hc:PT X c tc) (ha:WSs X a t) (hb:WSs X b u):WS X (.If c a b pos) (tIfS tc t u):=⟨ps_if hc ha.out hb.out⟩
theorem ws (h:PS X st t):WS X st t:=⟨h⟩
theorem wa_nil:WA X [] tNil:=⟨pa_nil⟩
theorem wa_cons (hn:notStarW e=true) (ha:PE X e te) (hr:WA X es ta):WA X (e::es) (tCons te ta):=⟨pa_cons ha hr.out (star_consW hn)⟩
end
section
variable {P:Program}{w:World}{K:PySem.W.Frag}{mg:Str->Option Value}{base:Heap}
theorem okW {x qual : Str} {st : Stmt} {f : Addr} {fd : FuncData} {N ps : List Str} {k : Nat} {sp : Sp} (F : Fun K x qual st f fd) (S : FnScope N ps (defScope st)) (len : ∀ vs H Q E, sp vs H Q E → vs.length = ps.length)
    (hbody:∀ (cdv:Value) (A:Around) (outer:List Env) (s:Shared) (H:Hp) (vs:List V) (Q:VK) (E:XK),Room k (A.deeper (envOfC qual (defScope st) s.heap.objs.size f cdv))->sp vs H Q E ->
      ∃ t,WSs (cxOf CX0 P w K mg base N qual (defScope st) f cdv A outer s H E).nox (defBody st) t/\t { nx:=fun _ H'=>Q .non H',rt:=Q } (start N vs) H):FnOk P w K mg base CX0 (k+1) f fd ps sp :=
  F.ok S len fun cdv A outer s H vs Q E hr hsp=>by
    obtain⟨t,h,q⟩:=hbody cdv A outer s H vs Q E hr hsp
    exact⟨t,h.out,q⟩
end
end L2
namespace L2
open PySem PySem.Spec PyProof.Rows PySem.SeqAt
section
variable {X:Cx}{pins:List (Addr × Obj)}{σ:St}{H:Hp}{s:Shared}{a:Addr}{u v:HO}{kvs:List (Key × V)}
end
section
variable {X:Cx}
end
section
variable {X:Cx}
end
section
variable {prog:Program}{w:World}{A:Around}{R:Result->Shared->Prop}{s:Shared}
end
section
variable {X:Cx}{pins:List (Addr × Obj)}{σ:St}{H H':Hp}{s s':Shared}{scope:Scope}{own:List Str}{js:List Nat}{C:Addr}{fp:List Addr}
end
section
variable {X:Cx}{scope:Scope}{own:List Str}{js:List Nat}{kx vx iter target:Expr}{ifs:List Expr}{wi:TI}{g:TG}{tt:TT}{tk tv:TE}{pos:Pos}
end
end L2
namespace L2
open PySem PySem.Spec PyProof.Rows PySem.SeqAt
section
variable {prog:Program}{w:World}{A:Around}{E:Value->Shared->Prop}{s:Shared}{O:KO}
end
section
variable {X:Cx}{pins:List (Addr × Obj)}{σ:St}{H:Hp}{s:Shared}{h':Heap}
end
section
variable {X:Cx}
end
end L2
namespace L2
open PySem PySem.Spec PyProof.Rows
structure WE (X:Cx) (e:Expr) (t:TE):Prop where
  out:PE X e t
section
variable {X:Cx}{a b e k v:Expr}{ta tb te tk tv:TE}{pos:Pos}{es:List Expr}{t:TA}
theorem we (h:PE X e te):WE X e te:=⟨h⟩
theorem we_ix {r:R2} (hr:IxR X r) (ha:WE X a ta) (hb:WE X b tb) (hs:PlainIx b):WE X (.Subscript a b pos) (tOp r ta tb):=⟨pe_ix hr ha.out hb.out hs⟩
theorem we_lst (h:WA X es t):WE X (.List es pos) (tLst t):=⟨pe_lst h.out⟩
end
end L2
namespace Lv
open PySem L2
open Classical in
def Bd (B:Int) (N:List (List Int)):Prop:=∀ xs∈N,∀ m∈xs,0<=m/\m<=B
theorem bd_num (p:Nat):∀ n:Nat,Bd n (num p n)
  | 0=>fun xs a m b=>by
    rcases List.mem_cons.mp (show xs∈[0]::List.replicate (p - 1) [] from a) with rfl | h
    · have:m=0:=by simpa using b
      omega
    · rw[(List.mem_replicate.mp h).2] at b; cases b
  | n+1=>fun xs a m b=>by
    have ih:=bd_num p n
    have hf:∀ m∈fstN (num p n),0<=m/\m<=((n+1:Nat):Int):=fun m hm=>by
      unfold fstN at hm
      obtain⟨y,hy,rfl⟩:=List.mem_map.mp hm
      cases e:num p n with
      | nil=>rw[e] at hy; cases hy
      | cons c r=>
        rw[e] at hy
        have:=ih c (by rw[e]; exact List.mem_cons_self) y hy
        omega
    rcases List.mem_append.mp (show xs∈((num p n).tail.map (fstN (num p n)++·))++[fstN (num p n)] from a) with h | h
    · obtain⟨y,hy,rfl⟩:=List.mem_map.mp h
      rcases List.mem_append.mp b with b | b
      · exact hf m b
      · have:=ih y (List.mem_of_mem_tail hy) m b
        omega
    · rw[List.mem_singleton.mp h] at b
      exact hf m b
end Lv
namespace L2
open PySem PySem.Spec PyProof.Rows
section
variable {X:Cx}
end
end L2
namespace Lv
open PySem L2
def rl (p n i:Nat):List Int:=(num p n).getD i []
theorem rl_at {p n i:Nat} (hp:2<=p) (hi:i<p):(num p n)[i]?=some (rl p n i):=by
  have h:i<(num p n).length:=by rw[num_len (by omega)]; exact hi
  unfold rl
  rw[List.getD_eq_getElem?_getD,List.getElem?_eq_getElem h]; rfl
theorem fst_rl {p n:Nat}:fstN (num p n)=(rl p n 0).map (·+1):=by
  unfold fstN rl
  cases num p n with
  | nil=>rfl
  | cons a r=>rfl
theorem rl_zero {p i:Nat}:rl p 0 i=if i=0 then [0] else []:=by
  unfold rl
  show ([0]::List.replicate (p - 1) ([]:List Int)).getD i []=_
  cases i with
  | zero=>rfl
  | succ i=>
    rw[if_neg (by omega),List.getD_eq_getElem?_getD,List.getElem?_cons_succ,List.getElem?_replicate]
    split <;> rfl
theorem rl_succ {p n i:Nat} (hp:2<=p) (hi:i<p):rl p (n+1) i=(rl p n 0).map (·+1)++(if i+1<p then rl p n (i+1) else []):=by
  have hl:=num_len (p:=p) (by omega) n
  obtain⟨a,r,e,_,hr⟩:=num_cons hp n
  have h1:rl p (n+1) i=(nextN (num p n)).getD i []:=rfl
  rw[h1,<- fst_rl]
  unfold nextN
  rw[List.getD_eq_getElem?_getD]
  by_cases h:i+1<p
  · rw[if_pos h,List.getElem?_append_left (by rw[List.length_map,List.length_tail,hl]; omega),List.getElem?_map,List.getElem?_tail,rl_at hp h]
    rfl
  · rw[if_neg h,List.append_nil,List.getElem?_append_right (by rw[List.length_map,List.length_tail,hl]; omega)]
    have:i - ((num p n).tail.map (fstN (num p n)++·)).length=0:=by rw[List.length_map,List.length_tail,hl]; omega
    rw[this]; rfl
theorem mem_rl {p:Nat} (hp:2<=p):∀ (n i:Nat) (m:Int),i<p->(m∈rl p n i↔m<=n/\(n:Int)+i<=p*m)
  | 0,i,m,hi=>by
    rw[rl_zero]
    by_cases h:i=0
    · subst h
      rw[if_pos rfl,List.mem_singleton]
      constructor
      · rintro rfl; simp
      · rintro⟨h1,h2⟩
        have:(0:Int)<=m:=by
          refine Classical.byContradiction fun z=>?_
          have:(p:Int)*m<=p*(-1):=Int.mul_le_mul_of_nonneg_left (by omega) (by omega)
          omega
        simp at h1
        omega
    · rw[if_neg h]
      constructor
      · intro z; cases z
      · rintro⟨h1,h2⟩
        have:(p:Int)*m<=p*0:=Int.mul_le_mul_of_nonneg_left (by simpa using h1) (by omega)
        simp at h2
        omega
  | n+1,i,m,hi=>by
    rw[rl_succ hp hi,List.mem_append]
    have e1:m∈(rl p n 0).map (·+1)↔m - 1<=n/\(n:Int)<=p*(m - 1):=by
      rw[List.mem_map]
      constructor
      · rintro⟨x,hx,rfl⟩
        have:=(mem_rl hp n 0 x (by omega)).mp hx
        rw[show x+1 - 1=x by omega]
        simpa using this
      · rintro⟨h1,h2⟩
        exact⟨m - 1,(mem_rl hp n 0 _ (by omega)).mpr ⟨h1,by simpa using h2⟩,by omega⟩
    have e3:(p:Int)*(m - 1)=p*m - p:=by rw[Int.mul_sub,Int.mul_one]
    rw[e1,e3]
    constructor
    · rintro (⟨h1,h2⟩ | h)
      · refine⟨by omega,?_⟩
        have:((n+1:Nat):Int)=n+1:=by omega
        rw[this]
        omega
      · by_cases z:i+1<p
        · rw[if_pos z] at h
          have:=(mem_rl hp n (i+1) m z).mp h
          obtain⟨h1,h2⟩:=this
          refine⟨by omega,?_⟩
          have:((n+1:Nat):Int)=n+1:=by omega
          have:((i+1:Nat):Int)=i+1:=by omega
          omega
        · rw[if_neg z] at h; cases h
    · rintro⟨h1,h2⟩
      have q1:((n+1:Nat):Int)=n+1:=by omega
      rw[q1] at h2
      by_cases z:(n:Int)<=p*m - p
      · exact .inl ⟨by omega,z⟩
      · right
        have hip:i+1<p:=by omega
        rw[if_pos hip]
        refine (mem_rl hp n (i+1) m hip).mpr ⟨?_,by omega⟩
        have hm:1<=m:=by
          refine Classical.byContradiction fun y=>?_
          have:(p:Int)*m<=p*0:=Int.mul_le_mul_of_nonneg_left (by omega) (by omega)
          simp at this
          omega
        have h3:(2:Int)*(m - 1)<=p*(m - 1):=Int.mul_le_mul_of_nonneg_right (by omega) (by omega)
        rw[e3] at h3
        omega
end Lv
namespace Lv
open PySem L2
theorem num_split {p:Nat} (hp:2<=p) (n:Nat):∃ x r,num p n=x::r/\r.length+1=p:=by
  have hl:=num_len (p:=p) (by omega) n
  cases h:num p n with
  | nil=>rw[h] at hl; simp at hl; omega
  | cons x r=>exact⟨x,r,rfl,by rw[h] at hl; simpa using hl⟩
end Lv
namespace Lv
open PySem L2
section
variable {α:Type}
structure Adds (g:List α->Int):Prop where
  nil:g []=0
  app:∀ a b,g (a++b)=g a+g b
def dt (g:List α->Int):List (List α)->List Int->Int
  | r::rs,n::ns=>n*g r+dt g rs ns
  | _,_=>0
def sg (g:List α->Int) (rs:List (List α)):Int:=(rs.map g).sum
def ptR (g:List α->Int):List (List (List α))->List (List Int)->Int
  | R::RR,W::WW=>dt g R W+ptR g RR WW
  | _,_=>0
def es:List Int->(Nat->Int)->Int
  | [],_=>0
  | n::ns,h=>(n+1)*h 0+es ns fun j=>h (j+1)
theorem es_add:∀ (ns:List Int) (h k:Nat->Int),es ns (fun j=>h j+k j)=es ns h+es ns k
  | [],_,_=>rfl
  | n::ns,h,k=>by
    rw[es,es,es,es_add ns,Int.mul_add]
    omega
theorem es_zero:∀ (ns:List Int),es ns (fun _=>0)=0
  | []=>rfl
  | n::ns=>by rw[es,es_zero ns,Int.mul_zero]; rfl
theorem es_wr (g:List α->Int):∀ (ns:List Int) (H:Nat->List α),dt g ((List.range ns.length).map H) ns+sg g ((List.range ns.length).map H)=es ns fun j=>g (H j)
  | [],H=>rfl
  | n::ns,H=>by
    have ih:=es_wr g ns fun j=>H (j+1)
    rw[List.length_cons,List.range_succ_eq_map,List.map_cons,List.map_map]
    rw[es,<- ih]
    show n*g (H 0)+dt g ((List.range ns.length).map (H ∘ Nat.succ)) ns+(g (H 0)+(((List.range ns.length).map (H ∘ Nat.succ)).map g).sum)=(n+1)*g (H 0)+(dt g ((List.range ns.length).map fun j=>H (j+1)) ns+(((List.range ns.length).map fun j=>H (j+1)).map g).sum)
    have e:(H ∘ Nat.succ)=fun j=>H (j+1):=rfl
    rw[e,Int.add_mul]
    omega
theorem es_one {g:List α->Int}:∀ (ns:List Int) (R:List (List α)) (W:List Int),ns.length<=R.length->R.length=W.length->W.take ns.length=ns.map (·+1)->dt g R W=es ns (fun j=>g (R.getD j []))+dt g (R.drop ns.length) (W.drop ns.length)
  | [],R,W,_,_,_=>by simp[es]
  | n::ns,[],W,h,_,_=>by simp at h
  | n::ns,r::R,[],_,h,_=>by simp at h
  | n::ns,r::R,w::W,h1,h2,h3=>by
    simp only[List.length_cons,List.take_succ_cons,List.map_cons,List.cons.injEq] at h3
    have ih:=es_one (g:=g) ns R W (by simpa using h1) (by simpa using h2) h3.2
    rw[dt,ih,es,h3.1]
    simp only[List.length_cons,List.drop_succ_cons,List.getD_cons_zero,List.getD_cons_succ]
    omega
def RdyR (ns:List Int) (R:List (List α)) (W:List Int):Prop:=(R=[]/\W=[])∨(ns.length<=R.length/\R.length=W.length/\W.take ns.length=ns.map (·+1))
theorem phase_pt {g : List α → Int} (hg : Adds g) (ns : List Int) : ∀ (RR : List (List (List α))) (WW : List (List Int)), RR.length = WW.length → (∀ (i : Nat) R W, RR[i]? = some R → WW[i]? = some W → RdyR ns R W) →
    ptR g RR WW=ptR g (RR.map (·.drop ns.length)) (WW.map (·.drop ns.length))+es ns fun j=>g ((RR.map fun R=>R.getD j []).flatten)
  | [],[],_,_=>by
    have:es ns (fun j=>g (([]:List (List (List α))).map fun R=>R.getD j []).flatten)=0:=by
      have e:(fun j=>g ((([]:List (List (List α))).map fun R=>R.getD j []).flatten))=fun _:Nat=>(0:Int):=funext fun j=>hg.nil
      rw[e,es_zero]
    rw[this]
    rfl
  | [],_::_,h,_=>by simp at h
  | _::_,[],h,_=>by simp at h
  | R::RR,W::WW,h,hr=>by
    have ih:=phase_pt hg ns RR WW (by simpa using h) fun i R W a b=>hr (i+1) R W (by simpa using a) (by simpa using b)
    have h0:=hr 0 R W rfl rfl
    have e:(fun j=>g (((R::RR).map fun R=>R.getD j []).flatten))=fun j=>g (R.getD j [])+g ((RR.map fun R=>R.getD j []).flatten):=funext fun j=>by
      rw[List.map_cons,List.flatten_cons,hg.app]
    rw[e,es_add,List.map_cons,List.map_cons,ptR,ptR,ih]
    rcases h0 with ⟨rfl,rfl⟩ | ⟨a,b,c⟩
    · have e2:(fun j=>g (([]:List (List α)).getD j []))=fun _:Nat=>(0:Int):=funext fun j=>by simp[hg.nil]
      rw[e2,es_zero]
      simp[dt]
    · rw[es_one ns R W a b c]
      omega
end
def rot {β:Type} (a:Nat) (l:List β):List β:=l.drop a++l.take a
theorem rot_len {β:Type} (a:Nat) (l:List β):(rot a l).length=l.length:=by
  simp[rot]
  omega
theorem rot_map {β γ:Type} (f:β->γ) (a:Nat) (l:List β):(rot a l).map f=rot a (l.map f):=by simp[rot,List.map_drop,List.map_take]
theorem rot_mem {β:Type}{a:Nat}{l:List β}{x:β}:x∈rot a l↔x∈l:=by
  unfold rot
  rw[List.mem_append]
  constructor
  · rintro (h | h)
    · exact List.mem_of_mem_drop h
    · exact List.mem_of_mem_take h
  · intro h
    rw[<- List.take_append_drop a l] at h
    rcases List.mem_append.mp h with h | h
    · exact .inr h
    · exact .inl h
theorem rot_set {β:Type}{p a:Nat}{l:List β}{v:β} (hl:l.length=p+1) (ha:a<=p):(rot a l).set (p - a) v=rot a (l.set p v):=by
  unfold rot
  have h:(l.take a).set p v=l.take a:=List.set_eq_of_length_le (by rw[List.length_take]; omega)
  rw[List.set_append_left _ _ (by rw[List.length_drop]; omega),List.drop_set,List.take_set,if_neg (by omega),h]
theorem rot_add {β:Type}{a b:Nat}{l:List β} (h:a+b<=l.length):rot a (rot b l)=rot (a+b) l:=by
  unfold rot
  rw[List.drop_append_of_le_length (by rw[List.length_drop]; omega),List.take_append_of_le_length (by rw[List.length_drop]; omega),List.drop_drop,List.append_assoc]
  congr 1
  · congr 1
    omega
  · rw[show l.take (a+b)=l.take b++(l.drop b).take a by rw[Nat.add_comm,List.take_add]]
theorem rot_all {β:Type}{l:List β}:rot l.length l=rot 0 l:=by simp[rot]
theorem rot_get {β:Type}{p a:Nat}{l:List β} (hl:l.length=p+1) (ha:a<=p):(rot a l)[p - a]?=l[p]?:=by
  unfold rot
  rw[List.getElem?_append_left (by rw[List.length_drop]; omega),List.getElem?_drop,show a+(p - a)=p by omega]
def Lm (p m:Nat):List (List Int):=num p m++[[]]
theorem Lm_len {p:Nat} (hp:2<=p) (m:Nat):(Lm p m).length=p+1:=by rw[Lm,List.length_append,num_len (by omega)]; rfl
theorem num_lead2 {p:Nat} (hp:2<=p) (n:Nat):∃ x r,num p n=x::r/\r.length+1=p/\num p (n+1)=(r.map (x.map (·+1)++·))++[x.map (·+1)]:=by
  obtain⟨x,r,e,hr⟩:=num_split hp n
  refine⟨x,r,e,hr,?_⟩
  show nextN (num p n)=_
  rw[e]
  rfl
theorem rot_other {β:Type}{p a i:Nat}{l:List β}{v:β} (ha:a<=p) (hl:l.length=p) {x:β} (h:(rot a (l++[v]))[i]?=some x) (hi:i≠p - a):x∈l:=by
  have hll:(l++[v]).length=p+1:=by simp[hl]
  unfold rot at h
  by_cases z:i<((l++[v]).drop a).length
  · rw[List.getElem?_append_left z,List.getElem?_drop] at h
    rw[List.length_drop,hll] at z
    rw[List.getElem?_append_left (by omega)] at h
    exact List.mem_of_getElem? h
  · rw[List.getElem?_append_right (by omega)] at h
    have h2:=(List.getElem?_eq_some_iff.mp h).1
    rw[List.length_take,List.length_drop,hll] at h2
    rw[List.getElem?_take_of_lt (by rw[List.length_drop,hll]; omega)] at h
    rw[List.getElem?_append_left (by rw[List.length_drop,hll]; omega)] at h
    exact List.mem_of_getElem? h
theorem Lm_more {p:Nat} (hp:2<=p) (k a:Nat) (ha:a<=p) {x:List Int}{r:List (List Int)} (e:num p k=x::r):(∀ (i:Nat) W,(rot a (Lm p (k+1)))[i]?=some W->i≠p - a->x.length<=W.length)/\x.map (·+1)∈rot a (Lm p (k+1)):=by
  obtain⟨x',r',e',hr,e2⟩:=num_lead2 hp k
  rw[e] at e'
  cases e'
  refine⟨fun i W h hi=>?_,?_⟩
  · have hm:=rot_other ha (num_len (by omega) (k+1)) h hi
    rw[e2] at hm
    rcases List.mem_append.mp hm with hW | hW
    · obtain⟨y,_,rfl⟩:=List.mem_map.mp hW
      simp
    · rw[List.mem_singleton] at hW
      subst hW
      simp
  · rw[rot_mem,Lm,e2]
    simp
theorem Lm_next {p : Nat} (hp : 2 ≤ p) (k a : Nat) (ha : a ≤ p) : ∃ x r, num p k = x :: r ∧ (∀ W ∈ rot a (Lm p (k + 1)), W = [] ∨ (x.length ≤ W.length ∧ W.take x.length = x.map (· + 1))) ∧
    (rot a (Lm p (k+1)))[p - a]?=some []/\((rot a (Lm p (k+1))).map (·.drop x.length)).set (p - a) x=rot (if a=p then 0 else a+1) (Lm p k):=by
  obtain⟨x,r,e,hr,e2⟩:=num_lead2 hp k
  have hl:=Lm_len hp (k+1)
  refine⟨x,r,e,fun W hW=>?_,?_,?_⟩
  · rw[rot_mem,Lm,e2] at hW
    rcases List.mem_append.mp hW with hW | hW
    · right
      rcases List.mem_append.mp hW with hW | hW
      · obtain⟨y,_,rfl⟩:=List.mem_map.mp hW
        exact⟨by simp,by rw[List.take_append_of_le_length (by simp),List.take_of_length_le (by simp)]⟩
      · rw[List.mem_singleton] at hW
        subst hW
        exact⟨by simp,by rw[List.take_of_length_le (by simp)]⟩
    · left
      simpa using hW
  · rw[rot_get hl ha,Lm,List.getElem?_append_right (by rw[num_len (by omega)]; omega),num_len (by omega)]
    simp
  · have hm : (Lm p (k + 1)).map (·.drop x.length) = r ++ [[], []] := by
      rw[Lm,e2,List.map_append,List.map_append,List.map_map]
      have h1:((fun l:List Int=>l.drop x.length) ∘ (x.map (·+1)++·))=id:=funext fun y=>by
        show (x.map (·+1)++y).drop x.length=y
        rw[show x.length=(x.map (·+1)).length by simp,List.drop_left]
      rw[h1]
      simp
    rw[rot_map,hm]
    have hl2:(r++[([]:List Int),[]]).length=p+1:=by simp; omega
    rw[rot_set hl2 ha]
    have hs:(r++[([]:List Int),[]]).set p x=rot 1 (Lm p k):=by
      rw[List.set_append_right _ _ (by omega),show p - r.length=1 by omega,Lm,e]
      simp[rot]
    rw[hs]
    by_cases z:a=p
    · rw[if_pos z,rot_add (by rw[Lm_len hp]; omega),z,show p+1=(Lm p k).length from (Lm_len hp k).symm,rot_all]
    · rw[if_neg z,rot_add (by rw[Lm_len hp]; omega)]
end Lv
namespace Lv
open PySem L2
section
variable {S:List Addr}{H H':Hp}{a w:Addr}
end
end Lv
namespace Lv
open PySem L2
section
variable {α:Type}
theorem ptR_set {g:List α->Int}:∀ (A:List (List (List α))) (B:List (List Int)) (o:Nat) (R:List (List α)) (X:List Int),A.length=B.length->A[o]?=some []->B[o]?=some []->ptR g (A.set o R) (B.set o X)=ptR g A B+dt g R X
  | [],_,o,R,X,_,h,_=>by simp at h
  | _::_,[],o,R,X,h,_,_=>by simp at h
  | a::A,b::B,0,R,X,_,h1,h2=>by
    have e1:a=[]:=by simpa using h1
    have e2:b=[]:=by simpa using h2
    subst e1 e2
    simp only[List.set_cons_zero,ptR]
    simp[dt]
    omega
  | a::A,b::B,o+1,R,X,h,h1,h2=>by
    have ih:=ptR_set (g:=g) A B o R X (by simpa using h) (by simpa using h1) (by simpa using h2)
    simp only[List.set_cons_succ,ptR,ih]
    omega
def ones (RR:List (List (List α))):List (List Int):=RR.map fun R=>R.map fun _=>1
def tl (g:List α->Int) (RR:List (List (List α))):Int:=(RR.map fun R=>sg g R).sum
def Alike (RR:List (List (List α))) (WW:List (List Int)):Prop:=RR.map List.length=WW.map List.length
theorem Alike.at {RR:List (List (List α))}{WW:List (List Int)} (h:Alike RR WW) {i:Nat}{R:List (List α)} (e:RR[i]?=some R):∃ W,WW[i]?=some W/\W.length=R.length:=by
  have:=congrArg (·[i]?) h
  simp only[List.getElem?_map,e,Option.map_some] at this
  cases q:WW[i]? with
  | none=>rw[q] at this; cases this
  | some W=>
    rw[q] at this
    exact⟨W,rfl,(Option.some.inj this).symm⟩
theorem Alike.len {RR:List (List (List α))}{WW:List (List Int)} (h:Alike RR WW):RR.length=WW.length:=by
  have:=congrArg List.length h
  simpa using this
end
end Lv
namespace L2
open PySem PySem.Spec PyProof.Rows PySem.SeqAt
theorem range_pick {α:Type}:∀ ys:List α,(List.range ys.length).filterMap (ys[·]?)=ys
  | []=>rfl
  | y::ys=>by
    rw[List.length_cons,List.range_succ_eq_map,List.filterMap_cons]
    show y::(List.map Nat.succ (List.range ys.length)).filterMap ((y::ys)[·]?)=_
    rw[List.filterMap_map]
    exact congrArg (y::·) (range_pick ys)
theorem fm_congr {α β:Type}{f g:α->Option β}:∀ {l:List α},(∀ x∈l,f x=g x)->l.filterMap f=l.filterMap g
  | [],_=>rfl
  | x::l,h=>by rw[List.filterMap_cons,List.filterMap_cons,h x (by simp),fm_congr fun y hy=>h y (by simp[hy])]
theorem slicePick_back (its:List Value):slicePick its.toArray none none (some (-1))=its.reverse.toArray:=by
  unfold slicePick
  have e1:sliceBounds none none (some (-1)) its.toArray.size=((its.length:Int) - 1,-1,-1):=by
    simp[sliceBounds]
  rw[e1]
  have e2:sliceRange ((its.length:Int) - 1) (-1) (-1)=(List.range its.length).map fun k=>its.length - 1 - k:=by
    unfold sliceRange
    have:(if (its.length:Int) - 1 > -1 then ((its.length:Int) - 1 - (-1) - (-1) - 1) / (-(-1)) else 0).toNat=its.length:=by
      by_cases h:(its.length:Int) - 1 > -1
      · rw[if_pos h,show (-(-1):Int)=1 by decide,Int.ediv_one]
        omega
      · rw[if_neg h]
        omega
    dsimp only
    rw[if_neg (by decide),this]
    apply List.map_congr_left
    intro k hk
    have:=List.mem_range.mp hk
    omega
  show (List.filterMap _ (sliceRange ((its.length:Int) - 1) (-1) (-1))).toArray=_
  rw[e2,List.filterMap_map]
  congr 1
  have e3:=range_pick its.reverse
  rw[List.length_reverse] at e3
  rw[<- e3]
  apply fm_congr
  intro k hk
  have:=List.mem_range.mp hk
  show its.toArray[its.length - 1 - k]?=_
  rw[List.getElem?_toArray,List.getElem?_reverse this]
def rRevL (K:PySem.W.Frag):V->Hp->VK->Prop:=fun x H Q=>∃ a xs,x=.ref a/\SqL K H a xs/\∀ p,H p=none->Q (.ref p) (upd H p (.lst xs.reverse))
def tRevL (K:PySem.W.Frag) (te:TE) (ts:TO):TE:=fun σ H Q=>te σ H fun x H1=>ts σ H1 fun k H2=>k=some (-1)/\rRevL K x H2 Q
section
variable {X:Cx}{e st:Expr}{te:TE}{ts:TO}{pos p2:Pos}
theorem pe_rev (he:PE X e te) (hst:PO X (some st) ts):PE X (.Subscript e (.Slice none none (some st) p2) pos) (tRevL X.K te ts):=by
  intro pins s σ H Q I h
  refine Subscript_ (thn (he pins s σ H _ I h) fun v s1 ⟨x,H1,I1,r1,q1⟩=>?_)
  refine wpAny_Slice ?_
  rw[evalPart_none]
  refine wpAny_pure ?_
  refine wpAny_pure ?_
  refine thn (hst pins s1 σ H1 _ I1 q1) fun vu s3 ⟨u,H3,I3,pu,ek,q3⟩=>?_
  subst ek
  obtain⟨a,xs,rfl,hx,q⟩:=q3
  cases r1
  have I4:Inv X pins σ H3 { s3 with heap:=s3.heap.push { cls:=.type "slice",data:=.fields #[.none,.none,vu] } }:=I3.kept (t':=s3.toks) fun b ob q=>Heap.get?_push_of_some _ q
  obtain⟨its,r,ht,hz⟩:=I4.list hx
  have hlen:=r.length
  show wpAny (model X.prog X.w) X.A (subscriptTail e (.Slice none none (some st) p2) (.ref a) (.ref s3.heap.objs.size)) (EP X pins σ Q) X.xe { s3 with heap:=s3.heap.push { cls:=.type "slice",data:=.fields #[.none,.none,vu] } }
  refine tail_any (ops:=[.ref a,.ref s3.heap.objs.size]) ht.isList.typeIs slot_list_getitem.lookup ?_ (by with_unfolding_all rfl)
  refine wpAny_getItem_list_slice ht.isList (Heap.IsSliceOf.new ..) .none .none pu (by simp) ?_ (by rw[List.size_toArray] <;> omega)
  rw[slicePick_back]
  refine⟨.ref (s3.heap.push { cls:=.type "slice",data:=.fields #[.none,.none,vu] }).objs.size,_,I4.laid (t':=s3.toks) (o:=.lst xs.reverse) (fun b ob q=>Heap.get?_push_of_some _ q) (Nat.le_refl _) ?_,rfl,q _ (I4.hok.fresh (Nat.le_refl _))⟩
  exact⟨by rw[List.length_reverse]; omega,_,0,Vals.reverse r,Heap.get?_push_size _ rfl⟩
end
end L2
namespace Lv
open PySem L2
def pre:Int->List Int->List Int
  | _,[]=>[]
  | s,x::r=>(s+x)::pre (s+x) r
end Lv
namespace L2
open PySem PySem.Spec PyProof.Rows PySem.SeqAt
theorem mul_tup0 (l : Addr) (items : Array Value) (n : Nat) (dct : Option Addr) (sl : Array (Option Value)) (u : Tok) (h1 : ¬ (items.isEmpty || ((0 : Int) == 1)) = true) :
    Meets (Builtin.«tuple.__mul__» ⟨[.ref l,.int 0 u],[]⟩) (fun _ R s=>s.heap.get? l=some { cls:=.type "tuple",dict:=dct,data:=.seq items n,slots:=sl } /\
      R (.ok (.ret (.ref s.heap.objs.size))) { s with heap:=s.heap.push { cls:=.type "tuple",data:=.seq #[] } }) :=
  .of_wp fun prog w A R s h=>by
    obtain⟨hp,g,d,tk,os⟩:=s
    obtain⟨hl,h⟩:=h
    unfold Builtin.«tuple.__mul__»
    wp_walk
    rw[if_neg h1]
    wp_walk
    exact⟨_,rfl,h⟩
section
variable {X:Cx}
def rRepE (K:PySem.W.Frag):R2:=fun x y H Q=>∃ (l:Addr) (k:Int) (xs:List V),x=.ref l/\y=.int k/\SqT K H l xs/\xs≠[]/\0<=k/\xs.length*k.toNat<=100000/\(k=1->Q (.ref l) H)/\(k≠1->∀ p,H p=none->Q (.ref p) (upd H p (.tup (List.replicate k.toNat xs).flatten)))
theorem op_repE:OpR X (binaryOp .Mult) (rRepE X.K):=by
  intro pins s σ H x y v u Q I rx ry h
  obtain⟨l,k,xs,rfl,rfl,hH,hne,k1,hz,q1,q2⟩:=h
  cases rx
  obtain⟨t,rfl⟩:=ry
  obtain⟨its,r,p,_⟩:=I.tuple hH
  obtain⟨⟨c,dct,dt,sl⟩,hl,hc,n,hd⟩:=(show s.heap.IsTuple l its.toArray from p)
  replace hc:c=.type "tuple":=hc
  replace hd:dt=.seq its.toArray n:=hd
  subst hc hd
  have hlen:=r.length
  have hpos:0<its.length:=by rw[<- hlen]; exact List.length_pos_iff.mpr hne
  have hne':its.toArray.isEmpty=false:=by
    cases its with
    | nil=>simp at hpos
    | cons=>rfl
  refine wpAny_binaryOp_repeat_ref (T:="tuple") (U:="int") (by decide) ⟨_,hl,rfl⟩ (fun s'=>typeIs_int s' k t) noFill_tup_mul F.fills_int_mul F.slot_int_rmul rep_tup F.slot_int_index.lookup
    (call_meets F.slot_int_rmul (typeIs_int s k t) F.entry_int_rmul (F.args_int_rmul_2 _ _) (rmul_int_tup k t l its.toArray n dct sl) ⟨hl,rfl,⟨_,hl,rfl⟩,?_⟩)
  by_cases e:k=1
  · subst e
    exact call_meets F.slot_tuple_mul ⟨_,hl,rfl⟩ F.entry_tuple_mul (F.args_tuple_mul_2 _ _) (mul_tup1 l its.toArray n dct sl t) ⟨hl,⟨.ref l,H,I,rfl,q1 rfl⟩⟩
  by_cases e0:k=0
  · subst e0
    refine call_meets F.slot_tuple_mul ⟨_,hl,rfl⟩ F.entry_tuple_mul (F.args_tuple_mul_2 _ _) (mul_tup0 l its.toArray n dct sl t (by rw[hne']; decide)) ⟨hl,?_⟩
    refine⟨.ref s.heap.objs.size,_,I.laid (t':=s.toks) (o:=.tup []) (fun b ob q=>Heap.get?_push_of_some _ q) (Nat.le_refl _) ?_,rfl,q2 e _ (I.hok.fresh (Nat.le_refl _))⟩
    exact⟨Nat.zero_le _,[],.nil,IsTupD.new _ _⟩
  · have hm : (its.toArray.size : Int) * k ≤ 100000 := by
      rw[List.size_toArray,<- hlen]
      have:((xs.length*k.toNat:Nat):Int)<=100000:=by omega
      rw[Int.natCast_mul,Int.toNat_of_nonneg (by omega)] at this
      exact this
    have hk5:k<=100000:=by
      rw[List.size_toArray] at hm
      have:=Int.mul_le_mul_of_nonneg_right (show (1:Int)<=its.length by omega) k1
      omega
    have f0:List.foldl (fun x1 x2=>x1++x2) #[] (List.replicate k.toNat its.toArray)=(List.replicate k.toNat its).flatten.toArray:=by
      have:=foldl_rep its k.toNat []
      rw[List.nil_append] at this
      exact this
    have hsl:(100000:Nat)<=sizeLine:=by rw[sizeLine_eq]; decide
    refine call_meets F.slot_tuple_mul ⟨_,hl,rfl⟩ F.entry_tuple_mul (F.args_tuple_mul_2 _ _) (mul_tupN l its.toArray n dct sl k t ?_ ?_ ?_ ?_ ?_ ?_) ⟨hl,?_⟩
    · simp; omega
    · rw[hne']; simp; exact e
    · rw[hne']; simp; omega
    · omega
    · unfold Builtin.Tuple.tupleTooMany
      rw[decide_eq_true_iff,sizeLine_eq]
      omega
    · rw[f0,List.size_toArray,len_rep,Nat.mul_comm,<- hlen]
      exact Nat.not_lt.mpr (Nat.le_trans hz hsl)
    · rw[f0]
      refine⟨.ref s.heap.objs.size,_,I.laid (t':=s.toks) (o:=.tup (List.replicate k.toNat xs).flatten) (fun b ob q=>Heap.get?_push_of_some _ q) (Nat.le_refl _) ?_,rfl,q2 e _ (I.hok.fresh (Nat.le_refl _))⟩
      exact⟨by rw[len_rep,Nat.mul_comm]; exact Nat.le_trans hz hsl,_,r.rep k.toNat,IsTupD.new _ _⟩
theorem opK_repE (K:PySem.W.Frag) {X:Cx} (hK:X.K=K:=by rfl):OpR X (binaryOp .Mult) (rRepE K):=by subst hK; exact op_repE
end
end L2
namespace Lv
open PySem L2
def rowAt (r:List (List Int)) (t:Nat):List Int:=r.getD t []
def S (q:Int) (g:Nat->List Int) (a:List Int):Int:=((List.range a.length).map fun t=>((g t).count q:Int)*a.getD t 0).sum
def pot (q:Int):List (List (List Int))->List (List Int)->Int
  | r::R,a::N=>S q (rowAt r) a+pot q R N
  | _,_=>0
end Lv
namespace Lv
open PySem L2
end Lv
namespace Lv
open PySem L2
end Lv
namespace Lv
open PySem L2
end Lv
namespace L2
open PySem PySem.Spec PyProof.Rows PySem.SeqAt
section
variable {X:Cx}{scope:Scope}{own:List Str}{js fr:List Nat}{elt i1 t1 i2 t2:Expr}{f1 f2:List Expr}{wi wi2:TI}{g1 g2:TG}{tt1 tt2:TT}{te:TE}{pos:Pos}
end
end L2
namespace L2
open PySem PySem.Spec PyProof.Rows PySem.SeqAt
section
variable {b:Bool}{K:PySem.W.Frag}{g2:TG}{tt2:TT}{te:TE}{τ:St}{H6:Hp}{a acc:Addr}{xs:List V}
end
end L2
namespace Lv
open PySem L2
def intW:V->Int
  | .int i=>i
  | _=>0
def kf (H:Hp) (p:Addr):List Int:=match H p with
  | some (.tup vs)=>vs.map intW
  | _=>[]
theorem kf_of {H:Hp}{p:Addr}{k:List Int} (h:H p=some (.tup (k.map V.int))):kf H p=k:=by
  unfold kf
  rw[h]
  show (k.map V.int).map intW=k
  rw[List.map_map]
  exact (List.map_congr_left fun _ _=>rfl).trans (List.map_id k)
def TuM (H:Hp) (ps:List Addr) (ks:List (List Int)):Prop:=(∀ p∈ps,∃ k:List Int,k≠[]/\H p=some (.tup (k.map V.int)))/\ps.map (kf H)=ks
theorem TuM.nil {H:Hp}:TuM H [] []:=⟨fun p hp=>(nomatch hp),rfl⟩
theorem TuM.keep {H H':Hp}{ps:List Addr}{ks:List (List Int)} (h:TuM H ps ks) (k:∀ p∈ps,H' p=H p):TuM H' ps ks:=by
  refine⟨fun p hp=>by rw[k p hp]; exact h.1 p hp,?_⟩
  rw[<- h.2]
  refine List.map_congr_left fun p hp=>?_
  unfold kf
  rw[k p hp]
theorem TuM.same {H H':Hp}{ps:List Addr}{ks:List (List Int)} (h:TuM H ps ks) (s:Same H H'):TuM H' ps ks:=h.keep fun p hp=>by
  obtain⟨k,_,e⟩:=h.1 p hp
  rw[e,s _ _ e]
theorem TuM.snoc {H:Hp}{ps:List Addr}{ks:List (List Int)}{p:Addr}{k:List Int} (h:TuM H ps ks) (e:H p=some (.tup (k.map V.int))) (hk:k≠[]):TuM H (ps++[p]) (ks++[k]):=by
  refine⟨fun q hq=>?_,by rw[List.map_append,h.2,List.map_cons,List.map_nil,kf_of e]⟩
  rcases List.mem_append.mp hq with hq | hq
  · exact h.1 q hq
  · rw[List.mem_singleton.mp hq]; exact⟨k,hk,e⟩
theorem TuM.at {H:Hp}{ps:List Addr}{ks:List (List Int)} (h:TuM H ps ks) {j:Nat}{p:Addr} (e:ps[j]?=some p):∃ k,ks[j]?=some k/\H p=some (.tup (k.map V.int)):=by
  obtain⟨k,_,e2⟩:=h.1 p (List.mem_of_getElem? e)
  exact⟨k,by rw[<- h.2,List.getElem?_map,e,Option.map_some,kf_of e2],e2⟩
theorem TuM.len {H:Hp}{ps:List Addr}{ks:List (List Int)} (h:TuM H ps ks):ps.length=ks.length:=by rw[<- h.2,List.length_map]
end Lv
namespace L2
open PySem PySem.Spec PyProof.Rows PySem.SeqAt
end L2
namespace Lv
open PySem L2
end Lv
namespace Lv
open PySem L2
def phO (p t:Nat):Int:=((p:Int) - t) % ((p:Int)+1)
def phs (p n:Nat):Nat->List (List Int)
  | 0=>[]
  | t+1=>phs p n t++[[phO p t,hd p (n - 1 - t)]]
theorem phs_len (p n:Nat):∀ t,(phs p n t).length=t
  | 0=>rfl
  | t+1=>by rw[phs,List.length_append,phs_len p n t]; rfl
end Lv
namespace Lv
open PySem L2
def mxAt:List Int->Nat
  | []=>0
  | x::r=>if r.all (·<=x) then 0 else mxAt r+1
structure IsTop (d:List Int) (r:Nat):Prop where
  lt:r<d.length
  ge:∀ j (h:j<d.length),d[j]<=d[r]
  fst:∀ j (h:j<r),d[j]<d[r]
def lacks (c v:List Int):List Int:=List.zipWith (· - ·) c v
def came (p:Nat):Nat->Nat × List Int
  | 0=>(0,List.replicate p 0)
  | n+1=>
    let L:=if (came p n).2=cnt p (came p n).1 then (came p n).1+1 else (came p n).1
    let r:=mxAt (lacks (cnt p L) (came p n).2)
    (L,(came p n).2.set r ((came p n).2.getD r 0+1))
end Lv
namespace Lv
open PySem L2
end Lv
namespace Lv
open PySem L2
end Lv
namespace Lv
open PySem L2
def fill (x y:Int):List Bool:=List.replicate x.toNat false++List.replicate y.toNat true
def layB (c v:List Int):List (List Bool):=List.zipWith (fun x y=>fill (x - y) y) c v
def TBs (H:Hp) (rs:List Addr) (N:List (List Bool)):Prop:=rs.length=N.length/\∀ (j:Nat) r bs,rs[j]?=some r->N[j]?=some bs->H r=some (.tup (bs.map V.bl))
theorem TBs.same {H H':Hp}{rs:List Addr}{N:List (List Bool)} (h:TBs H rs N) (s:Same H H'):TBs H' rs N:=⟨h.1,fun j r xs a b=>s _ _ (h.2 j r xs a b)⟩
theorem TBs.lst {H:Hp}{rs:List Addr}{N:List (List Bool)}{acc:Addr}{ys zs:List V} (h:TBs H rs N) (e:H acc=some (.lst zs)):TBs (upd H acc (.lst ys)) rs N:=⟨h.1,fun j r xs a b=>by
  have:=h.2 j r xs a b
  rw[upd_ne (by intro z; subst z; rw[e] at this; cases this)]
  exact this⟩
theorem TBs.snoc {H:Hp}{rs:List Addr}{N:List (List Bool)}{q:Addr}{bs:List Bool} (h:TBs H rs N) (e:H q=some (.tup (bs.map V.bl))):TBs H (rs++[q]) (N++[bs]):=by
  refine⟨by simp[h.1],fun j r xs a b=>?_⟩
  rcases snoc_get a with a' | ⟨a1,a2⟩
  · rcases snoc_get b with b' | ⟨b1,b2⟩
    · exact h.2 j r xs a' b'
    · have:=(List.getElem?_eq_some_iff.mp a').1
      have:=h.1
      omega
  · rcases snoc_get b with b' | ⟨b1,b2⟩
    · have:=(List.getElem?_eq_some_iff.mp b').1
      have:=h.1
      omega
    · subst a2 b2
      exact e
def lay (p n:Nat):List (List Bool):=layB (cnt p (came p n).1) (came p n).2
end Lv
namespace L2
open PySem PySem.Spec PyProof.Rows
theorem piK_zipB (K : PySem.W.Frag) {X : Cx} {es : List Expr} {x1} {tpos : Pos} {e f : Expr} {ta : TA} {p pos : Pos} (hg : Gl X "zip") (hm : X.mg "zip" = none) (ha : PA X [e, f] ta) (hK : X.K = K := by rfl) (hs : starEach [e, f] X.env = [(false, eval e X.env), (false, eval f X.env)] := by rfl) (hs2 : starEach [f] X.env = [(false, eval f X.env)] := by rfl) :
    PI X (.Tuple es x1 tpos) (.Call (.Name "zip" p) [e,f] [] pos) (iZipB K ta):=by subst hK; exact pi_zipB hg hm ha hs hs2
theorem in_zip {b1 b2 : Bool} {K : PySem.W.Frag} {g2 : TG} {tt2 : TT} {te : TE} {τ : St} {acc a b : Addr} {xs ys : List V} {H6 : Hp} {Z : Hp → Prop} (hlen : xs.length ≤ ys.length) (W2 : Nat → Hp → Prop) (h0 : W2 0 H6)
    (hl:∀ i H,i<=xs.length->W2 i H->SqB b1 K H a xs/\SqB b2 K H b ys)
    (hs:∀ i x y p H,xs[i]?=some x->ys[i]?=some y->W2 i H->H p=none->g2 (.ref p) τ (upd H p (.tup [x,y])) fun τ2 H9=>tt2 τ2 H9 fun c H10=>
      if c=true then te τ2 H10 fun z H11=>∃ zs,H11 acc=some (.lst zs)/\zs.length<sizeLine/\(i+1<=xs.length/\W2 (i+1) (upd H11 acc (.lst (zs++[z])))) else (i+1<=xs.length/\W2 (i+1) H10))
    (hd:∀ H,W2 xs.length H->Z H):tInW g2 tt2 te τ acc (ItzB b1 b2 K a b) H6 Z:=by
  refine⟨fun i H=>i<=xs.length/\W2 i H,xs.length,⟨Nat.zero_le _,h0⟩,?_⟩
  rintro i H ⟨hi,p⟩
  obtain⟨q1,q2⟩:=hl i H hi p
  by_cases hlt:i<xs.length
  · have hl2:i<ys.length:=by omega
    refine .inr ⟨hlt,⟨xs,ys,xs[i],ys[i],q1,q2,by simp[hlt],by simp[hl2]⟩,fun x H' y=>?_⟩
    obtain⟨pa,z1,z2,hp,e1,e2,y1,y2⟩:=y
    subst e1 e2
    exact hs i z1 z2 pa H (y1 xs q1) (y2 ys q2) p hp
  · have e:i=xs.length:=by omega
    subst e
    exact .inl ⟨⟨xs,ys,q1,q2,.inl (Nat.le_refl _)⟩,hd H p⟩
theorem comp2_zip {b1 b2 : Bool} {K : PySem.W.Frag} {own : List Str} {js : List Nat} {g1 : TG} {tt1 : TT} {wi2 : TI} {g2 : TG} {tt2 : TT} {te : TE} {σ : St} {H1 : Hp} {Q : VK} {a b : Addr} {xs ys : List V} (hlen : xs.length ≤ ys.length) (Pv : Addr → Nat → Hp → Prop) (h0 : ∀ acc, H1 acc = none → Pv acc 0 (upd H1 acc (.lst [])))
    (hl:∀ acc i H,H1 acc=none->i<=xs.length->Pv acc i H->SqB b1 K H a xs/\SqB b2 K H b ys)
    (hs:∀ acc i x y p H,H1 acc=none->xs[i]?=some x->ys[i]?=some y->Pv acc i H->H p=none->g1 (.ref p) (blkσ own js σ) (upd H p (.tup [x,y])) fun τ H4=>tt1 τ H4 fun c H5=>
      if c=true then wi2 τ H5 fun J2 H6=>tInW g2 tt2 te τ acc J2 H6 (fun H7=>i+1<=xs.length/\Pv acc (i+1) H7) else (i+1<=xs.length/\Pv acc (i+1) H5))
    (hd:∀ acc H,H1 acc=none->Pv acc xs.length H->Q (.ref acc) H):tComp2W own js g1 tt1 wi2 g2 tt2 te σ (ItzB b1 b2 K a b) H1 Q:=by
  intro acc hacc
  refine⟨fun i H=>i<=xs.length/\Pv acc i H,xs.length,⟨Nat.zero_le _,h0 acc hacc⟩,?_⟩
  rintro i H ⟨hi,p⟩
  obtain⟨q1,q2⟩:=hl acc i H hacc hi p
  by_cases hlt:i<xs.length
  · have hl2:i<ys.length:=by omega
    refine .inr ⟨hlt,⟨xs,ys,xs[i],ys[i],q1,q2,by simp[hlt],by simp[hl2]⟩,fun x H' y=>?_⟩
    obtain⟨pa,z1,z2,hp,e1,e2,y1,y2⟩:=y
    subst e1 e2
    exact hs acc i z1 z2 pa H hacc (y1 xs q1) (y2 ys q2) p hp
  · have e:i=xs.length:=by omega
    subst e
    exact .inl ⟨⟨xs,ys,q1,q2,.inl (Nat.le_refl _)⟩,hd acc H hacc p⟩
end L2
namespace Lv
open PySem L2
def selK (xs:List Int) (bs:List Bool) (k:Nat):List Int:=(((xs.zip bs).take k).filter (·.2)).map (·.1)
def sel (xs:List Int) (bs:List Bool):List Int:=((xs.zip bs).filter (·.2)).map (·.1)
theorem selK_succ {xs:List Int}{bs:List Bool}{k:Nat}{x:Int}{b:Bool} (hx:xs[k]?=some x) (hb:bs[k]?=some b):selK xs bs (k+1)=selK xs bs k++(if b then [x] else []):=by
  have hz:(xs.zip bs)[k]?=some (x,b):=by rw[List.getElem?_zip_eq_some]; exact⟨hx,hb⟩
  unfold selK
  rw[List.take_add_one,hz,Option.toList_some,List.filter_append,List.map_append]
  cases b <;> rfl
theorem selK_all {xs:List Int}{bs:List Bool} (h:xs.length=bs.length):selK xs bs xs.length=sel xs bs:=by
  unfold selK sel
  rw[List.take_of_length_le (by rw[List.length_zip]; omega)]
theorem selK_len (xs:List Int) (bs:List Bool) (k:Nat):(selK xs bs k).length<=xs.length:=by
  unfold selK
  rw[List.length_map]
  refine Nat.le_trans (List.length_filter_le _ _) ?_
  rw[List.length_take,List.length_zip]
  omega
def readL (N:List (List Int)) (B:List (List Bool)):List Int:=(List.zipWith sel N B).flatten
def readOf (N:List (List Int)) (B:List (List Bool)):Int:=(List.zipWith (fun xs bs=>(sel xs bs).sum) N B).sum
theorem readL_sum:∀ (N:List (List Int)) (B:List (List Bool)),(readL N B).sum=readOf N B
  | [],_=>by simp[readL,readOf]
  | _::_,[]=>by simp[readL,readOf]
  | x::N,b::B=>by
    have:=readL_sum N B
    unfold readL readOf at this ⊢
    rw[List.zipWith_cons_cons,List.flatten_cons,List.sum_append,List.zipWith_cons_cons,List.sum_cons,this]
theorem take_readL {N:List (List Int)}{B:List (List Bool)}{i:Nat}{x:List Int}{b:List Bool} (hx:N[i]?=some x) (hb:B[i]?=some b):readL (N.take (i+1)) (B.take (i+1))=readL (N.take i) (B.take i)++sel x b:=by
  have h1:=(List.getElem?_eq_some_iff.mp hx).1
  have h2:=(List.getElem?_eq_some_iff.mp hb).1
  unfold readL
  rw[<- List.take_zipWith,<- List.take_zipWith,List.take_add_one]
  have:(List.zipWith sel N B)[i]?=some (sel x b):=by rw[List.getElem?_zipWith,hx,hb]
  rw[this,Option.toList_some,List.flatten_append]
  simp
def spRead:Sp:=fun vs H Q _=>∃ (a b:Addr) (qs rs:List Addr) (N:List (List Int)) (B:List (List Bool)),vs=[.ref a,.ref b]/\H a=some (.tup (qs.map V.ref))/\H b=some (.tup (rs.map V.ref))/\TTs H qs N/\TBs H rs B/\N.length=B.length/\N.length<=7 /\
  (∀ (j:Nat) x y,N[j]?=some x->B[j]?=some y->x.length=y.length/\x.length<=4000)/\∀ H',Same H H'->Q (.int (readOf N B)) H'
theorem num_get {p:Nat}{n j:Nat}{x:List Int} (h:(num p n)[j]?=some x):(x.length:Int)=(cnt p n).getD j 0:=by
  rw[<- lens_num p n]
  unfold lens
  rw[List.getD_eq_getElem?_getD,List.getElem?_map,h]
  rfl
end Lv
namespace Lv
open PySem L2
def opr (D:List Rows):List (List (List Int)):=D.map fun r=>r.map fun c=>c.getD []
def gl (r:List Int):Int:=(r.length:Nat)
theorem gl_adds:Adds gl:=⟨rfl,fun a b=>by simp[gl]⟩
theorem opr_len (D:List Rows):(opr D).map List.length=D.map List.length:=by
  unfold opr
  rw[List.map_map]
  exact List.map_congr_left fun r _=>by simp
theorem tk_flat {m j:Nat} (hj:j<m):∀ D:List Rows,(rl90 (tkA D m j)).flatten=((opr D).map fun R=>R.getD j []).flatten
  | []=>rfl
  | r::D=>by
    have ih:=tk_flat hj D
    have e:(r.take m)[j]?=r[j]?:=by rw[List.getElem?_take,if_pos hj]
    unfold tkA opr at ih ⊢
    rw[List.filterMap_cons,e,List.map_cons,List.map_cons,List.flatten_cons,<- ih,List.getD_eq_getElem?_getD,List.getElem?_map]
    cases q:r[j]? with
    | none=>rfl
    | some c=>
      cases c with
      | none=>rfl
      | some xs=>rfl
theorem mrg_get (cs:Rows):(mrg cs).getD []=(mrg cs).toList.flatten:=by
  cases mrg cs with
  | none=>rfl
  | some xs=>simp
theorem gl_mrg {D:List Rows}{m j:Nat} (hj:j<m):gl ((mrg (tkA D m j)).getD [])=gl (((opr D).map fun R=>R.getD j []).flatten):=by
  rw[mrg_get,<- tk_flat hj]
  unfold gl
  rw[(mrg_things _).length_eq]
theorem opr_ph (D:List Rows) (o m:Nat):opr (phR D o m)=((opr D).map (·.drop m)).set o ((List.range m).map fun j=>(mrg (tkA D m j)).getD []):=by
  unfold opr phR
  rw[List.map_set,List.map_map,List.map_map,List.map_map]
  congr 1
  exact List.map_congr_left fun r _=>by simp[List.map_drop]
theorem thg_len (cs:Rows):thg cs=(((rl90 cs).flatten.length:Nat):Int):=by
  unfold thg
  induction rl90 cs with
  | nil=>rfl
  | cons x r ih=>rw[List.map_cons,List.sum_cons,ih,List.flatten_cons,List.length_append]; omega
theorem sum_thg (m:Nat):∀ D:List Rows,((D.map fun q=>thg (q.take m)).sum:Int)=((((D.map fun r=>rl90 (r.take m)).flatten).flatten.length:Nat):Int)
  | []=>rfl
  | r::D=>by
    rw[List.map_cons,List.sum_cons,sum_thg m D,thg_len,List.map_cons,List.flatten_cons,List.flatten_append,List.length_append]
    omega
theorem sg_len:∀ (R:List (List Int)),sg gl R=((R.flatten.length:Nat):Int)
  | []=>rfl
  | r::R=>by
    have:=sg_len R
    unfold sg at this ⊢
    rw[List.map_cons,List.sum_cons,this,List.flatten_cons,List.length_append]
    show ((r.length:Nat):Int)+_=_
    omega
theorem sg_new (D:List Rows) (m:Nat):sg gl ((List.range m).map fun j=>(mrg (tkA D m j)).getD [])=(D.map fun q=>thg (q.take m)).sum:=by
  rw[sum_thg,sg_len,((tk_perm m D).flatten.length_eq).symm]
  have h:(((List.range m).map fun j=>(mrg (tkA D m j)).getD []).flatten).Perm (((List.range m).map fun i=>(rl90 (tkA D m i)).flatten).flatten):=flat_map_perm fun i _=>by
    rw[mrg_get]
    exact mrg_things _
  have e:((List.range m).map fun i=>(rl90 (tkA D m i)).flatten).flatten=(((List.range m).map fun i=>rl90 (tkA D m i)).flatten).flatten:=by
    rw[List.flatten_flatten,List.map_map]
    rfl
  rw[h.length_eq,e]
theorem ph52 {p : Nat} (hp : 2 ≤ p) {k a : Nat} (ha : a ≤ p) {D : List Rows} (hA : Alike (opr D) (rot a (Lm p (k + 1)))) : ∃ f : Nat, hd p k = f ∧ 1 ≤ f ∧ D[p - a]? = some [] ∧ (∀ (i : Nat) r, D[i]? = some r → i ≠ p - a → f ≤ r.length) ∧ PhOk (lns D) ((p - a : Nat) : Int) (hd p k) ∧
    Alike (opr (phR D (p - a) f)) (rot (if a=p then 0 else a+1) (Lm p k))/\ptR gl (opr D) (rot a (Lm p (k+1)))=ptR gl (opr (phR D (p - a) f)) (rot (if a=p then 0 else a+1) (Lm p k))+(D.map fun q=>thg (q.take f)).sum:=by
  obtain⟨x,r,ek,hW,hWo,hn⟩:=Lm_next hp k a ha
  have hx:hd p k=(x.length:Nat):=by
    unfold hd
    rw[<- lens_num,ek]
    rfl
  have hl:=hA.len
  have hll:(rot a (Lm p (k+1))).length=p+1:=by rw[rot_len,Lm_len hp]
  have hDl:D.length=p+1:=by
    have:(opr D).length=D.length:=by unfold opr; rw[List.length_map]
    omega
  have hx1:1<=x.length:=by
    have h0:rl p k 0=x:=by unfold rl; rw[ek]; rfl
    have hm:(k:Int)∈rl p k 0:=(mem_rl hp k 0 k (by omega)).mpr ⟨Int.le_refl _,by
      have:(1:Int)*k<=p*k:=Int.mul_le_mul_of_nonneg_right (by omega) (by omega)
      simp
      omega⟩
    rw[h0] at hm
    exact List.length_pos_of_mem hm
  have hnil:(opr D)[p - a]?=some []:=by
    have hi:p - a<(opr D).length:=by omega
    obtain⟨W,e1,e2⟩:=hA.at (List.getElem?_eq_getElem hi)
    rw[hWo] at e1
    rw[<- Option.some.inj e1] at e2
    rw[List.getElem?_eq_getElem hi,List.length_eq_zero_iff.mp e2.symm]
  have hDnil:D[p - a]?=some []:=by
    unfold opr at hnil
    rw[List.getElem?_map] at hnil
    cases q:D[p - a]? with
    | none=>rw[q] at hnil; cases hnil
    | some c=>
      rw[q] at hnil
      have:c.map (fun c=>c.getD [])=[]:=Option.some.inj hnil
      rw[List.map_eq_nil_iff.mp this]
  have hrdy:∀ (i:Nat) (R:List (List Int)) W,(opr D)[i]?=some R->(rot a (Lm p (k+1)))[i]?=some W->RdyR x R W:=fun i R W e1 e2=>by
    obtain⟨W',e3,e4⟩:=hA.at e1
    rw[e2] at e3
    rw[<- Option.some.inj e3] at e4
    rcases hW W (List.mem_of_getElem? e2) with z | ⟨z1,z2⟩
    · subst z
      exact .inl ⟨List.length_eq_zero_iff.mp e4.symm,rfl⟩
    · exact .inr ⟨by omega,e4.symm,z2⟩
  obtain⟨hoth,hone⟩:=Lm_more hp k a ha ek
  have hD2:∀ (i:Nat) r,D[i]?=some r->i≠p - a->x.length<=r.length:=fun i r e hne=>by
    have e':(opr D)[i]?=some (r.map fun c=>c.getD []):=by unfold opr; rw[List.getElem?_map,e]; rfl
    obtain⟨W,e1,e2⟩:=hA.at e'
    rw[List.length_map] at e2
    rw[<- e2]
    exact hoth i W e1 hne
  refine⟨x.length,hx,hx1,hDnil,hD2,⟨⟨by omega,by unfold lns; rw[List.length_map]; omega⟩,?_,by rw[hx]; omega,?_⟩,?_,?_⟩
  · rw[Int.toNat_natCast,List.getD_eq_getElem?_getD]
    unfold lns
    rw[List.getElem?_map,hDnil]
    exact Int.le_refl _
  · obtain ⟨i, hi, hne⟩ : ∃ i, i < D.length ∧ i ≠ p - a := by
      by_cases z:p - a=0
      · exact⟨1,by omega,by omega⟩
      · exact⟨0,by omega,by omega⟩
    have h1:=hD2 i D[i] (List.getElem?_eq_getElem hi) hne
    have h2:=mxl_ge (lns D) ((D[i].length:Nat):Int) (List.mem_map.mpr ⟨D[i],List.getElem_mem hi,rfl⟩)
    omega
  · rw[<- hn,opr_ph]
    unfold Alike at hA ⊢
    have h7:((opr D).map (·.drop x.length)).map List.length=((rot a (Lm p (k+1))).map (·.drop x.length)).map List.length:=by
      rw[List.map_map,List.map_map]
      have:(List.length ∘ fun l:List (List Int)=>l.drop x.length)=(fun n=>n - x.length) ∘ List.length:=funext fun l=>by simp
      have h8:(List.length ∘ fun l:List Int=>l.drop x.length)=(fun n=>n - x.length) ∘ List.length:=funext fun l=>by simp
      rw[this,h8,<- List.map_map,<- List.map_map,hA]
    rw[List.map_set,List.map_set,h7,List.length_map,List.length_range]
  · have h1:=phase_pt gl_adds x (opr D) _ hl hrdy
    have h2:=es_wr gl x fun j=>(mrg (tkA D x.length j)).getD []
    have h3:=ptR_set (g:=gl) ((opr D).map (·.drop x.length)) ((rot a (Lm p (k+1))).map (·.drop x.length)) (p - a) ((List.range x.length).map fun j=>(mrg (tkA D x.length j)).getD []) x (by simp[hl]) (by rw[List.getElem?_map,hnil]; simp) (by rw[List.getElem?_map,hWo]; simp)
    rw[hn,<- opr_ph] at h3
    have h4:es x (fun j=>gl ((mrg (tkA D x.length j)).getD []))=es x fun j=>gl (((opr D).map fun R=>R.getD j []).flatten):=es_congr x _ _ fun j hj=>gl_mrg hj
    have h5:=sg_new D x.length
    omega
where
  es_congr:∀ (ns:List Int) (h k:Nat->Int),(∀ j,j<ns.length->h j=k j)->es ns h=es ns k
    | [],_,_,_=>rfl
    | n::ns,h,k,e=>by
      rw[es,es,e 0 (by simp),es_congr ns (fun j=>h (j+1)) (fun j=>k (j+1)) fun j hj=>e (j+1) (by simpa using hj)]
def phL (p:Nat):Nat->Nat->List (Int × Int)
  | _,0=>[]
  | t,m+1=>(phO p t,hd p m)::phL p (t+1) m
theorem phL_len (p:Nat):∀ (m t:Nat),(phL p t m).length=m
  | 0,_=>rfl
  | m+1,t=>by rw[phL,List.length_cons,phL_len p m (t+1)]
theorem phs_phL (p n:Nat):∀ (m t:Nat),t+m=n->phs p n t++(phL p t m).map prT=phs p n n
  | 0,t,h=>by
    have:t=n:=by omega
    rw[phL,List.map_nil,List.append_nil,this]
  | m+1,t,h=>by
    rw[<- phs_phL p n m (t+1) (by omega),phL,phs,List.map_cons,List.append_assoc,List.singleton_append,show n - 1 - t=m by omega]
    rfl
theorem phs_all (p n:Nat):phs p n n=(phL p 0 n).map prT:=by
  rw[<- phs_phL p n n 0 (by omega)]
  rfl
theorem phO_eq (p t:Nat):phO p t=((p - t % (p+1):Nat):Int):=by
  unfold phO
  have h1:=Nat.mod_lt t (show 0<p+1 by omega)
  have h2:=Nat.mod_add_div t (p+1)
  have e:(p:Int) - t=((p - t % (p+1):Nat):Int)+((p:Int)+1)*(-((t / (p+1):Nat):Int)):=by
    have:((p:Int)+1)*(-((t / (p+1):Nat):Int)) = -(((p+1)*(t / (p+1)):Nat):Int):=by
      rw[Int.mul_neg]
      congr 1
    rw[this]
    omega
  rw[e,Int.add_mul_emod_self_left]
  exact Int.emod_eq_of_lt (by omega) (by omega)
theorem step_mod (p t:Nat):(t+1) % (p+1)=if t % (p+1)=p then 0 else t % (p+1)+1:=by
  have h1:=Nat.mod_lt t (show 0<p+1 by omega)
  rw[Nat.add_mod]
  split
  · next h=>
    rw[h]
    by_cases z:p=0
    · subst z; rfl
    · rw[Nat.mod_eq_of_lt (show 1<p+1 by omega),Nat.mod_self]
  · next h=>
    rw[Nat.mod_eq_of_lt (show 1<p+1 by omega),Nat.mod_eq_of_lt (by omega)]
def SrtD (D:List Rows):Prop:=∀ r∈D,∀ xs:List Int,some xs∈r->xs.Pairwise (·<=·)
def HasR (D:List Rows):Prop:=∃ r∈D,∃ xs:List Int,some xs∈r
def AllN (D:List Rows):Prop:=∀ r∈D,∀ c∈r,∃ xs:List Int,c=some xs/\xs≠[]
theorem SrtD.ph {D:List Rows}{o m:Nat} (h:SrtD D):SrtD (phR D o m):=by
  intro r hr xs hc
  rcases List.mem_or_eq_of_mem_set hr with hr | rfl
  · obtain⟨r',hr',rfl⟩:=List.mem_map.mp hr
    exact h r' hr' xs (List.mem_of_mem_drop hc)
  · obtain⟨i,hi,e⟩:=List.mem_map.mp hc
    unfold mrg at e
    split at e
    · cases e
    · cases e
      exact srt_up _
theorem mem_tkA {D:List Rows}{r:Rows} (hr:r∈D) {m i:Nat} (hi:i<m) {c:Option (List Int)} (e:r[i]?=some c):c∈tkA D m i:=by
  unfold tkA
  exact List.mem_filterMap.mpr ⟨r,hr,by rw[List.getElem?_take,if_pos hi,e]⟩
theorem mem_ph {D:List Rows}{o m:Nat} (ho:D[o]?=some []):((List.range m).map fun i=>mrg (tkA D m i))∈phR D o m:=by
  unfold phR
  have hi:=(List.getElem?_eq_some_iff.mp ho).1
  exact List.mem_of_getElem? (i:=o) (by rw[List.getElem?_set_self (by rw[List.length_map]; exact hi)])
theorem HasR.ph {D:List Rows}{o m:Nat} (ho:D[o]?=some []) (h:HasR D):HasR (phR D o m):=by
  obtain⟨r,hr,xs,hx⟩:=h
  obtain⟨i,hi⟩:=List.getElem?_of_mem hx
  by_cases z:i<m
  · have hm:xs∈rl90 (tkA D m i):=List.mem_filterMap.mpr ⟨some xs,mem_tkA hr z hi,rfl⟩
    refine⟨_,mem_ph ho,srt (rl90 (tkA D m i)).flatten,List.mem_map.mpr ⟨i,List.mem_range.mpr z,?_⟩⟩
    unfold mrg
    rw[if_neg (List.ne_nil_of_mem hm)]
  · obtain⟨j,hj⟩:=List.getElem?_of_mem hr
    have hne:j≠o:=fun e=>by
      rw[e,ho] at hj
      cases hj
      simp at hx
    refine⟨r.drop m,?_,xs,?_⟩
    · unfold phR
      exact List.mem_of_getElem? (i:=j) (by rw[List.getElem?_set_ne (Ne.symm hne),List.getElem?_map,hj]; rfl)
    · exact List.mem_of_getElem? (i:=i - m) (by rw[List.getElem?_drop,show m+(i - m)=i by omega]; exact hi)
theorem AllN.ph {D:List Rows}{o m:Nat} (h:AllN D) (hm:∃ r∈D,m<=r.length):AllN (phR D o m):=by
  intro r hr c hc
  rcases List.mem_or_eq_of_mem_set hr with hr | rfl
  · obtain⟨r',hr',rfl⟩:=List.mem_map.mp hr
    exact h r' hr' c (List.mem_of_mem_drop hc)
  · obtain⟨i,hi,rfl⟩:=List.mem_map.mp hc
    have hi':=List.mem_range.mp hi
    obtain⟨r',hr',hl⟩:=hm
    obtain⟨xs,hxs,hne⟩:=h r' hr' r'[i] (List.getElem_mem _)
    have hmem:xs∈rl90 (tkA D m i):=List.mem_filterMap.mpr ⟨some xs,mem_tkA hr' hi' (by rw[List.getElem?_eq_getElem (by omega),hxs]),rfl⟩
    unfold mrg
    rw[if_neg (List.ne_nil_of_mem hmem)]
    refine⟨_,rfl,fun z=>?_⟩
    have:=(srt_perm (rl90 (tkA D m i)).flatten).length_eq
    rw[z] at this
    cases xs with
    | nil=>exact hne rfl
    | cons y ys=>
      have:y∈(rl90 (tkA D m i)).flatten:=List.mem_flatten.mpr ⟨_,hmem,List.mem_cons_self⟩
      have:=List.length_pos_of_mem this
      simp at *
      omega
def OneOut (o:Int) (s:List Int):Prop:=∃ a:Nat,o=a/\s[a]?=some 0/\∀ (j:Nat) x,s[j]?=some x->j≠a->1<=x
theorem thg_pos {r:Rows}{f:Nat} (hf:1<=f) (hl:f<=r.length) (h:∀ c∈r,∃ xs:List Int,c=some xs/\xs≠[]):1<=thg (r.take f):=by
  cases r with
  | nil=>simp at hl; omega
  | cons c r=>
    obtain⟨xs,rfl,hne⟩:=h c List.mem_cons_self
    rw[thg_len]
    obtain⟨g,rfl⟩:∃ g,f=g+1:=⟨f - 1,by omega⟩
    rw[List.take_succ_cons]
    show 1<=(((xs::rl90 (r.take g)).flatten.length:Nat):Int)
    rw[List.flatten_cons,List.length_append]
    have:=List.length_pos_iff.mpr hne
    omega
theorem play52 {p : Nat} (hp : 2 ≤ p) : ∀ (m t : Nat) (D : List Rows), Alike (opr D) (rot (t % (p + 1)) (Lm p m)) → Pls D (phL p t m) ∧ Alike (opr (plR D (phL p t m))) (rot ((t + m) % (p + 1)) (Lm p 0)) ∧
    ptR gl (opr D) (rot (t % (p+1)) (Lm p m))=ptR gl (opr (plR D (phL p t m))) (rot ((t+m) % (p+1)) (Lm p 0))+((rdR D (phL p t m)).map List.sum).sum/\(SrtD D->SrtD (plR D (phL p t m)))/\(HasR D->HasR (plR D (phL p t m))) /\
    (AllN D->∀ (i:Nat) q s,(phL p t m)[i]?=some q->(rdR D (phL p t m))[i]?=some s->OneOut q.1 s)
  | 0,t,D,h=>⟨trivial,h,by simp[phL,plR,rdR],id,id,fun _ i q s e=>by simp[phL] at e⟩
  | m+1,t,D,h=>by
    have ha:t % (p+1)<=p:=by have:=Nat.mod_lt t (show 0<p+1 by omega); omega
    obtain⟨f,e1,f1,hn,hoth,hph,hA,hpt⟩:=ph52 hp ha h
    rw[<- step_mod] at hA hpt
    obtain⟨i1,i2,i3,i4,i5,i6⟩:=play52 hp m (t+1) _ hA
    have hm:∃ r∈D,f<=r.length:=by
      have hDl:D.length=p+1:=by
        have h1:=h.len
        have h2:(opr D).length=D.length:=by unfold opr; rw[List.length_map]
        rw[rot_len,Lm_len hp] at h1
        omega
      obtain⟨i,hi,hne⟩:∃ i,i<D.length/\i≠p - t % (p+1):=by
        by_cases z:p - t % (p+1)=0
        · exact⟨1,by omega,by omega⟩
        · exact⟨0,by omega,by omega⟩
      exact⟨D[i],List.getElem_mem hi,hoth i _ (List.getElem?_eq_getElem hi) hne⟩
    have e2:(phO p t).toNat=p - t % (p+1):=by rw[phO_eq,Int.toNat_natCast]
    have e3:(hd p m).toNat=f:=by rw[e1,Int.toNat_natCast]
    have eP:plR D (phL p t (m+1))=plR (phR D (p - t % (p+1)) f) (phL p (t+1) m):=by rw[phL,plR,e2,e3]
    have eR:rdR D (phL p t (m+1))=(D.map fun q=>thg (q.take f))::rdR (phR D (p - t % (p+1)) f) (phL p (t+1) m):=by rw[phL,rdR,e2,e3]
    have et:t+1+m=t+(m+1):=by omega
    rw[et] at i2 i3
    rw[eP,eR]
    refine⟨?_,i2,?_,fun s=>i4 s.ph,fun s=>i5 (s.ph hn),fun s i q x a b=>?_⟩
    · rw[phL,Pls,e2,e3,phO_eq]
      exact⟨hph,i1⟩
    · rw[hpt,i3,List.map_cons,List.sum_cons]
      omega
    · cases i with
      | zero=>
        rw[phL] at a
        cases a
        cases b
        refine⟨p - t % (p+1),phO_eq p t,?_,fun j x e hne=>?_⟩
        · rw[List.getElem?_map,hn]
          simp[thg,rl90]
        · rw[List.getElem?_map] at e
          cases q:D[j]? with
          | none=>rw[q] at e; cases e
          | some r=>
            rw[q] at e
            cases e
            exact thg_pos f1 (hoth j r q hne) (s r (List.mem_of_getElem? q))
      | succ i=>
        rw[phL] at a
        exact i6 (s.ph hm) i q x (by simpa using a) (by simpa using b)
theorem end52 {p:Nat} (hp:2<=p) {a:Nat}{D:List Rows} (hA:Alike (opr D) (rot a (Lm p 0))) (hs:SrtD D) (hr:HasR D):D.flatten=[some (srt (allT D))]:=by
  have h1:D.flatten.length=1:=by
    have h1:D.flatten.length=(D.map List.length).sum:=by rw[List.length_flatten]
    rw[h1,<- opr_len,hA]
    unfold rot
    rw[List.map_append,List.sum_append_nat]
    have h2:((Lm p 0).map List.length).sum=1:=by
      unfold Lm
      have:num p 0=num0 p:=rfl
      rw[this,List.map_append,List.sum_append_nat]
      simp[num0]
    rw[<- List.take_append_drop a (Lm p 0),List.map_append,List.sum_append_nat] at h2
    omega
  obtain⟨c,e⟩:=List.length_eq_one_iff.mp h1
  obtain⟨r,hr',xs,hx⟩:=hr
  have hm:some xs∈D.flatten:=List.mem_flatten.mpr ⟨r,hr',hx⟩
  rw[e,List.mem_singleton] at hm
  subst hm
  have e2:allT D=xs:=by unfold allT; rw[e]; simp[rl90]
  rw[e,e2,<- srt_of (List.Perm.refl xs) (hs r hr' xs hx)]
theorem end0 {p:Nat}{a:Nat} (RR:List (List (List Int))):ptR gl RR (rot a (Lm p 0))=0:=by
  refine pz RR _ fun W hW w hw=>?_
  rw[rot_mem] at hW
  unfold Lm at hW
  rcases List.mem_append.mp hW with h | h
  · have:=bd_num p 0 W h w hw
    omega
  · have:W=[]:=by simpa using h
    rw[this] at hw
    simp at hw
where
  dz:∀ (R:List (List Int)) (W:List Int),(∀ w∈W,w=0)->dt gl R W=0
    | [],W,_=>by cases W <;> rfl
    | r::R,[],_=>rfl
    | r::R,w::W,h=>by rw[dt,dz R W fun x hx=>h x (List.mem_cons_of_mem _ hx),h w List.mem_cons_self]; simp
  pz:∀ (RR:List (List (List Int))) (WW:List (List Int)),(∀ W∈WW,∀ w∈W,w=0)->ptR gl RR WW=0
    | [],WW,_=>by cases WW <;> rfl
    | R::RR,[],_=>rfl
    | R::RR,W::WW,h=>by
      rw[ptR,dz R W (h W List.mem_cons_self),pz RR WW fun W hW=>h W (List.mem_cons_of_mem _ hW)]
      rfl
end Lv
namespace L2
open PySem PySem.Spec PyProof.Rows
section
variable {M:Model}{A:Around}{E:Value->Shared->Prop}
end
section
variable {X:Cx}{pins:List (Addr × Obj)}{σ:St}{H H':Hp}{s s':Shared}{scope:Scope}{own:List Str}{js:List Nat}{C:Addr}{fp:List Addr}
structure CompOkK (X:Cx) (scope:Scope) (own:List Str) (js:List Nat):Prop where
  kind:scope.kind=.function
  free:∀ y∈scope.names,y.2=.free->X.env.kindOf y.1=some .cell∨X.env.kindOf y.1=some .free
  names:∀ y∈scope.names,scope.names.lookup y.1=some y.2
  out:∀ j∈js,∃ x,X.N[j]?=some x/\scope.names.lookup x=some .free
end
section
variable {X:Cx}{scope:Scope}{own:List Str}{js:List Nat}{elt iter target:Expr}{ifs:List Expr}{wi:TI}{g:TG}{tt:TT}{te:TE}{pos:Pos}
end
end L2
namespace Lv
open PySem L2
def Lay (H:Hp) (a:Addr) (N:List (List Bool)):Prop:=∃ rs,H a=some (.tup (rs.map V.ref))/\TBs H rs N
theorem Lay.same {H H':Hp}{a:Addr}{N:List (List Bool)} (h:Lay H a N) (s:Same H H'):Lay H' a N:=by
  obtain⟨rs,h1,h2⟩:=h
  exact⟨rs,s _ _ h1,h2.same s⟩
def Few (m k:Nat) (N:List (List Bool)):Prop:=N.length<=m/\∀ bs∈N,bs.length<=k
def lensB (N:List (List Bool)):List Int:=N.map fun bs=>(bs.length:Int)
def holdsB (c:List Int) (N:List (List Bool)):Bool:=decide (lensB N=c) && N.any fun bs=>bs.any id
theorem cnt_any:∀ (bs:List Bool),0<bs.count true↔bs.any id=true
  | []=>by simp
  | b::bs=>by
    have:=cnt_any bs
    cases b with
    | true=>simp
    | false=>simpa using this
theorem sum_any:∀ (N:List (List Bool)),0<=(N.map fun bs=>((bs.count true:Nat):Int)).sum/\(0<(N.map fun bs=>((bs.count true:Nat):Int)).sum↔(N.any fun bs=>bs.any id)=true)
  | []=>by simp
  | bs::N=>by
    obtain⟨h1,h2⟩:=sum_any N
    have h3:=cnt_any bs
    rw[List.map_cons,List.sum_cons,List.any_cons,Bool.or_eq_true,<- h3,<- h2]
    refine⟨by omega,?_⟩
    omega
theorem ref_get {rs:List Addr}{i:Nat}{x:V} (h:(rs.map V.ref)[i]?=some x):∃ r,rs[i]?=some r/\x=.ref r:=by
  rw[List.getElem?_map] at h
  cases e:rs[i]? with
  | none=>rw[e] at h; cases h
  | some r=>rw[e] at h; exact⟨r,rfl,(Option.some.inj h).symm⟩
theorem TBs.at {H:Hp}{rs:List Addr}{N:List (List Bool)} (h:TBs H rs N) {i:Nat}{r:Addr} (e:rs[i]?=some r):∃ bs,N[i]?=some bs/\bs∈N/\H r=some (.tup (bs.map V.bl)):=by
  have hi:=(List.getElem?_eq_some_iff.mp e).1
  have hi2:i<N.length:=by rw[<- h.1]; exact hi
  exact⟨N[i],List.getElem?_eq_getElem hi2,List.getElem_mem hi2,h.2 i r _ e (List.getElem?_eq_getElem hi2)⟩
def spTupOf2:Sp:=fun vs H Q _=>∃ (a:Addr) (xs:List V) (n:Int),vs=[.ref a,.int n]/\H a=some (.tup xs)/\Q (.bl (decide ((xs.length:Int)=n))) H
def spFits:Sp:=fun vs H Q _=>∃ (a:Addr) (bs:List Bool) (n:Int),vs=[.ref a,.int n]/\H a=some (.tup (bs.map V.bl))/\bs.length<=4001/\∀ H',Same H H'->Q (.bl (decide ((bs.length:Int)=n))) H'
def spReal:Sp:=fun vs H Q _=>∃ (a:Addr) (N:List (List Bool)),vs=[.ref a]/\Lay H a N/\Few 9 4001 N/\∀ H',Same H H'->Q (.int (N.map fun bs=>((bs.count true:Nat):Int)).sum) H'
def spIsLay:Sp:=fun vs H Q _=>∃ (p n:Nat) (a:Addr) (N:List (List Bool)),vs=[.int p,.int n,.ref a]/\2<=p/\p<=7/\n<=300/\tot p n<=4000/\Lay H a N/\Few 9 4001 N/\∀ H',Same H H'->Q (.bl (holdsB (cnt p n) N)) H'
end Lv
namespace Lv
open PySem L2
def fil1:List Bool->List (List Int)->Rows
  | [],_=>[]
  | false::bs,rows=>none::fil1 bs rows
  | true::bs,rows=>some (rows.headD [])::fil1 bs rows.tail
def filB:List (List Bool)->List (List Int)->List Rows
  | [],_=>[]
  | b::B,rows=>fil1 b (rows.take (b.count true))::filB B (rows.drop (b.count true))
def cntT (B:List (List Bool)):Nat:=(B.map fun bs=>bs.count true).sum
theorem fil1_shp:∀ (bs:List Bool) (rows:List (List Int)),(fil1 bs rows).map Option.isSome=bs
  | [],_=>rfl
  | false::bs,rows=>by rw[fil1,List.map_cons,fil1_shp bs rows]; rfl
  | true::bs,rows=>by rw[fil1,List.map_cons,fil1_shp bs rows.tail]; rfl
theorem fil1_rows:∀ (bs:List Bool) (rows:List (List Int)),rows.length=bs.count true->(fil1 bs rows).filterMap id=rows
  | [],rows,h=>by
    have:rows=[]:=List.eq_nil_of_length_eq_zero (by simpa using h)
    rw[this]
    rfl
  | false::bs,rows,h=>by
    rw[fil1]
    exact fil1_rows bs rows (by simpa using h)
  | true::bs,[],h=>by simp at h
  | true::bs,r::rows,h=>by
    rw[fil1]
    show r::(fil1 bs rows).filterMap id=_
    rw[fil1_rows bs rows (by simpa using h)]
theorem filB_shp:∀ (B:List (List Bool)) (rows:List (List Int)),shp (filB B rows)=B
  | [],_=>rfl
  | b::B,rows=>by
    have ih:=filB_shp B (rows.drop (b.count true))
    unfold shp at ih ⊢
    rw[filB,List.map_cons,ih,fil1_shp]
theorem filB_rows:∀ (B:List (List Bool)) (rows:List (List Int)),rows.length=cntT B->rws (filB B rows)=rows
  | [],rows,h=>by
    have:rows=[]:=List.eq_nil_of_length_eq_zero (by simpa[cntT] using h)
    rw[this]
    rfl
  | b::B,rows,h=>by
    have hc:cntT (b::B)=b.count true+cntT B:=by unfold cntT; rw[List.map_cons,List.sum_cons]
    have ih:=filB_rows B (rows.drop (b.count true)) (by rw[List.length_drop]; omega)
    unfold rws at ih ⊢
    rw[filB,List.flatten_cons,List.filterMap_append,ih,fil1_rows _ _ (by rw[List.length_take]; omega),List.take_append_drop]
theorem filB_len (B:List (List Bool)) (rows:List (List Int)):(filB B rows).map List.length=B.map List.length:=by
  have:=filB_shp B rows
  have h2:(shp (filB B rows)).map List.length=(filB B rows).map List.length:=by
    unfold shp
    rw[List.map_map]
    exact List.map_congr_left fun r _=>by simp
  rw[<- h2,this]
def wS (rows:List (List Int)) (ns:List Int):List Int:=List.zipWith (fun r w=>(r.length:Int)*w) rows ns
theorem sel_lenR:∀ (r:Rows) (W:List Int),r.length=W.length->(sel W (r.map Option.isSome)).length=(rl90 r).length
  | [],W,_=>by cases W <;> rfl
  | c::r,[],h=>by simp at h
  | c::r,w::W,h=>by
    have ih:=sel_lenR r W (by simpa using h)
    unfold sel rl90 at ih ⊢
    cases c with
    | none=>simpa using ih
    | some xs=>simpa using ih
theorem dt_sel:∀ (r:Rows) (W:List Int),r.length=W.length->dt gl (r.map fun c=>c.getD []) W=(wS (rl90 r) (sel W (r.map Option.isSome))).sum
  | [],W,_=>by cases W <;> rfl
  | c::r,[],h=>by simp at h
  | c::r,w::W,h=>by
    have ih:=dt_sel r W (by simpa using h)
    rw[List.map_cons,dt,ih]
    cases c with
    | none=>
      have:gl ((none:Option (List Int)).getD [])=0:=rfl
      rw[this,Int.mul_zero,Int.zero_add]
      rfl
    | some xs=>
      have e1:rl90 (some xs::r)=xs::rl90 r:=rfl
      have e2:sel (w::W) ((some xs::r).map Option.isSome)=w::sel W (r.map Option.isSome):=by
        unfold sel
        simp
      rw[e1,e2]
      show w*gl xs+_=((xs.length:Int)*w::wS _ _).sum
      rw[List.sum_cons,Int.mul_comm]
      rfl
theorem pt_due:∀ (D:List Rows) (N:List (List Int)),D.map List.length=N.map List.length->ptR gl (opr D++[[]]) (N++[[]])=(wS (rws D) (readL N (shp D))).sum
  | [],[],_=>rfl
  | [],_::_,h=>by simp at h
  | _::_,[],h=>by simp at h
  | r::D,W::N,h=>by
    rw[List.map_cons,List.map_cons,List.cons.injEq] at h
    have ih:=pt_due D N h.2
    have e1:opr (r::D)=(r.map fun c=>c.getD [])::opr D:=rfl
    have e2:rws (r::D)=rl90 r++rws D:=by unfold rws rl90; rw[List.flatten_cons,List.filterMap_append]
    have e3:readL (W::N) (shp (r::D))=sel W (r.map Option.isSome)++readL N (shp D):=rfl
    rw[e1,e2,e3,List.cons_append,List.cons_append,ptR,ih,dt_sel r W h.1]
    unfold wS
    rw[List.zipWith_append (sel_lenR r W h.1).symm,List.sum_append]
theorem wS_ones:∀ (rows:List (List Int)) (ns:List Int),rows.length=ns.length->(∀ r∈rows,r.length=1)->(wS rows ns).sum=ns.sum
  | [],[],_,_=>rfl
  | [],_::_,h,_=>by simp at h
  | _::_,[],h,_=>by simp at h
  | r::rows,n::ns,h,h1=>by
    have ih:=wS_ones rows ns (by simpa using h) fun x hx=>h1 x (List.mem_cons_of_mem _ hx)
    unfold wS at ih ⊢
    rw[List.zipWith_cons_cons,List.sum_cons,ih,h1 r List.mem_cons_self,List.sum_cons]
    omega
theorem readL_len:∀ (N:List (List Int)) (B:List (List Bool)),N.map List.length=B.map List.length->(readL N B).length=cntT B
  | [],[],_=>rfl
  | [],_::_,h=>by simp at h
  | _::_,[],h=>by simp at h
  | W::N,b::B,h=>by
    rw[List.map_cons,List.map_cons,List.cons.injEq] at h
    have ih:=readL_len N B h.2
    have e3:readL (W::N) (b::B)=sel W b++readL N B:=rfl
    have hc:cntT (b::B)=b.count true+cntT B:=by unfold cntT; rw[List.map_cons,List.sum_cons]
    rw[e3,List.length_append,ih,hc]
    congr 1
    exact sl W b h.1
where
  sl:∀ (W:List Int) (b:List Bool),W.length=b.length->(sel W b).length=b.count true
    | [],[],_=>rfl
    | [],_::_,h=>by simp at h
    | _::_,[],h=>by simp at h
    | w::W,b::bs,h=>by
      have ih:=sl W bs (by simpa using h)
      unfold sel at ih ⊢
      cases b with
      | false=>simpa using ih
      | true=>simpa using ih
structure Pl52 (p n:Nat) (B:List (List Bool)) (rows:List (List Int)):Prop where
  pls:Pls (filB B rows++[[]]) (phL p 0 n)
  left:(plR (filB B rows++[[]]) (phL p 0 n)).flatten=[some (srt rows.flatten)]
  read:((rdR (filB B rows++[[]]) (phL p 0 n)).map List.sum).sum=(wS rows (readL (num p n) B)).sum
  out:(∀ b∈B,∀ x∈b,x=true)->(∀ r∈rows,r≠[])->∀ (i:Nat) q s,(phL p 0 n)[i]?=some q->(rdR (filB B rows++[[]]) (phL p 0 n))[i]?=some s->OneOut q.1 s
theorem allT_rws (D:List Rows):allT (D++[[]])=(rws D).flatten:=by
  unfold allT rws rl90
  rw[List.flatten_append]
  simp
theorem szd_fil {B:List (List Bool)}{rows:List (List Int)} (h1:B.length<=19) (h2:∀ b∈B,b.length<=15000) (h3:rows.length=cntT B) (h4:rows.flatten.length<=15000):SzD (filB B rows++[[]]):=by
  have hl:=filB_len B rows
  refine⟨?_,fun r hr=>?_,by rw[allT_rws,filB_rows B rows h3]; exact h4⟩
  · have:=congrArg List.length hl
    rw[List.length_map,List.length_map] at this
    rw[List.length_append,this]
    simp
    omega
  · rcases List.mem_append.mp hr with hr | hr
    · have:r.length∈B.map List.length:=by rw[<- hl]; exact List.mem_map.mpr ⟨r,hr,rfl⟩
      obtain⟨b,hb,e⟩:=List.mem_map.mp this
      rw[<- e]
      exact h2 b hb
    · have:r=[]:=by simpa using hr
      rw[this]
      simp
theorem pl52 {p n:Nat} (hp:2<=p) {B:List (List Bool)}{rows:List (List Int)} (hB:lensB B=cnt p n) (h3:rows.length=cntT B) (h1:1<=cntT B) (hs:∀ r∈rows,r.Pairwise (·<=·)) (hz:SzD (filB B rows++[[]])):Pl52 p n B rows:=by
  have hl:=filB_len B rows
  have hN:B.map List.length=(num p n).map List.length:=by
    have h:=hB.trans (lens_num p n).symm
    unfold lensB lens at h
    have:∀ (X:List (List Bool)) (Y:List (List Int)),X.map (fun b=>(b.length:Int))=Y.map (fun l=>(l.length:Int))->X.map List.length=Y.map List.length:=fun X=>by
      induction X with
      | nil=>intro Y h; cases Y with
        | nil=>rfl
        | cons y Y=>simp at h
      | cons x X ih=>intro Y h; cases Y with
        | nil=>simp at h
        | cons y Y=>
          rw[List.map_cons,List.map_cons,List.cons.injEq] at h
          rw[List.map_cons,List.map_cons,ih Y h.2]
          congr 1
          omega
    exact this B _ h
  have hA:Alike (opr (filB B rows++[[]])) (rot (0 % (p+1)) (Lm p n)):=by
    unfold Alike
    rw[opr_len,Nat.zero_mod]
    unfold rot Lm
    rw[List.drop_zero,List.take_zero,List.append_nil,List.map_append,List.map_append,hl,hN]
    rfl
  obtain⟨i1,i2,i3,i4,i5,i6⟩:=play52 hp n 0 _ hA
  have hr:=filB_rows B rows h3
  have hmem:∀ D:List Rows,∀ r∈D,∀ xs:List Int,some xs∈r->xs∈rws D:=fun D r hr xs hx=>by
    unfold rws
    exact List.mem_filterMap.mpr ⟨some xs,List.mem_flatten.mpr ⟨r,hr,hx⟩,rfl⟩
  have hS:SrtD (filB B rows++[[]]):=fun r hr' xs hx=>by
    rcases List.mem_append.mp hr' with hr' | hr'
    · exact hs xs (by have:=hmem _ r hr' xs hx; rwa [hr] at this)
    · have:r=[]:=by simpa using hr'
      rw[this] at hx
      simp at hx
  have hH:HasR (filB B rows++[[]]):=by
    cases rows with
    | nil=>simp at h3; omega
    | cons x rows=>
      have:x∈rws (filB B (x::rows)):=by rw[hr]; exact List.mem_cons_self
      unfold rws at this
      obtain⟨c,hc,e⟩:=List.mem_filterMap.mp this
      obtain⟨r,hr1,hr2⟩:=List.mem_flatten.mp hc
      have e:c=some x:=e
      subst e
      exact⟨r,List.mem_append_left _ hr1,x,hr2⟩
  obtain⟨_,_,hperm,_,_⟩:=plR_all i1 hz
  refine⟨i1,?_,?_,fun hb hne=>i6 fun r hr' c hc=>?_⟩
  · rw[end52 hp i2 (i4 hS) (i5 hH)]
    congr 2
    rw[allT_rws,hr] at hperm
    exact srt_of ((srt_perm _).trans hperm) (srt_up _)
  · have h5:=pt_due (filB B rows) (num p n) (hl.trans hN)
    rw[hr,filB_shp] at h5
    rw[<- h5,end0] at *
    have e1:opr (filB B rows++[[]])=opr (filB B rows)++[[]]:=by unfold opr; rw[List.map_append]; rfl
    have e2:rot (0 % (p+1)) (Lm p n)=num p n++[[]]:=by rw[Nat.zero_mod]; unfold rot Lm; rw[List.drop_zero,List.take_zero,List.append_nil]
    rw[e1,e2] at i3
    omega
  · rcases List.mem_append.mp hr' with hr' | hr'
    · have hsh:=filB_shp B rows
      have h1:r.map Option.isSome∈B:=by rw[<- hsh]; exact List.mem_map.mpr ⟨r,hr',rfl⟩
      have h2:c.isSome=true:=hb _ h1 _ (List.mem_map.mpr ⟨c,hc,rfl⟩)
      cases c with
      | none=>cases h2
      | some xs=>exact⟨xs,rfl,hne xs (by have:=hmem _ r hr' xs hc; rwa [hr] at this)⟩
    · have:r=[]:=by simpa using hr'
      rw[this] at hc
      simp at hc
end Lv
namespace Lv
open PySem L2
theorem take_snoc {α:Type}{c:List α}{i:Nat}{x:α} (h:c[i]?=some x):c.take (i+1)=c.take i++[x]:=by rw[List.take_add_one,h]; rfl
def nfR (ks:List (Int × Int)) (i:Nat) (x:Int):List Bool:=(List.range x.toNat).map fun (j:Nat)=>decide (((i:Int),(j:Int))∈ks)
def nf (ks:List (Int × Int)):Nat->List Int->List (List Bool)
  | _,[]=>[]
  | i,x::c=>nfR ks i x::nf ks (i+1) c
end Lv
namespace L2
open PySem PySem.Spec PyProof.Rows PySem.SeqAt
section
variable {X:Cx}
end
end L2
namespace L2
open PySem PySem.Spec PyProof.Rows PySem.SeqAt
end L2
namespace L2
open PySem PySem.Spec PyProof.Rows PySem.W
section
variable {X:Cx}
end
end L2
namespace L2
open PySem PySem.Spec PyProof.Rows PySem.W
structure RoomS (k:Nat) (A:Around):Prop where
  dp:A.depth+3*k+5<recursionLimit
  un:A.units+16*k+200<cLine
  gd:A.guards=some []
structure FnOkS (P:Program) (w:World) (K:PySem.W.Frag) (mg:Str->Option Value) (base:Heap) (CX:CXT) (k:Nat) (f:Addr) (fd:FuncData) (ps:List Str) (sp:Sp):Prop where
  len:∀ vs H Q E,sp vs H Q E->vs.length=ps.length
  run:∀ (A:Around) (outer:List Env) (s:Shared) (H:Hp) (args:Args) (us:List Value) (vs:List V) (Q:VK) (E:XK),RoomS k A->Env0 P w K mg base A outer s H->BindsTo s fd args (ps.zip us)->Vals vs us->sp vs H Q E ->
    codeAny (model P w) A (.call (.ref f) args) (CR CX outer P w H s Q E) s
section
variable {P:Program}{w:World}{K:PySem.W.Frag}{mg:Str->Option Value}{base:Heap}
end
structure CalS (P:Program) (w:World) (K:PySem.W.Frag) (mg:Str->Option Value) (base:Heap) (k:Nat) (x:Str) (ps:List Str) (sp:Sp) (f:Addr) (fd:FuncData):Prop where
  ok:FnOkS P w K mg base CX0 k f fd ps sp
  mg:mg x=some (.ref f)
  kp:PySem.W.keepIn K (.ref f)=true
  bd:Binds K fd ps []
section
variable {X:Cx}
end
end L2
namespace L2
open PySem PySem.Spec PyProof.Rows PySem.SeqAt Lv
end L2
namespace L2
open PySem PySem.Spec PyProof.Rows PySem.SeqAt
end L2
namespace Lv
open PySem L2
theorem Same.sqB {b:Bool}{K:PySem.W.Frag}{H H':Hp}{a:Addr}{xs:List V} (e:Same H H') (h:SqB b K H a xs):SqB b K H' a xs:=by
  cases b with
  | true=>exact e.seq h
  | false=>exact e.tup h
theorem comp_mapB {b : Bool} {K : PySem.W.Frag} {own : List Str} {js : List Nat} {g : TG} {te : TE} {σ : L2.St} {H1 : Hp} {Q : VK} {a : Addr} {xs : List V} (ys : List V) (hq : SqB b K H1 a xs) (hl : xs.length = ys.length) (hlen : xs.length ≤ 20000)
    (hs:∀ (i:Nat) x y,xs[i]?=some x->ys[i]?=some y->∀ H,Same H1 H->∀ R:VK,(∀ H',Same H H'->R y H')->g x (blkσ own js σ) H fun τ H4=>te τ H4 R)
    (hd:∀ acc H,H1 acc=none->Same H1 H->H acc=some (.lst ys)->Q (.ref acc) H):tCompW own js g tTrue te σ (ItlB b K a) H1 Q:=by
  refine comp_seqB (b:=b) (K:=K) (a:=a) (xs:=xs) (fun acc i H=>Same H1 H/\H acc=some (.lst (ys.take i))) (fun acc h0=>⟨Same.new h0,upd_same⟩) (fun acc i H h0 _ z=>?_) ?_ ?_
  · exact Same.sqB z.1 hq
  · rintro acc i x H h0 hx ⟨s1,hacc⟩
    have hi:=(List.getElem?_eq_some_iff.mp hx).1
    have hy:=List.getElem?_eq_getElem (l:=ys) (i:=i) (by omega)
    refine (cast ?_ (hs i x _ hx hy H s1 (fun y H6=>∃ zs,H6 acc=some (.lst zs)/\zs.length<sizeLine/\(i+1<=xs.length/\(Same H1 (upd H6 acc (.lst (zs++[y])))/\upd H6 acc (.lst (zs++[y])) acc=some (.lst (ys.take (i+1)))))) fun H' s'=>?_))
    · unfold tTrue
      simp only[if_true]
    · refine⟨_,s' _ _ hacc,?_,hi,(s1.trans s').put h0,?_⟩
      · rw[sizeLine_eq,List.length_take]
        omega
      · rw[upd_same,List.take_add_one,hy]
        simp
  · rintro acc H h0 ⟨s1,hacc⟩
    rw[hl,List.take_length] at hacc
    exact hd acc H h0 s1 hacc
end Lv
namespace Fw
open PySem L2
def val (ns:List Int) (p:Int):Int:=ns.getD p.toNat 0
def upto (n:Nat):List Int:=(List.range n).map fun (i:Nat)=>(i:Int)
def there (n:Nat) (r:Int) (w:List Int):List Int:=(upto (min n (w.length+r.toNat))).filter fun p=>!w.contains p
def fits (ns w:List Int) (p:Int):Bool:=w.isEmpty || decide (val ns (w.getLast?.getD 0)<=val ns p)
def cand (ns hs w:List Int):List Int:=if (hs.filter (fits ns w)).isEmpty then hs else hs.filter (fits ns w)
def pick (ns:List Int):List Int->Int
  | []=>0
  | b::c=>(b::c).foldl (fun b p=>if val ns p<val ns b then p else b) b
def writ (ns:List Int) (r:Int):Nat->List Int
  | 0=>[]
  | t+1=>writ ns r t++[pick ns (cand ns (there ns.length r (writ ns r t)) (writ ns r t))]
structure Good (n:Nat) (r:Int) (w:List Int):Prop where
  nd:w.Nodup
  lt:∀ q∈w,0<=q/\q<n/\q+1<w.length+r
end Fw
namespace Fw
open PySem L2
end Fw
namespace Fw
open PySem L2
abbrev Key2:=Nat × Int
def kle (a b:Key2):Prop:=a.1<b.1∨(a.1=b.1/\a.2<=b.2)
def nxtK (k:Option Key2) (v:Int):Key2:=match k with | none=>(0,v) | some (r,l)=>(if v<l then r+1 else r,v)
def keysFrom:Option Key2->List Int->List Key2
  | _,[]=>[]
  | k,v::vs=>nxtK k v::keysFrom (some (nxtK k v)) vs
def wk (ns:List Int) (r:Int) (t:Nat):List Key2:=keysFrom none ((writ ns r t).map (val ns))
def lk (ns:List Int) (r:Int) (t:Nat):Option Key2:=(wk ns r t).getLast?
structure Holds (n:Nat) (r:Int) (v:List Int):Prop where
  nd:v.Nodup
  lt:∀ (i:Nat) p,v[i]?=some p->0<=p/\p<n/\p<i+r
end Fw
namespace Lv
open PySem L2 Fw
def Sq (K:PySem.W.Frag) (H:Hp) (a:Addr) (xs:List V):Prop:=SqL K H a xs∨SqT K H a xs
def rIxQ (K:PySem.W.Frag):R2:=fun x y H Q=>∃ p xs i v,x=.ref p/\y=.int i/\Sq K H p xs/\atI xs i=some v/\Q v H
theorem ix_sq {X:Cx}:IxR X (rIxQ X.K):=by
  intro value slice pins s σ H x y v u Q I rx ry q hs
  obtain⟨p,xs,i,v',e1,e2,hq,e3,q⟩:=q
  refine (ix_list.or ix_tup) value slice pins s σ H x y v u Q I rx ry ?_ hs
  rcases hq with h | h
  · exact .inl ⟨p,xs,i,v',e1,e2,h,e3,q⟩
  · exact .inr ⟨p,xs,i,v',e1,e2,h,e3,q⟩
end Lv
namespace L2
open PySem PySem.Spec PyProof.Rows PySem.W
end L2
namespace Fl52
open PySem L2 Lv
def top (i:Nat):Stmt:=PySem.Challenge.pw_fewreels_k52_whole_levels_come_to_one_ro.main.body.getD i (.Pass ⟨0,0,0,0⟩)
abbrev sWhole:Stmt:=top 7
abbrev sPlace:Stmt:=top 8
abbrev sTupOf:Stmt:=top 9
abbrev sWays:Stmt:=top 14
abbrev sLevel:Stmt:=top 15
abbrev sFirst:Stmt:=top 16
abbrev sNext:Stmt:=top 17
abbrev sCounts:Stmt:=top 18
abbrev sTotal:Stmt:=top 19
abbrev sIsPh:Stmt:=top 21
abbrev sMerged:Stmt:=top 23
abbrev sCopy:Stmt:=top 25
abbrev sThin:Stmt:=top 26
abbrev sIdle:Stmt:=top 27
abbrev sTkAt:Stmt:=top 28
abbrev sPhPl:Stmt:=top 29
abbrev sPlay:Stmt:=top 30
abbrev sLPh:Stmt:=top 31
abbrev sLaid:Stmt:=top 32
abbrev sTot:Stmt:=top 35
abbrev sPlaces:Stmt:=top 36
abbrev sFirstN:Stmt:=top 37
abbrev sNextN:Stmt:=top 38
abbrev sAfter:Stmt:=top 39
abbrev sNumOf:Stmt:=top 40
abbrev sLN:Stmt:=top 41
abbrev sFits:Stmt:=top 43
abbrev sReal:Stmt:=top 44
abbrev sIsLay:Stmt:=top 45
abbrev sRead:Stmt:=top 46
abbrev sLayH:Stmt:=top 47
abbrev sLayR:Stmt:=top 48
abbrev sFoldC:Stmt:=top 50
abbrev sBegunC:Stmt:=top 51
abbrev sTakeC:Stmt:=top 52
abbrev sLay52:Stmt:=top 53
abbrev sPlc52:Stmt:=top 54
abbrev sRt52:Stmt:=top 55
abbrev sAll52:Stmt:=top 56
abbrev sLot52:Stmt:=top 57
abbrev sLaw:Stmt:=top 58
end Fl52
namespace Fl52
open PySem L2 Lv
section
variable {P:Program}{w:World}{K:PySem.W.Frag}{mg:Str->Option Value}{base:Heap}
theorem scWhole:FnScope ["thing"] ["thing"] (defScope sWhole):=⟨rfl,rfl,rfl,by decide +kernel,rfl,by decide +kernel,by decide +kernel⟩
theorem ok_whole {f:Addr}{fd:FuncData} (F:Fun K "is_whole" "is_whole" sWhole f fd) (T:Txt mg):FnOk P w K mg base CX0 1 f fd ["thing"] spWhole:=by
  refine F.ok scWhole (fun vs H Q E h=>?_) (fun cdv A outer s H vs Q E hr h=>?_)
  · obtain⟨i,rfl,_⟩:=h
    rfl
  · obtain⟨i,rfl,k⟩:=h
    refine⟨_,pss_one (ps_ret (pe_and (pe_callB call_isinst rfl T.isinstance b_isinstance (pa_cons (pv 0) (pa_cons (pe_ty rfl T.int b_int) pa_nil)))
      (pe_one (pe_not (pe_callB call_isinst rfl T.isinstance b_isinstance (pa_cons (pv 0) (pa_cons (pe_ty rfl T.bool b_bool) pa_nil))))))),?_⟩
    refine⟨_,rfl,.int i,"int",_,true,rfl,.int i,kit_int_int,true,rfl,iteT ?_⟩
    exact⟨_,rfl,.int i,"bool",_,false,rfl,.int i,kit_int_bool,false,rfl,k⟩
theorem scWays:FnScope ["p"] ["p"] (defScope sWays):=⟨rfl,rfl,rfl,by decide +kernel,rfl,by decide +kernel,by decide +kernel⟩
theorem ok_ways {f fW : Addr} {fd dW : FuncData} {t2 t7 : Tok} (F : Fun K "check_ways" "check_ways" sWays f fd) (T : Txt mg) (hL : mg "LEAST_WAYS" = some (.int 2 t2)) (hM : mg "MOST_WAYS" = some (.int 7 t7)) (CW : Cal P w K mg base 1 "is_whole" ["thing"] spWhole fW dW) :
    FnOk P w K mg base CX0 2 f fd ["p"] spWays:=by
  refine F.ok scWays (fun vs H Q E h=>?_) (fun cdv A outer s H vs Q E hr h=>?_)
  · obtain⟨i,rfl,_⟩:=h
    rfl
  · obtain⟨i,rfl,h1,h2,k⟩:=h
    refine⟨_,pss_one (ps_if (PW.pt (pw_or (pt_not (pt_val (pe_cal CW hr rfl (pa_cons (pv 0) pa_nil))))
      (pw_or1 (pt_not (pt_chain op_le op_le (pe_gint rfl hL) (pv 0) (pe_gint rfl hM)))))) pss_never pss_nil),?_⟩
    refine⟨_,rfl,i,rfl,true,rfl,iteF ?_⟩
    refine⟨_,rfl,2,i,rfl,rfl,_,rfl,?_⟩
    rw[decide_eq_true h1]
    refine iteT ⟨i,7,rfl,rfl,_,rfl,?_⟩
    rw[decide_eq_true h2]
    exact iteF k
theorem scLevel:FnScope ["n","last"] ["n","last"] (defScope sLevel):=⟨rfl,rfl,rfl,by decide +kernel,rfl,by decide +kernel,by decide +kernel⟩
theorem ok_level {f fW da : Addr} {fd dW : FuncData} (F : FunD K "check_level" "check_level" sLevel f da fd) (T : Txt mg) (CW : Cal P w K mg base 1 "is_whole" ["thing"] spWhole fW dW) :
    FnOk P w K mg base CX0 2 f fd ["n","last"] spLevelD:=by
  refine F.ok scLevel (fun vs H Q E h=>?_) (fun cdv A outer s H vs Q E hr h=>?_)
  · obtain⟨i,m,rfl,_⟩:=h
    rfl
  · obtain⟨i,m,rfl,h1,h2,k⟩:=h
    refine⟨_,pss_one (ps_if (PW.pt (pw_or (pt_not (pt_val (pe_cal CW hr rfl (pa_cons (pv 0) pa_nil))))
      (pw_or1 (pt_not (pt_chain op_le op_le pe_int (pv 0) (pv 1)))))) pss_never pss_nil),?_⟩
    refine⟨_,rfl,i,rfl,true,rfl,iteF ?_⟩
    refine⟨_,rfl,0,i,rfl,rfl,_,rfl,?_⟩
    rw[decide_eq_true h1]
    refine iteT ⟨_,rfl,i,m,rfl,rfl,_,rfl,?_⟩
    rw[decide_eq_true h2]
    exact iteF k
theorem scFirst:FnScope ["p"] ["p"] (defScope sFirst):=⟨rfl,rfl,rfl,by decide +kernel,rfl,by decide +kernel,by decide +kernel⟩
theorem ok_first {f:Addr}{fd:FuncData} (F:Fun K "first_counts" "first_counts" sFirst f fd) (T:Txt mg):FnOk P w K mg base CX0 1 f fd ["p"] spFirst:=by
  refine F.ok scFirst (fun vs H Q E h=>?_) (fun cdv A outer s H vs Q E hr h=>?_)
  · obtain⟨p,rfl,_⟩:=h
    rfl
  · obtain⟨p,rfl,h1,h2,k⟩:=h
    refine⟨_,pss_one (ps_ret (pe_callTy call_tuple_of rfl T.tuple b_tuple (pa_cons (pe_op op_cat (pe_lst (pa_cons pe_int pa_nil)) (pe_op op_rep (pe_lst (pa_cons pe_int pa_nil)) (pe_op op_sub (pv 0) pe_int))) pa_nil))),?_⟩
    refine⟨(by show 1<=sizeLine; decide),fun p1 e1=>⟨(by show 1<=sizeLine; decide),fun p2 e2=>⟨_,rfl,_,_,rfl,rfl,?_⟩⟩⟩
    have z2:(upd (upd H p1 (.lst [.int 1])) p2 (.lst [.int 0])) p1=some (.lst [.int 1]):=by rw[upd_ne (ne_of_none upd_same e2)]; exact upd_same
    refine⟨p2,(p:Int) - 1,_,rfl,rfl,upd_same,by omega,by omega,?_,fun p3 e3=>?_⟩
    · exact Nat.le_of_lt (small1000 (by show 1*((p:Int) - 1).toNat<=1000; omega))
    have z3:=(Same.new (o:=.lst (List.replicate ((p:Int) - 1).toNat [V.int 0]).flatten) e3) p1 _ z2
    have ez:(List.replicate ((p:Int) - 1).toNat [V.int 0]).flatten=List.replicate (p - 1) (V.int 0):=by
      rw[show ((p:Int) - 1).toNat=p - 1 by omega]
      exact List.flatten_replicate_singleton
    rw[ez] at z3 ⊢
    refine⟨p1,p3,_,_,rfl,rfl,z3,upd_same,?_,fun p4 e4=>?_⟩
    · exact Nat.le_of_lt (small1000 (by rw[List.length_replicate]; show 1+(p - 1)<=1000; omega))
    refine⟨p4,_,rfl,.inl ⟨SqL.of upd_same,fun l hl=>?_⟩⟩
    have s4:=(((Same.new (o:=.lst [.int 1]) e1).trans (Same.new (o:=.lst [.int 0]) e2)).trans (Same.new (o:=.lst (List.replicate (p - 1) (V.int 0))) e3)).trans (Same.new (o:=.lst ([.int 1]++List.replicate (p - 1) (V.int 0))) e4)
    refine k l _ (s4.free hl) ?_ (s4.trans (Same.new hl))
    rw[upd_same]
    simp[firstC]
theorem scNext:FnScope ["counts","first"] ["counts"] (defScope sNext):=⟨rfl,rfl,rfl,by decide +kernel,rfl,by decide +kernel,by decide +kernel⟩
theorem ok_next {f:Addr}{fd:FuncData} (F:Fun K "next_counts" "next_counts" sNext f fd) (T:Txt mg):FnOk P w K mg base CX0 1 f fd ["counts"] (spNext K):=by
  refine F.ok scNext (fun vs H Q E h=>?_) (fun cdv A outer s H vs Q E hr h=>?_)
  · obtain⟨a,c,rfl,_⟩:=h
    rfl
  · obtain⟨a,c,rfl,hA,h1,h2,k⟩:=h
    refine⟨_,pss_cons (ps_set (i:=1) scNext.nd rfl (Or.inr rfl) (pe_ix ix_tup (pv 0) pe_int (fun _ _=>rfl)))
      (pss_one (ps_ret (pe_callTy call_tuple_of rfl T.tuple b_tuple (pa_cons (pe_op op_cat
        (pe_comp (own:=["count"]) (js:=[1]) (CompOk.by (sc:=defScope sNext) (N:=["counts","first"]) rfl rfl (by decide +kernel)) rfl (pi_tup (pe_slice sl_tup (pv 0) (po_some pe_int) po_none)) gkeep_name
          (fun _ _ _ _ _=>pg_name (i:=0) (by show (["count","first"]:List Str).Nodup; decide +kernel) rfl (Or.inl rfl) (.inr rfl)) (fun _ _ _ _ _=>pts_nil) (fun _ _ _ _ _=>pe_op op_add (pv 1) (pv 0)))
        (pe_lst (pa_cons (pv 1) pa_nil))) pa_nil)))),?_⟩
    obtain⟨c0,cr,rfl⟩:∃ c0 cr,c=c0::cr:=by
      cases c with
      | nil=>simp at h1
      | cons x y=>exact⟨x,y,rfl⟩
    have hcr:cr.length<=6:=by simpa using h2
    refine⟨_,rfl,a,_,0,.int c0,rfl,rfl,hA,atI_head,?_⟩
    refine⟨_,rfl,1,rfl,a,_,rfl,hA,?_,fun p1 e1=>⟨p1,rfl,⟨_,SqT.of upd_same⟩,?_⟩⟩
    · rintro⟨z,_⟩
      have:HT.sIx ((c0::cr).map V.int).length 0 (some ((1:Nat):Int))=0:=z
      rw[HT.sIx_nat] at this
      simp at this
    have ecut:cutV ((c0::cr).map V.int) (some 1) none=cr.map V.int:=by
      unfold cutV
      show (((c0::cr).map V.int).drop (HT.sIx ((c0::cr).map V.int).length 0 (some ((1:Nat):Int)))).take (HT.sIx ((c0::cr).map V.int).length ((c0::cr).map V.int).length none - HT.sIx ((c0::cr).map V.int).length 0 (some ((1:Nat):Int)))=_
      rw[HT.sIx_nat]
      rw[show min 1 ((c0::cr).map V.int).length=1 by simp]
      show (cr.map V.int).take (((c0::cr).map V.int).length - 1)=_
      rw[List.take_of_length_le (by simp)]
    rw[ecut]
    refine comp_tup (xs:=cr.map V.int) (fun acc i H2=>Same (upd H p1 (.tup (cr.map V.int))) H2/\H2 acc=some (.lst (((cr.take i).map (c0+·)).map V.int))) (fun acc h0=>⟨Same.new h0,upd_same⟩) (fun acc i H2 h0 _ p=>p.1.tup (SqT.of upd_same)) ?_ ?_
    · rintro acc i x H2 h0 hx ⟨s2,hacc⟩
      obtain⟨z,hz,rfl⟩:=map_get hx
      have hi:=(List.getElem?_eq_some_iff.mp hz).1
      refine⟨_,rfl,_,rfl,_,_,rfl,rfl,_,hacc,?_,by rw[List.length_map]; exact hi,s2.put h0,?_⟩
      · exact small1000 (by simp; omega)
      · rw[upd_same,List.take_add_one,hz]
        simp
    · rintro acc H2 h0 ⟨s2,hacc⟩
      rw[List.length_map,List.take_length] at hacc
      refine⟨_,rfl,(by show 1<=sizeLine; decide),fun p2 e2=>?_⟩
      refine⟨acc,p2,_,_,rfl,rfl,(Same.new e2) acc _ hacc,upd_same,?_,fun p3 e3=>⟨p3,_,rfl,.inl ⟨SqL.of upd_same,fun l hl=>?_⟩⟩⟩
      · exact Nat.le_of_lt (small1000 (by simp; omega))
      have s3:=(((Same.new (o:=.tup (cr.map V.int)) e1).trans s2).trans (Same.new (o:=.lst [.int c0]) e2)).trans (Same.new (o:=.lst (((cr.map (c0+·)).map V.int)++[.int c0])) e3)
      refine k l _ (s3.free hl) ?_ (s3.trans (Same.new hl))
      rw[upd_same]
      simp[nextC]
theorem scCounts:FnScope ["p","n","counts","level"] ["p","n"] (defScope sCounts):=⟨rfl,rfl,rfl,by decide +kernel,rfl,by decide +kernel,by decide +kernel⟩
theorem ok_counts {f fA fB fC fD : Addr} {fd dA dB dC dD : FuncData} (F : Fun K "level_counts" "level_counts" sCounts f fd) (T : Txt mg) (CA : Cal P w K mg base 2 "check_ways" ["p"] spWays fA dA) (CB : CalD P w K mg base 2 "check_level" ["n", "last"] [.int 300] spLevelD fB dB) (CC : Cal P w K mg base 1 "first_counts" ["p"] spFirst fC dC) (CD : Cal P w K mg base 1 "next_counts" ["counts"] (spNext K) fD dD) :
    FnOk P w K mg base CX0 3 f fd ["p","n"] spCounts:=by
  refine F.ok scCounts (fun vs H Q E h=>?_) (fun cdv A outer s H vs Q E hr h=>?_)
  · obtain⟨p,n,rfl,_⟩:=h
    rfl
  · obtain⟨p,n,rfl,h1,h2,h3,k⟩:=h
    have hr1:Room 1 _:=hr.mono (by decide)
    refine⟨_,pss_cons (ps_expr (pe_cal CA hr rfl (pa_cons (pv 0) pa_nil))) (pss_cons (ps_expr (pe_calD CB hr rfl (pa_cons (pv 1) pa_nil)))
      (pss_cons (ps_set (i:=2) scCounts.nd rfl (Or.inl rfl) (pe_cal CC hr1 rfl (pa_cons (pv 0) pa_nil)))
      (pss_cons (ps_for PassesOwn.never rfl (pi_range1 rfl T.range (pa_cons (pv 1) pa_nil)) (pg_name (i:=3) scCounts.nd rfl (Or.inl rfl))
        (pss_one (ps_set (i:=2) scCounts.nd rfl (Or.inl rfl) (pe_cal CD hr1 rfl (pa_cons (pv 2) pa_nil)))))
      (pss_one (ps_ret (pv 2)))))),?_⟩
    refine⟨_,rfl,p,rfl,by omega,by omega,?_⟩
    refine⟨_,rfl,n,300,rfl,by omega,by omega,?_⟩
    refine⟨_,rfl,p,rfl,h1,h2,fun l H1 hl0 hl1 s1=>?_⟩
    refine⟨_,rfl,n,rfl,by omega,by omega,for_range (fun i σ H2=>∃ (l:Addr) (o:Option V),σ=[some (.int p),some (.int n),some (.ref l),o]/\H l=none/\H2 l=some (.tup ((cnt p i).map V.int))/\Same H H2)
      ⟨l,none,rfl,hl0,hl1,s1⟩ ?_ ?_⟩
    · rintro i σ H2 hi ⟨l,o,rfl,hl0,hl2,s2⟩
      have hlen:=cnt_len (p:=p) (by omega) i
      refine⟨_,rfl,l,cnt p i,rfl,SqT.of hl2,by omega,by omega,fun l3 H3 h30 h3 s3=>?_⟩
      exact⟨l3,_,rfl,s2.free h30,h3,s2.trans s3⟩
    · rintro σ H2 ⟨l,o,rfl,hl0,hl2,s2⟩
      refine⟨_,rfl,k l H2 hl0 ?_ s2⟩
      simpa using hl2
theorem scTotal:FnScope ["p","n"] ["p","n"] (defScope sTotal):=⟨rfl,rfl,rfl,by decide +kernel,rfl,by decide +kernel,by decide +kernel⟩
theorem ok_total {f fA:Addr}{fd dA:FuncData} (F:Fun K "level_total" "level_total" sTotal f fd) (T:Txt mg) (CA:Cal P w K mg base 3 "level_counts" ["p","n"] spCounts fA dA):FnOk P w K mg base CX0 4 f fd ["p","n"] spTotal:=by
  refine F.ok scTotal (fun vs H Q E h=>?_) (fun cdv A outer s H vs Q E hr h=>?_)
  · obtain⟨p,n,rfl,_⟩:=h
    rfl
  · obtain⟨p,n,rfl,h1,h2,h3,k⟩:=h
    refine⟨_,pss_one (ps_ret (pe_callB (call_sumT rfl) rfl T.sum b_sum (pa_cons (pe_cal CA hr rfl (pa_cons (pv 0) (pa_cons (pv 1) pa_nil))) pa_nil))),?_⟩
    exact⟨_,rfl,_,rfl,p,n,rfl,h1,h2,h3,fun l H1 hl0 hl1 s1=>⟨l,_,rfl,SqT.of hl1,k H1 s1⟩⟩
theorem scTot:FnScope ["total"] ["total"] (defScope sTot):=⟨rfl,rfl,rfl,by decide +kernel,rfl,by decide +kernel,by decide +kernel⟩
theorem ok_tot {f:Addr}{fd:FuncData}{tM:Tok} (F:Fun K "check_total" "check_total" sTot f fd) (T:Txt mg) (hM:mg "MOST_PLACES"=some (.int 4000 tM)):FnOk P w K mg base CX0 1 f fd ["total"] spTot:=by
  refine F.ok scTot (fun vs H Q E h=>?_) (fun cdv A outer s H vs Q E hr h=>?_)
  · obtain⟨i,rfl,_⟩:=h
    rfl
  · obtain⟨i,rfl,h4,k⟩:=h
    refine⟨_,pss_one (ps_if (pt_cmpR op_gt (pv 0) (pe_gint rfl hM) (nomark _)) pss_never pss_nil),?_⟩
    refine⟨_,rfl,_,_,rfl,rfl,_,rfl,?_⟩
    rw[decide_eq_false (by omega)]
    exact iteF k
theorem scFirstN:FnScope ["p"] ["p"] (defScope sFirstN):=⟨rfl,rfl,rfl,by decide +kernel,rfl,by decide +kernel,by decide +kernel⟩
theorem ok_firstN {f:Addr}{fd:FuncData} (F:Fun K "first_numbers" "first_numbers" sFirstN f fd) (T:Txt mg):FnOk P w K mg base CX0 1 f fd ["p"] spFirstN:=by
  refine F.ok scFirstN (fun vs H Q E h=>?_) (fun cdv A outer s H vs Q E hr h=>?_)
  · obtain⟨p,rfl,_⟩:=h
    rfl
  · obtain⟨p,rfl,h1,h2,k⟩:=h
    refine⟨_,pss_one (ps_ret (pe_callTy call_tuple_of rfl T.tuple b_tuple (pa_cons (pe_op op_cat (pe_lst (pa_cons (pe_tup (pa_cons pe_int pa_nil)) pa_nil)) (pe_op op_rep (pe_lst (pa_cons (pe_tup pa_nil) pa_nil)) (pe_op op_sub (pv 0) pe_int))) pa_nil))),?_⟩
    refine⟨(by show 1<=sizeLine; decide),fun q0 e0=>⟨(by show 1<=sizeLine; decide),fun p1 e1=>⟨Nat.zero_le _,fun q1 f1=>⟨(by show 1<=sizeLine; decide),fun p2 e2=>⟨_,rfl,_,_,rfl,rfl,?_⟩⟩⟩⟩⟩
    have t0:Same H (upd H q0 (.tup [.int 0])):=Same.new e0
    have t1:=t0.trans (Same.new (o:=.lst [.ref q0]) e1)
    have t2:=t1.trans (Same.new (o:=.tup []) f1)
    have t3:=t2.trans (Same.new (o:=.lst [.ref q1]) e2)
    have a0:(upd (upd (upd (upd H q0 (.tup [.int 0])) p1 (.lst [.ref q0])) q1 (.tup [])) p2 (.lst [.ref q1])) q0=some (.tup [.int 0]):=((Same.new e1).trans ((Same.new f1).trans (Same.new e2))) q0 _ upd_same
    have a1:(upd (upd (upd (upd H q0 (.tup [.int 0])) p1 (.lst [.ref q0])) q1 (.tup [])) p2 (.lst [.ref q1])) p1=some (.lst [.ref q0]):=((Same.new f1).trans (Same.new e2)) p1 _ upd_same
    have a2:(upd (upd (upd (upd H q0 (.tup [.int 0])) p1 (.lst [.ref q0])) q1 (.tup [])) p2 (.lst [.ref q1])) q1=some (.tup []):=(Same.new e2) q1 _ upd_same
    have a3:(upd (upd (upd (upd H q0 (.tup [.int 0])) p1 (.lst [.ref q0])) q1 (.tup [])) p2 (.lst [.ref q1])) p2=some (.lst [.ref q1]):=upd_same
    generalize (upd (upd (upd (upd H q0 (.tup [.int 0])) p1 (.lst [.ref q0])) q1 (.tup [])) p2 (.lst [.ref q1]))=H1 at t3 a0 a1 a2 a3 ⊢
    refine⟨p2,(p:Int) - 1,_,rfl,rfl,a3,by omega,by omega,?_,fun p3 e3=>?_⟩
    · exact Nat.le_of_lt (small1000 (by show 1*((p:Int) - 1).toNat<=1000; omega))
    have ez:(List.replicate ((p:Int) - 1).toNat [V.ref q1]).flatten=List.replicate (p - 1) (V.ref q1):=by
      rw[show ((p:Int) - 1).toNat=p - 1 by omega]
      exact List.flatten_replicate_singleton
    rw[ez]
    have s3:=Same.new (o:=.lst (List.replicate (p - 1) (V.ref q1))) e3
    refine⟨p1,p3,_,_,rfl,rfl,s3 p1 _ a1,upd_same,?_,fun p4 e4=>⟨p4,_,rfl,.inl ⟨SqL.of upd_same,fun l hl=>?_⟩⟩⟩
    · exact Nat.le_of_lt (small1000 (by rw[List.length_replicate]; show 1+(p - 1)<=1000; omega))
    have s4:=s3.trans (Same.new (o:=.lst ([.ref q0]++List.replicate (p - 1) (V.ref q1))) e4)
    have s5:=s4.trans (Same.new (o:=.tup ([.ref q0]++List.replicate (p - 1) (V.ref q1))) hl)
    have hl0:H l=none:=(t3.trans s4).free hl
    refine k l (q0::List.replicate (p - 1) q1) _ hl0 (by rw[upd_same]; simp) ⟨by simp[num0],fun j r xs ha hb=>?_⟩ (t3.trans s5)
    cases j with
    | zero=>
      have:r=q0:=by simpa using ha.symm
      have:xs=[0]:=by simpa[num0] using hb.symm
      subst r xs
      exact s5 q0 _ a0
    | succ j=>
      have:r=q1:=rep_get (j:=j) (by simpa using ha)
      have:xs=[]:=rep_get (j:=j) (by simpa[num0] using hb)
      subst r xs
      exact s5 q1 _ a2
theorem scPlaces:FnScope ["p","n"] ["p","n"] (defScope sPlaces):=⟨rfl,rfl,rfl,by decide +kernel,rfl,by decide +kernel,by decide +kernel⟩
theorem ok_places {f fA fB:Addr}{fd dA dB:FuncData} (F:Fun K "check_places" "check_places" sPlaces f fd) (T:Txt mg) (CA:Cal P w K mg base 4 "level_total" ["p","n"] spTotal fA dA) (CB:Cal P w K mg base 1 "check_total" ["total"] spTot fB dB):FnOk P w K mg base CX0 5 f fd ["p","n"] spPlaces:=by
  refine F.ok scPlaces (fun vs H Q E h=>?_) (fun cdv A outer s H vs Q E hr h=>?_)
  · obtain⟨p,n,rfl,_⟩:=h
    rfl
  · obtain⟨p,n,rfl,h1,h2,h3,h4,k⟩:=h
    have hr1:Room 1 _:=hr.mono (by decide)
    refine⟨_,pss_one (ps_expr (pe_cal CB hr1 rfl (pa_cons (pe_cal CA hr rfl (pa_cons (pv 0) (pa_cons (pv 1) pa_nil))) pa_nil))),?_⟩
    exact⟨_,rfl,_,rfl,p,n,rfl,h1,h2,h3,fun H1 s1=>⟨_,rfl,h4,k H1 s1⟩⟩
theorem scNextN:FnScope ["numbers","first"] ["numbers"] (defScope sNextN):=⟨rfl,rfl,rfl,by decide +kernel,rfl,by decide +kernel,by decide +kernel⟩
theorem ok_nextN {f:Addr}{fd:FuncData} (F:Fun K "next_numbers" "next_numbers" sNextN f fd) (T:Txt mg):FnOk P w K mg base CX0 1 f fd ["numbers"] spNextN:=by
  refine F.ok scNextN (fun vs H Q E h=>?_) (fun cdv A outer s H vs Q E hr h=>?_)
  · obtain⟨a,rs,N,rfl,_⟩:=h
    rfl
  · obtain⟨a,rs,N,rfl,hA,hT,h1,h2,hne,hz,k⟩:=h
    refine ⟨_, pss_cons (ps_set (i := 1) scNextN.nd rfl (Or.inr rfl) (pe_callTy call_tuple_of rfl T.tuple b_tuple (pa_cons (pe_comp (own := ["number"]) (js := []) (CompOk.by (sc := defScope sNextN) (N := ["numbers", "first"]) rfl rfl (by decide +kernel)) rfl (pi_tup (pe_ix ix_tup (pv 0) pe_int (fun _ _ => rfl))) gkeep_name
          (fun _ _ _ _ _=>pg_name (i:=0) (by show (["number"]:List Str).Nodup; decide +kernel) rfl (Or.inl rfl) (.inr rfl)) (fun _ _ _ _ _=>pts_nil) (fun _ _ _ _ _=>pe_op op_add (pv 0) pe_int)) pa_nil)))
      (pss_one (ps_ret (pe_callTy call_tuple_of rfl T.tuple b_tuple (pa_cons (pe_op op_cat
        (pe_comp (own:=["reel"]) (js:=[1]) (CompOk.by (sc:=defScope sNextN) (N:=["numbers","first"]) rfl rfl (by decide +kernel)) rfl (pi_tup (pe_slice sl_tup (pv 0) (po_some pe_int) po_none)) gkeep_name
          (fun _ _ _ _ _=>pg_name (i:=0) (by show (["reel","first"]:List Str).Nodup; decide +kernel) rfl (Or.inl rfl) (.inr rfl)) (fun _ _ _ _ _=>pts_nil) (fun _ _ _ _ _=>pe_op (opK_catT K) (pv 1) (pv 0)))
        (pe_lst (pa_cons (pv 1) pa_nil))) pa_nil)))),?_⟩
    obtain⟨x0,xr,rfl⟩:∃ x0 xr,N=x0::xr:=by
      cases N with
      | nil=>simp at h1
      | cons x y=>exact⟨x,y,rfl⟩
    obtain⟨r0,rr,rfl⟩:∃ r0 rr,rs=r0::rr:=by
      cases rs with
      | nil=>have:=hT.1; simp at this
      | cons x y=>exact⟨x,y,rfl⟩
    have hr0:H r0=some (.tup (x0.map V.int)):=hT.2 0 r0 x0 rfl rfl
    have hrl:rr.length=xr.length:=by have:=hT.1; simpa using this
    have hxr:xr.length<=6:=by simpa using h2
    have hx0:x0.length<=4000:=hz x0 (by simp)
    have ef:fstN (x0::xr)=x0.map (·+1):=rfl
    refine⟨_,rfl,a,_,0,.ref r0,rfl,rfl,SqT.of hA,atI_nat (j:=0) rfl,r0,rfl,⟨_,SqT.of hr0⟩,?_⟩
    refine comp_tup (xs:=x0.map V.int) (fun acc i H2=>Same H H2/\H2 acc=some (.lst (((x0.take i).map (·+1)).map V.int))) (fun acc h0=>⟨Same.new h0,upd_same⟩) (fun acc i H2 h0 _ p=>p.1.tup (SqT.of hr0)) ?_ ?_
    · rintro acc i x H2 h0 hx ⟨s2,hacc⟩
      obtain⟨z,hz',rfl⟩:=map_get hx
      have hi:=(List.getElem?_eq_some_iff.mp hz').1
      refine⟨_,rfl,z,1,rfl,rfl,_,hacc,?_,by rw[List.length_map]; exact hi,s2.put h0,?_⟩
      · exact small8000 (by simp; omega)
      · rw[upd_same,List.take_add_one,hz',Option.toList_some,List.map_append,List.map_append]
        rfl
    rintro acc H2 h0 ⟨s2,hacc⟩
    rw[List.length_map,List.take_length] at hacc
    refine⟨acc,_,rfl,.inl ⟨SqL.of hacc,fun fl hfl=>?_⟩⟩
    have s3:=s2.trans (Same.new (o:=.tup ((x0.map (·+1)).map V.int)) hfl)
    have hfl3:(upd H2 fl (.tup ((x0.map (·+1)).map V.int))) fl=some (.tup ((x0.map (·+1)).map V.int)):=upd_same
    generalize (upd H2 fl (.tup ((x0.map (·+1)).map V.int)))=H3 at s3 hfl3 ⊢
    have hfl0:H fl=none:=s2.free hfl
    refine⟨_,rfl,1,rfl,a,_,rfl,SqT.of (s3 a _ hA),?_,fun p1 e1=>⟨p1,rfl,⟨_,SqT.of upd_same⟩,?_⟩⟩
    · rintro⟨z,_⟩
      have:HT.sIx ((r0::rr).map V.ref).length 0 (some ((1:Nat):Int))=0:=z
      rw[HT.sIx_nat] at this
      simp at this
    have ecut:cutV ((r0::rr).map V.ref) (some 1) none=rr.map V.ref:=by
      unfold cutV
      show (((r0::rr).map V.ref).drop (HT.sIx ((r0::rr).map V.ref).length 0 (some ((1:Nat):Int)))).take (HT.sIx ((r0::rr).map V.ref).length ((r0::rr).map V.ref).length none - HT.sIx ((r0::rr).map V.ref).length 0 (some ((1:Nat):Int)))=_
      rw[HT.sIx_nat]
      rw[show min 1 ((r0::rr).map V.ref).length=1 by simp]
      show (rr.map V.ref).take (((r0::rr).map V.ref).length - 1)=_
      rw[List.take_of_length_le (by simp)]
    rw[ecut]
    have s4:=s3.trans (Same.new (o:=.tup (rr.map V.ref)) e1)
    have hfl4:=(Same.new (o:=.tup (rr.map V.ref)) e1) fl _ hfl3
    have hp14:(upd H3 p1 (.tup (rr.map V.ref))) p1=some (.tup (rr.map V.ref)):=upd_same
    generalize (upd H3 p1 (.tup (rr.map V.ref)))=H4 at s4 hfl4 hp14 ⊢
    have hr:∀ (j:Nat) r xs,rr[j]?=some r->xr[j]?=some xs->H r=some (.tup (xs.map V.int)):=fun j r xs a b=>hT.2 (j+1) r xs a b
    have hxz:∀ xs∈xr,xs.length<=4000:=fun xs hx=>hz xs (by simp[hx])
    have hx0ne:x0≠[]:=hne
    refine comp_tup (xs:=rr.map V.ref) (fun acc i H5=>Same H4 H5/\∃ qs:List Addr,H5 acc=some (.lst (qs.map V.ref))/\TTs H5 qs ((xr.take i).map (x0.map (·+1)++·))) (fun acc h0=>⟨Same.new h0,[],upd_same,rfl,fun j r xs a b=>by simp at a⟩) (fun acc i H5 h0 _ p=>p.1.tup (SqT.of hp14)) ?_ ?_
    · rintro acc i x H5 h0 hx ⟨s5,qs,hacc,hq⟩
      obtain⟨r,hr',rfl⟩:=map_ref_get hx
      have hi:=(List.getElem?_eq_some_iff.mp hr').1
      have hix:i<xr.length:=by omega
      have hrx:H5 r=some (.tup (xr[i].map V.int)):=(s4.trans s5) r _ (hr i r _ hr' (List.getElem?_eq_getElem hix))
      have hfl5:=s5 fl _ hfl4
      have hxi:xr[i].length<=4000:=hxz _ (List.getElem_mem hix)
      have hqs:qs.length<=6:=by have:=hq.1; simp at this; omega
      have e2:(xr.take (i+1)).map (x0.map (·+1)++·)=(xr.take i).map (x0.map (·+1)++·)++[x0.map (·+1)++xr[i]]:=by
        rw[List.take_succ_eq_append_getElem hix,List.map_append]
        rfl
      rw[e2]
      refine⟨_,rfl,_,rfl,fl,r,_,_,rfl,rfl,SqT.of hfl5,SqT.of hrx,by simpa using hx0ne,?_,fun hemp=>?_,fun hemp pn en=>?_⟩
      · exact Nat.le_of_lt (small8000 (by simp; omega))
      · have hemp':xr[i]=[]:=by simpa using hemp
        refine⟨_,hacc,small8000 (by simp; omega),by rw[List.length_map]; exact hi,s5.put h0,qs++[fl],by rw[upd_same]; simp,?_⟩
        refine (hq.lst hacc).snoc ?_
        rw[hemp',List.append_nil,upd_ne (by intro z; subst z; rw[hacc] at hfl5; cases hfl5)]
        exact hfl5
      · have hacc6:=(Same.new (o:=.tup ((x0.map (·+1)).map V.int++xr[i].map V.int)) en) acc _ hacc
        refine⟨_,hacc6,small8000 (by simp; omega),by rw[List.length_map]; exact hi,(s5.trans (Same.new en)).put h0,qs++[pn],by rw[upd_same]; simp,?_⟩
        refine ((hq.same (Same.new en)).lst hacc6).snoc ?_
        rw[upd_ne (by intro z; subst z; rw[hacc] at en; cases en),upd_same]
        simp
    · rintro acc H5 h0 ⟨s5,qs,hacc,hq⟩
      rw[List.length_map,hrl,List.take_length] at hq
      have hfl5:=s5 fl _ hfl4
      have hqs:qs.length<=6:=by have:=hq.1; simp at this; omega
      refine⟨_,rfl,(by show 1<=sizeLine; decide),fun p2 e2=>?_⟩
      refine⟨acc,p2,_,_,rfl,rfl,(Same.new e2) acc _ hacc,upd_same,?_,fun p3 e3=>⟨p3,_,rfl,.inl ⟨SqL.of upd_same,fun l hl=>?_⟩⟩⟩
      · exact Nat.le_of_lt (small8000 (by simp; omega))
      have sz:=((Same.new (o:=.lst [V.ref fl]) e2).trans (Same.new (o:=.lst (qs.map V.ref++[V.ref fl])) e3)).trans (Same.new (o:=.tup (qs.map V.ref++[V.ref fl])) hl)
      have s6:=(s4.trans s5).trans sz
      refine k l (qs++[fl]) _ ?_ (by rw[upd_same]; simp) ?_ s6
      · exact ((s4.trans s5).trans ((Same.new (o:=.lst [V.ref fl]) e2).trans (Same.new (o:=.lst (qs.map V.ref++[V.ref fl])) e3))).free hl
      · exact (hq.same sz).snoc (sz fl _ hfl5)
theorem scAfter:FnScope ["p","n","following","numbers","level"] ["p","n","following"] (defScope sAfter):=⟨rfl,rfl,rfl,by decide +kernel,rfl,by decide +kernel,by decide +kernel⟩
theorem ok_after {f fA fB:Addr}{fd dA dB:FuncData} (F:Fun K "numbers_after" "numbers_after" sAfter f fd) (T:Txt mg) (CB:Cal P w K mg base 1 "first_numbers" ["p"] spFirstN fB dB) (CA:Cal P w K mg base 1 "next_numbers" ["numbers"] spNextN fA dA):FnOk P w K mg base CX0 2 f fd ["p","n","following"] (spAfter fA):=by
  refine F.ok scAfter (fun vs H Q E h=>?_) (fun cdv A outer s H vs Q E hr h=>?_)
  · obtain⟨p,n,rfl,_⟩:=h
    rfl
  · obtain⟨p,n,rfl,h1,h2,h3,h4,k⟩:=h
    refine⟨_,pss_cons (ps_set (i:=3) scAfter.nd rfl (Or.inl rfl) (pe_cal CB hr rfl (pa_cons (pv 0) pa_nil)))
      (pss_cons (ps_for PassesOwn.never rfl (pi_range1 rfl T.range (pa_cons (pv 1) pa_nil)) (pg_name (i:=4) scAfter.nd rfl (Or.inl rfl)) (pss_one (ps_set (i:=3) scAfter.nd rfl (Or.inl rfl) (pe_calV 2 CA hr (pa_cons (pv 3) pa_nil)))))
      (pss_one (ps_ret (pv 3)))),?_⟩
    refine⟨_,rfl,p,rfl,h1,h2,fun l qs H1 hl0 hl1 hq1 s1=>?_⟩
    refine⟨_,rfl,n,rfl,by omega,by omega,for_range (fun i σ H2=>∃ (l:Addr) (qs:List Addr) (o:Option V),σ=[some (.int p),some (.int n),some (.ref fA),some (.ref l),o]/\H l=none/\H2 l=some (.tup (qs.map V.ref))/\TTs H2 qs (num p i)/\Same H H2)
      ⟨l,qs,none,rfl,hl0,hl1,hq1,s1⟩ ?_ ?_⟩
    · rintro i σ H2 hi ⟨l,qs,o,rfl,hl0,hl2,hq,s2⟩
      have hlen:=num_len (p:=p) (by omega) i
      have htot:=tot_mono (p:=p) h1 (show i<=n by omega)
      refine⟨rfl,_,rfl,l,qs,num p i,rfl,hl2,hq,by omega,by omega,?_,fun xs hx=>?_,fun l3 qs3 H3 h30 h3 hq3 s3=>?_⟩
      · obtain⟨a,r,e,ha,_⟩:=num_cons h1 i
        rw[e]
        exact ha
      · have:=num_le hx
        omega
      · exact⟨l3,qs3,_,rfl,s2.free h30,h3,hq3,s2.trans s3⟩
    · rintro σ H2 ⟨l,qs,o,rfl,hl0,hl2,hq,s2⟩
      refine⟨_,rfl,k l qs H2 hl0 hl2 ?_ s2⟩
      simpa using hq
theorem scNumOf:FnScope ["p","n"] ["p","n"] (defScope sNumOf):=⟨rfl,rfl,rfl,by decide +kernel,rfl,by decide +kernel,by decide +kernel⟩
theorem ok_numof {f fA fB:Addr}{fd dA dB:FuncData} (F:Fun K "numbers_of" "numbers_of" sNumOf f fd) (T:Txt mg) (CA:Cal P w K mg base 1 "next_numbers" ["numbers"] spNextN fA dA) (CB:Cal P w K mg base 2 "numbers_after" ["p","n","following"] (spAfter fA) fB dB):FnOk P w K mg base CX0 3 f fd ["p","n"] spNum:=by
  refine F.ok scNumOf (fun vs H Q E h=>?_) (fun cdv A outer s H vs Q E hr h=>?_)
  · obtain⟨p,n,rfl,_⟩:=h
    rfl
  · obtain⟨p,n,rfl,h1,h2,h3,h4,k⟩:=h
    refine⟨_,pss_one (ps_ret (pe_cal CB hr rfl (pa_cons (pv 0) (pa_cons (pv 1) (pa_cons (pe_gfn CA rfl) pa_nil))))),?_⟩
    exact⟨_,rfl,_,rfl,p,n,rfl,h1,h2,h3,h4,k⟩
theorem scLN:FnScope ["p","n"] ["p","n"] (defScope sLN):=⟨rfl,rfl,rfl,by decide +kernel,rfl,by decide +kernel,by decide +kernel⟩
theorem ok_ln {f fA fB:Addr}{fd dA dB:FuncData} (F:Fun K "level_numbers" "level_numbers" sLN f fd) (T:Txt mg) (CA:Cal P w K mg base 5 "check_places" ["p","n"] spPlaces fA dA) (CB:Cal P w K mg base 3 "numbers_of" ["p","n"] spNum fB dB):FnOk P w K mg base CX0 6 f fd ["p","n"] spNum:=by
  refine F.ok scLN (fun vs H Q E h=>?_) (fun cdv A outer s H vs Q E hr h=>?_)
  · obtain⟨p,n,rfl,_⟩:=h
    rfl
  · obtain⟨p,n,rfl,h1,h2,h3,h4,k⟩:=h
    have hr2:Room 3 _:=hr.mono (by decide)
    refine⟨_,pss_cons (ps_expr (pe_cal CA hr rfl (pa_cons (pv 0) (pa_cons (pv 1) pa_nil)))) (pss_one (ps_ret (pe_cal CB hr2 rfl (pa_cons (pv 0) (pa_cons (pv 1) pa_nil))))),?_⟩
    refine⟨_,rfl,_,rfl,p,n,rfl,h1,h2,h3,h4,fun H1 s1=>?_⟩
    exact⟨_,rfl,_,rfl,p,n,rfl,h1,h2,h3,h4,fun l qs H2 hl0 hl hq s2=>k l qs H2 (s1.free hl0) hl hq (s1.trans s2)⟩
theorem scRead:FnScope ["numbers","laying"] ["numbers","laying"] (defScope sRead):=⟨rfl,rfl,rfl,by decide +kernel,rfl,by decide +kernel,by decide +kernel⟩
theorem ok_read {f:Addr}{fd:FuncData} (F:Fun K "reading_of" "reading_of" sRead f fd) (T:Txt mg):FnOk P w K mg base CX0 1 f fd ["numbers","laying"] spRead:=by
  refine F.ok scRead (fun vs H Q E h=>?_) (fun cdv A outer s H vs Q E hr h=>?_)
  · obtain⟨a,b,qs,rs,N,B,rfl,_⟩:=h
    rfl
  · obtain⟨a,b,qs,rs,N,B,rfl,hA,hB,hq,hr,hNB,h7,hz,k⟩:=h
    have nd4:(["on_reel","reals","number","real"]:List Str).Nodup:=by decide +kernel
    refine⟨_,pss_one (ps_ret (pe_callB (call_sumI rfl) rfl T.sum b_sum (pa_cons (pe_comp2 (own:=["on_reel","reals","number","real"]) (js:=[]) (fr:=[2,3]) (CompOk.by (sc:=defScope sRead) (N:=["numbers","laying"]) rfl rfl (by decide +kernel)) rfl (pi_zipB rfl T.zip (pa_cons (pv 0) (pa_cons (pv 1) pa_nil))) (gkeepF_two (i:=0) (k:=1)) gkeepT_two
      (fun _ _ _ _ _=>pgK_tup K rfl (pgs_cons (pg_name (i:=0) nd4 rfl (Or.inl rfl) (.inr rfl)) (pgs_cons (pg_name (i:=1) nd4 rfl (Or.inl rfl) (.inr rfl)) pgs_nil))) (fun _ _ _ _ _=>pts_nil)
      (fun _ _ _ _ _=>piK_zipB K rfl T.zip (pa_cons (pv 0) (pa_cons (pv 1) pa_nil)))
      (fun _ _ _ _ _=>pgK_tup K rfl (pgs_cons (pg_name (i:=2) nd4 rfl (Or.inl rfl) (.inr rfl)) (pgs_cons (pg_name (i:=3) nd4 rfl (Or.inl rfl) (.inr rfl)) pgs_nil))) (fun _ _ _ _ _=>pts_one (pt_val (pv 3))) (fun _ _ _ _ _=>pv 2)) pa_nil))),?_⟩
    have qA:SqB false K H a (qs.map V.ref):=SqT.of hA
    have qB:SqB false K H b (rs.map V.ref):=SqT.of hB
    have hql:=hq.1
    have hrl:=hr.1
    refine⟨_,rfl,_,rfl,false,false,a,b,rfl,⟨_,qA⟩,⟨_,qB⟩,comp2_zip (xs:=qs.map V.ref) (ys:=rs.map V.ref) (by simp; omega) (fun acc i H2=>Same H H2/\H2 acc=some (.lst ((readL (N.take i) (B.take i)).map V.int))/\(readL (N.take i) (B.take i)).length<=i*4000) (fun acc h0=>⟨Same.new h0,upd_same,Nat.zero_le _⟩) (fun acc i H2 h0 _ p=>⟨p.1.tup (SqT.of hA),p.1.tup (SqT.of hB)⟩) ?_ ?_⟩
    · rintro acc i x y pa H2 h0' hx hy ⟨s2,hacc,hacl⟩ hpa
      obtain⟨q,hq',rfl⟩:=map_ref_get hx
      obtain⟨r,hr',rfl⟩:=map_ref_get hy
      have hi:i<qs.length:=(List.getElem?_eq_some_iff.mp hq').1
      have hiN:i<N.length:=by omega
      have hiB:i<B.length:=by omega
      have eN:=List.getElem?_eq_getElem hiN
      have eB:=List.getElem?_eq_getElem hiB
      obtain⟨hl,hl4⟩:=hz i _ _ eN eB
      have s3:=s2.trans (Same.new (o:=.tup [V.ref q,.ref r]) hpa)
      have hq3:=s3 q _ (hq.2 i q _ hq' eN)
      have hr3:=s3 r _ (hr.2 i r _ hr' eB)
      have hacc3:=(Same.new (o:=.tup [V.ref q,.ref r]) hpa) acc _ hacc
      have hp3:(upd H2 pa (.tup [V.ref q,.ref r])) pa=some (.tup [V.ref q,.ref r]):=upd_same
      generalize (upd H2 pa (.tup [V.ref q,.ref r]))=H3 at s3 hq3 hr3 hacc3 hp3 ⊢
      refine⟨pa,_,rfl,SqT.of hp3,rfl,_,_,rfl,_,_,rfl,rfl,?_⟩
      have q1:SqB false K H3 q ((N[i]).map V.int):=SqT.of hq3
      have q2:SqB false K H3 r ((B[i]).map V.bl):=SqT.of hr3
      refine⟨_,rfl,_,rfl,false,false,q,r,rfl,⟨_,q1⟩,⟨_,q2⟩,?_⟩
      have hqa:q≠acc:=by intro z; subst z; rw[hacc3] at hq3; cases hq3
      have hra:r≠acc:=by intro z; subst z; rw[hacc3] at hr3; cases hr3
      refine in_zip (xs:=(N[i]).map V.int) (ys:=(B[i]).map V.bl) (by simp; omega) (fun m H4=>Sm acc H3 H4/\H4 acc=some (.lst ((readL (N.take i) (B.take i)++selK N[i] B[i] m).map V.int))) ⟨Sm.refl _ _,by rw[hacc3]; simp[selK]⟩ (fun m H4 _ p=>⟨SqT.of (p.1 q _ hq3 hqa),SqT.of (p.1 r _ hr3 hra)⟩) ?_ ?_
      · rintro m x y pb H4 hx hy ⟨s4,hac4⟩ hpb
        obtain⟨x',hx',rfl⟩:=map_get hx
        have hm:=(List.getElem?_eq_some_iff.mp hx').1
        obtain⟨y',hy',rfl⟩:∃ y',(B[i])[m]?=some y'/\y=.bl y':=by
          rw[List.getElem?_map] at hy
          cases e:(B[i])[m]? with
          | none=>rw[e] at hy; cases hy
          | some v=>rw[e] at hy; exact⟨v,rfl,(Option.some.inj hy).symm⟩
        have hac5:=(Same.new (o:=.tup [V.int x',.bl y']) hpb) acc _ hac4
        have es:=selK_succ hx' hy'
        refine⟨pb,_,rfl,SqT.of upd_same,rfl,_,_,rfl,_,_,rfl,rfl,_,rfl,y',rfl,?_⟩
        cases y' with
        | true=>
          refine iteT ⟨_,rfl,_,hac5,?_,by rw[List.length_map]; exact hm,(s4.trans (Sm.new hpb)).trans Sm.put,?_⟩
          · rw[List.length_map,List.length_append]
            have:=selK_len N[i] B[i] m
            have hsl:(40000:Nat)<sizeLine:=by rw[sizeLine_eq]; decide
            have:i*4000<=7*4000:=Nat.mul_le_mul_right _ (by omega)
            omega
          · rw[upd_same,es]
            simp
        | false=>
          refine iteF ⟨by rw[List.length_map]; exact hm,s4.trans (Sm.new hpb),?_⟩
          rw[hac5,es]
          simp
      · rintro H4 ⟨s4,hac4⟩
        have et:=take_readL eN eB
        rw[List.length_map,selK_all hl,<- et] at hac4
        refine⟨by rw[List.length_map]; exact hi,Sm.after s3 s4 h0',hac4,?_⟩
        rw[et,List.length_append]
        have h1:=selK_len N[i] B[i] N[i].length
        rw[selK_all hl] at h1
        rw[Nat.add_mul]
        omega
    · rintro acc H2 h0 ⟨s2,hacc,_⟩
      refine⟨acc,_,rfl,SqL.of hacc,?_⟩
      rw[List.length_map,hql,List.take_length,hNB,List.take_length,readL_sum]
      exact k H2 s2
theorem scTupOf:FnScope ["thing","many"] ["thing","many"] (defScope sTupOf):=⟨rfl,rfl,rfl,by decide +kernel,rfl,by decide +kernel,by decide +kernel⟩
theorem ok_tupof {f:Addr}{fd:FuncData} (F:Fun K "is_tuple_of" "is_tuple_of" sTupOf f fd) (T:Txt mg):FnOk P w K mg base CX0 1 f fd ["thing","many"] spTupOf:=by
  refine F.ok scTupOf (fun vs H Q E h=>?_) (fun cdv A outer s H vs Q E hr h=>?_)
  · obtain⟨a,xs,n,rfl,_⟩:=h
    rfl
  · obtain⟨a,xs,n,rfl,hA,hn,k⟩:=h
    refine⟨_,pss_one (ps_ret (pe_and (pe_callB call_isinst rfl T.isinstance b_isinstance (pa_cons (pv 0) (pa_cons (pe_ty rfl T.tuple b_tuple) pa_nil))) (pe_one (pe_cmpR op_eq (pe_callB call_len_seq rfl T.len PySem.boot_len (pa_cons (pv 0) pa_nil)) (pv 1) (nomark _))))),?_⟩
    refine⟨_,rfl,.ref a,"tuple",_,true,rfl,.tup hA,kit_tuple_tuple,true,rfl,iteT ⟨_,rfl,a,_,rfl,.inr (SqT.of hA),_,rfl,rfl,?_⟩⟩
    rw[hn]
    simpa using k
end
end Fl52
namespace L2
open PySem PySem.Spec PyProof.Rows PySem.SeqAt
theorem for_zip {b1 b2 : Bool} {K : PySem.W.Frag} {a b : Addr} {xs ys : List V} {g : TG} {tb : TS} {D : Ends} {σ : St} {H : Hp} (hlen : xs.length ≤ ys.length) (Pv : Nat → St → Hp → Prop) (h0 : Pv 0 σ H)
    (hl:∀ i σ H,i<=xs.length->Pv i σ H->SqB b1 K H a xs/\SqB b2 K H b ys)
    (hs:∀ i x y p σ H,xs[i]?=some x->ys[i]?=some y->Pv i σ H->H p=none->g (.ref p) σ (upd H p (.tup [x,y])) fun σ2 H2=>tb { D with nx:=Pv (i+1),ct:=Pv (i+1),bk:=D.nx } σ2 H2) (hd:∀ σ H,Pv xs.length σ H->D.nx σ H) :
    ∃ W:Nat->Nat->St->Hp->Prop,(∃ m,W 0 m σ H)/\∀ i m σ H,W i m σ H ->
      ((ItzB b1 b2 K a b).stop i H/\D.nx σ H)∨((ItzB b1 b2 K a b).go i H/\∃ N:St->Hp->Prop,(∀ σ' H',N σ' H'->∃ m',m'<m/\W (i+1) m' σ' H')/\∀ x H',(ItzB b1 b2 K a b).yld i H x H'->g x σ H' fun σ2 H2=>tb { D with nx:=N,ct:=N,bk:=D.nx } σ2 H2):=by
  refine⟨fun i m σ H=>m=xs.length - i/\i<=xs.length/\Pv i σ H,⟨xs.length,by simp,Nat.zero_le _,h0⟩,?_⟩
  rintro i m σ H ⟨rfl,hi,p⟩
  obtain⟨q1,q2⟩:=hl i σ H hi p
  by_cases hlt:i<xs.length
  · have gx:xs[i]?=some xs[i]:=List.getElem?_eq_getElem hlt
    have gy:ys[i]?=some ys[i]:=List.getElem?_eq_getElem (by omega)
    refine .inr ⟨⟨xs,ys,xs[i],ys[i],q1,q2,gx,gy⟩,Pv (i+1),fun σ' H' z=>⟨xs.length - (i+1),by omega,rfl,hlt,z⟩,fun x H' y=>?_⟩
    obtain⟨pa,z,z',hp,e1,e2,y1,y2⟩:=y
    subst e1 e2
    exact hs i z z' pa σ H (y1 xs q1) (y2 ys q2) p hp
  · obtain rfl:i=xs.length:=by omega
    exact .inl ⟨⟨xs,ys,q1,q2,.inl (Nat.le_refl _)⟩,hd σ H p⟩
end L2
namespace Fl52
open PySem L2 Lv
section
variable {P:Program}{w:World}{K:PySem.W.Frag}{mg:Str->Option Value}{base:Heap}
theorem scLot52:FnScope ["pot","far","many"] ["pot","far","many"] (defScope sLot52):=⟨rfl,rfl,rfl,by decide +kernel,rfl,by decide +kernel,by decide +kernel⟩
def spLot52:Sp:=fun vs H Q _=>∃ (p:Addr) (far many c:Int),vs=[.ref p,.int far,.int many]/\PotC H p c/\c<=900000000/\0<far/\far<=1000/\0<many/\many<=1000/\∀ l (xs:List Int) H' c',H l=none->H' l=some (.lst (xs.map V.int))->(xs.length:Int)<many->xs.Pairwise (·<=·)->c'<=c+many->PotC H' p c'->Sm p H H'->Q (.ref l) H'
theorem ok_lot52 {f f1:Addr}{fd d1:FuncData} (F:Fun K "_law_lot" "_law_lot" sLot52 f fd) (T:Txt mg) (CK:Cal P w K mg base 1 "_law_take" ["pot","size"] spTakeC f1 d1):FnOk P w K mg base CX0 2 f fd ["pot","far","many"] spLot52:=by
  refine F.ok scLot52 (fun vs H Q E h=>?_) (fun cdv A outer s H vs Q E hr h=>?_)
  · obtain⟨p,far,many,c,rfl,_⟩:=h
    rfl
  · obtain⟨p,far,many,c,rfl,hP,hc,f0,f1,m0,m1,k⟩:=h
    have hr1:Room 1 _:=hr.mono (by decide)
    refine⟨_,(pss_one (ps_ret (pe_callB call_sortA rfl T.sorted b_sorted (pa_cons (pe_comp (own:=["turn"]) (js:=[0,1]) (CompOk.by (sc:=defScope sLot52) (N:=["pot","far","many"]) rfl rfl (by decide +kernel)) rfl (pi_range1 rfl T.range (pa_cons (pe_cal CK hr1 rfl (pa_cons (pv 0) (pa_cons (pv 2) pa_nil))) pa_nil)) gkeep_name (fun _ _ _ _ _=>(pg_name (i:=0) (by show (["turn","pot","far"]:List Str).Nodup; decide +kernel) rfl (Or.inl rfl) (.inr rfl))) (fun _ _ _ _ _=>pts_nil) (fun _ _ _ _ _=>(pe_cal CK hr1 rfl (pa_cons (pv 1) (pa_cons (pv 2) pa_nil))))) pa_nil)))),?_⟩
    refine⟨_,rfl,_,rfl,p,many,c,rfl,hP,by omega,by omega,bits_small (by omega) (by omega),fun d H2 d0 d1 hP2 sm2=>?_⟩
    obtain⟨d,rfl⟩:∃ m:Nat,d=(m:Int):=⟨d.toNat,by omega⟩
    refine⟨_,rfl,by omega,by omega,?_⟩
    rw[show ((d:Nat):Int).toNat=d by omega]
    refine comp_potC (M:=far) (per:=1) hP2 (by omega) (fun i Hx cx hi hcx hPx smx R hR=>?_) fun acc ns Hx cx hap h0 hacc hnl hnb hPx hcx smx=>?_
    · exact⟨_,rfl,_,rfl,p,far,cx,rfl,hPx,by omega,by omega,bits_small (by omega) (by omega),fun x H3 x1 x2 hP3 sm3=>hR x H3 (cx+1) x1 x2 (by omega) hP3 sm3⟩
    · refine⟨acc,ns,rfl,SqL.of hacc,fun l ms hl hpm hup=>?_⟩
      have hlp:l≠p:=hPx.ne hl
      have sm:=sm2.trans smx
      exact k l ms _ cx (sm.free hlp hl) upd_same (by rw[hpm.length_eq]; omega) hup (by omega) (hPx.put hl) (sm.trans (Sm.new hl))
theorem scPlc52:FnScope ["numbers","laying","found","reel","reals"] ["numbers","laying"] (defScope sPlc52):=⟨rfl,rfl,rfl,by decide +kernel,rfl,by decide +kernel,by decide +kernel⟩
theorem readL_take {N:List (List Int)}{B:List (List Bool)}{i:Nat}{x:List Int}{b:List Bool} (hx:N[i]?=some x) (hb:B[i]?=some b):readL (N.take (i+1)) (B.take (i+1))=readL (N.take i) (B.take i)++sel x b:=by
  unfold readL
  have h1:=(List.getElem?_eq_some_iff.mp hx).1
  have h2:=(List.getElem?_eq_some_iff.mp hb).1
  rw[List.take_add_one,List.take_add_one,hx,hb,Option.toList_some,Option.toList_some,List.zipWith_append (by rw[List.length_take,List.length_take]; omega),List.flatten_append]
  simp
def spPlc52:Sp:=fun vs H Q _=>∃ (a b:Addr) (rs:List Addr) (N:List (List Int)) (B:List (List Bool)),vs=[.ref a,.ref b]/\H a=some (.tup (rs.map V.ref))/\TTs H rs N/\Lay H b B/\N.map List.length=B.map List.length/\N.length<=7/\(∀ xs∈N,xs.length<=4000)/\∀ l H',H l=none->H' l=some (.lst ((readL N B).map V.int))->Same H H'->Q (.ref l) H'
theorem ok_plc52 {f:Addr}{fd:FuncData} (F:Fun K "_law_places" "_law_places" sPlc52 f fd) (T:Txt mg):FnOk P w K mg base CX0 1 f fd ["numbers","laying"] spPlc52:=by
  refine F.ok scPlc52 (fun vs H Q E h=>?_) (fun cdv A outer s H vs Q E hr h=>?_)
  · obtain⟨a,b,rs,N,B,rfl,_⟩:=h
    rfl
  · obtain⟨a,b,rs,N,B,rfl,hA,hN,hB,hNB,h7,h4,k⟩:=h
    refine⟨_,(pss_cons (ps_set (i:=2) scPlc52.nd rfl (Or.inl rfl) (pe_lst pa_nil))
      (pss_cons (ps_for PassesOwn.never rfl (pi_zipB rfl T.zip (pa_cons (pv 0) (pa_cons (pv 1) pa_nil))) (pg_tup rfl (pgs_cons (pg_name (i:=3) scPlc52.nd rfl (Or.inl rfl)) (pgs_cons (pg_name (i:=4) scPlc52.nd rfl (Or.inl rfl)) pgs_nil)))
      (pss_one (ps_expr (pe_bm PySem.F.plainAttrs_list PySem.F.slot_list_extend PySem.F.type_list_extend mt_extend (pv 2) (pa_cons (pe_comp (own:=["number","real"]) (js:=[]) (CompOk.by (sc:=defScope sPlc52) (N:=["numbers","laying","found","reel","reals"]) rfl rfl (by decide +kernel)) rfl (pi_zipB rfl T.zip (pa_cons (pv 3) (pa_cons (pv 4) pa_nil))) (gkeep_two (i:=0) (k:=1) (K:=K)) (fun _ _ _ _ _=>(pgK_tup K rfl (pgs_cons (pg_name (i:=0) (by show (["number","real"]:List Str).Nodup; decide +kernel) rfl (Or.inl rfl) (.inr rfl)) (pgs_cons (pg_name (i:=1) (by show (["number","real"]:List Str).Nodup; decide +kernel) rfl (Or.inl rfl) (.inr rfl)) pgs_nil)))) (fun _ _ _ _ _=>(pts_one (pt_val (pv 1)))) (fun _ _ _ _ _=>(pv 0))) pa_nil)))))
      (pss_one (ps_ret (pv 2))))),?_⟩
    obtain⟨ts,hB1,hB2⟩:=hB
    refine⟨Nat.zero_le _,fun fl nfl=>?_⟩
    have s1:Same H (upd H fl (.lst [])):=Same.new nfl
    have e1:upd H fl (.lst []) fl=some (.lst (([]:List Int).map V.int)):=upd_same
    have hA1:=s1 _ _ hA
    have hB11:=s1 _ _ hB1
    generalize upd H fl (.lst [])=H1 at s1 e1 hA1 hB11 ⊢
    have hl:rs.length=ts.length:=by
      have:=congrArg List.length hNB
      rw[List.length_map,List.length_map] at this
      rw[hN.1,hB2.1,this]
    have qA:SqB false K H1 a (rs.map V.ref):=SqT.of hA1
    have qB:SqB false K H1 b (ts.map V.ref):=SqT.of hB11
    refine⟨_,rfl,_,rfl,false,false,a,b,rfl,⟨_,qA⟩,⟨_,qB⟩,for_zip (xs:=rs.map V.ref) (ys:=ts.map V.ref) (by simp; omega) (fun i σ Hx=>∃ o3 o4:Option V,σ=[some (.ref a),some (.ref b),some (.ref fl),o3,o4]/\Hx fl=some (.lst ((readL (N.take i) (B.take i)).map V.int))/\(readL (N.take i) (B.take i)).length<=i*4000/\Same H Hx) ⟨_,_,rfl,e1,Nat.zero_le _,s1⟩ (fun i σ Hx _ ⟨_,_,_,_,_,sx⟩=>⟨SqT.of (sx _ _ hA),SqT.of (sx _ _ hB1)⟩) ?_ ?_⟩
    · rintro i x y pa σ Hx hx hy ⟨o3,o4,rfl,hfl,hfz,sx⟩ hpa
      obtain⟨q,hq',rfl⟩:=map_ref_get hx
      obtain⟨r,hr',rfl⟩:=map_ref_get hy
      have hi:i<rs.length:=(List.getElem?_eq_some_iff.mp hq').1
      have hiN:i<N.length:=by rw[<- hN.1]; exact hi
      have hiB:i<B.length:=by rw[<- hB2.1,<- hl]; exact hi
      have eN:=List.getElem?_eq_getElem hiN
      have eB:=List.getElem?_eq_getElem hiB
      have s3:=sx.trans (Same.new (o:=.tup [V.ref q,.ref r]) hpa)
      have hq3:=s3 q _ (hN.2 i q _ hq' eN)
      have hr3:=s3 r _ (hB2.2 i r _ hr' eB)
      have hfl3:=(Same.new (o:=.tup [V.ref q,.ref r]) hpa) fl _ hfl
      have hp3:(upd Hx pa (.tup [V.ref q,.ref r])) pa=some (.tup [V.ref q,.ref r]):=upd_same
      generalize (upd Hx pa (.tup [V.ref q,.ref r]))=H3 at s3 hq3 hr3 hfl3 hp3 ⊢
      have hll:N[i].length=B[i].length:=by
        have h1:=congrArg (·[i]?) hNB
        simp only[List.getElem?_map,eN,eB,Option.map_some] at h1
        exact Option.some.inj h1
      have q1:SqB false K H3 q ((N[i]).map V.int):=SqT.of hq3
      have q2:SqB false K H3 r ((B[i]).map V.bl):=SqT.of hr3
      refine⟨pa,_,rfl,SqT.of hp3,rfl,_,_,rfl,_,_,rfl,rfl,?_⟩
      refine⟨_,rfl,.inl ⟨rfl,_,SqL.of hfl3⟩,_,rfl,_,rfl,false,false,q,r,rfl,⟨_,q1⟩,⟨_,q2⟩,?_⟩
      refine comp_zip (xs:=(N[i]).map V.int) (ys:=(B[i]).map V.bl) (by simp; omega) (fun acc m H4=>H4 acc=some (.lst ((selK N[i] B[i] m).map V.int))/\Same H3 H4) (fun acc h0=>⟨upd_same,Same.new h0⟩) (fun acc m H4 _ _ p=>⟨SqT.of (p.2 _ _ hq3),SqT.of (p.2 _ _ hr3)⟩) ?_ ?_
      · rintro acc m x y pb H4 h0 hx hy ⟨hac4,s4⟩ hpb
        obtain⟨x',hx',rfl⟩:=map_get hx
        have hm:=(List.getElem?_eq_some_iff.mp hx').1
        obtain⟨y',hy',rfl⟩:∃ y',(B[i])[m]?=some y'/\y=.bl y':=by
          rw[List.getElem?_map] at hy
          cases z:(B[i])[m]? with
          | none=>rw[z] at hy; cases hy
          | some u=>rw[z] at hy; cases hy; exact⟨u,rfl,rfl⟩
        have s5:Same H4 (upd H4 pb (.tup [V.int x',.bl y'])):=Same.new hpb
        have hp5:(upd H4 pb (.tup [V.int x',.bl y'])) pb=some (.tup [V.int x',.bl y']):=upd_same
        generalize (upd H4 pb (.tup [V.int x',.bl y']))=H5 at s5 hp5 ⊢
        refine⟨pb,_,rfl,SqT.of hp5,rfl,_,_,rfl,_,_,rfl,rfl,?_⟩
        have hsz:((selK N[i] B[i] m).map V.int).length<sizeLine:=by
          rw[List.length_map]
          have h1:=selK_len N[i] B[i] m
          have h2:=h4 N[i] (List.getElem_mem hiN)
          exact small8000 (by omega)
        have hml:m+1<=((N[i]).map V.int).length:=by rw[List.length_map]; exact hm
        refine⟨_,rfl,_,rfl,?_⟩
        cases y' with
        | true=>
          refine iteT ⟨_,rfl,_,s5 _ _ hac4,hsz,hml,?_,(s4.trans s5).put h0⟩
          rw[upd_same,selK_succ hx' hy',List.map_append]
          rfl
        | false=>
          refine iteF ⟨hml,?_,s4.trans s5⟩
          rw[selK_succ hx' hy']
          simpa using s5 _ _ hac4
      · rintro acc H4 h0 ⟨hac4,s4⟩
        rw[List.length_map,selK_all hll] at hac4
        have hzl:(sel N[i] B[i]).length<=4000:=by
          have h1:=selK_len N[i] B[i] N[i].length
          rw[selK_all hll] at h1
          have h2:=h4 N[i] (List.getElem_mem hiN)
          omega
        have hi7:i<7:=by omega
        refine⟨fl,acc,_,_,rfl,rfl,s4 _ _ hfl3,hac4,?_,_,_,rfl,?_,?_,((s3.trans s4).put nfl)⟩
        · rw[List.length_map,List.length_map,sizeLine_eq]
          omega
        · rw[upd_same,readL_take eN eB,List.map_append]
        · rw[readL_take eN eB,List.length_append]
          omega
    · rintro σ Hx ⟨o3,o4,rfl,hfl,_,sx⟩
      rw[List.length_map,hN.1,List.take_length,show N.length=B.length by rw[<- hB2.1,<- hl,hN.1],List.take_length] at hfl
      exact⟨_,rfl,k fl _ nfl hfl sx⟩
end
end Fl52
namespace Fl52
open PySem L2 Lv
section
variable {P:Program}{w:World}{K:PySem.W.Frag}{mg:Str->Option Value}{base:Heap}
theorem scLPh:FnScope ["p","n","greatest","counts","level"] ["p","n"] (defScope sLPh):=⟨rfl,rfl,rfl,by decide +kernel,rfl,by decide +kernel,by decide +kernel⟩
def spLPh:Sp:=fun vs H Q _=>∃ p n:Nat,vs=[.int p,.int n]/\2<=p/\p<=7/\n<=300/\∀ (l:Addr) (qs:List Addr) H',H l=none->H' l=some (.lst (qs.map V.ref))->(∀ q∈qs,q≠l)->TuM H' qs (phs p n n)->Same H H'->Q (.ref l) H'
theorem ok_lph {f f1 f2 f3 f4:Addr}{fd d1 d2 d3 d4:FuncData} (F:Fun K "level_phases" "level_phases" sLPh f fd) (T:Txt mg) (Te:mg "enumerate"=none) (CW:Cal P w K mg base 2 "check_ways" ["p"] spWays f1 d1) (CV:CalD P w K mg base 2 "check_level" ["n","last"] [.int 300] spLevelD f2 d2) (CA:Cal P w K mg base 1 "first_counts" ["p"] spFirst f3 d3) (CN:Cal P w K mg base 1 "next_counts" ["counts"] (spNext K) f4 d4):FnOk P w K mg base CX0 3 f fd ["p","n"] spLPh:=by
  refine F.ok scLPh (fun vs H Q E h=>?_) (fun cdv A outer s H vs Q E hr2 h=>?_)
  · obtain⟨p,n,rfl,_⟩:=h
    rfl
  · obtain⟨p,n,rfl,h2,h7,h3,k⟩:=h
    have hr1:Room 1 _:=hr2.mono (by decide)
    refine⟨_,(pss_cons (ps_expr (pe_cal CW hr2 rfl (pa_cons (pv 0) pa_nil)))
      (pss_cons (ps_expr (pe_calD CV hr2 rfl (pa_cons (pv 1) pa_nil)))
      (pss_cons (ps_set (i:=2) scLPh.nd rfl (Or.inl rfl) (pe_lst pa_nil))
      (pss_cons (ps_set (i:=3) scLPh.nd rfl (Or.inl rfl) (pe_cal CA hr1 rfl (pa_cons (pv 0) pa_nil)))
      (pss_cons (ps_for PassesOwn.never rfl (pi_range1 rfl T.range (pa_cons (pv 1) pa_nil)) (pg_name (i:=4) scLPh.nd rfl (Or.inl rfl))
      (pss_cons (ps_expr (pe_bm PySem.F.plainAttrs_list PySem.F.slot_list_append PySem.F.type_list_append mt_append (pv 2) (pa_cons (pe_ix ix_tup (pv 3) pe_int (fun _ _=>rfl)) pa_nil)))
        (pss_one (ps_set (i:=3) scLPh.nd rfl (Or.inl rfl) (pe_cal CN hr1 rfl (pa_cons (pv 3) pa_nil))))))
      (pss_one (ps_ret (pe_comp (own:=["at","many"]) (js:=[0]) (CompOk.by (sc:=defScope sLPh) (N:=["p","n","greatest","counts","level"]) rfl rfl (by decide +kernel)) rfl (pi_enumB rfl Te (pa_cons (pe_rev (pv 2) (po_some (pe_un un_neg pe_int))) pa_nil)) (gkeep_two (i:=0) (k:=1) (K:=K)) (fun _ _ _ _ _=>(pgK_tup K rfl (pgs_cons (pg_name (i:=0) (by show (["at","many","p"]:List Str).Nodup; decide +kernel) rfl (Or.inl rfl) (.inr rfl)) (pgs_cons (pg_name (i:=1) (by show (["at","many","p"]:List Str).Nodup; decide +kernel) rfl (Or.inl rfl) (.inr rfl)) pgs_nil)))) (fun _ _ _ _ _=>pts_nil) (fun _ _ _ _ _=>(pe_tup (pa_cons (pe_op op_mod (pe_op op_sub (pv 2) (pv 0)) (pe_op op_add (pv 2) pe_int)) (pa_cons (pv 1) pa_nil)))))))))))),?_⟩
    have hzz:1000<sizeLine:=by decide
    refine⟨_,rfl,p,rfl,by omega,by omega,_,rfl,n,300,rfl,by omega,by omega,Nat.zero_le _,fun gl ngl=>?_⟩
    have s0:Same H (upd H gl (.lst [])):=Same.new ngl
    refine⟨_,rfl,p,rfl,h2,h7,fun l H1 hl0 hl1 s1=>?_⟩
    refine⟨_,rfl,n,rfl,by omega,by omega,for_range (fun i σ Hx=>∃ (l:Addr) (o4:Option V),σ=[some (.int p),some (.int n),some (.ref gl),some (.ref l),o4]/\Hx gl=some (.lst (((List.range i).map fun t=>hd p t).map V.int))/\Hx l=some (.tup ((cnt p i).map V.int))/\Same H Hx)
      ⟨l,none,rfl,s1 _ _ upd_same,hl1,s0.trans s1⟩ ?_ ?_⟩
    · rintro i σ Hx hi ⟨l,o4,rfl,hgl,hl,sx⟩
      have hlen:=cnt_len (p:=p) (by omega) i
      refine⟨_,rfl,.inl ⟨rfl,_,SqL.of hgl⟩,_,rfl,l,_,0,.int (hd p i),rfl,rfl,SqT.of hl,?_,gl,_,_,rfl,rfl,hgl,by rw[List.length_map,List.length_map,List.length_range]; omega,?_⟩
      · obtain⟨x,y,r,e,_⟩:=cnt_cons h2 i
        unfold hd
        rw[e]
        exact atI_nat (j:=0) rfl
      have hlg:l≠gl:=fun z=>by rw[z,hgl] at hl; cases hl
      have hl2:upd Hx gl (.lst (((List.range i).map fun t=>hd p t).map V.int++[.int (hd p i)])) l=some (.tup ((cnt p i).map V.int)):=by rw[upd_ne hlg]; exact hl
      refine⟨_,rfl,l,cnt p i,rfl,SqT.of hl2,by omega,by omega,fun l3 H3 h30 h3' s3=>?_⟩
      refine⟨l3,_,rfl,s3 _ _ ?_,h3',(sx.put ngl).trans s3⟩
      rw[upd_same,List.range_succ,List.map_append,List.map_append]
      rfl
    · rintro σ Hx ⟨l,o4,rfl,hgl,hl,sx⟩
      rw[Int.toNat_natCast] at hgl
      refine⟨_,rfl,1,rfl,_,rfl,rfl,gl,_,rfl,SqL.of hgl,fun q hq=>?_⟩
      have hglq:Same Hx (upd Hx q (.lst ((((List.range n).map fun t=>hd p t).map V.int).reverse))):=Same.new hq
      have hqq:upd Hx q (.lst ((((List.range n).map fun t=>hd p t).map V.int).reverse)) q=some (.lst ((((List.range n).map fun t=>hd p t).map V.int).reverse)):=upd_same
      generalize upd Hx q (.lst ((((List.range n).map fun t=>hd p t).map V.int).reverse))=H5 at hglq hqq ⊢
      refine⟨q,true,rfl,⟨_,SqL.of hqq⟩,?_⟩
      have hrl:((((List.range n).map fun t=>hd p t).map V.int).reverse).length=n:=by simp
      refine comp_enumB (b:=true) (xs:=(((List.range n).map fun t=>hd p t).map V.int).reverse) (fun acc i H2=>Same H5 H2/\∃ ps,H2 acc=some (.lst (ps.map V.ref))/\(∀ p∈ps,p≠acc)/\TuM H2 ps (phs p n i)) (fun acc h0=>⟨Same.new h0,[],upd_same,(fun p hp=>nomatch hp),TuM.nil⟩) (fun acc i H2 h0 _ p=>SqL.of (p.1 _ _ hqq)) ?_ ?_
      · rintro acc i x u H2 h0 hx ⟨s2,ps,hacc,hne,hpr⟩ hu
        have hi:i<n:=by have:=(List.getElem?_eq_some_iff.mp hx).1; rwa [hrl] at this
        obtain rfl:x=.int (hd p (n - 1 - i)):=by
          rw[List.getElem?_reverse (by simpa using hi)] at hx
          simp only[List.length_map,List.length_range] at hx
          rw[List.getElem?_map,List.getElem?_map,List.getElem?_range (by omega)] at hx
          exact (Option.some.inj hx).symm
        have s3:Same H2 (upd H2 u (.tup [.int i,.int (hd p (n - 1 - i))])):=Same.new hu
        have hu3:upd H2 u (.tup [.int i,.int (hd p (n - 1 - i))]) u=some (.tup [.int i,.int (hd p (n - 1 - i))]):=upd_same
        generalize upd H2 u (.tup [.int i,.int (hd p (n - 1 - i))])=H3 at s3 hu3 ⊢
        have hpl:ps.length=i:=by rw[hpr.len,phs_len]
        refine⟨u,_,rfl,SqT.of hu3,rfl,_,_,rfl,_,_,rfl,rfl,?_⟩
        refine⟨_,rfl,_,rfl,_,_,rfl,rfl,_,rfl,_,_,rfl,rfl,_,_,rfl,rfl,(by show (0:Int)<(p:Int)+1; omega),_,rfl,(by show 2<=sizeLine; decide),fun t ht=>?_⟩
        have hacc3:=s3 _ _ hacc
        have hta:t≠acc:=Ne.symm (ne_of_none hacc3 ht)
        have s45:Same H3 (upd H3 t (.tup [.int (((p:Int) - (i:Int)) % ((p:Int)+1)),.int (hd p (n - 1 - i))])):=Same.new ht
        have ht5:upd H3 t (.tup [.int (((p:Int) - (i:Int)) % ((p:Int)+1)),.int (hd p (n - 1 - i))]) t=some (.tup (([phO p i,hd p (n - 1 - i)]:List Int).map V.int)):=upd_same
        generalize upd H3 t (.tup [.int (((p:Int) - (i:Int)) % ((p:Int)+1)),.int (hd p (n - 1 - i))])=H6 at s45 ht5 ⊢
        refine⟨_,s45 _ _ hacc3,by rw[List.length_map]; omega,by rw[hrl]; exact hi,(s2.trans (s3.trans s45)).put h0,ps++[t],by rw[upd_same,List.map_append]; rfl,fun p hp=>?_,?_⟩
        · rcases List.mem_append.mp hp with hp | hp
          · exact hne p hp
          · rw[List.mem_singleton.mp hp]; exact hta
        · have:=(hpr.same (s3.trans s45)).snoc ht5 (by simp)
          refine this.keep fun p hp=>upd_ne ?_
          rcases List.mem_append.mp hp with hp | hp
          · exact hne p hp
          · rw[List.mem_singleton.mp hp]; exact hta
      · rintro acc H2 h0 ⟨s2,ps,hacc,hne,hpr⟩
        rw[hrl] at hpr
        exact k acc ps H2 ((sx.trans hglq).free h0) hacc hne hpr (sx.trans (hglq.trans s2))
end
end Fl52
namespace Lv
open PySem L2
end Lv
namespace Lv
open PySem L2
def lastR (r:List (List Int)):List Int:=r.getLastD []
def wr (L:List (List (List Int))):List Int:=(L.map lastR).flatten
end Lv
namespace Lv
open PySem L2
end Lv
namespace Fl52
open PySem L2 Lv
section
variable {P:Program}{w:World}{K:PySem.W.Frag}{mg:Str->Option Value}{base:Heap}
theorem scRt52:FnScope ["p","n","laying","rows","numbers","things","row","reels","read","left","reel","places","due"] ["p","n","laying","rows","numbers"] (defScope sRt52):=⟨rfl,rfl,rfl,by decide +kernel,rfl,by decide +kernel,by decide +kernel⟩
theorem callK_sumI (K:PySem.W.Frag) {X:Cx} (hc:X.calm=true) (hK:X.K=K:=by rfl):CallR X (.builtin "sum") (fun xs H Q=>∃ (a:Addr) (ns:List Int),xs=[.ref a]/\SqL K H a (ns.map V.int)/\Q (.int ns.sum) H):=by subst hK; exact call_sumI hc
theorem rdR_len:∀ (ps:List (Int × Int)) (D:List Rows),(rdR D ps).length=ps.length
  | [],_=>rfl
  | (o,m)::ps,D=>by rw[rdR,List.length_cons,rdR_len ps,List.length_cons]
theorem lens52 {p n:Nat}{B:List (List Bool)} (h:lensB B=cnt p n):(num p n).map List.length=B.map List.length:=by
  have h:=h.trans (lens_num p n).symm
  unfold lensB lens at h
  have:∀ (X:List (List Bool)) (Y:List (List Int)),X.map (fun b=>(b.length:Int))=Y.map (fun l=>(l.length:Int))->Y.map List.length=X.map List.length:=fun X=>by
    induction X with
    | nil=>intro Y h; cases Y with
      | nil=>rfl
      | cons y Y=>simp at h
    | cons x X ih=>intro Y h; cases Y with
      | nil=>simp at h
      | cons y Y=>
        rw[List.map_cons,List.map_cons,List.cons.injEq] at h
        rw[List.map_cons,List.map_cons,ih Y h.2]
        congr 1
        omega
  exact this B _ h
theorem len52 {p n:Nat}{B:List (List Bool)} (hp:2<=p) (h:lensB B=cnt p n):B.length=p:=by
  have h1:=congrArg List.length (lens52 h)
  rw[List.length_map,List.length_map,num_len (by omega)] at h1
  exact h1.symm
theorem le52 {p n:Nat}{B:List (List Bool)} (h:lensB B=cnt p n) (h4:tot p n<=4000):∀ b∈B,b.length<=15000:=fun b hb=>by
  have:b.length∈(num p n).map List.length:=by rw[lens52 h]; exact List.mem_map.mpr ⟨b,hb,rfl⟩
  obtain⟨xs,hx,e⟩:=List.mem_map.mp this
  have:=num_le hx
  omega
theorem ttu52 {H:Hp}{qs:List Addr}{p n:Nat} (h:TuM H qs (phs p n n)):TTs H qs ((phL p 0 n).map prT):=by
  rw[phs_all] at h
  refine⟨h.len,fun j r xs a b=>?_⟩
  obtain⟨k,e1,e2⟩:=h.at a
  rw[b] at e1
  cases e1
  exact e2
theorem ne52 {T:List Reel}{D:List Rows} (h:datT T=D++[[]]):T≠[]:=fun z=>by
  rw[z] at h
  have:=congrArg List.length h
  simp[datT] at this
theorem wS_take {rows:List (List Int)}{ns:List Int}{i:Nat}{r:List Int}{y:Int} (h1:rows[i]?=some r) (h2:ns[i]?=some y):wS (rows.take (i+1)) (ns.take (i+1))=wS (rows.take i) (ns.take i)++[(r.length:Int)*y]:=by
  have e1:=(List.getElem?_eq_some_iff.mp h1).1
  have e2:=(List.getElem?_eq_some_iff.mp h2).1
  unfold wS
  rw[List.take_add_one,List.take_add_one,h1,h2,Option.toList_some,Option.toList_some,List.zipWith_append (by rw[List.length_take,List.length_take]; omega)]
  rfl
theorem cnt52 {p n:Nat}{B:List (List Bool)} (h:lensB B=cnt p n):(cntT B:Int)<=tot p n:=by
  unfold tot
  rw[<- h]
  have:∀ B:List (List Bool),(cntT B:Int)<=(lensB B).sum:=fun B=>by
    induction B with
    | nil=>simp[cntT,lensB]
    | cons b B ih=>
      unfold cntT lensB at *
      rw[List.map_cons,List.sum_cons,List.map_cons,List.sum_cons]
      have:=List.count_le_length (a:=true) (l:=b)
      omega
  exact this B
theorem sums52 {own : List Str} {js : List Nat} {g : TG} {te : TE} {σ : L2.St} {H1 : Hp} {Q : VK} {a : Addr} {es : List Addr} {W : List (List Int)} (ha : H1 a = some (.lst (es.map V.ref))) (hL : LLs H1 es W) (hn : es.length ≤ 1000)
    (hs:∀ (i:Nat) (q:Addr) (xs:List Int) Hc,∀ R:VK,(∀ Hd,Same Hc Hd->R (.int xs.sum) Hd)->Hc q=some (.lst (xs.map V.int))->es[i]?=some q->g (.ref q) (blkσ own js σ) Hc fun τ H4=>te τ H4 R)
    (hd:∀ acc H,H1 acc=none->H acc=some (.lst ((W.map List.sum).map V.int))->Same H1 H->Q (.ref acc) H):tCompW own js g tTrue te σ (ItlB true K a) H1 Q:=by
  refine comp_seqB (b:=true) (K:=K) (a:=a) (xs:=es.map V.ref) (fun acc i Hc=>Hc acc=some (.lst (((W.take i).map List.sum).map V.int))/\Same H1 Hc) (fun acc h0=>⟨upd_same,Same.new h0⟩) (fun acc i Hc _ _ q=>SqL.of (q.2 _ _ ha)) ?_ ?_
  · rintro acc i x Hc h0 hx ⟨hac,sc'⟩
    obtain⟨q,hq,rfl⟩:=map_ref_get hx
    have hi:=(List.getElem?_eq_some_iff.mp hq).1
    have hiW:i<W.length:=by rw[<- hL.1]; exact hi
    have eW:=List.getElem?_eq_getElem hiW
    refine (cast ?_ (hs i q W[i] Hc (fun y H6=>∃ zs,H6 acc=some (.lst zs)/\zs.length<sizeLine/\(i+1<=(es.map V.ref).length/\upd H6 acc (.lst (zs++[y])) acc=some (.lst (((W.take (i+1)).map List.sum).map V.int))/\Same H1 (upd H6 acc (.lst (zs++[y]))))) (fun Hd sd=>?_) (sc' _ _ (hL.2 i q _ hq eW)) hq))
    · unfold tTrue
      simp only[if_true]
    · refine⟨_,sd _ _ hac,small15 (by rw[List.length_map,List.length_map,List.length_take]; omega),by rw[List.length_map]; exact hi,?_,(sc'.trans sd).put h0⟩
      rw[upd_same,List.take_add_one,eW,Option.toList_some,List.map_append,List.map_append]
      rfl
  · rintro acc H h0 ⟨hac,s1⟩
    rw[List.length_map,hL.1,List.take_length] at hac
    exact hd acc H h0 hac s1
def spRt52:Sp:=fun vs H Q _=>∃ (p n:Nat) (la ra na:Addr) (B:List (List Bool)) (rs:List Addr) (rows:List (List Int)) (ns:List Addr),vs=[.int p,.int n,.ref la,.ref ra,.ref na]/\2<=p/\p<=7/\n<=300/\tot p n<=4000/\Lay H la B/\lensB B=cnt p n/\H ra=some (.lst (rs.map V.ref))/\LLs H rs rows/\rows.length=cntT B/\1<=cntT B/\(∀ r∈rows,r.Pairwise (·<=·))/\rows.flatten.length<=15000/\H na=some (.tup (ns.map V.ref))/\TTs H ns (num p n)/\∀ H',Same H H'->Q (.bl true) H'
theorem ok_rt52 {f f1 f2 f3 f4:Addr}{fd d1 d2 d3 d4:FuncData} (F:Fun K "_law_right" "_law_right" sRt52 f fd) (T:Txt mg) (CR:Cal P w K mg base 5 "play_rows" ["reels","phases"] spPlayR f1 d1) (CD:Cal P w K mg base 1 "laid_reels" ["laying","rows"] spLaidR f2 d2) (CH:Cal P w K mg base 3 "level_phases" ["p","n"] spLPh f3 d3) (CP:Cal P w K mg base 1 "_law_places" ["numbers","laying"] spPlc52 f4 d4):FnOk P w K mg base CX0 6 f fd ["p","n","laying","rows","numbers"] spRt52:=by
  refine okW F scRt52 (fun vs H Q E h=>?_) (fun cdv A outer s H vs Q E hr h=>?_)
  · obtain⟨p,n,la,ra,na,B,rs,rows,ns,rfl,_⟩:=h
    rfl
  · obtain⟨p,n,la,ra,na,B,rs,rows,ns,rfl,p2,p7,hn,h4,hLay,hB,hra,hL,hrl,h1,hso,hz5,hna,hNs,k⟩:=h
    have hr1:Room 1 _:=hr.mono (by decide)
    have hr3:Room 3 _:=hr.mono (by decide)
    have hr5:Room 5 _:=hr.mono (by decide)
    have hu1:(A.deeper (PyProof.Rows.envOfC "_law_right" (defScope sRt52) s.heap.objs.size f cdv)).units+12<cLine:=by have:=hr.un; omega
    refine⟨_,(wss_cons (ws (ps_set (i:=5) scRt52.nd rfl (Or.inl rfl) (pe_lst pa_nil)))
      (wss_cons (ws (ps_for PassesOwn.never rfl (pi_seqB (pv 3)) (pg_name (i:=6) scRt52.nd rfl (Or.inl rfl))
      (WSs.out (wss_one (ws (ps_expr (pe_bm PySem.F.plainAttrs_list PySem.F.slot_list_extend PySem.F.type_list_extend mt_extend (pv 5) (pa_cons (pv 6) pa_nil))))))))
      (wss_cons (ws (ps_asg (pe_cal CR hr5 rfl (pa_cons (pe_cal CD hr1 rfl (pa_cons (pv 2) (pa_cons (pv 3) pa_nil))) (pa_cons (pe_cal CH hr3 rfl (pa_cons (pv 0) (pa_cons (pv 1) pa_nil))) pa_nil))) (pg_tup rfl (pgs_cons (pg_name (i:=7) scRt52.nd rfl (Or.inl rfl)) (pgs_cons (pg_name (i:=8) scRt52.nd rfl (Or.inl rfl)) pgs_nil)))))
      (wss_cons (ws (ps_set (i:=9) scRt52.nd rfl (Or.inl rfl) (pe_lst pa_nil)))
      (wss_cons (ws (ps_for PassesOwn.never rfl (pi_seqB (pv 7)) (pg_name (i:=10) scRt52.nd rfl (Or.inl rfl))
      (WSs.out (wss_one (ws (ps_expr (pe_bm PySem.F.plainAttrs_list PySem.F.slot_list_extend PySem.F.type_list_extend mt_extend (pv 9) (pa_cons (pv 10) pa_nil))))))))
      (wss_cons (ws_if (PW.pt (pw_or (pt_cmpR (op_neR hu1) (pv 9) (pe_lst (pa_cons (pe_callB call_sortA rfl T.sorted b_sorted (pa_cons (pv 5) pa_nil)) pa_nil)) (nomark _)) (pw_or1 (pt_cmpR op_ne (pe_callB call_len_seq rfl T.len PySem.boot_len (pa_cons (pv 8) pa_nil)) (pv 1) (nomark _)))))
      (wss_one (ws (ps_ret pe_bl)))
      wss_nil)
      (wss_cons (ws (ps_set (i:=11) scRt52.nd rfl (Or.inl rfl) (pe_cal CP hr1 rfl (pa_cons (pv 4) (pa_cons (pv 2) pa_nil)))))
      (wss_cons (ws (ps_set (i:=12) scRt52.nd rfl (Or.inl rfl) (pe_callB (call_sumI rfl) rfl T.sum b_sum (pa_cons (pe_comp (own:=["row","number"]) (js:=[]) (CompOk.by (sc:=defScope sRt52) (N:=["p","n","laying","rows","numbers","things","row","reels","read","left","reel","places","due"]) rfl rfl (by decide +kernel)) rfl (pi_zipB rfl T.zip (pa_cons (pv 3) (pa_cons (pv 11) pa_nil))) (gkeep_two (i:=0) (k:=1) (K:=K)) (fun _ _ _ _ _=>(pgK_tup K rfl (pgs_cons (pg_name (i:=0) (by show (["row","number"]:List Str).Nodup; decide +kernel) rfl (Or.inl rfl) (.inr rfl)) (pgs_cons (pg_name (i:=1) (by show (["row","number"]:List Str).Nodup; decide +kernel) rfl (Or.inl rfl) (.inr rfl)) pgs_nil)))) (fun _ _ _ _ _=>pts_nil) (fun _ _ _ _ _=>(pe_op op_mul (pe_callB (callK_len K) rfl T.len PySem.boot_len (pa_cons (pv 0) pa_nil)) (pv 1)))) pa_nil))))
      (wss_one (ws (ps_ret (pe_cmpR op_eq (pe_callB (call_sumI rfl) rfl T.sum b_sum (pa_cons (pe_comp (own:=["sums"]) (js:=[]) (CompOk.by (sc:=defScope sRt52) (N:=["p","n","laying","rows","numbers","things","row","reels","read","left","reel","places","due"]) rfl rfl (by decide +kernel)) rfl (pi_seqB (pv 8)) gkeep_name (fun _ _ _ _ _=>(pg_name (i:=0) (by show (["sums"]:List Str).Nodup; decide +kernel) rfl (Or.inl rfl) (.inr rfl))) (fun _ _ _ _ _=>pts_nil) (fun _ _ _ _ _=>(pe_callB (callK_sumI K rfl) rfl T.sum b_sum (pa_cons (pv 0) pa_nil)))) pa_nil)) (pv 12) (nomark _))))))))))))),?_⟩
    obtain⟨tr,hla,hTB⟩:=hLay
    have hBl:B.length=p:=len52 p2 hB
    have hBm:=lens52 hB
    have hz:SzD (filB B rows++[[]]):=szd_fil (by omega) (le52 hB h4) hrl hz5
    have hPl:=pl52 p2 hB hrl h1 hso hz
    refine⟨Nat.zero_le _,fun tg ntg=>?_⟩
    have s1:Same H (upd H tg (.lst [])):=Same.new ntg
    have e1:upd H tg (.lst []) tg=some (.lst (([]:List Int).map V.int)):=upd_same
    generalize upd H tg (.lst [])=H1 at s1 e1 ⊢
    refine⟨_,rfl,ra,true,rfl,⟨_,SqL.of (s1 _ _ hra)⟩,?_⟩
    refine for_seqB (b:=true) (xs:=rs.map V.ref) (fun i σ Hx=>∃ o6:Option V,σ=[some (.int p),some (.int n),some (.ref la),some (.ref ra),some (.ref na),some (.ref tg),o6,none,none,none,none,none,none]/\Hx tg=some (.lst ((rows.take i).flatten.map V.int))/\Same H Hx) ⟨_,rfl,e1,s1⟩ (fun i σ Hx _ ⟨_,_,_,sx⟩=>SqL.of (sx _ _ hra)) ?_ ?_
    · rintro i x σ Hx hx ⟨o6,rfl,htg,sx⟩
      obtain⟨q,hq,rfl⟩:=map_ref_get hx
      have hi:=(List.getElem?_eq_some_iff.mp hq).1
      have hiR:i<rows.length:=by rw[<- hL.1]; exact hi
      have eR:=List.getElem?_eq_getElem hiR
      have hqx:=sx _ _ (hL.2 i q _ hq eR)
      have etk:(rows.take (i+1)).flatten=(rows.take i).flatten++rows[i]:=by
        rw[List.take_add_one,eR,List.flatten_append]
        simp
      have hle:((rows.take (i+1)).flatten).length<=rows.flatten.length:=by
        have:rows.flatten=(rows.take (i+1)).flatten++(rows.drop (i+1)).flatten:=by rw[<- List.flatten_append,List.take_append_drop]
        rw[this,List.length_append]
        omega
      rw[etk,List.length_append] at hle
      exact⟨_,rfl,.inl ⟨rfl,_,SqL.of htg⟩,_,rfl,tg,q,_,_,rfl,rfl,htg,hqx,by rw[List.length_map,List.length_map,sizeLine_eq]; omega,_,rfl,by rw[upd_same,etk,List.map_append],sx.put ntg⟩
    rintro σ Hx ⟨o6,rfl,htg,sx⟩
    rw[List.length_map,hL.1,List.take_length] at htg
    refine⟨_,rfl,_,rfl,la,ra,tr,rs,filB B rows,rfl,(sx _ _ hla),by rw[filB_shp]; exact (hTB.same sx),by rw[filB_rows _ _ hrl]; exact RwS.of (sx _ _ hra) (hL.same sx),?_,?_,fun l T H2 l0 hl hN hD hnd hnew s2=>?_⟩
    · have h1:=congrArg List.length (filB_len B rows)
      rw[List.length_map,List.length_map] at h1
      omega
    · intro ds hds
      have:=hz.2.1 ds (List.mem_append_left _ hds)
      omega
    refine⟨_,rfl,_,rfl,p,n,rfl,p2,p7,hn,fun l2 qs H3 l20 hl2 hql hTu s3=>?_⟩
    have hTT:=ttu52 hTu
    refine⟨l,l2,T,qs,phL p 0 n,rfl,s3 _ _ hl,hN.same s3,hl2,hTT,by rw[hTT.1,List.length_map,phL_len]; omega,ne52 hD,by rw[hD]; exact hz,by rw[hD]; exact hPl.pls,fun t bl rl T' es H4 ht hbl hN' hD' hrd hLL hnew' s4=>?_⟩
    rw[hD] at hD' hLL
    refine⟨t,_,rfl,SqT.of ht,rfl,_,_,rfl,_,_,rfl,rfl,?_⟩
    have s34:=(s2.trans s3).trans s4
    have sx4:=sx.trans s34
    have htg4:=s34 _ _ htg
    refine⟨Nat.zero_le _,fun lf nlf=>?_⟩
    have s5:Same H4 (upd H4 lf (.lst [])):=Same.new nlf
    have e5:upd H4 lf (.lst []) lf=some (.lst []):=upd_same
    have lfT:lf ∉ adr T':=fun z=>by
      obtain⟨t',ht',hx⟩:=List.mem_flatMap.mp z
      exact (hN' t' ht').has lf hx nlf
    have hN5:=hN'.same s5
    have hbl5:=s5 _ _ hbl
    have lfb:bl≠lf:=ne_of_none hbl nlf
    have lfr:rl≠lf:=ne_of_none hrd nlf
    have hrd5:=s5 _ _ hrd
    have hLL5:=hLL.same s5
    have lfes:∀ r∈es,r≠lf:=fun r hr z=>by
      obtain⟨j,hj⟩:=List.getElem?_of_mem hr
      have hxs:=hLL.2 j r _ hj (List.getElem?_eq_getElem (by rw[<- hLL.1]; exact (List.getElem?_eq_some_iff.mp hj).1))
      exact ne_of_none hxs nlf z
    have lftg:tg≠lf:=ne_of_none htg4 nlf
    have htg5:=s5 _ _ htg4
    have sH5:=sx4.trans s5
    generalize upd H4 lf (.lst [])=H5 at s5 e5 hN5 hbl5 hrd5 hLL5 htg5 sH5 ⊢
    refine⟨_,rfl,bl,true,rfl,⟨_,SqL.of hbl5⟩,?_⟩
    have hT'l:T'.length<=20:=by
      have h1:(datT T').length=T'.length:=by unfold datT; rw[List.length_map]
      obtain⟨q1,_⟩:=plR_all hPl.pls hz
      have:=q1.1
      rw[<- hD'] at this
      omega
    have hflf:(T'.flatMap (·.2)).map cD=[some (srt rows.flatten)]:=by rw[<- datT_flat,hD']; exact hPl.left
    have hfl1:(T'.flatMap (·.2)).length=1:=by have:=congrArg List.length hflf; rwa [List.length_map] at this
    have hsplit:∀ j,((T'.take j).flatMap (·.2)).length<=1:=fun j=>by
      have h1:T'.flatMap (·.2)=(T'.take j).flatMap (·.2)++(T'.drop j).flatMap (·.2):=by rw[<- List.flatMap_append,List.take_append_drop]
      rw[h1,List.length_append] at hfl1
      omega
    refine for_seqB (b:=true) (xs:=refT T') (fun j σ Hy=>∃ o10:Option V,σ=[some (.int p),some (.int n),some (.ref la),some (.ref ra),some (.ref na),some (.ref tg),o6,some (.ref bl),some (.ref rl),some (.ref lf),o10,none,none]/\Hy lf=some (.lst (((T'.take j).flatMap (·.2)).map cV))/\Sm lf H5 Hy)
      ⟨_,rfl,by rw[List.take_zero]; exact e5,Sm.refl _ _⟩ (fun j σ Hy _ ⟨_,_,_,sy⟩=>SqL.of (sy _ _ hbl5 lfb)) ?_ ?_
    · rintro j x σ Hy hx ⟨o14,rfl,hlf,smy⟩
      rw[List.getElem?_map] at hx
      obtain⟨t',ht',rfl⟩:=Option.map_eq_some_iff.mp hx
      have htm:=List.mem_of_getElem? ht'
      have hts:=smy _ _ (hN5 t' htm).1 (fun z=>lfT (List.mem_flatMap.mpr ⟨t',htm,by rw[<- z]; exact List.mem_cons_self⟩))
      have etk:(T'.take (j+1)).flatMap (·.2)=(T'.take j).flatMap (·.2)++t'.2:=by
        rw[List.take_add_one,ht',List.flatMap_append]
        simp
      have hle:=hsplit (j+1)
      rw[etk,List.length_append] at hle
      refine⟨_,rfl,.inl ⟨rfl,_,SqL.of hlf⟩,_,rfl,lf,t'.1,_,_,rfl,rfl,hlf,hts,by rw[List.length_map,List.length_map,sizeLine_eq]; omega,?_⟩
      exact⟨_,rfl,by rw[upd_same,etk,List.map_append],fun x o hx hn=>by rw[upd_ne hn]; exact smy x o hx hn⟩
    rintro σ Hy ⟨o10,rfl,hlf,smy⟩
    rw[List.length_map,List.take_length] at hlf
    obtain⟨cc,hcc⟩:=List.length_eq_one_iff.mp hfl1
    rw[hcc] at hlf hflf
    have hcD:cD cc=some (srt rows.flatten):=by injection hflf
    have hcm:cc∈T'.flatMap (·.2):=by rw[hcc]; exact List.mem_singleton.mpr rfl
    obtain⟨t',ht',hct⟩:=List.mem_flatMap.mp hcm
    have hcok:=(hN5 t' ht').2 cc hct
    obtain⟨r,rfl⟩:∃ r,cc=some (r,srt rows.flatten):=by
      cases cc with
      | none=>cases hcD
      | some q=>obtain⟨r,ys⟩:=q; injection hcD with h; exact⟨r,by rw[<- h]⟩
    have hrf:r≠lf:=fun z=>lfT (List.mem_flatMap.mpr ⟨t',ht',by rw[<- z]; exact List.mem_cons_of_mem _ (List.mem_flatMap.mpr ⟨_,hct,by simp[cA]⟩)⟩)
    have hry:Hy r=some (.lst ((srt rows.flatten).map V.int)):=smy _ _ hcok hrf
    have hty:=smy _ _ htg5 lftg
    have hrdy:=smy _ _ hrd5 lfr
    have hLLy:LLs Hy es (rdR (filB B rows++[[]]) (phL p 0 n)):=⟨hLL5.1,fun j q xs a b=>smy _ _ (hLL5.2 j q xs a b) (lfes q (List.mem_of_getElem? a))⟩
    have sHy:Same H Hy:=fun x o e=>smy x o (sH5 x o e) (ne_of_none (sx4 x o e) nlf)
    refine⟨_,rfl,_,rfl,tg,_,rfl,SqL.of hty,fun l5 ms nl5 hpm hup=>⟨(by show 1<=sizeLine; decide),fun l6 nl6=>?_⟩⟩
    have ems:ms=srt rows.flatten:=srt_of hpm hup
    subst ems
    have s17:Same Hy (upd (upd Hy l5 (.lst ((srt rows.flatten).map V.int))) l6 (.lst [.ref l5])):=(Same.new nl5).trans (Same.new nl6)
    have e17:upd (upd Hy l5 (.lst ((srt rows.flatten).map V.int))) l6 (.lst [.ref l5]) l6=some (.lst [.ref l5]):=upd_same
    have e18:upd (upd Hy l5 (.lst ((srt rows.flatten).map V.int))) l6 (.lst [.ref l5]) l5=some (.lst ((srt rows.flatten).map V.int)):=(Same.new nl6) _ _ upd_same
    generalize upd (upd Hy l5 (.lst ((srt rows.flatten).map V.int))) l6 (.lst [.ref l5])=H7 at s17 e17 e18 ⊢
    refine⟨lf,l6,reelD [some (srt rows.flatten)],rfl,rfl,.lst (s17 _ _ hlf) (cells_rd (cs:=[some (r,srt rows.flatten)]) fun c hc=>?_),.lst e17 (cells_rd (cs:=[some (l5,srt rows.flatten)]) fun c hc=>?_),Nat.le_trans (reel_depth _) (by decide),_,rfl,iteF ?_⟩
    · rw[List.mem_singleton.mp hc]
      exact s17 _ _ hry
    · rw[List.mem_singleton.mp hc]
      exact e18
    have sH7:=sHy.trans s17
    have hrd7:=s17 _ _ hrdy
    have hLL7:=hLLy.same s17
    have hesl:es.length=n:=by rw[hLL7.1,rdR_len,phL_len]
    refine⟨_,rfl,rl,_,rfl,.inl (SqL.of hrd7),_,rfl,rfl,_,rfl,?_⟩
    rw[show (!decide (V.int (((es.map V.ref).length:Nat):Int)=V.int (n:Int)))=false from by rw[List.length_map,hesl,decide_eq_true rfl]; rfl]
    refine iteF ?_
    have hnum:∀ xs∈num p n,xs.length<=4000:=fun xs hx=>by
      have:=num_le hx
      omega
    refine⟨_,rfl,_,rfl,na,la,ns,num p n,B,rfl,sH7 _ _ hna,hNs.same sH7,⟨tr,sH7 _ _ hla,hTB.same sH7⟩,hBm,by rw[num_len (by omega)]; omega,hnum,fun pc H8 npc hpc s8=>?_⟩
    have sH8:=sH7.trans s8
    have hra8:=sH8 _ _ hra
    have hL8:=hL.same sH8
    have hRl:(readL (num p n) B).length=rows.length:=by rw[hrl]; exact readL_len _ _ hBm
    have qA:SqB true K H8 ra (rs.map V.ref):=SqL.of hra8
    have qB:SqB true K H8 pc ((readL (num p n) B).map V.int):=SqL.of hpc
    refine⟨_,rfl,_,rfl,true,true,ra,pc,rfl,⟨_,qA⟩,⟨_,qB⟩,?_⟩
    refine comp_zip (xs:=rs.map V.ref) (ys:=(readL (num p n) B).map V.int) (by rw[List.length_map,List.length_map,hL.1,hRl]; omega) (fun acc i Hc=>Hc acc=some (.lst ((wS (rows.take i) ((readL (num p n) B).take i)).map V.int))/\Same H8 Hc) (fun acc h0=>⟨upd_same,Same.new h0⟩) (fun acc i Hc _ _ q=>⟨SqL.of (q.2 _ _ hra8),SqL.of (q.2 _ _ hpc)⟩) ?_ ?_
    · rintro acc i x y pa Hc h0 hx hy ⟨hac,sc'⟩ hpa
      obtain⟨q,hq,rfl⟩:=map_ref_get hx
      obtain⟨y',hy',rfl⟩:=map_get hy
      have hi:=(List.getElem?_eq_some_iff.mp hq).1
      have hiR:i<rows.length:=by rw[<- hL.1]; exact hi
      have eR:=List.getElem?_eq_getElem hiR
      have s9:Same Hc (upd Hc pa (.tup [V.ref q,.int y'])):=Same.new hpa
      have hp9:(upd Hc pa (.tup [V.ref q,.int y'])) pa=some (.tup [V.ref q,.int y']):=upd_same
      generalize (upd Hc pa (.tup [V.ref q,.int y']))=H9 at s9 hp9 ⊢
      have hq9:=s9 _ _ (sc' _ _ (hL8.2 i q _ hq eR))
      refine⟨pa,_,rfl,SqT.of hp9,rfl,_,_,rfl,_,_,rfl,rfl,?_⟩
      have hrl5:rows[i].length<=15000:=by
        have h1:rows[i].length<=rows.flatten.length:=(List.sublist_flatten_of_mem (List.getElem_mem hiR)).length_le
        omega
      have hwl:((wS (rows.take i) ((readL (num p n) B).take i)).map V.int).length<=15000:=by
        unfold wS
        rw[List.length_map,List.length_zipWith,List.length_take]
        have h1:rows.length<=15000:=by
          rw[<- hRl]
          have h2:=readL_len _ _ hBm
          have h3:=cnt52 hB
          omega
        omega
      unfold tTrue
      simp only[if_true]
      refine⟨_,rfl,q,_,rfl,.inl (SqL.of hq9),_,rfl,_,_,rfl,rfl,.inl (by rw[List.length_map]; exact⟨by omega,by omega⟩),_,s9 _ _ hac,by rw[sizeLine_eq]; omega,by rw[List.length_map]; exact hi,?_,(sc'.trans s9).put h0⟩
      rw[upd_same,wS_take eR hy',List.map_append,List.length_map]
      rfl
    rintro acc H9 h0 ⟨hac,s9⟩
    rw[List.length_map,hL.1,List.take_length,List.take_of_length_le (by omega)] at hac
    refine⟨acc,_,rfl,SqL.of hac,?_⟩
    have sH9:=s8.trans s9
    have hrd9:=sH9 _ _ hrd7
    have hLL9:=hLL7.same sH9
    refine⟨_,rfl,rl,true,rfl,⟨_,SqL.of hrd9⟩,?_⟩
    refine sums52 (W:=rdR (filB B rows++[[]]) (phL p 0 n)) hrd9 hLL9 (by omega) (fun i q xs Hc R hR hq9 hi=>?_) fun acc2 H10 h10 hac2 s10=>?_
    · exact⟨_,rfl,q,xs,rfl,SqL.of hq9,hR Hc (Same.refl _)⟩
    refine⟨acc2,_,rfl,SqL.of hac2,_,rfl,rfl,?_⟩
    rw[hPl.read,decide_eq_true rfl]
    exact k _ ((sH7.trans sH9).trans s10)
end
end Fl52
namespace Fl52
open PySem L2 Lv
section
variable {P:Program}{w:World}{K:PySem.W.Frag}{mg:Str->Option Value}{base:Heap}
theorem scAll52:FnScope ["p","n","numbers","laying","rows","phases","read","phase","sums"] ["p","n","numbers"] (defScope sAll52):=⟨rfl,rfl,rfl,by decide +kernel,rfl,by decide +kernel,by decide +kernel⟩
def tru52 (N:List (List Int)):List (List Bool):=N.map fun xs=>List.replicate xs.length true
theorem tru_take {N:List (List Int)}{j:Nat}{x:List Int} (h:N[j]?=some x):tru52 (N.take (j+1))=tru52 (N.take j)++[List.replicate x.length true]:=by
  unfold tru52
  rw[List.take_add_one,h,Option.toList_some,List.map_append]
  rfl
theorem tru_lens (p n:Nat):lensB (tru52 (num p n))=cnt p n:=by
  rw[<- lens_num]
  unfold lensB tru52 lens
  rw[List.map_map]
  exact List.map_congr_left fun xs _=>by simp
theorem tru_cnt (p n:Nat):(cntT (tru52 (num p n)):Int)=tot p n:=by
  unfold tot
  rw[<- lens_num]
  have:∀ N:List (List Int),(cntT (tru52 N):Int)=(lens N).sum:=fun N=>by
    induction N with
    | nil=>rfl
    | cons x N ih=>
      unfold cntT tru52 lens at *
      rw[List.map_cons,List.map_cons,List.sum_cons,List.map_cons,List.sum_cons,List.count_replicate_self]
      omega
  exact this _
theorem tot_pos52 {p:Nat} (hp:2<=p) (n:Nat):1<=tot p n:=by
  obtain⟨x,y,r,e,_⟩:=cnt_cons hp n
  have h1:=hd_pos hp n
  have h2:hd p n<=(cnt p n).sum:=le_sum (down_cnt p n).2 (by unfold hd; rw[e]; simp)
  unfold tot
  omega
theorem rep52 (m:Nat):(List.replicate m [V.bl true]).flatten=(List.replicate m true).map V.bl:=by
  induction m with
  | zero=>rfl
  | succ m ih=>rw[List.replicate_succ,List.flatten_cons,ih,List.replicate_succ,List.map_cons]; rfl
theorem cut_takeS (cs:List Int) (m:Nat):cutV (cs.map V.int) none (some (m:Int))=(cs.take m).map V.int:=by
  unfold cutV
  show ((cs.map V.int).drop 0).take (HT.sIx (cs.map V.int).length (cs.map V.int).length (some ((m:Nat):Int)) - 0)=_
  rw[HT.sIx_nat,Nat.sub_zero,List.drop_zero,List.map_take]
  rcases Nat.le_total m (cs.map V.int).length with h | h
  · rw[Nat.min_eq_left h]
  · rw[Nat.min_eq_right h,List.take_length,List.take_of_length_le h]
theorem cut_dropS (cs:List Int) (m:Nat) (h:m<=cs.length):cutV (cs.map V.int) (some (m:Int)) none=(cs.drop m).map V.int:=by
  unfold cutV
  show ((cs.map V.int).drop (HT.sIx (cs.map V.int).length 0 (some ((m:Nat):Int)))).take ((cs.map V.int).length - HT.sIx (cs.map V.int).length 0 (some ((m:Nat):Int)))=_
  rw[HT.sIx_nat,Nat.min_eq_left (by rw[List.length_map]; exact h),List.map_drop,List.take_of_length_le (by rw[List.length_drop]; exact Nat.le_refl _)]
theorem rd_len52:∀ {ps:List (Int × Int)}{D:List Rows}{i:Nat}{s:List Int},(rdR D ps)[i]?=some s->s.length=D.length
  | [],_,i,s,h=>by simp[rdR] at h
  | (o,m)::ps,D,0,s,h=>by
    rw[rdR] at h
    cases h
    rw[List.length_map]
  | (o,m)::ps,D,i+1,s,h=>by
    rw[rdR] at h
    rw[rd_len52 (ps:=ps) (i:=i) (by simpa using h)]
    unfold phR
    rw[List.length_set,List.length_map]
theorem tru_all {p n:Nat}:∀ b∈tru52 (num p n),∀ x∈b,x=true:=fun b hb x hx=>by
  obtain⟨xs,_,rfl⟩:=List.mem_map.mp hb
  exact List.eq_of_mem_replicate hx
def ones52 (m:Nat):List (List Int):=(List.range m).map fun (k:Nat)=>[(k:Int)]
theorem ones_len (m:Nat):(ones52 m).length=m:=by unfold ones52; rw[List.length_map,List.length_range]
theorem ones_one {m:Nat}:∀ r∈ones52 m,r.length=1:=fun r hr=>by
  obtain⟨k,_,rfl⟩:=List.mem_map.mp hr
  rfl
theorem ones_flat (m:Nat):(ones52 m).flatten.length=m:=by
  induction m with
  | zero=>rfl
  | succ m ih=>
    unfold ones52 at ih ⊢
    rw[List.range_succ,List.map_append,List.flatten_append,List.length_append,ih]
    rfl
theorem ones_up {m:Nat}:∀ r∈ones52 m,r.Pairwise (·<=·):=fun r hr=>by
  obtain⟨k,_,rfl⟩:=List.mem_map.mp hr
  simp
theorem comp_ones {own : List Str} {js : List Nat} {g : TG} {te : TE} {σ : L2.St} {H1 : Hp} {Q : VK} {n : Nat} (hn : n ≤ 15000)
    (hs:∀ (i:Nat) Hc,∀ R:VK,(∀ l,Hc l=none->R (.ref l) (upd Hc l (.lst [.int (0+(i:Int))])))->g (.int (0+(i:Int))) (blkσ own js σ) Hc fun τ H4=>te τ H4 R)
    (hd:∀ acc (rs:List Addr) H,H1 acc=none->H acc=some (.lst (rs.map V.ref))->LLs H rs (ones52 n)->Same H1 H->Q (.ref acc) H):tCompW own js g tTrue te σ (Itr 0 n) H1 Q:=by
  refine comp_range (fun acc i H=>∃ rs:List Addr,H acc=some (.lst (rs.map V.ref))/\LLs H rs (ones52 i)/\acc ∉ rs/\Same H1 H) (fun acc h0=>⟨[],upd_same,⟨rfl,fun j r xs a=>(nomatch a)⟩,by simp,Same.new h0⟩) ?_ ?_
  · rintro acc i H h0 hi ⟨rs,hacc,hL,hna,s1⟩
    have hrl:rs.length=i:=by rw[hL.1,ones_len]
    refine (cast ?_ (hs i H (fun y H6=>∃ zs,H6 acc=some (.lst zs)/\zs.length<sizeLine/\(i+1<=n/\∃ rs:List Addr,upd H6 acc (.lst (zs++[y])) acc=some (.lst (rs.map V.ref))/\LLs (upd H6 acc (.lst (zs++[y]))) rs (ones52 (i+1))/\acc ∉ rs/\Same H1 (upd H6 acc (.lst (zs++[y]))))) fun l hl=>?_))
    · unfold tTrue
      simp only[if_true]
    · rw[Int.zero_add]
      have hla:l≠acc:=(ne_of_none hacc hl).symm
      have s2:Same H (upd H l (.lst [.int i])):=Same.new hl
      have hna2:acc ∉ rs++[l]:=fun z=>by
        rcases List.mem_append.mp z with z | z
        · exact hna z
        · exact hla (List.mem_singleton.mp z).symm
      refine⟨_,s2 _ _ hacc,small15 (by rw[List.length_map]; omega),hi,rs++[l],by rw[upd_same,List.map_append]; rfl,?_,hna2,(s1.trans s2).put h0⟩
      have:ones52 (i+1)=ones52 i++[[(i:Int)]]:=by
        unfold ones52
        rw[List.range_succ,List.map_append]
        rfl
      rw[this]
      exact ((hL.same s2).snoc (x:=[(i:Int)]) upd_same).lst hna2
  · rintro acc H h0 ⟨rs,hacc,hL,_,s1⟩
    exact hd acc rs H h0 hacc hL s1
def spAll52:Sp:=fun vs H Q _=>∃ (p n:Nat) (na:Addr) (ns:List Addr),vs=[.int p,.int n,.ref na]/\2<=p/\p<=7/\n<=300/\tot p n<=4000/\H na=some (.tup (ns.map V.ref))/\TTs H ns (num p n)/\∀ H',Same H H'->Q (.bl true) H'
theorem ok_all52 {f f1 f2 f3:Addr}{fd d1 d2 d3:FuncData} (F:Fun K "_law_all_read" "_law_all_read" sAll52 f fd) (T:Txt mg) (CR:Cal P w K mg base 5 "play_rows" ["reels","phases"] spPlayR f1 d1) (CD:Cal P w K mg base 1 "laid_reels" ["laying","rows"] spLaidR f2 d2) (CH:Cal P w K mg base 3 "level_phases" ["p","n"] spLPh f3 d3):FnOk P w K mg base CX0 6 f fd ["p","n","numbers"] spAll52:=by
  refine okW F scAll52 (fun vs H Q E h=>?_) (fun cdv A outer s H vs Q E hr h=>?_)
  · obtain⟨p,n,na,ns,rfl,_⟩:=h
    rfl
  · obtain⟨p,n,na,ns,rfl,p2,p7,hn,h4,hna,hNs,k⟩:=h
    have hr1:Room 1 _:=hr.mono (by decide)
    have hr3:Room 3 _:=hr.mono (by decide)
    have hr5:Room 5 _:=hr.mono (by decide)
    refine⟨_,(wss_cons (ws (ps_set (i:=3) scAll52.nd rfl (Or.inl rfl) (pe_callTy call_tuple_of rfl T.tuple b_tuple (pa_cons (pe_comp (own:=["reel"]) (js:=[]) (CompOk.by (sc:=defScope sAll52) (N:=["p","n","numbers","laying","rows","phases","read","phase","sums"]) rfl rfl (by decide +kernel)) rfl (pi_seqB (pv 2)) gkeep_name (fun _ _ _ _ _=>(pg_name (i:=0) (by show (["reel"]:List Str).Nodup; decide +kernel) rfl (Or.inl rfl) (.inr rfl))) (fun _ _ _ _ _=>pts_nil) (fun _ _ _ _ _=>(pe_op (opK_repE K) (pe_tup (pa_cons pe_bl pa_nil)) (pe_callB (callK_len K) rfl T.len PySem.boot_len (pa_cons (pv 0) pa_nil))))) pa_nil))))
      (wss_cons (ws (ps_comp (i:=4) scAll52.nd rfl rfl (own:=["place"]) (js:=[]) (CompOk.by (sc:=defScope sAll52) (N:=["p","n","numbers","laying","rows","phases","read","phase","sums"]) rfl rfl (by decide +kernel)) rfl (pi_range1 rfl T.range (pa_cons (pe_callB (call_sumI rfl) rfl T.sum b_sum (pa_cons (pe_comp (own:=["reel"]) (js:=[]) (CompOk.by (sc:=defScope sAll52) (N:=["p","n","numbers","laying","rows","phases","read","phase","sums"]) rfl rfl (by decide +kernel)) rfl (pi_seqB (pv 2)) gkeep_name (fun _ _ _ _ _=>(pg_name (i:=0) (by show (["reel"]:List Str).Nodup; decide +kernel) rfl (Or.inl rfl) (.inr rfl))) (fun _ _ _ _ _=>pts_nil) (fun _ _ _ _ _=>(pe_callB (callK_len K) rfl T.len PySem.boot_len (pa_cons (pv 0) pa_nil)))) pa_nil)) pa_nil)) gkeep_name (fun _ _ _ _ _=>(pg_name (i:=0) (by show (["place"]:List Str).Nodup; decide +kernel) rfl (Or.inl rfl) (.inr rfl))) (fun _ _ _ _ _=>pts_nil) (fun _ _ _ _ _=>(pe_lst (pa_cons (pv 0) pa_nil)))))
      (wss_cons (ws (ps_set (i:=5) scAll52.nd rfl (Or.inl rfl) (pe_cal CH hr3 rfl (pa_cons (pv 0) (pa_cons (pv 1) pa_nil)))))
      (wss_cons (ws (ps_set (i:=6) scAll52.nd rfl (Or.inl rfl) (pe_ix ix_tup (pe_cal CR hr5 rfl (pa_cons (pe_cal CD hr1 rfl (pa_cons (pv 3) (pa_cons (pv 4) pa_nil))) (pa_cons (pv 5) pa_nil))) pe_int (fun _ _=>rfl))))
      (wss_cons (ws (ps_for PassesOwn.never rfl (pi_zipB rfl T.zip (pa_cons (pv 5) (pa_cons (pv 6) pa_nil))) (pg_tup rfl (pgs_cons (pg_name (i:=7) scAll52.nd rfl (Or.inl rfl)) (pgs_cons (pg_name (i:=8) scAll52.nd rfl (Or.inl rfl)) pgs_nil)))
      (WSs.out (wss_one (ws_if (PW.pt (pw_or (pt_cmpR op_ne (pe_ix ix_list (pv 8) (pe_ix ix_tup (pv 7) pe_int (fun _ _=>rfl)) (fun _ _=>rfl)) pe_int (nomark _)) (pw_or1 (pt_cmpR op_lt (pe_callB (call_minB rfl) rfl T.min b_min (pa_cons (pe_op op_cat (pe_op op_cat (pe_lst (pa_cons pe_int pa_nil)) (pe_slice sl_list (pv 8) po_none (po_some (pe_ix ix_tup (pv 7) pe_int (fun _ _=>rfl))))) (pe_slice sl_list (pv 8) (po_some (pe_op op_add (pe_ix ix_tup (pv 7) pe_int (fun _ _=>rfl)) pe_int)) po_none)) pa_nil)) pe_int (nomark _)))))
        (wss_one (ws (ps_ret pe_bl)))
        wss_nil)))))
      (wss_one (ws (ps_ret pe_bl)))))))),?_⟩
    have hB:lensB (tru52 (num p n))=cnt p n:=tru_lens p n
    have hTc:=tru_cnt p n
    have h1:1<=cntT (tru52 (num p n)):=by
      have h5:=tot_pos52 p2 n
      omega
    have hnl:ns.length=p:=by rw[hNs.1,num_len (by omega)]
    refine⟨_,rfl,na,false,rfl,⟨_,SqT.of hna⟩,?_⟩
    refine comp_seqB (b:=false) (K:=K) (a:=na) (xs:=ns.map V.ref) (fun acc j Hc=>∃ tr:List Addr,Hc acc=some (.lst (tr.map V.ref))/\TBs Hc tr (tru52 ((num p n).take j))/\Same H Hc) (fun acc h0=>⟨[],upd_same,⟨rfl,fun j r bs a=>(nomatch a)⟩,Same.new h0⟩) (fun acc j Hc h0 _ ⟨_,_,_,sc'⟩=>SqT.of (sc' _ _ hna)) ?_ ?_
    · rintro acc j x Hc h0 hx ⟨tr,hacc,hT,sc'⟩
      obtain⟨q,hq,rfl⟩:=map_ref_get hx
      have hi:=(List.getElem?_eq_some_iff.mp hq).1
      have hiN:j<(num p n).length:=by rw[<- hNs.1]; exact hi
      have eN:=List.getElem?_eq_getElem hiN
      have hqc:=sc' _ _ (hNs.2 j q _ hq eN)
      have hle:=num_le (List.getElem_mem hiN)
      have htl:tr.length=j:=by
        rw[hT.1]
        unfold tru52
        rw[List.length_map,List.length_take]
        omega
      unfold tTrue
      simp only[if_true]
      refine⟨(by show 1<=sizeLine; decide),fun t nt=>?_⟩
      have s2:Same Hc (upd Hc t (.tup [.bl true])):=Same.new nt
      have e2:upd Hc t (.tup [.bl true]) t=some (.tup [.bl true]):=upd_same
      generalize upd Hc t (.tup [.bl true])=H2 at s2 e2 ⊢
      have fin:∀ (r:Addr) Hd,Same H2 Hd->Hd r=some (.tup ((List.replicate (num p n)[j].length true).map V.bl))->∃ zs,Hd acc=some (.lst zs)/\zs.length<sizeLine/\(j+1<=(ns.map V.ref).length/\∃ tr:List Addr,upd Hd acc (.lst (zs++[.ref r])) acc=some (.lst (tr.map V.ref))/\TBs (upd Hd acc (.lst (zs++[.ref r]))) tr (tru52 ((num p n).take (j+1)))/\Same H (upd Hd acc (.lst (zs++[.ref r])))):=fun r Hd sd hr=>by
        have had:=sd _ _ (s2 _ _ hacc)
        refine⟨_,had,small15 (by rw[List.length_map]; omega),by rw[List.length_map]; exact hi,tr++[r],by rw[upd_same,List.map_append]; rfl,?_,(sc'.trans (s2.trans sd)).put h0⟩
        rw[tru_take eN]
        exact (((hT.same (s2.trans sd)).snoc hr).lst had)
      refine⟨_,rfl,q,_,rfl,.inr (SqT.of (s2 _ _ hqc)),t,_,[.bl true],rfl,rfl,SqT.of e2,by simp,by omega,by simp; omega,fun h=>?_,fun h pp npp=>?_⟩
      · refine fin t H2 (Same.refl _) ?_
        rw[List.length_map] at h
        rw[show (num p n)[j].length=1 by omega]
        exact e2
      · refine fin pp _ (Same.new npp) ?_
        rw[upd_same,List.length_map,Int.toNat_natCast,rep52]
    rintro acc H2 nacc ⟨tr,hacc,hT,s2⟩
    rw[List.length_map,hnl,List.take_of_length_le (by rw[num_len (by omega)]; omega)] at hT
    refine⟨acc,_,rfl,.inl ⟨SqL.of hacc,fun la nla=>?_⟩⟩
    have s3:Same H2 (upd H2 la (.tup (tr.map V.ref))):=Same.new nla
    have e3:upd H2 la (.tup (tr.map V.ref)) la=some (.tup (tr.map V.ref)):=upd_same
    generalize upd H2 la (.tup (tr.map V.ref))=H3 at s3 e3 ⊢
    have hT3:=hT.same s3
    have sH3:=s2.trans s3
    have hna3:=sH3 _ _ hna
    refine⟨_,rfl,na,false,rfl,⟨_,SqT.of hna3⟩,?_⟩
    refine comp_mapB ((lens (num p n)).map V.int) (show SqB false K H3 na (ns.map V.ref) from SqT.of hna3) (by unfold lens; rw[List.length_map,List.length_map,List.length_map,hNs.1]) (by rw[List.length_map]; omega) (fun j x y hx hy Hc sc' R hR=>?_) fun ac4 H4 n4 s4 hac4=>?_
    · obtain⟨q,hq,rfl⟩:=map_ref_get hx
      obtain⟨y',hy',rfl⟩:=map_get hy
      unfold lens at hy'
      rw[List.getElem?_map] at hy'
      obtain⟨xs,hxs,rfl⟩:=Option.map_eq_some_iff.mp hy'
      refine⟨_,rfl,q,_,rfl,.inr (SqT.of (sc' _ _ (sH3 _ _ (hNs.2 j q xs hq hxs)))),?_⟩
      rw[List.length_map]
      exact hR Hc (Same.refl _)
    refine⟨ac4,_,rfl,SqL.of hac4,?_⟩
    have hsm:(lens (num p n)).sum=tot p n:=by rw[lens_num]; rfl
    rw[hsm]
    refine⟨_,rfl,by omega,by omega,?_⟩
    generalize hm:(tot p n).toNat=m
    have hmc:m=cntT (tru52 (num p n)):=by omega
    refine comp_ones (by omega) (fun i Hc R hR=>⟨_,rfl,(by show 1<=sizeLine; decide),fun l hl=>hR l hl⟩) fun ra rs H5 n5 hra hL s5=>?_
    have hz:SzD (filB (tru52 (num p n)) (ones52 m)++[[]]):=szd_fil (by have:=len52 p2 hB; omega) (le52 hB h4) (by rw[ones_len]; exact hmc) (by rw[ones_flat]; omega)
    have hPl:=pl52 p2 hB (by rw[ones_len]; exact hmc) h1 ones_up hz
    have hrl:(ones52 m).length=cntT (tru52 (num p n)):=by rw[ones_len]; exact hmc
    have sH5:=sH3.trans (s4.trans s5)
    have e5:=s5 _ _ (s4 _ _ e3)
    have hT5:=(hT3.same s4).same s5
    have hBl:=len52 p2 hB
    refine⟨_,rfl,_,rfl,p,n,rfl,p2,p7,hn,fun l2 qs H6 l20 hl2 hql hTu s6=>?_⟩
    have hTT:=ttu52 hTu
    refine⟨_,rfl,_,rfl,la,ra,tr,rs,filB (tru52 (num p n)) (ones52 m),rfl,(s6 _ _ e5),by rw[filB_shp]; exact (hT5.same s6),by rw[filB_rows _ _ hrl]; exact RwS.of (s6 _ _ hra) (hL.same s6),?_,?_,fun l T H7 l0 hl hN hD hnd hnew s7=>?_⟩
    · have h1:=congrArg List.length (filB_len (tru52 (num p n)) (ones52 m))
      rw[List.length_map,List.length_map] at h1
      omega
    · intro ds hds
      have:=hz.2.1 ds (List.mem_append_left _ hds)
      omega
    refine⟨_,rfl,l,l2,T,qs,phL p 0 n,rfl,hl,hN,s7 _ _ hl2,hTT.same s7,by rw[hTT.1,List.length_map,phL_len]; omega,ne52 hD,by rw[hD]; exact hz,by rw[hD]; exact hPl.pls,fun t bl rl T' es H8 ht hbl hN' hD' hrd hLL hnew' s8=>?_⟩
    rw[hD] at hLL
    refine⟨t,_,1,.ref rl,rfl,rfl,SqT.of ht,rfl,?_⟩
    have hl28:=s8 _ _ (s7 _ _ hl2)
    have hTT8:=(hTT.same s7).same s8
    have hesl:es.length=n:=by rw[hLL.1,rdR_len,phL_len]
    have hqsl:qs.length=n:=by rw[hTT.1,List.length_map,phL_len]
    have qA:SqB true K H8 l2 (qs.map V.ref):=SqL.of hl28
    have qB:SqB true K H8 rl (es.map V.ref):=SqL.of hrd
    refine⟨_,rfl,_,rfl,true,true,l2,rl,rfl,⟨_,qA⟩,⟨_,qB⟩,for_zip (xs:=qs.map V.ref) (ys:=es.map V.ref) (by rw[List.length_map,List.length_map,hqsl,hesl]; exact Nat.le_refl _) (fun i σ Hx=>∃ o7 o8:Option V,σ=[some (.int p),some (.int n),some (.ref na),some (.ref la),some (.ref ra),some (.ref l2),some (.ref rl),o7,o8]/\Same H8 Hx) ⟨_,_,rfl,Same.refl _⟩ (fun i σ Hx _ ⟨_,_,_,sx⟩=>⟨SqL.of (sx _ _ hl28),SqL.of (sx _ _ hrd)⟩) ?_ ?_⟩
    · rintro i x y pa σ Hx hx hy ⟨o7,o8,rfl,sx⟩ hpa
      obtain⟨q,hq',rfl⟩:=map_ref_get hx
      obtain⟨r,hr',rfl⟩:=map_ref_get hy
      obtain⟨o,mm,hps,hqq⟩:=Lv.TTs.pr hTT8 hq'
      have hir:=(List.getElem?_eq_some_iff.mp hr').1
      obtain⟨sm,eW⟩:∃ sm,(rdR (filB (tru52 (num p n)) (ones52 m)++[[]]) (phL p 0 n))[i]?=some sm:=⟨_,List.getElem?_eq_getElem (by rw[<- hLL.1]; exact hir)⟩
      have hrr:=hLL.2 i r _ hr' eW
      obtain⟨a,ha,h0,hge⟩:=hPl.out tru_all (fun r hr z=>by have:=ones_one r hr; rw[z] at this; cases this) i _ _ hps eW
      have ha:o=(a:Int):=ha
      subst ha
      have s9:=sx.trans (Same.new (o:=.tup [V.ref q,.ref r]) hpa)
      have hp9:(upd Hx pa (.tup [V.ref q,.ref r])) pa=some (.tup [V.ref q,.ref r]):=upd_same
      generalize (upd Hx pa (.tup [V.ref q,.ref r]))=H9 at s9 hp9 ⊢
      have hq9:=s9 _ _ hqq
      have hr9:=s9 _ _ hrr
      refine⟨pa,_,rfl,SqT.of hp9,rfl,_,_,rfl,_,_,rfl,rfl,?_⟩
      have hal:=(List.getElem?_eq_some_iff.mp h0).1
      refine⟨_,rfl,_,rfl,q,_,0,.int (a:Int),rfl,rfl,SqT.of hq9,rfl,r,_,(a:Int),.int 0,rfl,rfl,SqL.of hr9,atI_nat (by rw[List.getElem?_map,h0]; rfl),rfl,_,rfl,?_⟩
      refine iteF ?_
      refine⟨(by show 1<=sizeLine; decide),fun u0 hu0=>?_⟩
      have t1:Same H9 (upd H9 u0 (.lst [.int 1])):=Same.new hu0
      have f1:upd H9 u0 (.lst [.int 1]) u0=some (.lst (([1]:List Int).map V.int)):=upd_same
      generalize upd H9 u0 (.lst [.int 1])=G1 at t1 f1 ⊢
      refine⟨_,rfl,_,rfl,q,_,0,.int (a:Int),rfl,rfl,SqT.of (t1 _ _ hq9),rfl,_,rfl,r,_,rfl,SqL.of (t1 _ _ hr9),fun u1 hu1=>?_⟩
      rw[cut_takeS]
      have t2:Same G1 (upd G1 u1 (.lst ((sm.take a).map V.int))):=Same.new hu1
      have f2:upd G1 u1 (.lst ((sm.take a).map V.int)) u1=some (.lst ((sm.take a).map V.int)):=upd_same
      generalize upd G1 u1 (.lst ((sm.take a).map V.int))=G2 at t2 f2 ⊢
      have hsl:sm.length<=20:=by
        rw[rd_len52 eW]
        exact hz.1
      refine⟨u0,u1,_,_,rfl,rfl,t2 _ _ f1,f2,by rw[sizeLine_eq,List.length_map,List.length_map,List.length_take]; simp; omega,fun u2 hu2=>?_⟩
      rw[<- List.map_append]
      have t3:Same G2 (upd G2 u2 (.lst (([1]++sm.take a).map V.int))):=Same.new hu2
      have f3:upd G2 u2 (.lst (([1]++sm.take a).map V.int)) u2=some (.lst (([1]++sm.take a).map V.int)):=upd_same
      generalize upd G2 u2 (.lst (([1]++sm.take a).map V.int))=G3 at t3 f3 ⊢
      have t13:=(t1.trans t2).trans t3
      refine⟨_,rfl,_,rfl,q,_,0,.int (a:Int),rfl,rfl,SqT.of (t13 _ _ hq9),rfl,_,_,rfl,rfl,_,rfl,r,_,rfl,SqL.of (t13 _ _ hr9),fun u3 hu3=>?_⟩
      rw[show (a:Int)+1=((a+1:Nat):Int) by omega,cut_dropS _ _ (by omega)]
      have t4:Same G3 (upd G3 u3 (.lst ((sm.drop (a+1)).map V.int))):=Same.new hu3
      have f4:upd G3 u3 (.lst ((sm.drop (a+1)).map V.int)) u3=some (.lst ((sm.drop (a+1)).map V.int)):=upd_same
      generalize upd G3 u3 (.lst ((sm.drop (a+1)).map V.int))=G4 at t4 f4 ⊢
      refine⟨u2,u3,_,_,rfl,rfl,t4 _ _ f3,f4,by rw[sizeLine_eq,List.length_map,List.length_map,List.length_append,List.length_take,List.length_drop]; simp; omega,fun u4 hu4=>?_⟩
      rw[<- List.map_append]
      have t5:Same G4 (upd G4 u4 (.lst (([1]++sm.take a++sm.drop (a+1)).map V.int))):=Same.new hu4
      have f5:upd G4 u4 (.lst (([1]++sm.take a++sm.drop (a+1)).map V.int)) u4=some (.lst (([1]++sm.take a++sm.drop (a+1)).map V.int)):=upd_same
      generalize upd G4 u4 (.lst (([1]++sm.take a++sm.drop (a+1)).map V.int))=G5 at t5 f5 ⊢
      refine⟨true,u4,_,rfl,SqL.of f5,by simp,fun mn hmn _=>?_⟩
      have hm1:1<=mn:=by
        rcases List.mem_append.mp hmn with z | z
        · rcases List.mem_append.mp z with z | z
          · rw[List.mem_singleton.mp z]; decide
          · obtain⟨j,hj⟩:=List.getElem?_of_mem z
            have hjl:=(List.getElem?_eq_some_iff.mp hj).1
            rw[List.length_take] at hjl
            rw[List.getElem?_take,if_pos (by omega)] at hj
            exact hge j mn hj (by omega)
        · obtain⟨j,hj⟩:=List.getElem?_of_mem z
          rw[List.getElem?_drop] at hj
          exact hge _ mn hj (by omega)
      refine⟨mn,1,rfl,rfl,_,rfl,?_⟩
      rw[decide_eq_false (show ¬ mn<1 by omega)]
      exact iteF ⟨_,_,rfl,(s9.trans t13).trans (t4.trans t5)⟩
    · rintro σ Hx ⟨o7,o8,rfl,sx⟩
      exact k _ (((sH5.trans s6).trans s7).trans (s8.trans sx))
end
end Fl52
namespace Fl52
open PySem L2 Lv
section
variable {P:Program}{w:World}{K:PySem.W.Frag}{mg:Str->Option Value}{base:Heap}
theorem scLay52:FnScope ["pot","numbers","found","often","reel"] ["pot","numbers"] (defScope sLay52):=⟨rfl,rfl,rfl,by decide +kernel,rfl,by decide +kernel,by decide +kernel⟩
theorem take_succ_Y {α:Type}{L:List α}{i:Nat}{x:α} (h:L[i]?=some x):L.take (i+1)=L.take i++[x]:=by rw[List.take_add_one,h,Option.toList_some]
theorem sum_take_le (cs:List Nat):∀ j,(cs.take j).sum<=cs.sum:=by
  induction cs with
  | nil=>intro j; simp
  | cons c r ih=>
    intro j
    cases j with
    | zero=>simp
    | succ j=>rw[List.take_succ_cons,List.sum_cons,List.sum_cons]; have:=ih j; omega
theorem _root_.Lv.PotC.tupne {H:Hp}{p a:Addr}{c:Int}{xs:List V} (h:PotC H p c) (e:H a=some (.tup xs)):a≠p:=fun z=>by
  obtain⟨_,_,_,q,_⟩:=h
  rw[z,q] at e
  cases e
theorem cntT_pos {b:List Bool}{B:List (List Bool)}{i:Nat} (h:i<b.length):1<=cntT (b.set i true::B):=by
  unfold cntT
  rw[List.map_cons,List.sum_cons]
  have:1<=(b.set i true).count true:=List.count_pos_iff.mpr (List.mem_of_getElem? (i:=i) (by rw[List.getElem?_set_self h]))
  omega
def spLay52:Sp:=fun vs H Q _=>∃ (p cl:Addr) (ns:List Addr) (M:List (List Int)) (c:Int),vs=[.ref p,.ref cl]/\PotC H p c/\c<=100000000/\H cl=some (.tup (ns.map V.ref))/\TTs H ns M/\M.length<=7/\1<=(M.map List.length).headD 0/\(M.map List.length).sum<=4000/\∀ (la:Addr) (tr:List Addr) (B:List (List Bool)) H',H la=none->H' la=some (.tup (tr.map V.ref))->TBs H' tr B->B.map List.length=M.map List.length->1<=cntT B->(∀ r∈tr,r≠p)->PotC H' p (c+6000)->Sm p H H'->Q (.ref la) H'
theorem ok_lay52 {f f1:Addr}{fd d1:FuncData} (F:Fun K "_law_laying" "_law_laying" sLay52 f fd) (T:Txt mg) (CK:Cal P w K mg base 1 "_law_take" ["pot","size"] spTakeC f1 d1):FnOk P w K mg base CX0 2 f fd ["pot","numbers"] spLay52:=by
  refine okW F scLay52 (fun vs H Q E h=>?_) (fun cdv A outer s H vs Q E hr h=>?_)
  · obtain⟨p,cl,ns,M,c,rfl,_⟩:=h
    rfl
  · obtain⟨p,cl,ns,M,c,rfl,hP,hc,hcl,hN,hM7,hM0,hMs,k⟩:=h
    have hr1:Room 1 _:=hr.mono (by decide)
    generalize hcs:M.map List.length=cs at *
    have hsum5:cs.sum<=5000:=by omega
    have hhd:1<=cs.headD 0:=hM0
    obtain⟨pp,hpp⟩:∃ pp,pp=M.length:=⟨_,rfl⟩
    have hlen:cs.length=pp:=by rw[<- hcs,List.length_map,hpp]
    have hpp1:1<=pp:=by
      cases cs with
      | nil=>simp at hhd
      | cons x r=>rw[<- hlen]; simp
    refine⟨_,(wss_cons (ws (ps_set (i:=2) scLay52.nd rfl (Or.inl rfl) (pe_lst pa_nil)))
      (wss_cons (ws (ps_set (i:=3) scLay52.nd rfl (Or.inr rfl) (pe_op op_add pe_int (pe_cal CK hr1 rfl (pa_cons (pv 0) (pa_cons pe_int pa_nil))))))
      (wss_cons (ws (ps_for PassesOwn.never rfl (pi_tup (pv 1)) (pg_name (i:=4) scLay52.nd rfl (Or.inl rfl))
      (WSs.out (wss_one (ws (ps_expr (pe_bm PySem.F.plainAttrs_list PySem.F.slot_list_append PySem.F.type_list_append mt_append (pv 2) (pa_cons (pe_comp (own:=["place"]) (js:=[0,3]) (CompOk.by (sc:=defScope sLay52) (N:=["pot","numbers","found","often","reel"]) rfl rfl (by decide +kernel)) rfl (pi_tup (pv 4)) gkeep_name (fun _ _ _ _ _=>(pg_name (i:=0) (by show (["place","pot","often"]:List Str).Nodup; decide +kernel) rfl (Or.inl rfl) (.inr rfl))) (fun _ _ _ _ _=>pts_nil) (fun _ _ _ _ _=>(pe_cmpR op_lt (pe_cal CK hr1 rfl (pa_cons (pv 1) (pa_cons pe_int pa_nil))) (pv 2) (nomark _)))) pa_nil))))))))
      (wss_cons (ws (ps_asg pe_bl (pg_sub (pe_ix ix_list (pv 2) pe_int (fun _ _=>rfl)) (pe_cal CK hr1 rfl (pa_cons (pv 0) (pa_cons (pe_callB call_len_seq rfl T.len PySem.boot_len (pa_cons (pe_ix ix_list (pv 2) pe_int (fun _ _=>rfl)) pa_nil)) pa_nil))) set_list)))
      (wss_one (ws (ps_ret (pe_callTy call_tuple_of rfl T.tuple b_tuple (pa_cons (pe_comp (own:=["reel"]) (js:=[]) (CompOk.by (sc:=defScope sLay52) (N:=["pot","numbers","found","often","reel"]) rfl rfl (by decide +kernel)) rfl (pi_list (pv 2)) gkeep_name (fun _ _ _ _ _=>(pg_name (i:=0) (by show (["reel"]:List Str).Nodup; decide +kernel) rfl (Or.inl rfl) (.inr rfl))) (fun _ _ _ _ _=>pts_nil) (fun _ _ _ _ _=>(pe_callTy (callK_tupleO K) rfl T.tuple b_tuple (pa_cons (pv 0) pa_nil)))) pa_nil))))))))),?_⟩
    refine⟨Nat.zero_le _,fun fl nfl=>?_⟩
    have hfp:fl≠p:=hP.ne nfl
    have e1:upd H fl (.lst []) fl=some (.lst (([]:List Addr).map V.ref)):=upd_same
    have hP1:PotC (upd H fl (.lst [])) p c:=hP.put nfl
    have sm1:Sm p H (upd H fl (.lst [])):=Sm.new nfl
    generalize upd H fl (.lst [])=H1 at e1 hP1 sm1 ⊢
    refine⟨_,rfl,p,4,c,rfl,hP1,by omega,by decide,by decide +kernel,fun d H2 d0 d1 hP2 sm2=>⟨1,d,rfl,rfl,?_⟩⟩
    have e2:H2 fl=some (.lst (([]:List Addr).map V.ref)):=sm2 _ _ e1 hfp
    have sm12:=sm1.trans sm2
    have hclp:cl≠p:=hP.tupne hcl
    have hclf:cl≠fl:=fun z=>by rw[z,nfl] at hcl; cases hcl
    have hz5:6000<sizeLine:=by decide
    have hcl2:H2 cl=some (.tup (ns.map V.ref)):=sm12 _ _ hcl hclp
    have hnsp:∀ r∈ns,r≠p/\r≠fl:=fun r hr=>by
      obtain⟨j,hj⟩:=List.getElem?_of_mem hr
      have hjl:=(List.getElem?_eq_some_iff.mp hj).1
      have:=hN.2 j r _ hj (List.getElem?_eq_getElem (by rw[<- hN.1]; exact hjl))
      exact⟨hP.tupne this,fun z=>by rw[z,nfl] at this; cases this⟩
    refine⟨_,rfl,cl,rfl,⟨_,SqT.of hcl2⟩,?_⟩
    refine for_tup (xs:=ns.map V.ref) (fun j σ Hx=>∃ (o5:Option V) (rs:List Addr) (N:List (List Bool)),σ=[some (.ref p),some (.ref cl),some (.ref fl),some (.int (1+d)),o5]/\Hx fl=some (.lst (rs.map V.ref))/\LBs Hx rs N/\N.map List.length=cs.take j/\rs.Nodup/\(∀ r∈rs,r≠p/\r≠fl/\r≠cl/\H r=none)/\Hx cl=some (.tup (ns.map V.ref))/\TTs Hx ns M/\PotC Hx p (c+1+((cs.take j).sum:Nat))/\Sm p H Hx)
      ⟨_,[],[],rfl,e2,⟨rfl,fun j r xs a=>(nomatch a)⟩,rfl,List.nodup_nil,fun r hr=>(nomatch hr),hcl2,⟨hN.1,fun j r xs a b=>sm12 _ _ (hN.2 j r xs a b) (hnsp r (List.mem_of_getElem? a)).1⟩,by simpa using hP2,sm12⟩ (fun j σ Hx _ ⟨_,_,_,_,_,_,_,_,_,hc,_⟩=>SqT.of hc) ?_ ?_
    · rintro j x σ Hx hxj ⟨o5,rs,N,rfl,hf,hL,hNl,hnd,hrs,hcx,hMx,hPx,smx⟩
      obtain⟨q0,hq0,rfl⟩:=map_ref_get hxj
      have hj0:=(List.getElem?_eq_some_iff.mp hq0).1
      have hjM:j<M.length:=by rw[<- hN.1]; exact hj0
      have eM:=List.getElem?_eq_getElem hjM
      have hqx:=hMx.2 j q0 _ hq0 eM
      generalize hm:M[j].length=m
      have ez:cs[j]?=some m:=by rw[<- hcs,List.getElem?_map,eM,Option.map_some,hm]
      have htk:=take_succ_Y ez
      have hsj:(cs.take (j+1)).sum=(cs.take j).sum+m:=by rw[htk,List.sum_append]; simp
      have hsj5:(cs.take (j+1)).sum<=5000:=Nat.le_trans (sum_take_le cs _) hsum5
      have hjl:=(List.getElem?_eq_some_iff.mp ez).1
      have hNj:N.length=j:=by have:=congrArg List.length hNl; rw[List.length_map,List.length_take] at this; omega
      refine⟨_,rfl,.inl ⟨rfl,_,SqL.of hf⟩,_,rfl,q0,rfl,⟨_,SqT.of hqx⟩,?_⟩
      refine comp_tup (xs:=M[j].map V.int) (fun acc i Hc=>∃ bs:List Bool,Hc acc=some (.lst (bs.map V.bl))/\bs.length=i/\PotC Hc p (c+1+((cs.take j).sum:Nat)+i)/\Sm p Hx Hc) (fun acc h0=>⟨[],upd_same,rfl,by simpa using hPx.put h0,Sm.new h0⟩) (fun acc i Hc _ _ ⟨_,_,_,_,sc'⟩=>SqT.of (sc' _ _ hqx (hPx.tupne hqx))) ?_ ?_
      · rintro acc i x Hc h0 hix ⟨bs,hacc,hbl,hPc,smc⟩
        have hi0:=(List.getElem?_eq_some_iff.mp hix).1
        have hi:i<m:=by rw[List.length_map,hm] at hi0; exact hi0
        have hap:acc≠p:=hPx.ne h0
        refine⟨_,rfl,p,4,_,rfl,hPc,by omega,by decide,by decide +kernel,fun b Hd b0 b1 hPd smd=>?_⟩
        refine⟨_,rfl,b,_,rfl,rfl,?_⟩
        refine⟨_,smd _ _ hacc hap,by rw[List.length_map]; omega,hi0,bs++[decide (b<1+d)],by rw[upd_same,List.map_append]; rfl,by rw[List.length_append,hbl]; rfl,?_,(smc.trans smd).putC h0⟩
        refine (hPd.off hap).up ?_
        omega
      rintro r Hd nr ⟨bs,hr',hbl,hPd,smd⟩
      rw[List.length_map,hm] at hbl hPd
      have hrp:r≠p:=hPx.ne nr
      have hrf:r≠fl:=Ne.symm (ne_of_none hf nr)
      have hrc:r≠cl:=Ne.symm (ne_of_none hcx nr)
      have hrn:r ∉ rs:=fun hm=>by
        obtain⟨i,hi⟩:=List.mem_iff_getElem?.mp hm
        have hil:=(List.getElem?_eq_some_iff.mp hi).1
        have:=hL.2 i r _ hi (List.getElem?_eq_getElem (by rw[<- hL.1]; exact hil))
        rw[nr] at this; cases this
      have hrl:rs.length=j:=by rw[hL.1,hNj]
      refine⟨fl,_,_,rfl,rfl,smd _ _ hf hfp,small1000 (by rw[List.length_map]; omega),_,rs++[r],N++[bs],rfl,by rw[upd_same,List.map_append]; rfl,⟨by rw[List.length_append,List.length_append,hL.1]; rfl,fun i q xs a b=>?_⟩,?_,?_,?_,?_,?_,?_,(smx.trans smd).putC nfl⟩
      · have off:∀ {o:HO},q≠fl->Hd q=some o->upd Hd fl (.lst (rs.map V.ref++[.ref r])) q=some o:=fun h e=>by rw[upd_ne h]; exact e
        rcases Nat.lt_or_ge i rs.length with hi | hi
        · rw[List.getElem?_append_left hi] at a
          rw[List.getElem?_append_left (by rw[<- hL.1]; exact hi)] at b
          have hqm:=hrs q (List.mem_of_getElem? a)
          exact off hqm.2.1 (smd _ _ (hL.2 i q xs a b) hqm.1)
        · rw[List.getElem?_append_right hi] at a
          rw[List.getElem?_append_right (by rw[<- hL.1]; exact hi),<- hL.1] at b
          cases e3:i - rs.length with
          | zero=>rw[e3] at a b; cases a; cases b; exact off hrf hr'
          | succ n=>rw[e3] at a; cases a
      · rw[List.map_append,hNl,htk,List.map_cons,List.map_nil,hbl]
      · exact List.nodup_append.mpr ⟨hnd,List.nodup_cons.mpr ⟨List.not_mem_nil,List.nodup_nil⟩,fun x hx y hy z=>hrn (by rw[List.mem_singleton.mp hy] at z; rw[<- z]; exact hx)⟩
      · intro q hq
        rcases List.mem_append.mp hq with hq | hq
        · exact hrs q hq
        · rw[List.mem_singleton.mp hq]; exact⟨hrp,hrf,hrc,smx.free hrp nr⟩
      · rw[upd_ne hclf]; exact smd _ _ hcx hclp
      · exact⟨hMx.1,fun i q xs a b=>by rw[upd_ne (hnsp q (List.mem_of_getElem? a)).2]; exact smd _ _ (hMx.2 i q xs a b) (hnsp q (List.mem_of_getElem? a)).1⟩
      · rw[hsj]
        refine (hPd.off hfp).up ?_
        omega
    · rintro σ Hx ⟨o5,rs,N,rfl,hf,hL,hNl,hnd,hrs,hcx,hMx,hPx,smx⟩
      have hcl':(ns.map V.ref).length=cs.length:=by rw[List.length_map,hN.1,<- hcs,List.length_map]
      rw[hcl',List.take_length] at hNl hPx
      have hNlen:N.length=pp:=by have:=congrArg List.length hNl; rw[List.length_map] at this; omega
      have hrl:rs.length=pp:=by rw[hL.1,hNlen]
      obtain⟨r0,rt,rfl⟩:∃ x r,rs=x::r:=by
        cases rs with
        | nil=>simp at hrl; omega
        | cons x r=>exact⟨x,r,rfl⟩
      obtain⟨b0,Nt,rfl⟩:∃ x r,N=x::r:=by
        cases N with
        | nil=>simp at hNlen; omega
        | cons x r=>exact⟨x,r,rfl⟩
      have hb0:1<=b0.length:=by
        rw[List.map_cons] at hNl
        rw[<- hNl] at hhd
        exact hhd
      have hb5:b0.length<=5000:=by
        rw[List.map_cons] at hNl
        rw[<- hNl,List.sum_cons] at hsum5
        omega
      have h0:=hL.2 0 r0 b0 rfl rfl
      have hr0:=hrs r0 List.mem_cons_self
      refine⟨_,rfl,fl,_,0,.ref r0,rfl,rfl,SqL.of hf,atI_nat (j:=0) rfl,?_⟩
      refine⟨_,rfl,_,rfl,fl,_,0,.ref r0,rfl,rfl,SqL.of hf,atI_nat (j:=0) rfl,r0,_,rfl,.inl (SqL.of h0),p,_,_,rfl,hPx,by omega,by rw[List.length_map]; omega,bits_small (by rw[List.length_map]; omega) (by rw[List.length_map]; omega),fun kk H5 k0 k1 hP5 sm5=>?_⟩
      rw[List.length_map] at k1
      have h05:=sm5 _ _ h0 hr0.1
      refine⟨r0,_,kk,kk.toNat,rfl,rfl,h05,ixN_of k0 (by rw[List.length_map]; exact k1),?_⟩
      have hset:(b0.map V.bl).set kk.toNat (.bl true)=(b0.set kk.toNat true).map V.bl:=by rw[List.map_set]
      rw[hset]
      have hf6:upd H5 r0 (.lst ((b0.set kk.toNat true).map V.bl)) fl=some (.lst ((r0::rt).map V.ref)):=by rw[upd_ne (Ne.symm hr0.2.1)]; exact sm5 _ _ hf hfp
      have hL6:LBs (upd H5 r0 (.lst ((b0.set kk.toNat true).map V.bl))) (r0::rt) (b0.set kk.toNat true::Nt):=by
        refine⟨hL.1,fun j q xs a b=>?_⟩
        cases j with
        | zero=>cases a; cases b; exact upd_same
        | succ j=>
          have hq:q∈rt:=List.mem_of_getElem? (show rt[j]?=some q from a)
          rw[upd_ne fun z=>(List.nodup_cons.mp hnd).1 (by rw[<- z]; exact hq)]
          exact sm5 _ _ (hL.2 (j+1) q xs a b) (hrs q (List.mem_cons_of_mem _ hq)).1
      have hP6:PotC (upd H5 r0 (.lst ((b0.set kk.toNat true).map V.bl))) p (c+1+(cs.sum:Nat)+1):=hP5.off hr0.1
      have sm6:Sm p H (upd H5 r0 (.lst ((b0.set kk.toNat true).map V.bl))):=by
        intro b o e hb
        rw[upd_ne ?_]
        · exact (smx.trans sm5) b o e hb
        · exact ne_of_none e hr0.2.2.2
      have hBl:(b0.set kk.toNat true::Nt).map List.length=cs:=by rw[<- hNl,List.map_cons,List.map_cons,List.length_set]
      have hBn:(b0.set kk.toNat true::Nt).length=pp:=hNlen
      have hBc:1<=cntT (b0.set kk.toNat true::Nt):=cntT_pos (by omega)
      generalize upd H5 r0 (.lst ((b0.set kk.toNat true).map V.bl))=H6 at hf6 hL6 hP6 sm6 ⊢
      generalize (b0.set kk.toNat true::Nt)=B at hL6 hBl hBn hBc
      generalize (r0::rt)=rs at hf6 hL6 hrl hrs
      refine⟨_,rfl,fl,rfl,⟨_,SqL.of hf6⟩,?_⟩
      refine comp_list (xs:=rs.map V.ref) (fun acc j Hc=>∃ tr:List Addr,Hc acc=some (.lst (tr.map V.ref))/\TBs Hc tr (B.take j)/\(∀ r∈tr,r≠p/\r≠acc)/\Same H6 Hc) (fun acc h0=>⟨[],upd_same,⟨rfl,fun j r bs a=>(nomatch a)⟩,fun r hr=>(nomatch hr),Same.new h0⟩) (fun acc j Hc h0 _ ⟨_,_,_,_,sc'⟩=>SqL.of (sc' _ _ hf6)) ?_ ?_
      · rintro acc j x Hc h0 hxj ⟨tr,hacc,hT,htr,sc'⟩
        obtain⟨q,hq,rfl⟩:=get_ref hxj
        have hj:=(List.getElem?_eq_some_iff.mp hq).1
        obtain⟨bs,hbs⟩:∃ bs,B[j]?=some bs:=⟨_,List.getElem?_eq_getElem (by rw[<- hL6.1]; exact hj)⟩
        have hq6:=sc' _ _ (hL6.2 j q bs hq hbs)
        refine⟨_,rfl,q,_,rfl,.inl ⟨SqL.of hq6,fun t nt=>?_⟩⟩
        have hta:t≠acc:=Ne.symm (ne_of_none hacc nt)
        have htp:t≠p:=(hP6.same sc').ne nt
        have u1:Same Hc (upd Hc t (.tup (bs.map V.bl))):=Same.new nt
        have e1:upd Hc t (.tup (bs.map V.bl)) t=some (.tup (bs.map V.bl)):=upd_same
        generalize upd Hc t (.tup (bs.map V.bl))=Hd at u1 e1 ⊢
        have trl:tr.length=j:=by rw[hT.1,List.length_take]; rw[<- hL6.1]; omega
        refine⟨_,u1 _ _ hacc,small1000 (by rw[List.length_map]; omega),by rw[List.length_map]; exact hj,tr++[t],by rw[upd_same,List.map_append]; rfl,?_,fun r hr=>?_,(sc'.trans u1).put h0⟩
        · rw[take_succ_Y hbs]
          refine TBs.snoc ⟨hT.1,fun i q2 cs2 a b=>?_⟩ (by rw[upd_ne hta]; exact e1)
          rw[upd_ne (htr q2 (List.mem_of_getElem? a)).2]
          exact u1 _ _ (hT.2 i q2 cs2 a b)
        · rcases List.mem_append.mp hr with hr | hr
          · exact htr r hr
          · rw[List.mem_singleton.mp hr]; exact⟨htp,hta⟩
      rintro acc H7 nacc ⟨tr,hacc,hT,htr,s7⟩
      have:(rs.map V.ref).length=B.length:=by rw[List.length_map,hL6.1]
      rw[this,List.take_length] at hT
      refine⟨acc,_,rfl,.inl ⟨SqL.of hacc,fun la nla=>?_⟩⟩
      have n6:H6 la=none:=s7.free nla
      have hlap:la≠p:=hP6.ne n6
      have u8:Same H7 (upd H7 la (.tup (tr.map V.ref))):=Same.new nla
      refine k la tr B _ (sm6.free hlap n6) upd_same (hT.same u8) hBl hBc (fun r hr=>(htr r hr).1) ?_ (sm6.trans (Sm.of (s7.trans u8)))
      refine ((hP6.same s7).same u8).up ?_
      omega
end
end Fl52
namespace Fl52
open PySem L2 Lv
section
variable {P:Program}{w:World}{K:PySem.W.Frag}{mg:Str->Option Value}{base:Heap}
theorem le_sum:∀ {c:List Int},(∀ x∈c,0<=x)->∀ x∈c,x<=c.sum
  | [],_,x,hx=>by simp at hx
  | y::c,h,x,hx=>by
    have h0:0<=c.sum:=by
      have hc:∀ z∈c,0<=z:=fun z hz=>h z (List.mem_cons_of_mem _ hz)
      cases c with
      | nil=>simp
      | cons z c=>exact Int.le_trans (hc z List.mem_cons_self) (le_sum hc z List.mem_cons_self)
    rw[List.sum_cons]
    rcases List.mem_cons.mp hx with rfl | hx
    · omega
    · have:=le_sum (fun z hz=>h z (List.mem_cons_of_mem _ hz)) x hx
      have:=h y List.mem_cons_self
      omega
theorem ok_tupof2 {f:Addr}{fd:FuncData} (F:Fun K "is_tuple_of" "is_tuple_of" sTupOf f fd) (T:Txt mg):FnOk P w K mg base CX0 1 f fd ["thing","many"] spTupOf2:=by
  refine F.ok scTupOf (fun vs H Q E h=>?_) (fun cdv A outer s H vs Q E hr h=>?_)
  · obtain⟨a,xs,n,rfl,_⟩:=h
    rfl
  · obtain⟨a,xs,n,rfl,hA,k⟩:=h
    refine⟨_,pss_one (ps_ret (pe_and (pe_callB call_isinst rfl T.isinstance b_isinstance (pa_cons (pv 0) (pa_cons (pe_ty rfl T.tuple b_tuple) pa_nil))) (pe_one (pe_cmpR op_eq (pe_callB call_len_seq rfl T.len PySem.boot_len (pa_cons (pv 0) pa_nil)) (pv 1) (nomark _))))),?_⟩
    refine⟨_,rfl,.ref a,"tuple",_,true,rfl,.tup hA,kit_tuple_tuple,true,rfl,iteT ⟨_,rfl,a,_,rfl,.inr (SqT.of hA),_,rfl,rfl,?_⟩⟩
    simpa using k
theorem kit_bb {K:PySem.W.Frag}:PySem.W.kitOne K (.type "bool") (.type "bool")=some true:=by rfl
theorem bl_get {bs:List Bool}{i:Nat}{x:V} (h:(bs.map V.bl)[i]?=some x):∃ b,bs[i]?=some b/\x=.bl b:=by
  rw[List.getElem?_map] at h
  cases e:bs[i]? with
  | none=>rw[e] at h; cases h
  | some r=>rw[e] at h; exact⟨r,rfl,(Option.some.inj h).symm⟩
theorem small9 {n:Nat} (h:n<=90000):n<sizeLine:=Nat.lt_of_le_of_lt h (by decide)
theorem scFits:FnScope ["on_reel","count"] ["on_reel","count"] (defScope sFits):=⟨rfl,rfl,rfl,by decide +kernel,rfl,by decide +kernel,by decide +kernel⟩
theorem ok_fits {f f1:Addr}{fd d1:FuncData} (F:Fun K "fits_reel" "fits_reel" sFits f fd) (T:Txt mg) (CT:Cal P w K mg base 1 "is_tuple_of" ["thing","many"] spTupOf2 f1 d1):FnOk P w K mg base CX0 2 f fd ["on_reel","count"] spFits:=by
  refine F.ok scFits (fun vs H Q E h=>?_) (fun cdv A outer s H vs Q E hr h=>?_)
  · obtain⟨a,xs,n,rfl,_⟩:=h
    rfl
  · obtain⟨a,bs,n,rfl,hA,hl,k⟩:=h
    refine⟨_,(pss_one (ps_ret (pe_and (pe_cal CT hr rfl (pa_cons (pv 0) (pa_cons (pv 1) pa_nil))) (pe_one (pe_callB (call_all rfl) rfl T.all b_all (pa_cons (pe_comp (own:=["real"]) (js:=[]) (CompOk.by (sc:=defScope sFits) (N:=["on_reel","count"]) rfl rfl (by decide +kernel)) rfl (pi_tup (pv 0)) gkeep_name (fun _ _ _ _ _=>(pg_name (i:=0) (by show (["real"]:List Str).Nodup; decide +kernel) rfl (Or.inl rfl) (.inr rfl))) (fun _ _ _ _ _=>pts_nil) (fun _ _ _ _ _=>(pe_callB (callK_isinst K) rfl T.isinstance b_isinstance (pa_cons (pv 0) (pa_cons (pe_ty rfl T.bool b_bool) pa_nil))))) pa_nil)))))),?_⟩
    refine⟨_,rfl,_,rfl,a,_,n,rfl,hA,_,rfl,?_⟩
    rw[List.length_map]
    by_cases hn:(bs.length:Int)=n
    · rw[decide_eq_true hn] at k ⊢
      refine iteT ⟨_,rfl,a,rfl,⟨_,SqT.of hA⟩,?_⟩
      refine comp_tup (xs:=bs.map V.bl) (fun acc i H2=>Same H H2/\H2 acc=some (.lst ((List.replicate i true).map V.bl))) (fun acc h0=>⟨Same.new h0,upd_same⟩) (fun acc i H2 h0 _ p=>p.1.tup (SqT.of hA)) ?_ ?_
      · rintro acc i x H2 h0 hx ⟨s2,hacc⟩
        obtain⟨z,hz,rfl⟩:=bl_get hx
        have hi:=(List.getElem?_eq_some_iff.mp hz).1
        refine⟨_,rfl,.bl z,"bool",_,true,rfl,.bl z,kit_bb,?_⟩
        refine⟨_,hacc,small9 (by simp; omega),by rw[List.length_map]; exact hi,s2.put h0,?_⟩
        rw[upd_same,List.replicate_succ',List.map_append]
        rfl
      · rintro acc H2 h0 ⟨s2,hacc⟩
        refine⟨acc,_,rfl,SqL.of hacc,?_⟩
        rw[all_true]
        exact k H2 s2
    · rw[decide_eq_false hn] at k ⊢
      exact iteF (k H (Same.refl H))
theorem scReal:FnScope ["laying"] ["laying"] (defScope sReal):=⟨rfl,rfl,rfl,by decide +kernel,rfl,by decide +kernel,by decide +kernel⟩
theorem ok_real {f:Addr}{fd:FuncData} (F:Fun K "real_rows" "real_rows" sReal f fd) (T:Txt mg):FnOk P w K mg base CX0 1 f fd ["laying"] spReal:=by
  refine F.ok scReal (fun vs H Q E h=>?_) (fun cdv A outer s H vs Q E hr h=>?_)
  · obtain⟨a,N,rfl,_⟩:=h
    rfl
  · obtain⟨a,N,rfl,⟨rs,hA,hT⟩,hf,k⟩:=h
    refine⟨_,(pss_one (ps_ret (pe_callB (call_sumI rfl) rfl T.sum b_sum (pa_cons (pe_comp (own:=["on_reel"]) (js:=[]) (CompOk.by (sc:=defScope sReal) (N:=["laying"]) rfl rfl (by decide +kernel)) rfl (pi_tup (pv 0)) gkeep_name (fun _ _ _ _ _=>(pg_name (i:=0) (by show (["on_reel"]:List Str).Nodup; decide +kernel) rfl (Or.inl rfl) (.inr rfl))) (fun _ _ _ _ _=>pts_nil) (fun _ _ _ _ _=>(pe_bmT PySem.F.slot_tuple_count PySem.F.type_tuple_count mt_countT (pv 0) (pa_cons pe_bl pa_nil)))) pa_nil)))),?_⟩
    refine⟨_,rfl,a,rfl,⟨_,SqT.of hA⟩,?_⟩
    refine comp_tup (xs:=rs.map V.ref) (fun acc i H2=>Same H H2/\H2 acc=some (.lst (((N.take i).map fun bs=>((bs.count true:Nat):Int)).map V.int))) (fun acc h0=>⟨Same.new h0,upd_same⟩) (fun acc i H2 h0 _ p=>p.1.tup (SqT.of hA)) ?_ ?_
    · rintro acc i x H2 h0 hx ⟨s2,hacc⟩
      obtain⟨r,hz,rfl⟩:=ref_get hx
      obtain⟨bs,hb,hm,hr2⟩:=hT.at hz
      have hi:=(List.getElem?_eq_some_iff.mp hz).1
      have hl:=hT.1
      have hq:=hf.1
      refine⟨_,rfl,⟨r,_,rfl,s2 _ _ hr2⟩,r,bs,true,rfl,rfl,s2 _ _ hr2,?_⟩
      refine⟨_,hacc,small9 (by simp; omega),by rw[List.length_map]; exact hi,s2.put h0,?_⟩
      rw[upd_same,List.take_add_one,hb]
      simp
    · rintro acc H2 h0 ⟨s2,hacc⟩
      refine⟨acc,_,rfl,SqL.of hacc,?_⟩
      rw[List.length_map,hT.1,List.take_length]
      exact k H2 s2
theorem scIsLay:FnScope ["p","n","laying"] ["p","n","laying"] (defScope sIsLay):=⟨rfl,rfl,rfl,by decide +kernel,rfl,by decide +kernel,by decide +kernel⟩
theorem all_take {N:List (List Bool)}{c:List Int} (h:N.length=c.length):((N.zip c).map fun q=>decide (((q.1.length:Nat):Int)=q.2)).all id=decide (lensB N=c):=by
  induction N generalizing c with
  | nil=>cases c with
    | nil=>rfl
    | cons _ _=>simp at h
  | cons bs N ih=>cases c with
    | nil=>simp at h
    | cons x c=>
      rw[List.zip_cons_cons,List.map_cons,List.all_cons,ih (by simpa using h)]
      simp only[lensB,List.map_cons,List.cons.injEq,id_eq,Bool.decide_and]
      rfl
theorem ok_islay {f f1 f2 f3 f4 : Addr} {fd d1 d2 d3 d4 : FuncData} (F : Fun K "is_laying" "is_laying" sIsLay f fd) (T : Txt mg) (CT : Cal P w K mg base 1 "is_tuple_of" ["thing", "many"] spTupOf2 f1 d1) (CF : Cal P w K mg base 2 "fits_reel" ["on_reel", "count"] spFits f2 d2)
    (CC:Cal P w K mg base 3 "level_counts" ["p","n"] spCounts f3 d3) (CR:Cal P w K mg base 1 "real_rows" ["laying"] spReal f4 d4):FnOk P w K mg base CX0 4 f fd ["p","n","laying"] spIsLay:=by
  refine F.ok scIsLay (fun vs H Q E h=>?_) (fun cdv A outer s H vs Q E hr h=>?_)
  · obtain⟨p,n,a,N,rfl,_⟩:=h
    rfl
  · obtain⟨p,n,a,N,rfl,h1,h2,h3,h4,hL,hf,k⟩:=h
    obtain⟨rs,hA,hT⟩:=id hL
    have hr1:Room 1 _:=hr.mono (by decide)
    have hr2:Room 2 _:=hr.mono (by decide)
    have hr3:Room 3 _:=hr.mono (by decide)
    refine⟨_,(pss_cons (ps_if (pt_not (pt_val (pe_cal CT hr1 rfl (pa_cons (pv 2) (pa_cons (pv 0) pa_nil)))))
      (pss_one (ps_ret pe_bl))
      pss_nil)
      (pss_cons (ps_if (pt_not (pt_val (pe_callB (call_all rfl) rfl T.all b_all (pa_cons (pe_comp (own:=["on_reel","count"]) (js:=[]) (CompOk.by (sc:=defScope sIsLay) (N:=["p","n","laying"]) rfl rfl (by decide +kernel)) rfl (pi_zipB rfl T.zip (pa_cons (pv 2) (pa_cons (pe_cal CC hr3 rfl (pa_cons (pv 0) (pa_cons (pv 1) pa_nil))) pa_nil))) (gkeep_two (i:=0) (k:=1) (K:=K)) (fun _ _ _ _ _=>(pgK_tup K rfl (pgs_cons (pg_name (i:=0) (by show (["on_reel","count"]:List Str).Nodup; decide +kernel) rfl (Or.inl rfl) (.inr rfl)) (pgs_cons (pg_name (i:=1) (by show (["on_reel","count"]:List Str).Nodup; decide +kernel) rfl (Or.inl rfl) (.inr rfl)) pgs_nil)))) (fun _ _ _ _ _=>pts_nil) (fun _ _ _ _ _=>(pe_cal CF hr2 rfl (pa_cons (pv 0) (pa_cons (pv 1) pa_nil))))) pa_nil))))
      (pss_one (ps_ret pe_bl))
      pss_nil)
      (pss_one (ps_ret (pe_cmpR op_gt (pe_cal CR hr1 rfl (pa_cons (pv 2) pa_nil)) pe_int (nomark _)))))),?_⟩
    have hcl:=cnt_len (p:=p) (by omega) n
    refine⟨_,rfl,_,rfl,a,_,p,rfl,hA,?_⟩
    rw[List.length_map,hT.1]
    by_cases hn:((N.length:Nat):Int)=(p:Int)
    · rw[decide_eq_true hn]
      refine⟨_,rfl,iteF ?_⟩
      refine⟨_,rfl,_,rfl,_,rfl,p,n,rfl,h1,h2,h3,fun l H1 _ hl1 s1=>?_⟩
      have hA1:=s1 _ _ hA
      have hT1:=hT.same s1
      have qA:SqB false K H1 a (rs.map V.ref):=SqT.of hA1
      have qB:SqB false K H1 l ((cnt p n).map V.int):=SqT.of hl1
      have hNl:N.length=(cnt p n).length:=by rw[hcl]; omega
      refine⟨false,false,a,l,rfl,⟨_,qA⟩,⟨_,qB⟩,?_⟩
      refine comp_zip (b1:=false) (b2:=false) (xs:=rs.map V.ref) (ys:=(cnt p n).map V.int) (by rw[List.length_map,List.length_map,hT.1]; omega) (fun acc i H2=>Same H1 H2/\H2 acc=some (.lst ((((N.zip (cnt p n)).map fun q=>decide (((q.1.length:Nat):Int)=q.2)).take i).map V.bl))) (fun acc h0=>⟨Same.new h0,upd_same⟩) (fun acc i H2 h0 _ q=>⟨q.1.tup qA,q.1.tup qB⟩) ?_ ?_
      · rintro acc i x y pp H2 h0 hx hy ⟨s2,hacc⟩ hp
        obtain⟨r,hz,rfl⟩:=ref_get hx
        obtain⟨c,hc,rfl⟩:=map_get hy
        obtain⟨bs,hb,hm,hr2⟩:=hT1.at hz
        have hi:=(List.getElem?_eq_some_iff.mp hz).1
        have hTl:=hT.1
        have hfl:=hf.1
        have s3:Same H2 (upd H2 pp (.tup [.ref r,.int c])):=Same.new hp
        refine⟨pp,_,rfl,SqT.of upd_same,rfl,_,_,rfl,_,_,rfl,rfl,?_⟩
        refine⟨_,rfl,_,rfl,r,bs,c,rfl,s3 _ _ (s2 _ _ hr2),hf.2 bs hm,fun H4 s4=>?_⟩
        refine⟨_,s4 _ _ (s3 _ _ hacc),small9 (by simp; omega),by rw[List.length_map]; exact hi,((s2.trans s3).trans s4).put h0,?_⟩
        rw[upd_same,List.take_add_one]
        have e:((N.zip (cnt p n)).map fun q=>decide (((q.1.length:Nat):Int)=q.2))[i]?=some (decide (((bs.length:Nat):Int)=c)):=by
          rw[List.getElem?_map,List.getElem?_zip_eq_some.mpr (⟨hb,hc⟩:N[i]?=some (bs,c).1/\(cnt p n)[i]?=some (bs,c).2)]
          rfl
        rw[e,Option.toList_some,List.map_append]
        rfl
      · rintro acc H2 h0 ⟨s2,hacc⟩
        have hfull:(((N.zip (cnt p n)).map fun q=>decide (((q.1.length:Nat):Int)=q.2)).take (rs.map V.ref).length)=((N.zip (cnt p n)).map fun q=>decide (((q.1.length:Nat):Int)=q.2)):=by
          refine List.take_of_length_le ?_
          rw[List.length_map,List.length_map,List.length_zip,hT.1]
          omega
        rw[hfull] at hacc
        have hS:=s1.trans s2
        refine⟨acc,_,rfl,SqL.of hacc,?_⟩
        rw[all_take hNl]
        by_cases he:lensB N=cnt p n
        · rw[decide_eq_true he]
          refine⟨_,rfl,iteF ?_⟩
          refine⟨_,rfl,a,N,rfl,hL.same hS,hf,fun H3 s3=>⟨_,0,rfl,rfl,?_⟩⟩
          have e2:holdsB (cnt p n) N=decide (0<(N.map fun bs=>((bs.count true:Nat):Int)).sum):=by
            unfold holdsB
            rw[decide_eq_true he,Bool.true_and]
            exact Bool.eq_iff_iff.mpr (by rw[decide_eq_true_iff]; exact ((sum_any N).2).symm)
          have kk:=k H3 (hS.trans s3)
          rw[e2] at kk
          exact kk
        · rw[decide_eq_false he]
          refine⟨_,rfl,iteT ?_⟩
          have e2:holdsB (cnt p n) N=false:=by
            unfold holdsB
            rw[decide_eq_false he,Bool.false_and]
          rw[e2] at k
          exact k H2 hS
    · rw[decide_eq_false hn]
      refine⟨_,rfl,iteT ?_⟩
      have e2:holdsB (cnt p n) N=false:=by
        unfold holdsB
        rw[decide_eq_false (fun z=>hn (by rw[<- hcl,<- z]; simp[lensB])),Bool.false_and]
      rw[e2] at k
      exact k H (Same.refl H)
theorem scLayH:FnScope ["p","n","laying"] ["p","n","laying"] (defScope sLayH):=⟨rfl,rfl,rfl,by decide +kernel,rfl,by decide +kernel,by decide +kernel⟩
theorem ok_layh {f f1 f2:Addr}{fd d1 d2:FuncData} (F:Fun K "laying_holds" "laying_holds" sLayH f fd) (T:Txt mg) (CP:Cal P w K mg base 5 "check_places" ["p","n"] spPlaces f1 d1) (CI:Cal P w K mg base 4 "is_laying" ["p","n","laying"] spIsLay f2 d2):FnOk P w K mg base CX0 6 f fd ["p","n","laying"] spIsLay:=by
  refine F.ok scLayH (fun vs H Q E h=>?_) (fun cdv A outer s H vs Q E hr h=>?_)
  · obtain⟨p,n,a,N,rfl,_⟩:=h
    rfl
  · obtain⟨p,n,a,N,rfl,h1,h2,h3,h4,hL,hf,k⟩:=h
    have hr4:Room 4 _:=hr.mono (by decide)
    refine⟨_,(pss_cons (ps_expr (pe_cal CP hr rfl (pa_cons (pv 0) (pa_cons (pv 1) pa_nil))))
      (pss_one (ps_ret (pe_cal CI hr4 rfl (pa_cons (pv 0) (pa_cons (pv 1) (pa_cons (pv 2) pa_nil))))))),?_⟩
    refine⟨_,rfl,_,rfl,p,n,rfl,h1,h2,h3,h4,fun H1 s1=>?_⟩
    refine⟨_,rfl,_,rfl,_,rfl,p,n,a,N,rfl,h1,h2,h3,h4,hL.same s1,hf,fun H2 s2=>k H2 (s1.trans s2)⟩
def spLayR:Sp:=fun vs H Q _=>∃ (p n:Nat) (b:Addr) (B:List (List Bool)),vs=[.int p,.int n,.ref b]/\2<=p/\p<=7/\n<=300/\tot p n<=4000/\Lay H b B/\lensB B=cnt p n/\∀ H',Same H H'->Q (.int (readOf (num p n) B)) H'
theorem scLayR:FnScope ["p","n","laying"] ["p","n","laying"] (defScope sLayR):=⟨rfl,rfl,rfl,by decide +kernel,rfl,by decide +kernel,by decide +kernel⟩
theorem ok_layr {f f1 f2:Addr}{fd d1 d2:FuncData} (F:Fun K "laying_reading" "laying_reading" sLayR f fd) (T:Txt mg) (CN:Cal P w K mg base 6 "level_numbers" ["p","n"] spNum f1 d1) (CR:Cal P w K mg base 1 "reading_of" ["numbers","laying"] spRead f2 d2):FnOk P w K mg base CX0 7 f fd ["p","n","laying"] spLayR:=by
  refine F.ok scLayR (fun vs H Q E h=>?_) (fun cdv A outer s H vs Q E hr h=>?_)
  · obtain⟨p,n,b,B,rfl,_⟩:=h
    rfl
  · obtain⟨p,n,b,B,rfl,h1,h2,h3,h4,⟨rs,hB,hT⟩,hl,k⟩:=h
    have hr1:Room 1 _:=hr.mono (by decide)
    refine⟨_,(pss_one (ps_ret (pe_cal CR hr1 rfl (pa_cons (pe_cal CN hr rfl (pa_cons (pv 0) (pa_cons (pv 1) pa_nil))) (pa_cons (pv 2) pa_nil))))),?_⟩
    have hlB:B.length=p:=by
      have:=congrArg List.length hl
      rw[cnt_len (by omega)] at this
      simpa[lensB] using this
    have hlN:(num p n).length=p:=num_len (by omega) n
    refine⟨_,rfl,_,rfl,p,n,rfl,h1,h2,h3,h4,fun a qs H1 _ ha hq s1=>?_⟩
    refine⟨_,rfl,a,b,qs,rs,num p n,B,rfl,ha,s1 _ _ hB,hq,hT.same s1,by omega,by omega,fun j x y hx hy=>?_,fun H2 s2=>k H2 (s1.trans s2)⟩
    have e1:=num_get hx
    have e2:(y.length:Int)=(cnt p n).getD j 0:=by
      rw[<- hl,lensB,List.getD_eq_getElem?_getD,List.getElem?_map,hy]
      rfl
    have e3:(cnt p n).getD j 0<=(cnt p n).sum:=by
      rw[List.getD_eq_getElem?_getD]
      cases e:(cnt p n)[j]? with
      | none=>
        simp
        exact (fun {l:List Int} (h:∀ x∈l,0<=x)=>(by induction l with | nil=>simp | cons a r ih=>rw[List.sum_cons]; have:=ih (fun x hx=>h x (List.mem_cons_of_mem _ hx)); have:=h a List.mem_cons_self; omega:0<=l.sum)) (down_cnt p n).2
      | some z=>exact le_sum (down_cnt p n).2 z (List.mem_of_getElem? e)
    have e4:(cnt p n).sum=tot p n:=rfl
    omega
end
end Fl52
namespace Fl52
open PySem L2 Lv
section
variable {P:Program}{w:World}{K:PySem.W.Frag}{mg:Str->Option Value}{base:Heap}
theorem scLaw:FnScope ["script","cell","pot","p","n","numbers","laying","count","rows","ones","read"] ["script"] (defScope sLaw):=⟨rfl,rfl,rfl,by decide +kernel,rfl,by decide +kernel,by decide +kernel⟩
theorem tab52 {p:Nat} (h2:2<=p) (h7:p<=7):∃ q:Int,atI [V.int 8,.int 8,.int 7,.int 6,.int 5,.int 5] ((p:Int) - 2)=some (.int q)/\0<q/\q<=8/\∀ n:Nat,(n:Int)<q->tot p n<=700:=by
  rcases (show p=2∨p=3∨p=4∨p=5∨p=6∨p=7 by omega) with rfl | rfl | rfl | rfl | rfl | rfl
  · exact⟨8,rfl,by decide,by decide,fun n h=>(show ∀ n:Fin 8,tot 2 n<=700 by decide +kernel) ⟨n,by omega⟩⟩
  · exact⟨8,rfl,by decide,by decide,fun n h=>(show ∀ n:Fin 8,tot 3 n<=700 by decide +kernel) ⟨n,by omega⟩⟩
  · exact⟨7,rfl,by decide,by decide,fun n h=>(show ∀ n:Fin 7,tot 4 n<=700 by decide +kernel) ⟨n,by omega⟩⟩
  · exact⟨6,rfl,by decide,by decide,fun n h=>(show ∀ n:Fin 6,tot 5 n<=700 by decide +kernel) ⟨n,by omega⟩⟩
  · exact⟨5,rfl,by decide,by decide,fun n h=>(show ∀ n:Fin 5,tot 6 n<=700 by decide +kernel) ⟨n,by omega⟩⟩
  · exact⟨5,rfl,by decide,by decide,fun n h=>(show ∀ n:Fin 5,tot 7 n<=700 by decide +kernel) ⟨n,by omega⟩⟩
theorem num_hd {p:Nat} (hp:2<=p) (n:Nat):1<=((num p n).map List.length).headD 0:=by
  obtain⟨a,r,e,ha,_⟩:=num_cons hp n
  rw[e]
  exact List.length_pos_iff.mpr ha
theorem num_tot (p n:Nat):(((num p n).map List.length).sum:Int)=tot p n:=by
  unfold tot
  rw[<- lens_num]
  have:∀ N:List (List Int),(((N.map List.length).sum:Nat):Int)=(lens N).sum:=fun N=>by
    induction N with
    | nil=>rfl
    | cons x N ih=>
      unfold lens at *
      rw[List.map_cons,List.sum_cons,List.map_cons,List.sum_cons]
      omega
  exact this _
theorem lens_of {p n:Nat}{B:List (List Bool)} (h:B.map List.length=(num p n).map List.length):lensB B=cnt p n:=by
  rw[<- lens_num]
  unfold lensB lens
  have h2:=congrArg (List.map fun (k:Nat)=>(k:Int)) h
  rw[List.map_map,List.map_map] at h2
  exact h2
theorem cntT_sum:∀ B:List (List Bool),(B.map fun bs=>((bs.count true:Nat):Int)).sum=(cntT B:Int)
  | []=>rfl
  | b::B=>by
    have:=cntT_sum B
    unfold cntT at *
    rw[List.map_cons,List.sum_cons,this,List.map_cons,List.sum_cons]
    omega
theorem comp_lots52 {own : List Str} {js : List Nat} {g : TG} {te : TE} {σ : L2.St} {H1 : Hp} {Q : VK} {lo : Int} {n : Nat} {pl : Addr} {c0 : Int} (hp : PotC H1 pl c0) (hn : n ≤ 15000)
    (hs:∀ (i:Nat) H c,i<n->c<=c0+7*i->PotC H pl c->Sm pl H1 H->∀ R:VK,(∀ l (xs:List Int) H' c',H l=none->H' l=some (.lst (xs.map V.int))->xs.length<=6->xs.Pairwise (·<=·)->c'<=c+7->PotC H' pl c'->Sm pl H H'->R (.ref l) H')->g (.int (lo+(i:Int))) (blkσ own js σ) H fun τ H4=>te τ H4 R)
    (hd:∀ acc (rs:List Addr) (N:List (List Int)) H c,H1 acc=none->H acc=some (.lst (rs.map V.ref))->LLs H rs N->N.length=n->(∀ r∈N,r.length<=6/\r.Pairwise (·<=·))->PotC H pl c->c<=c0+7*n->Sm pl H1 H->Q (.ref acc) H):tCompW own js g tTrue te σ (Itr lo n) H1 Q:=by
  refine comp_range (fun acc i H=>∃ (rs:List Addr) (N:List (List Int)) (c:Int),H acc=some (.lst (rs.map V.ref))/\LLs H rs N/\N.length=i/\(∀ r∈N,r.length<=6/\r.Pairwise (·<=·))/\(∀ r∈rs,r≠pl/\r≠acc)/\PotC H pl c/\c<=c0+7*i/\Sm pl H1 H) (fun acc h0=>⟨[],[],c0,upd_same,⟨rfl,fun j r xs a=>(nomatch a)⟩,rfl,by simp,by simp,hp.put h0,by simp,Sm.new h0⟩) ?_ ?_
  · rintro acc i H h0 hi ⟨rs,N,c,hacc,hL,hl,hP,hna,hp2,hc,s2⟩
    have ha:acc≠pl:=hp.ne h0
    have hrl:rs.length=i:=by rw[hL.1,hl]
    refine (cast ?_ (hs i H c hi hc hp2 s2 (fun y H6=>∃ zs,H6 acc=some (.lst zs)/\zs.length<sizeLine/\(i+1<=n/\∃ (rs:List Addr) (N:List (List Int)) (c:Int),upd H6 acc (.lst (zs++[y])) acc=some (.lst (rs.map V.ref))/\LLs (upd H6 acc (.lst (zs++[y]))) rs N/\N.length=i+1/\(∀ r∈N,r.length<=6/\r.Pairwise (·<=·))/\(∀ r∈rs,r≠pl/\r≠acc)/\PotC (upd H6 acc (.lst (zs++[y]))) pl c/\c<=c0+7*((i+1:Nat):Int)/\Sm pl H1 (upd H6 acc (.lst (zs++[y]))))) fun l xs H6 c6 l0 l6 hx4 hxs hc6 hp6 s6=>?_))
    · unfold tTrue
      simp only[if_true]
    · have hla:l≠acc:=(ne_of_none hacc l0).symm
      have hlp:l≠pl:=hp2.ne l0
      have hna2:∀ r∈rs++[l],r≠pl/\r≠acc:=fun r hr=>by
        rcases List.mem_append.mp hr with z | z
        · exact hna r z
        · rw[List.mem_singleton.mp z]
          exact⟨hlp,hla⟩
      have hL6:LLs H6 rs N:=⟨hL.1,fun j r xs a b=>s6 _ _ (hL.2 j r xs a b) (hna r (List.mem_of_getElem? a)).1⟩
      refine⟨_,s6 _ _ hacc ha,small15 (by rw[List.length_map]; omega),hi,rs++[l],N++[xs],c6,by rw[upd_same,List.map_append]; rfl,(hL6.snoc l6).lst (fun z=>(hna2 _ z).2 rfl),by rw[List.length_append,hl]; rfl,fun r hr=>?_,hna2,hp6.off ha,?_,(s2.trans s6).putC h0⟩
      · rcases List.mem_append.mp hr with z | z
        · exact hP r z
        · rw[List.mem_singleton.mp z]
          exact⟨hx4,hxs⟩
      · omega
  · rintro acc H h0 ⟨rs,N,c,hacc,hL,hl,hP,_,hp2,hc,s2⟩
    exact hd acc rs N H c h0 hacc hL hl hP hp2 hc s2
theorem few52 {p n:Nat}{B:List (List Bool)} (h:lensB B=cnt p n) (h4:tot p n<=4000):∀ b∈B,b.length<=4001:=fun b hb=>by
  have:b.length∈(num p n).map List.length:=by rw[lens52 h]; exact List.mem_map.mpr ⟨b,hb,rfl⟩
  obtain⟨xs,hx,e⟩:=List.mem_map.mp this
  have:=num_le hx
  omega
theorem holds52 {p n:Nat}{B:List (List Bool)} (h:lensB B=cnt p n) (h1:1<=cntT B):holdsB (cnt p n) B=true:=by
  unfold holdsB
  rw[decide_eq_true h,Bool.true_and]
  have:∀ B:List (List Bool),1<=cntT B->(B.any fun bs=>bs.any id)=true:=fun B=>by
    induction B with
    | nil=>intro h; simp[cntT] at h
    | cons b B ih=>
      intro h
      have hc:cntT (b::B)=b.count true+cntT B:=by unfold cntT; rw[List.map_cons,List.sum_cons]
      rw[List.any_cons]
      by_cases z:0<b.count true
      · rw[(cnt_any b).mp z,Bool.true_or]
      · rw[ih (by omega),Bool.or_true]
  exact this B h1
theorem flat6:∀ N:List (List Int),(∀ r∈N,r.length<=6)->N.flatten.length<=6*N.length
  | [],_=>by simp
  | x::N,h=>by
    have h1:=flat6 N fun r hr=>h r (List.mem_cons_of_mem _ hr)
    have h2:=h x List.mem_cons_self
    rw[List.flatten_cons,List.length_append,List.length_cons]
    omega
def spLaw (K:PySem.W.Frag):Sp:=fun vs H Q _=>∃ (a:Addr) (ns:List Int),vs=[.ref a]/\SqL K H a (ns.map V.int)/\ns.length<=63/\∀ H',Q (.bl true) H'
theorem ok_law52 {f f1 f2 f3 f4 f5 f6 f7 f8 f9 f10 f11 f12 f13:Addr}{fd d1 d2 d3 d4 d5 d6 d7 d8 d9 d10 d11 d12 d13:FuncData} (F:Fun K "law" "law" sLaw f fd) (T:Txt mg) (CL:Cal P w K mg base 1 "_law_folded" ["cells","many"] (spFold K) f1 d1) (CB:Cal P w K mg base 1 "_law_begun" ["cell"] spBegun f2 d2) (CK:Cal P w K mg base 1 "_law_take" ["pot","size"] spTakeC f3 d3) (CN:Cal P w K mg base 6 "level_numbers" ["p","n"] spNum f4 d4) (CY:Cal P w K mg base 2 "_law_laying" ["pot","numbers"] spLay52 f5 d5) (CO:Cal P w K mg base 2 "_law_lot" ["pot","far","many"] spLot52 f6 d6) (CG:Cal P w K mg base 6 "_law_right" ["p","n","laying","rows","numbers"] spRt52 f7 d7) (CA:Cal P w K mg base 6 "_law_all_read" ["p","n","numbers"] spAll52 f8 d8) (CR:Cal P w K mg base 5 "play_rows" ["reels","phases"] spPlayR f9 d9) (CD:Cal P w K mg base 1 "laid_reels" ["laying","rows"] spLaidR f10 d10) (CH:Cal P w K mg base 3 "level_phases" ["p","n"] spLPh f11 d11) (CE:Cal P w K mg base 6 "laying_holds" ["p","n","laying"] spIsLay f12 d12) (CI:Cal P w K mg base 7 "laying_reading" ["p","n","laying"] spLayR f13 d13):FnOk P w K mg base CX0 8 f fd ["script"] (spLaw K):=by
  refine okW F scLaw (fun vs H Q E h=>?_) (fun cdv A outer s H vs Q E hr h=>?_)
  · obtain⟨a,ns,rfl,_⟩:=h
    rfl
  · obtain⟨a,ns,rfl,hS,hns,k⟩:=h
    have hr1:Room 1 _:=hr.mono (by decide)
    have hr2:Room 2 _:=hr.mono (by decide)
    have hr3:Room 3 _:=hr.mono (by decide)
    have hr5:Room 5 _:=hr.mono (by decide)
    have hr6:Room 6 _:=hr.mono (by decide)
    have hr7:Room 7 _:=hr.mono (by decide)
    refine⟨_,(wss_cons (ws (ps_for PassesOwn.never rfl (pi_seqB (pe_cal CL hr1 rfl (pa_cons (pv 0) (pa_cons pe_int pa_nil)))) (pg_name (i:=1) scLaw.nd rfl (Or.inl rfl))
      (WSs.out (wss_cons (ws (ps_set (i:=2) scLaw.nd rfl (Or.inr rfl) (pe_cal CB hr1 rfl (pa_cons (pv 1) pa_nil))))
        (wss_cons (ws (ps_set (i:=3) scLaw.nd rfl (Or.inl rfl) (pe_op op_add pe_int (pe_cal CK hr1 rfl (pa_cons (pv 2) (pa_cons pe_int pa_nil))))))
        (wss_cons (ws (ps_set (i:=4) scLaw.nd rfl (Or.inl rfl) (pe_cal CK hr1 rfl (pa_cons (pv 2) (pa_cons (WE.out (we_ix ix_list (we_lst (wa_cons rfl pe_int (wa_cons rfl pe_int (wa_cons rfl pe_int (wa_cons rfl pe_int (wa_cons rfl pe_int (wa_cons rfl pe_int wa_nil))))))) (we (pe_op op_sub (pv 3) pe_int)) (fun _ _=>rfl))) pa_nil)))))
        (wss_cons (ws_if (pt_cmpR op_eq (pe_cal CK hr1 rfl (pa_cons (pv 2) (pa_cons pe_int pa_nil))) pe_int (nomark _))
        (wss_one (ws (ps_asg (WE.out (we_ix ix_list (we_lst (wa_cons rfl (pe_tup (pa_cons pe_int (pa_cons pe_int pa_nil))) (wa_cons rfl (pe_tup (pa_cons pe_int (pa_cons pe_int pa_nil))) (wa_cons rfl (pe_tup (pa_cons pe_int (pa_cons pe_int pa_nil))) wa_nil)))) (we (pe_cal CK hr1 rfl (pa_cons (pv 2) (pa_cons pe_int pa_nil)))) (fun _ _=>rfl))) (pg_tup rfl (pgs_cons (pg_name (i:=3) scLaw.nd rfl (Or.inl rfl)) (pgs_cons (pg_name (i:=4) scLaw.nd rfl (Or.inl rfl)) pgs_nil))))))
        wss_nil)
        (wss_cons (ws (ps_set (i:=5) scLaw.nd rfl (Or.inl rfl) (pe_cal CN hr6 rfl (pa_cons (pv 3) (pa_cons (pv 4) pa_nil)))))
        (wss_cons (ws (ps_set (i:=6) scLaw.nd rfl (Or.inl rfl) (pe_cal CY hr2 rfl (pa_cons (pv 2) (pa_cons (pv 5) pa_nil)))))
        (wss_cons (ws (ps_set (i:=7) scLaw.nd rfl (Or.inl rfl) (pe_callB (call_sumI rfl) rfl T.sum b_sum (pa_cons (pe_comp (own:=["reel"]) (js:=[]) (CompOk.by (sc:=defScope sLaw) (N:=["script","cell","pot","p","n","numbers","laying","count","rows","ones","read"]) rfl rfl (by decide +kernel)) rfl (pi_seqB (pv 6)) gkeep_name (fun _ _ _ _ _=>(pg_name (i:=0) (by show (["reel"]:List Str).Nodup; decide +kernel) rfl (Or.inl rfl) (.inr rfl))) (fun _ _ _ _ _=>pts_nil) (fun _ _ _ _ _=>(pe_bmT PySem.F.slot_tuple_count PySem.F.type_tuple_count mt_countT (pv 0) (pa_cons pe_bl pa_nil)))) pa_nil))))
        (wss_cons (ws (ps_comp (i:=8) scLaw.nd rfl rfl (own:=["row"]) (js:=[2]) (CompOk.by (sc:=defScope sLaw) (N:=["script","cell","pot","p","n","numbers","laying","count","rows","ones","read"]) rfl rfl (by decide +kernel)) rfl (pi_range1 rfl T.range (pa_cons (pv 7) pa_nil)) gkeep_name (fun _ _ _ _ _=>(pg_name (i:=0) (by show (["row","pot"]:List Str).Nodup; decide +kernel) rfl (Or.inl rfl) (.inr rfl))) (fun _ _ _ _ _=>pts_nil) (fun _ _ _ _ _=>(pe_cal CO hr2 rfl (pa_cons (pv 1) (pa_cons pe_int (pa_cons pe_int pa_nil)))))))
        (wss_cons (ws_if (PW.pt (pw_or (pt_not (pt_val (pe_cal CG hr6 rfl (pa_cons (pv 3) (pa_cons (pv 4) (pa_cons (pv 6) (pa_cons (pv 8) (pa_cons (pv 5) pa_nil)))))))) (pw_or1 (pt_not (pt_val (pe_cal CA hr6 rfl (pa_cons (pv 3) (pa_cons (pv 4) (pa_cons (pv 5) pa_nil)))))))))
        (wss pss_never)
        wss_nil)
        (wss_cons (ws (ps_comp (i:=9) scLaw.nd rfl rfl (own:=["number"]) (js:=[]) (CompOk.by (sc:=defScope sLaw) (N:=["script","cell","pot","p","n","numbers","laying","count","rows","ones","read"]) rfl rfl (by decide +kernel)) rfl (pi_range1 rfl T.range (pa_cons (pv 7) pa_nil)) gkeep_name (fun _ _ _ _ _=>(pg_name (i:=0) (by show (["number"]:List Str).Nodup; decide +kernel) rfl (Or.inl rfl) (.inr rfl))) (fun _ _ _ _ _=>pts_nil) (fun _ _ _ _ _=>(pe_lst (pa_cons (pv 0) pa_nil)))))
        (wss_cons (ws (ps_set (i:=10) scLaw.nd rfl (Or.inl rfl) (pe_ix ix_tup (pe_cal CR hr5 rfl (pa_cons (pe_cal CD hr1 rfl (pa_cons (pv 6) (pa_cons (pv 9) pa_nil))) (pa_cons (pe_cal CH hr3 rfl (pa_cons (pv 3) (pa_cons (pv 4) pa_nil))) pa_nil))) pe_int (fun _ _=>rfl))))
        (wss_cons (ws_if (pt_cmpR op_isnotB (pe_cal CE hr6 rfl (pa_cons (pv 3) (pa_cons (pv 4) (pa_cons (pv 6) pa_nil)))) pe_bl (nomark _))
        (wss pss_never)
        wss_nil)
        (wss_one (ws_if (pt_cmpR op_ne (pe_callB (call_sumI rfl) rfl T.sum b_sum (pa_cons (pe_comp (own:=["sums"]) (js:=[]) (CompOk.by (sc:=defScope sLaw) (N:=["script","cell","pot","p","n","numbers","laying","count","rows","ones","read"]) rfl rfl (by decide +kernel)) rfl (pi_seqB (pv 10)) gkeep_name (fun _ _ _ _ _=>(pg_name (i:=0) (by show (["sums"]:List Str).Nodup; decide +kernel) rfl (Or.inl rfl) (.inr rfl))) (fun _ _ _ _ _=>pts_nil) (fun _ _ _ _ _=>(pe_callB (callK_sumI K rfl) rfl T.sum b_sum (pa_cons (pv 0) pa_nil)))) pa_nil)) (pe_cal CI hr7 rfl (pa_cons (pv 3) (pa_cons (pv 4) (pa_cons (pv 6) pa_nil)))) (nomark _))
        (wss pss_never)
        wss_nil)))))))))))))))))
      (wss_one (ws (ps_ret pe_bl)))),?_⟩
    refine⟨_,rfl,a,ns,4,rfl,hS,hns,by decide,by decide,fun l fs H1 nl hl hfs s1=>?_⟩
    refine⟨l,true,rfl,⟨_,SqL.of hl⟩,?_⟩
    refine for_seqB (b:=true) (xs:=fs.map V.int) (fun i σ Hx=>∃ o1 o2 o3 o4 o5 o6 o7 o8 o9 o10:Option V,σ=[some (.ref a),o1,o2,o3,o4,o5,o6,o7,o8,o9,o10]/\Hx l=some (.lst (fs.map V.int))) ⟨_,_,_,_,_,_,_,_,_,_,rfl,hl⟩ (fun i σ Hx _ ⟨_,_,_,_,_,_,_,_,_,_,_,h⟩=>SqL.of h) ?_ ?_
    · rintro i x σ Hx hx ⟨o1,o2,o3,o4,o5,o6,o7,o8,o9,o10,rfl,hlx⟩
      rw[List.getElem?_map] at hx
      obtain⟨z,hz1,rfl⟩:=Option.map_eq_some_iff.mp hx
      clear hx hz1
      refine⟨_,rfl,z,rfl,fun pl H2 npl hP2 s2=>?_⟩
      have lp:l≠pl:=ne_of_none hlx npl
      have hl2:=s2 _ _ hlx
      refine⟨_,rfl,pl,6,0,rfl,hP2,by decide,by decide,by decide,fun d H3 d0 d1 hP3 sm3=>⟨_,_,rfl,rfl,?_⟩⟩
      obtain⟨d,rfl⟩:∃ m:Nat,d=(m:Int):=⟨d.toNat,by omega⟩
      have hl3:=sm3 _ _ hl2 lp
      obtain⟨q,hq,q0,q8,hqt⟩:=tab52 (p:=2+d) (by omega) (by omega)
      have hq':atI [V.int 8,.int 8,.int 7,.int 6,.int 5,.int 5] ((2+(d:Int)) - 2)=some (.int q):=by
        rw[show (2+(d:Int))=((2+d:Nat):Int) by omega]
        exact hq
      refine⟨_,rfl,(by show 6<=sizeLine; decide),fun u1 hu1=>⟨_,rfl,_,_,rfl,rfl,u1,_,_,.int q,rfl,rfl,SqL.of upd_same,hq',pl,q,1,rfl,hP3.put hu1,by decide,q0,bits_small (by omega) (by omega),fun n H4 n0 n1 hP4 sm4=>?_⟩⟩
      have hl4:=sm4 _ _ ((Same.new hu1) _ _ hl3) lp
      obtain⟨n,rfl⟩:∃ m:Nat,n=(m:Int):=⟨n.toNat,by omega⟩
      dsimp only
      refine cutG (a:=tIfS _ _ _) (fun σ' H'=>∃ (p n:Nat),σ'=[some (.ref a),some (.int z),some (.ref pl),some (.int p),some (.int n),o5,o6,o7,o8,o9,o10]/\2<=p/\p<=7/\n<=13/\tot p n<=700/\PotC H' pl 10/\H' l=some (.lst (fs.map V.int))) (fun R hR=>?_) ?_
      · refine⟨_,rfl,pl,8,2,rfl,hP4,by decide,by decide,by decide,fun e H5 e0 e1 hP5 sm5=>⟨rfl,_,rfl,?_⟩⟩
        have hl5:=sm5 _ _ hl4 lp
        by_cases he:e=7
        · subst he
          refine iteT ?_
          refine⟨(by show 2<=sizeLine; decide),fun t1 ht1=>⟨(by show 2<=sizeLine; decide),fun t2 ht2=>⟨(by show 2<=sizeLine; decide),fun t3 ht3=>⟨(by show 3<=sizeLine; decide),fun u hu=>?_⟩⟩⟩⟩
          have v1:Same H5 (upd H5 t1 (.tup [.int 2,.int 13])):=Same.new ht1
          have w1:upd H5 t1 (.tup [.int 2,.int 13]) t1=some (.tup [.int 2,.int 13]):=upd_same
          generalize upd H5 t1 (.tup [.int 2,.int 13])=G1 at *
          have v2:Same G1 (upd G1 t2 (.tup [.int 3,.int 9])):=Same.new ht2
          have w2:upd G1 t2 (.tup [.int 3,.int 9]) t2=some (.tup [.int 3,.int 9]):=upd_same
          generalize upd G1 t2 (.tup [.int 3,.int 9])=G2 at *
          have v3:Same G2 (upd G2 t3 (.tup [.int 7,.int 6])):=Same.new ht3
          have w3:upd G2 t3 (.tup [.int 7,.int 6]) t3=some (.tup [.int 7,.int 6]):=upd_same
          generalize upd G2 t3 (.tup [.int 7,.int 6])=G3 at *
          have v4:Same G3 (upd G3 u (.lst [.ref t1,.ref t2,.ref t3])):=Same.new hu
          have w4:upd G3 u (.lst [.ref t1,.ref t2,.ref t3]) u=some (.lst [.ref t1,.ref t2,.ref t3]):=upd_same
          generalize upd G3 u (.lst [.ref t1,.ref t2,.ref t3])=G4 at *
          have hPG:=(((hP5.same v1).same v2).same v3).same v4
          have hlG:=v4 _ _ (v3 _ _ (v2 _ _ (v1 _ _ hl5)))
          have x1:=v4 _ _ (v3 _ _ (v2 _ _ w1))
          have x2:=v4 _ _ (v3 _ _ w2)
          have x3:=v4 _ _ w3
          refine⟨_,rfl,pl,3,3,rfl,hPG,by decide,by decide,by decide,fun b H6 b0 b1 hP6 sm6=>?_⟩
          have ne:∀ {t:Addr}{o:List V},G4 t=some (.tup o)->t≠pl:=fun h z=>by
            obtain⟨_,_,_,q,_⟩:=hPG
            rw[z,q] at h
            cases h
          have up:u≠pl:=fun z=>by
            obtain⟨_,_,_,q,_⟩:=((hP5.same v1).same v2).same v3
            rw[z] at hu
            rw[hu] at q
            cases q
          have y4:=sm6 _ _ w4 up
          have hl6:=sm6 _ _ hlG lp
          rcases (show b=0∨b=1∨b=2 by omega) with rfl | rfl | rfl
          · refine⟨u,_,0,.ref t1,rfl,rfl,SqL.of y4,rfl,t1,_,rfl,SqT.of (sm6 _ _ x1 (ne x1)),rfl,_,_,rfl,_,_,rfl,rfl,?_⟩
            exact hR _ _ ⟨2,13,rfl,by decide,by decide,by decide,by decide +kernel,hP6.up (by decide),hl6⟩
          · refine⟨u,_,1,.ref t2,rfl,rfl,SqL.of y4,rfl,t2,_,rfl,SqT.of (sm6 _ _ x2 (ne x2)),rfl,_,_,rfl,_,_,rfl,rfl,?_⟩
            exact hR _ _ ⟨3,9,rfl,by decide,by decide,by decide,by decide +kernel,hP6.up (by decide),hl6⟩
          · refine⟨u,_,2,.ref t3,rfl,rfl,SqL.of y4,rfl,t3,_,rfl,SqT.of (sm6 _ _ x3 (ne x3)),rfl,_,_,rfl,_,_,rfl,rfl,?_⟩
            exact hR _ _ ⟨7,6,rfl,by decide,by decide,by decide,by decide +kernel,hP6.up (by decide),hl6⟩
        · rw[decide_eq_false (show ¬ V.int e=V.int 7 from fun z=>he (V.int.inj z))]
          refine iteF (hR _ _ ⟨2+d,n,by rw[show ((2+d:Nat):Int)=2+(d:Int) by omega]; rfl,by omega,by omega,by omega,hqt n (by omega),hP5.up (by decide),hl5⟩)
      clear hl2 hl3 hl4 hP2 hP3 hP4 hq hq' hqt q0 q8 n0 n1 d0 d1
      rintro σ H5 ⟨p,n,rfl,p2,p7,n13,ht,hP5,hl5⟩
      refine⟨_,rfl,_,rfl,p,n,rfl,p2,p7,by omega,by omega,fun na qs H6 nna hna hNs s6=>?_⟩
      have hl6:=s6 _ _ hl5
      have hP6:=hP5.same s6
      have hNl:=num_len (p:=p) (by omega) n
      refine⟨_,rfl,_,rfl,pl,na,qs,num p n,10,rfl,hP6,by decide,hna,hNs,by omega,num_hd p2 n,by have:=num_tot p n; omega,fun la tr B H7 nla hla hTB hBN hB1 htr hP7 sm7=>?_⟩
      have hl7:=sm7 _ _ hl6 lp
      have hna7:=sm7 _ _ hna (hP6.tupne hna)
      have hNs7:TTs H7 qs (num p n):=⟨hNs.1,fun j r xs a b=>sm7 _ _ (hNs.2 j r xs a b) (hP6.tupne (hNs.2 j r xs a b))⟩
      have hB:lensB B=cnt p n:=lens_of hBN
      have hBl:=len52 p2 hB
      have hc:=cnt52 hB
      refine⟨_,rfl,la,false,rfl,⟨_,SqT.of hla⟩,?_⟩
      refine comp_mapB ((B.map fun bs=>((bs.count true:Nat):Int)).map V.int) (show SqB false K H7 la (tr.map V.ref) from SqT.of hla) (by rw[List.length_map,List.length_map,List.length_map,hTB.1]) (by rw[List.length_map,hTB.1]; omega) (fun j x y hx hy Hc sc' R hR=>?_) fun ac8 H8 n8 s8 hac8=>?_
      · obtain⟨q,hq,rfl⟩:=map_ref_get hx
        obtain⟨y',hy',rfl⟩:=map_get hy
        rw[List.getElem?_map] at hy'
        obtain⟨bs,hbs,rfl⟩:=Option.map_eq_some_iff.mp hy'
        have hq7:=sc' _ _ (hTB.2 j q bs hq hbs)
        exact⟨_,rfl,⟨q,_,rfl,hq7⟩,q,bs,true,rfl,rfl,hq7,hR Hc (Same.refl _)⟩
      refine⟨ac8,_,rfl,SqL.of hac8,?_⟩
      have hcs:(B.map fun bs=>((bs.count true:Nat):Int)).sum=(cntT B:Int):=cntT_sum B
      rw[hcs]
      have hl8:=s8 _ _ hl7
      have hP8:=hP7.same s8
      have hla8:=s8 _ _ hla
      have hTB8:=hTB.same s8
      have hna8:=s8 _ _ hna7
      have hNs8:=hNs7.same s8
      refine⟨_,rfl,_,rfl,by omega,by omega,?_⟩
      rw[Int.toNat_natCast]
      refine comp_lots52 hP8 (by omega) (fun j Hy cy hj hcy hPy smy R hR=>⟨_,rfl,pl,30,7,cy,rfl,hPy,by omega,by decide,by decide,by decide,by decide,fun l9 xs H9 c9 n9 h9 hx9 hs9 hc9 hP9 sm9=>hR l9 xs H9 c9 n9 h9 (by omega) hs9 hc9 hP9 sm9⟩) fun ra rs N H9 c9 nra hra hL hNl' hNb hP9 hc9 sm9=>?_
      have hl9:=sm9 _ _ hl8 lp
      have hla9:=sm9 _ _ hla8 (hP8.tupne hla8)
      have hTB9:TBs H9 tr B:=⟨hTB8.1,fun j r xs a b=>sm9 _ _ (hTB8.2 j r xs a b) (hP8.tupne (hTB8.2 j r xs a b))⟩
      have hna9:=sm9 _ _ hna8 (hP8.tupne hna8)
      have hNs9:TTs H9 qs (num p n):=⟨hNs8.1,fun j r xs a b=>sm9 _ _ (hNs8.2 j r xs a b) (hP8.tupne (hNs8.2 j r xs a b))⟩
      refine⟨_,rfl,_,rfl,_,rfl,_,rfl,_,rfl,p,n,la,ra,na,B,rs,N,qs,rfl,p2,p7,by omega,by omega,⟨tr,hla9,hTB9⟩,hB,hra,hL,hNl',hB1,fun r hr=>(hNb r hr).2,?_,hna9,hNs9,fun H10 s10=>⟨true,rfl,iteF ?_⟩⟩
      · have h6:=flat6 N fun r hr=>(hNb r hr).1
        omega
      refine⟨_,rfl,_,rfl,_,rfl,p,n,na,qs,rfl,p2,p7,by omega,by omega,s10 _ _ hna9,hNs9.same s10,fun H11 s11=>⟨true,rfl,iteF ?_⟩⟩
      have s119:=s10.trans s11
      refine⟨_,rfl,_,rfl,by omega,by omega,?_⟩
      rw[Int.toNat_natCast]
      refine comp_ones (by omega) (fun i Hc R hR=>⟨_,rfl,(by show 1<=sizeLine; decide),fun l hl=>hR l hl⟩) fun oa os H12 n12 hoa hLo s12=>?_
      have s129:=s119.trans s12
      have hol:(ones52 (cntT B)).length=cntT B:=ones_len _
      have hz:SzD (filB B (ones52 (cntT B))++[[]]):=szd_fil (by omega) (le52 hB (by omega)) hol (by rw[ones_flat]; omega)
      have hPl:=pl52 p2 hB hol hB1 ones_up hz
      refine⟨_,rfl,_,rfl,la,oa,tr,os,filB B (ones52 (cntT B)),rfl,(s129 _ _ hla9),by rw[filB_shp]; exact (hTB9.same s129),by rw[filB_rows _ _ hol]; exact RwS.of hoa hLo,?_,?_,fun l' T H13 l0 hl' hN hD hnd hnew s13=>?_⟩
      · have h1:=congrArg List.length (filB_len B (ones52 (cntT B)))
        rw[List.length_map,List.length_map] at h1
        omega
      · intro ds hds
        have:=hz.2.1 ds (List.mem_append_left _ hds)
        omega
      refine⟨_,rfl,_,rfl,p,n,rfl,p2,p7,by omega,fun l2 qs2 H14 l20 hl2 hql hTu s14=>?_⟩
      have hTT:=ttu52 hTu
      refine⟨l',l2,T,qs2,phL p 0 n,rfl,s14 _ _ hl',hN.same s14,hl2,hTT,by rw[hTT.1,List.length_map,phL_len]; omega,ne52 hD,by rw[hD]; exact hz,by rw[hD]; exact hPl.pls,fun t bl rl T' es H15 ht hbl hN' hD' hrd hLL hnew' s15=>?_⟩
      rw[hD] at hLL
      refine⟨t,_,1,.ref rl,rfl,rfl,SqT.of ht,rfl,?_⟩
      have sF:=s129.trans (s13.trans (s14.trans s15))
      have hFew:Few 9 4001 B:=⟨by omega,fun bs hb=>few52 hB (by omega) bs hb⟩
      refine⟨_,rfl,_,rfl,_,rfl,p,n,la,B,rfl,p2,p7,by omega,by omega,⟨tr,sF _ _ hla9,hTB9.same sF⟩,hFew,fun H16 s16=>?_⟩
      rw[show holdsB (cnt p n) B=true from holds52 hB hB1]
      refine⟨true,true,rfl,rfl,_,rfl,iteF ?_⟩
      have hrd16:=s16 _ _ hrd
      have hLL16:=hLL.same s16
      have sF16:=sF.trans s16
      refine⟨_,rfl,rl,true,rfl,⟨_,SqL.of hrd16⟩,?_⟩
      refine sums52 (W:=rdR (filB B (ones52 (cntT B))++[[]]) (phL p 0 n)) hrd16 hLL16 (by rw[hLL16.1,rdR_len,phL_len]; omega) (fun i q xs Hc R hR hq9 hi=>⟨_,rfl,q,xs,rfl,SqL.of hq9,hR Hc (Same.refl _)⟩) fun acc2 H17 h17 hac2 s17=>?_
      refine⟨acc2,_,rfl,SqL.of hac2,_,rfl,_,rfl,_,rfl,p,n,la,B,rfl,p2,p7,by omega,by omega,⟨tr,s17 _ _ (sF16 _ _ hla9),(hTB9.same sF16).same s17⟩,hB,fun H18 s18=>⟨rfl,_,rfl,?_⟩⟩
      have hrdo:((rdR (filB B (ones52 (cntT B))++[[]]) (phL p 0 n)).map List.sum).sum=readOf (num p n) B:=by
        rw[hPl.read,wS_ones _ _ (by rw[hol]; exact (readL_len _ _ (lens52 hB)).symm) ones_one,readL_sum]
      rw[hrdo,decide_eq_true rfl]
      exact iteF ⟨_,_,_,_,_,_,_,_,_,_,rfl,s18 _ _ (s17 _ _ (sF16 _ _ hl9))⟩
    · rintro σ Hx ⟨o1,o2,o3,o4,o5,o6,o7,o8,o9,o10,rfl,hlx⟩
      exact k Hx
end
end Fl52
namespace Fl52
open PySem L2 Lv
section
variable {P:Program}{w:World}{K:PySem.W.Frag}{mg:Str->Option Value}{base:Heap}
theorem scMerged:FnScope ["rows"] ["rows"] (defScope sMerged):=⟨rfl,rfl,rfl,by decide +kernel,rfl,by decide +kernel,by decide +kernel⟩
theorem ok_mergeB {f:Addr}{fd:FuncData} (F:Fun K "merged_row" "merged_row" sMerged f fd) (T:Txt mg):FnOk P w K mg base CX0 1 f fd ["rows"] spMergeB:=by
  refine F.ok scMerged (fun vs H Q E h=>?_) (fun cdv A outer s H vs Q E hr h=>?_)
  · obtain⟨a,rs,N,rfl,_⟩:=h
    rfl
  · obtain⟨a,rs,N,rfl,hR,hT,k⟩:=h
    refine ⟨_, pss_one (ps_ret (pe_callB call_sortA rfl T.sorted b_sorted (pa_cons (pe_comp2 (own := ["row", "thing"]) (js := []) (fr := [1]) (CompOk.bare (by decide +kernel)) rfl (pi_seqB (pv 0)) (gkeepF_name (i := 0)) gkeepT_name
        (fun _ _ _ _ _=>pg_name (i:=0) (by show (["row","thing"]:List Str).Nodup; decide +kernel) rfl (Or.inl rfl) (.inr rfl)) (fun _ _ _ _ _=>pts_nil) (fun _ _ _ _ _=>piK_seqB K (pv 0))
        (fun _ _ _ _ _=>pg_name (i:=1) (by show (["row","thing"]:List Str).Nodup; decide +kernel) rfl (Or.inl rfl) (.inr rfl)) (fun _ _ _ _ _=>pts_nil) (fun _ _ _ _ _=>pv 1)) pa_nil))),?_⟩
    obtain⟨b,hb⟩:=hR.top.both
    refine⟨_,rfl,a,b,rfl,⟨_,hb K H (Same.refl _)⟩,?_⟩
    refine comp2_seqB (xs:=rs.map V.ref) (fun acc i H2=>Same H H2/\H2 acc=some (.lst (((N.take i).flatten).map V.int))) (fun acc h0=>⟨Same.new h0,upd_same⟩) (fun acc i H2 h0 _ p=>hb K H2 p.1) ?_ ?_
    · rintro acc i x H2 h0 hx ⟨s2,hacc⟩
      have hi:=(List.getElem?_eq_some_iff.mp hx).1
      obtain⟨r,xs,rfl,e1,e2,hrow⟩:=hR.get hx
      obtain⟨b2,hb2⟩:=hrow.both
      refine⟨_,rfl,r,b2,rfl,⟨_,hb2 K H2 s2⟩,?_⟩
      refine in_seqB (xs:=xs.map V.int) (fun j H3=>Same H H3/\H3 acc=some (.lst (((N.take i).flatten++xs.take j).map V.int))) ⟨s2,by simpa using hacc⟩ (fun j H3 _ p=>hb2 K H3 p.1) ?_ ?_
      · rintro j y H3 hy ⟨s3,hac3⟩
        obtain⟨z,hz,rfl⟩:=map_get hy
        have hj:=(List.getElem?_eq_some_iff.mp hz).1
        have hle:=flat_le1 e2 (Nat.le_of_lt hj)
        refine⟨_,rfl,_,hac3,small15 (by rw[List.length_map,List.length_append,List.length_take]; omega),by rw[List.length_map]; exact hj,s3.put h0,?_⟩
        rw[upd_same,List.take_add_one,hz]
        simp
      · rintro H3 ⟨s3,hac3⟩
        refine⟨hi,s3,?_⟩
        rw[hac3,flat_take e2,List.length_map,List.take_length]
    · rintro acc H2 h0 ⟨s2,hacc⟩
      rw[List.length_map,hR.len,List.take_length] at hacc
      refine⟨acc,_,rfl,SqL.of hacc,fun l ms nl pm up=>?_⟩
      have:=ne_of_none hacc nl
      exact k l ms _ (s2.free nl) upd_same pm up (s2.trans (Same.new nl))
theorem scCopy:FnScope ["row"] ["row"] (defScope sCopy):=⟨rfl,rfl,rfl,by decide +kernel,rfl,by decide +kernel,by decide +kernel⟩
theorem ok_copyR {f:Addr}{fd:FuncData} (F:Fun K "copied_row" "copied_row" sCopy f fd) (T:Txt mg):FnOk P w K mg base CX0 1 f fd ["row"] spCopyR:=by
  refine F.ok scCopy (fun vs H Q E h=>?_) (fun cdv A outer s H vs Q E hr h=>?_)
  · obtain⟨c,rfl,_⟩:=h
    rfl
  · obtain⟨c,rfl,hc,k⟩:=h
    refine⟨_,(pss_one (ps_ret (pe_ifExp (pt_cmpR op_isN (pv 0) pe_non (nomark _)) pe_non (pe_callTy call_list_of rfl T.list b_list (pa_cons (pv 0) pa_nil))))),?_⟩
    refine⟨_,rfl,rfl,_,rfl,?_⟩
    cases c with
    | none=>exact iteT (k none H rfl trivial (fun r hr=>by simp[cA] at hr) (Same.refl _))
    | some q=>
      have h':H q.1=some (.lst (q.2.map V.int)):=hc
      exact iteF ⟨_,rfl,q.1,_,rfl,.inl (SqL.of h'),fun l nl=>k (some (l,q.2)) _ rfl upd_same (fun r hr=>by
        have:r=l:=by simpa[cA] using hr
        rw[this]; exact nl) (Same.new nl)⟩
theorem scThin:FnScope ["rows"] ["rows"] (defScope sThin):=⟨rfl,rfl,rfl,by decide +kernel,rfl,by decide +kernel,by decide +kernel⟩
theorem ok_thinR {f:Addr}{fd:FuncData} (F:Fun K "things_in" "things_in" sThin f fd) (T:Txt mg):FnOk P w K mg base CX0 1 f fd ["rows"] spThinR:=by
  refine F.ok scThin (fun vs H Q E h=>?_) (fun cdv A outer s H vs Q E hr h=>?_)
  · obtain⟨l,cs,rfl,_⟩:=h
    rfl
  · obtain⟨l,cs,rfl,hT,hl,k⟩:=h
    refine⟨_,(pss_one (ps_ret (pe_callB (call_sumI rfl) rfl T.sum b_sum (pa_cons (pe_comp (own:=["row"]) (js:=[]) (CompOk.by (sc:=defScope sThin) (N:=["rows"]) rfl rfl (by decide +kernel)) rfl (pi_seqB (pv 0)) gkeep_name (fun _ _ _ _ _=>(pg_name (i:=0) (by show (["row"]:List Str).Nodup; decide +kernel) rfl (Or.inl rfl) (.inr rfl))) (fun _ _ _ _ _=>(pts_one (pt_cmpR op_notN (pv 0) pe_non (nomark _)))) (fun _ _ _ _ _=>(pe_callB (callK_len K) rfl T.len PySem.boot_len (pa_cons (pv 0) pa_nil)))) pa_nil)))),?_⟩
    refine⟨_,rfl,l,true,rfl,⟨_,SqL.of hT.1⟩,?_⟩
    refine comp_seqB (b:=true) (xs:=cs.map cV) (fun acc i H2=>Same H H2/\H2 acc=some (.lst (((rl90 ((cs.take i).map cD)).map fun xs=>(xs.length:Int)).map V.int))) (fun acc h0=>⟨Same.new h0,upd_same⟩) (fun acc i H2 h0 _ p=>SqL.of (p.1 _ _ hT.1)) ?_ ?_
    · rintro acc i x H2 h0 hx ⟨s2,hacc⟩
      rw[List.getElem?_map] at hx
      obtain⟨c,hc,rfl⟩:∃ c,cs[i]?=some c/\x=cV c:=by
        cases e:cs[i]? with
        | none=>rw[e] at hx; cases hx
        | some c=>rw[e] at hx; exact⟨c,rfl,(Option.some.inj hx).symm⟩
      have hi:=(List.getElem?_eq_some_iff.mp hc).1
      have ok:=hT.2 c (List.mem_of_getElem? hc)
      have et:(cs.take (i+1)).map cD=(cs.take i).map cD++[cD c]:=by rw[List.take_add_one,hc,List.map_append]; rfl
      refine⟨_,rfl,rfl,_,rfl,?_⟩
      cases c with
      | none=>
        refine iteF ⟨by rw[List.length_map]; exact hi,s2,?_⟩
        rw[hacc,et,rl_app]
        simp[rl90,cD]
      | some q=>
        have h':H q.1=some (.lst (q.2.map V.int)):=ok
        refine iteT ⟨_,rfl,q.1,_,rfl,.inl (SqL.of (s2 _ _ h')),_,hacc,?_,by rw[List.length_map]; exact hi,s2.put h0,?_⟩
        · refine small15 ?_
          rw[List.length_map,List.length_map]
          refine Nat.le_trans (List.length_filterMap_le _ _) ?_
          rw[List.length_map,List.length_take]
          omega
        · rw[upd_same,et,rl_app]
          simp[rl90,cD]
    · rintro acc H2 h0 ⟨s2,hacc⟩
      rw[List.length_map,List.take_length] at hacc
      exact⟨acc,_,rfl,SqL.of hacc,k H2 s2⟩
theorem scIdle:FnScope ["rows","real"] ["rows"] (defScope sIdle):=⟨rfl,rfl,rfl,by decide +kernel,rfl,by decide +kernel,by decide +kernel⟩
theorem ok_idleR {f f1:Addr}{fd d1:FuncData} (F:Fun K "merged_or_idle" "merged_or_idle" sIdle f fd) (T:Txt mg) (CM:Cal P w K mg base 1 "merged_row" ["rows"] spMergeB f1 d1):FnOk P w K mg base CX0 2 f fd ["rows"] spIdleR:=by
  refine F.ok scIdle (fun vs H Q E h=>?_) (fun cdv A outer s H vs Q E hr h=>?_)
  · obtain⟨l,cs,rfl,_⟩:=h
    rfl
  · obtain⟨l,cs,rfl,hT,hl,hf,k⟩:=h
    have hr1:Room 1 _:=hr.mono (by decide)
    refine⟨_,(pss_cons (ps_comp (i:=1) scIdle.nd rfl rfl (own:=["row"]) (js:=[]) (CompOk.by (sc:=defScope sIdle) (N:=["rows","real"]) rfl rfl (by decide +kernel)) rfl (pi_seqB (pv 0)) gkeep_name (fun _ _ _ _ _=>(pg_name (i:=0) (by show (["row"]:List Str).Nodup; decide +kernel) rfl (Or.inl rfl) (.inr rfl))) (fun _ _ _ _ _=>(pts_one (pt_cmpR op_notN (pv 0) pe_non (nomark _)))) (fun _ _ _ _ _=>(pv 0)))
      (pss_one (ps_ret (pe_ifExp (pt_truth (pv 1) (fun _=>rfl)) (pe_cal CM hr1 rfl (pa_cons (pv 1) pa_nil)) pe_non)))),?_⟩
    refine⟨_,rfl,l,true,rfl,⟨_,SqL.of hT.1⟩,?_⟩
    refine comp_seqB (b:=true) (xs:=cs.map cV) (fun acc i H2=>Same H H2/\∃ rs:List Addr,H2 acc=some (.lst (rs.map V.ref))/\LLs H2 rs (rl90 ((cs.take i).map cD))/\acc ∉ rs) (fun acc h0=>⟨Same.new h0,[],upd_same,⟨rfl,fun j r xs a _=>by simp at a⟩,by simp⟩) (fun acc i H2 h0 _ p=>SqL.of (p.1 _ _ hT.1)) ?_ ?_
    · rintro acc i x H2 h0 hx ⟨s2,rs,hacc,hL,hn⟩
      rw[List.getElem?_map] at hx
      obtain⟨c,hc,rfl⟩:∃ c,cs[i]?=some c/\x=cV c:=by
        cases e:cs[i]? with
        | none=>rw[e] at hx; cases hx
        | some c=>rw[e] at hx; exact⟨c,rfl,(Option.some.inj hx).symm⟩
      have hi:=(List.getElem?_eq_some_iff.mp hc).1
      have ok:=hT.2 c (List.mem_of_getElem? hc)
      have et:(cs.take (i+1)).map cD=(cs.take i).map cD++[cD c]:=by rw[List.take_add_one,hc,List.map_append]; rfl
      refine⟨_,rfl,rfl,_,rfl,?_⟩
      cases c with
      | none=>
        refine iteF ⟨by rw[List.length_map]; exact hi,s2,rs,hacc,?_,hn⟩
        rw[et,rl_app]
        simpa[rl90,cD] using hL
      | some q=>
        have h':H q.1=some (.lst (q.2.map V.int)):=ok
        have hne:q.1≠acc:=fun z=>by rw[z,h0] at h'; cases h'
        have hrl:rs.length<=15000:=by
          rw[hL.1]
          refine Nat.le_trans (List.length_filterMap_le _ _) ?_
          rw[List.length_map,List.length_take]
          omega
        refine iteT ⟨_,rfl,_,hacc,small15 (by rw[List.length_map]; omega),by rw[List.length_map]; exact hi,s2.put h0,rs++[q.1],by rw[upd_same]; simp[cV],?_,?_⟩
        · rw[et,rl_app]
          have hL2:=hL.lst (ys:=rs.map V.ref++[cV (some q)]) hn
          refine hL2.snoc ?_
          rw[upd_ne hne]
          exact s2 _ _ h'
        · simp[hn,hne.symm]
    · rintro acc H2 h0 ⟨s2,rs,hacc,hL,hn⟩
      rw[List.length_map,List.take_length] at hL
      refine⟨_,rfl,!(rs.map V.ref).isEmpty,.inl ⟨_,SqL.of hacc,rfl⟩,?_⟩
      by_cases hz:rl90 (cs.map cD)=[]
      · have hrs:rs=[]:=by have:=hL.1; rw[hz] at this; exact List.eq_nil_of_length_eq_zero this
        subst hrs
        refine iteF ?_
        refine k none H2 ?_ trivial (fun r hr=>by simp[cA] at hr) s2
        unfold mrg
        rw[if_pos hz]
        rfl
      · have hrs : (!(rs.map V.ref).isEmpty) = true := by
          cases rs with
          | nil=>exact absurd (List.eq_nil_of_length_eq_zero (by have:=hL.1; simpa using this.symm)) hz
          | cons a b=>rfl
        rw[hrs]
        refine iteT ⟨_,rfl,acc,rs,rl90 (cs.map cD),rfl,RwS.of hacc hL,?_,fun l2 ms H3 hl0 hl2 hp hs s3=>?_⟩
        · have:(lenN (rl90 (cs.map cD))).sum=((rl90 (cs.map cD)).flatten).length:=by unfold lenN; rw[List.length_flatten]
          omega
        · refine k (some (l2,ms)) H3 ?_ hl2 (fun r hr=>?_) (s2.trans s3)
          · unfold mrg
            rw[if_neg hz,<- srt_of hp hs]
            rfl
          · have:r=l2:=by simpa[cA] using hr
            rw[this]
            exact s2.free hl0
theorem scTkAt:FnScope ["taken","at"] ["taken","at"] (defScope sTkAt):=⟨rfl,rfl,rfl,by decide +kernel,rfl,by decide +kernel,by decide +kernel⟩
theorem ok_tkAtR {f:Addr}{fd:FuncData} (F:Fun K "taken_at" "taken_at" sTkAt f fd) (T:Txt mg):FnOk P w K mg base CX0 1 f fd ["taken","at"] spTkAtR:=by
  refine F.ok scTkAt (fun vs H Q E h=>?_) (fun cdv A outer s H vs Q E hr h=>?_)
  · obtain⟨l,T0,i0,rfl,_⟩:=h
    rfl
  · obtain⟨l,T0,i0,rfl,hl,hN,h20,k⟩:=h
    refine⟨_,(pss_one (ps_ret (pe_comp (own:=["rows"]) (js:=[1]) (CompOk.by (sc:=defScope sTkAt) (N:=["taken","at"]) rfl rfl (by decide +kernel)) rfl (pi_seqB (pv 0)) gkeep_name (fun _ _ _ _ _=>(pg_name (i:=0) (by show (["rows","at"]:List Str).Nodup; decide +kernel) rfl (Or.inl rfl) (.inr rfl))) (fun _ _ _ _ _=>(pts_one (pt_cmpR op_lt (pv 1) (pe_callB (callK_len K) rfl T.len PySem.boot_len (pa_cons (pv 0) pa_nil)) (nomark _)))) (fun _ _ _ _ _=>(pe_ix (ixK_list K) (pv 0) (pv 1) (fun _ _=>rfl)))))),?_⟩
    refine⟨_,rfl,l,true,rfl,⟨_,SqL.of hl⟩,?_⟩
    refine comp_seqB (b:=true) (xs:=refT T0) (fun acc i H2=>Same H H2/\∃ cs:List Cell,H2 acc=some (.lst (cs.map cV))/\(∀ c∈cs,cOk H2 c)/\cs.map cD=(datT (T0.take i)).filterMap (·[i0]?)/\acc ∉ cs.flatMap cA/\cs.length<=i) (fun acc h0=>⟨Same.new h0,[],upd_same,fun c hc=>by simp at hc,rfl,by simp,Nat.le_refl _⟩) (fun acc i H2 h0 _ p=>SqL.of (p.1 _ _ hl)) ?_ ?_
    · rintro acc i x H2 h0 hx ⟨s2,cs,hacc,hok,hD,hn,hcl⟩
      rw[List.getElem?_map] at hx
      obtain⟨t,ht,rfl⟩:∃ t,T0[i]?=some t/\x=.ref t.1:=by
        cases e:T0[i]? with
        | none=>rw[e] at hx; cases hx
        | some c=>rw[e] at hx; exact⟨c,rfl,(Option.some.inj hx).symm⟩
      have hi:=(List.getElem?_eq_some_iff.mp ht).1
      have ok:=hN t (List.mem_of_getElem? ht)
      have et:datT (T0.take (i+1))=datT (T0.take i)++[t.2.map cD]:=by unfold datT; rw[List.take_add_one,ht,List.map_append]; rfl
      refine⟨_,rfl,_,rfl,t.1,_,rfl,.inl (SqL.of (s2 _ _ ok.1)),_,_,rfl,rfl,_,rfl,?_⟩
      by_cases hc:(i0:Int)<(t.2.length:Int)
      · rw[show decide ((i0:Int)<((t.2.map cV).length:Int))=true from decide_eq_true (by rw[List.length_map]; exact hc)]
        have hc':i0<t.2.length:=by omega
        have okc:=ok.2 t.2[i0] (List.getElem_mem hc')
        have hne:acc ∉ cA t.2[i0]:=fun z=>okc.has acc z h0
        refine iteT ⟨_,rfl,_,rfl,t.1,_,_,cV t.2[i0],rfl,rfl,SqL.of (s2 _ _ ok.1),?_,_,hacc,small15 (by rw[List.length_map]; omega),by rw[List.length_map]; exact hi,s2.put h0,cs++[t.2[i0]],by rw[upd_same]; simp,fun d hd=>?_,?_,?_,by simp; omega⟩
        · refine atI_nat ?_
          rw[List.getElem?_map,List.getElem?_eq_getElem hc']
          rfl
        · rcases List.mem_append.mp hd with hd | hd
          · exact (hok d hd).off fun z=>hn (List.mem_flatMap.mpr ⟨d,hd,z⟩)
          · rw[List.mem_singleton.mp hd]
            exact (okc.same s2).off hne
        · rw[List.map_append,hD,et,List.filterMap_append]
          simp[List.getElem?_eq_getElem hc']
        · rw[List.flatMap_append]
          intro z
          rcases List.mem_append.mp z with z | z
          · exact hn z
          · exact hne (by simpa using z)
      · rw[show decide ((i0:Int)<((t.2.map cV).length:Int))=false from decide_eq_false (by rw[List.length_map]; exact hc)]
        refine iteF ⟨by rw[List.length_map]; exact hi,s2,cs,hacc,hok,?_,hn,by omega⟩
        rw[hD,et,List.filterMap_append]
        have:(t.2.map cD)[i0]?=none:=List.getElem?_eq_none (by rw[List.length_map]; omega)
        simp[this]
    · rintro acc H2 h0 ⟨s2,cs,hacc,hok,hD,hn,hcl⟩
      rw[List.length_map,List.take_length] at hD
      exact k acc cs H2 h0 ⟨hacc,hok⟩ hD s2
end
end Fl52
namespace Fl52
open PySem L2 Lv
section
variable {P:Program}{w:World}{K:PySem.W.Frag}{mg:Str->Option Value}{base:Heap}
theorem scPhPl:FnScope ["reels","phase","out","many","taken","behind"] ["reels","phase"] (defScope sPhPl):=⟨rfl,rfl,rfl,by decide +kernel,rfl,by decide +kernel,by decide +kernel⟩
theorem slK_list (K:PySem.W.Frag) {X:Cx} (hK:X.K=K:=by rfl):SlR X (rSlL K):=by subst hK; exact sl_list
theorem cutC_take (cs:List Cell) (m:Nat):cutV (cs.map cV) none (some (m:Int))=(cs.take m).map cV:=by
  unfold cutV
  show ((cs.map cV).drop 0).take (HT.sIx (cs.map cV).length (cs.map cV).length (some ((m:Nat):Int)) - 0)=_
  rw[HT.sIx_nat,Nat.sub_zero,List.drop_zero,List.map_take]
  rcases Nat.le_total m (cs.map cV).length with h | h
  · rw[Nat.min_eq_left h]
  · rw[Nat.min_eq_right h,List.take_length,List.take_of_length_le h]
theorem cutC_drop (cs:List Cell) (m:Nat):cutV (cs.map cV) (some (m:Int)) none=(cs.drop m).map cV:=by
  unfold cutV
  show ((cs.map cV).drop (HT.sIx (cs.map cV).length 0 (some ((m:Nat):Int)))).take ((cs.map cV).length - HT.sIx (cs.map cV).length 0 (some ((m:Nat):Int)))=_
  rw[HT.sIx_nat,List.map_drop]
  rcases Nat.le_total m (cs.map cV).length with h | h
  · rw[Nat.min_eq_left h,List.take_of_length_le (by rw[List.length_drop]; exact Nat.le_refl _)]
  · rw[Nat.min_eq_right h,Nat.sub_self,List.take_zero,List.drop_of_length_le h]
theorem dat_at {T:List Reel}{i:Nat}{x:V} (h:(refT T)[i]?=some x):∃ t,T[i]?=some t/\x=.ref t.1/\t∈T/\(datT T)[i]?=some (t.2.map cD):=by
  rw[List.getElem?_map] at h
  cases e:T[i]? with
  | none=>rw[e] at h; cases h
  | some t=>rw[e] at h; exact⟨t,rfl,(Option.some.inj h).symm,List.mem_of_getElem? e,by unfold datT; rw[List.getElem?_map,e]; rfl⟩
theorem len_le_flat {L:List (List Int)}{x:List Int} (h:x∈L):x.length<=L.flatten.length:=by
  rw[List.length_flatten]
  have:∀ {M:List (List Int)},x∈M->x.length<=(M.map List.length).sum:=by
    intro M
    induction M with
    | nil=>intro z; simp at z
    | cons y M ih=>
      intro z
      rw[List.map_cons,List.sum_cons]
      rcases List.mem_cons.mp z with rfl | z
      · omega
      · have:=ih z; omega
  exact this h
theorem range_map {α β:Type} (D:List α) (d:α) (F:α->β):(List.range D.length).map (fun i=>F (D.getD i d))=D.map F:=by
  refine List.ext_getElem (by simp) fun i h1 h2=>?_
  simp at h1
  simp[h1]
theorem ok_phPlR {f f1 f2 f3:Addr}{fd d1 d2 d3:FuncData} (F:Fun K "phase_played" "phase_played" sPhPl f fd) (T:Txt mg) (CI:Cal P w K mg base 2 "merged_or_idle" ["rows"] spIdleR f1 d1) (CA:Cal P w K mg base 1 "taken_at" ["taken","at"] spTkAtR f2 d2) (CT:Cal P w K mg base 1 "things_in" ["rows"] spThinR f3 d3):FnOk P w K mg base CX0 3 f fd ["reels","phase"] spPhPlR:=by
  refine okW F scPhPl (fun vs H Q E h=>?_) (fun cdv A outer s H vs Q E hr h=>?_)
  · obtain⟨l,q,T0,o,m,rfl,_⟩:=h
    rfl
  · obtain⟨l,q,T0,o,m,rfl,hl,hN,hq,ho,hm,⟨z20,zr,zt⟩,k⟩:=h
    have hr1:Room 1 _:=hr.mono (by decide)
    have hr2:Room 2 _:=hr.mono (by decide)
    refine⟨_,(wss_cons (ws (ps_asg (pv 1) (pg_tup rfl (pgs_cons (pg_name (i:=2) scPhPl.nd rfl (Or.inl rfl)) (pgs_cons (pg_name (i:=3) scPhPl.nd rfl (Or.inr rfl)) pgs_nil)))))
      (wss_cons (ws (ps_set (i:=4) scPhPl.nd rfl (Or.inr rfl) (pe_comp (own:=["reel"]) (js:=[3]) (CompOk.by (sc:=defScope sPhPl) (N:=["reels","phase","out","many","taken","behind"]) rfl rfl (by decide +kernel)) rfl (pi_seqB (pv 0)) gkeep_name (fun _ _ _ _ _=>(pg_name (i:=0) (by show (["reel","many"]:List Str).Nodup; decide +kernel) rfl (Or.inl rfl) (.inr rfl))) (fun _ _ _ _ _=>pts_nil) (fun _ _ _ _ _=>(pe_slice (slK_list K) (pv 0) po_none (po_some (pv 1)))))))
      (wss_cons (ws (ps_comp (i:=5) scPhPl.nd rfl rfl (own:=["reel"]) (js:=[3]) (CompOk.by (sc:=defScope sPhPl) (N:=["reels","phase","out","many","taken","behind"]) rfl rfl (by decide +kernel)) rfl (pi_seqB (pv 0)) gkeep_name (fun _ _ _ _ _=>(pg_name (i:=0) (by show (["reel","many"]:List Str).Nodup; decide +kernel) rfl (Or.inl rfl) (.inr rfl))) (fun _ _ _ _ _=>pts_nil) (fun _ _ _ _ _=>(pe_slice (slK_list K) (pv 0) (po_some (pv 1)) po_none))))
      (wss_cons (ws (ps_asg (pe_comp (own:=["at"]) (js:=[4]) (CompOk.by (sc:=defScope sPhPl) (N:=["reels","phase","out","many","taken","behind"]) rfl rfl (by decide +kernel)) rfl (pi_range1 rfl T.range (pa_cons (pv 3) pa_nil)) gkeep_name (fun _ _ _ _ _=>(pg_name (i:=0) (by show (["at","taken"]:List Str).Nodup; decide +kernel) rfl (Or.inl rfl) (.inr rfl))) (fun _ _ _ _ _=>pts_nil) (fun _ _ _ _ _=>(pe_cal CI hr2 rfl (pa_cons (pe_cal CA hr1 rfl (pa_cons (pv 1) (pa_cons (pv 0) pa_nil))) pa_nil)))) (pg_sub (pv 5) (pv 2) set_list)))
      (wss_one (ws (ps_ret (pe_tup (pa_cons (pv 5) (pa_cons (pe_comp (own:=["rows"]) (js:=[]) (CompOk.by (sc:=defScope sPhPl) (N:=["reels","phase","out","many","taken","behind"]) rfl rfl (by decide +kernel)) rfl (pi_seqB (pv 4)) gkeep_name (fun _ _ _ _ _=>(pg_name (i:=0) (by show (["rows"]:List Str).Nodup; decide +kernel) rfl (Or.inl rfl) (.inr rfl))) (fun _ _ _ _ _=>pts_nil) (fun _ _ _ _ _=>(pe_cal CT hr1 rfl (pa_cons (pv 0) pa_nil)))) pa_nil)))))))))),?_⟩
    have hTl:T0.length=(datT T0).length:=by unfold datT; rw[List.length_map]
    refine⟨_,rfl,q,_,rfl,SqT.of hq,rfl,_,_,rfl,_,_,rfl,rfl,?_⟩
    refine⟨_,rfl,l,true,rfl,⟨_,SqL.of hl⟩,?_⟩
    refine comp_reels (b:=true) (fun i=>((datT T0).getD i []).take m) (fun x=>x∈adr T0) (fun x hx=>by obtain⟨t,ht,hz⟩:=List.mem_flatMap.mp hx; exact (hN t ht).has x hz) (show SqB true K H l (refT T0) from SqL.of hl) (by rw[List.length_map]; omega) (fun i x hx H1 s1 R hR=>?_) fun tk T1 H1 htk0 htk hN1 hD1 hnt hO1 s1=>?_
    · obtain⟨t,ht,rfl,htm,hd⟩:=dat_at hx
      have ok:=(hN t htm).same s1
      refine⟨_,rfl,_,rfl,_,rfl,t.1,_,rfl,SqL.of ok.1,fun p np=>?_⟩
      rw[cutC_take]
      refine hR (p,t.2.take m) _ ⟨upd_same,fun c hc=>(ok.2 c (List.mem_of_mem_take hc)).same (Same.new np)⟩ ?_ (fun r hr=>?_) (Same.new np)
      · rw[List.getD_eq_getElem?_getD,hd,List.map_take]
        rfl
      · rcases List.mem_cons.mp hr with rfl | hr
        · exact .inl np
        · obtain⟨c,hc,hrc⟩:=List.mem_flatMap.mp hr
          exact .inr (List.mem_flatMap.mpr ⟨t,htm,List.mem_cons_of_mem _ (List.mem_flatMap.mpr ⟨c,List.mem_of_mem_take hc,hrc⟩)⟩)
    have hD1':datT T1=(datT T0).map (·.take m):=by rw[hD1,List.length_map,hTl]; exact range_map (datT T0) [] (·.take m)
    have hl1:=s1 _ _ hl
    have hN01:NRL H1 T0:=hN.same s1
    refine⟨_,rfl,l,true,rfl,⟨_,SqL.of hl1⟩,?_⟩
    refine comp_reels (b:=true) (fun i=>((datT T0).getD i []).drop m) (fun x=>x∈adr T0) (fun x hx=>by obtain⟨t,ht,hz⟩:=List.mem_flatMap.mp hx; exact (hN01 t ht).has x hz) (show SqB true K H1 l (refT T0) from SqL.of hl1) (by rw[List.length_map]; omega) (fun i x hx H2 s2 R hR=>?_) fun bh T2 H2 hbh0 hbh hN2 hD2 hnb hO2 s2=>?_
    · obtain⟨t,ht,rfl,htm,hd⟩:=dat_at hx
      have ok:=(hN01 t htm).same s2
      refine⟨_,rfl,_,rfl,_,rfl,t.1,_,rfl,SqL.of ok.1,fun p np=>?_⟩
      rw[cutC_drop]
      refine hR (p,t.2.drop m) _ ⟨upd_same,fun c hc=>(ok.2 c (List.mem_of_mem_drop hc)).same (Same.new np)⟩ ?_ (fun r hr=>?_) (Same.new np)
      · rw[List.getD_eq_getElem?_getD,hd,List.map_drop]
        rfl
      · rcases List.mem_cons.mp hr with rfl | hr
        · exact .inl np
        · obtain⟨c,hc,hrc⟩:=List.mem_flatMap.mp hr
          exact .inr (List.mem_flatMap.mpr ⟨t,htm,List.mem_cons_of_mem _ (List.mem_flatMap.mpr ⟨c,List.mem_of_mem_drop hc,hrc⟩)⟩)
    have hD2':datT T2=(datT T0).map (·.drop m):=by rw[hD2,List.length_map,hTl]; exact range_map (datT T0) [] (·.drop m)
    have hT2l:T2.length=T0.length:=by have:=congrArg List.length hD2'; simpa[datT] using this
    have hT1l:T1.length=T0.length:=by have:=congrArg List.length hD1'; simpa[datT] using this
    have htk2:=s2 _ _ htk
    have hN12:NRL H2 T1:=hN1.same s2
    have tkeq:∀ i,(datT T1).filterMap (·[i]?)=tkA (datT T0) m i:=fun i=>by
      rw[hD1',List.filterMap_map]
      rfl
    have few:∀ i,(tkA (datT T0) m i).length<=20:=fun i=>Nat.le_trans (List.length_filterMap_le _ _) z20
    have tot:∀ i,i<m->((rl90 (tkA (datT T0) m i)).flatten).length<=15000:=fun i hi=>by
      have h1:=(tk_perm m (datT T0)).flatten.length_eq
      have h2:=(split_perm m (datT T0)).length_eq
      have h3:((rl90 (tkA (datT T0) m i)).flatten).length<=((((List.range m).map fun i=>rl90 (tkA (datT T0) m i)).flatten).flatten).length:=by
        rw[List.flatten_flatten,List.map_map]
        exact len_le_flat (List.mem_map.mpr ⟨i,List.mem_range.mpr hi,rfl⟩)
      rw[List.length_append] at h2
      omega
    refine⟨_,rfl,_,rfl,by omega,by omega,?_⟩
    rw[Int.toNat_natCast]
    refine comp_cellsR (fun i=>mrg (tkA (datT T0) m i)) (fun _=>False) (fun _ z=>z.elim) hm (fun i hi H3 s3 R hR=>?_) fun ml cs H3 hml0 hml hDm hnm hO3 s3=>?_
    · refine⟨_,rfl,_,rfl,tk,T1,i,(by rw[Int.zero_add]; rfl),s3 _ _ htk2,hN12.same s3,by omega,fun a cs H4 ha hok hDc s4=>?_⟩
      have hcl:cs.length<=20:=by
        have:=congrArg List.length hDc
        rw[List.length_map,tkeq] at this
        have:=few i
        omega
      refine⟨a,cs,rfl,hok,by omega,by rw[hDc,tkeq]; exact tot i hi,fun c' H5 hc' okc' hn' s5=>?_⟩
      refine hR c' H5 okc' ?_ (fun r hr=>.inl (s4.free (hn' r hr))) (s4.trans s5)
      rw[hc',hDc,tkeq]
    have hbh3:=s3 _ _ hbh
    refine⟨_,rfl,_,rfl,bh,_,_,o,rfl,rfl,hbh3,ixN_of (by omega) (by rw[List.length_map]; omega),?_⟩
    have hN3:NRL H3 T2:=hN2.same s3
    have nbm:bh ∉ tA (ml,cs):=fun z=>by
      rcases List.mem_cons.mp z with z | z
      · have z':bh=ml:=z
        rw[z'] at hbh
        rw[hbh] at hml0
        cases hml0
      · obtain⟨c,hc,hrc⟩:=List.mem_flatMap.mp z
        cases c with
        | none=>simp[cA] at hrc
        | some qq=>
          have e1:H3 qq.1=some (.lst (qq.2.map V.int)):=hml.2 _ hc
          have e2:bh=qq.1:=by simpa[cA] using hrc
          rw[<- e2,hbh3] at e1
          have e3:refT T2=qq.2.map V.int:=by injection Option.some.inj e1
          cases T2 with
          | nil=>simp at hT2l; omega
          | cons t0 T2=>
            cases h2:qq.2 with
            | nil=>rw[h2] at e3; simp at e3
            | cons z0 zs=>rw[h2] at e3; simp at e3
    have n0:H bh=none:=s1.free hbh0
    have hbt:bh ∉ adr T1:=fun z=>by
      obtain⟨t,ht,htz⟩:=List.mem_flatMap.mp z
      exact (hN1 t ht).has bh htz hbh0
    have ntk:tk≠bh:=fun z=>by rw[z,hbh0] at htk; cases htk
    have eset:(refT T2).set o (V.ref ml)=refT (T2.set o (ml,cs)):=by
      show _=(T2.set o (ml,cs)).map _
      rw[List.map_set]
    rw[eset]
    have e4:upd H3 bh (.lst (refT (T2.set o (ml,cs)))) bh=some (.lst (refT (T2.set o (ml,cs)))):=upd_same
    have hN4:NRL (upd H3 bh (.lst (refT (T2.set o (ml,cs))))) (T2.set o (ml,cs)):=fun t ht=>by
      rcases List.mem_or_eq_of_mem_set ht with ht | rfl
      · exact (hN3 t ht).off fun z=>hnb (List.mem_flatMap.mpr ⟨t,ht,z⟩)
      · exact hml.off nbm
    have hD4:datT (T2.set o (ml,cs))=phR (datT T0) o m:=by
      unfold phR
      rw[<- hD2',<- hDm]
      unfold datT
      rw[List.map_set]
    have hb4:bh ∉ adr (T2.set o (ml,cs)):=fun z=>by
      obtain⟨t,ht,htz⟩:=List.mem_flatMap.mp z
      rcases List.mem_or_eq_of_mem_set ht with ht | rfl
      · exact hnb (List.mem_flatMap.mpr ⟨t,ht,htz⟩)
      · exact nbm htz
    have hO4:∀ x∈adr (T2.set o (ml,cs)),H x=none∨x∈adr T0:=fun x z=>by
      obtain⟨t,ht,htz⟩:=List.mem_flatMap.mp z
      rcases List.mem_or_eq_of_mem_set ht with ht | rfl
      · rcases hO2 x (List.mem_flatMap.mpr ⟨t,ht,htz⟩) with y | y
        · exact .inl (s1.free y)
        · exact .inr y
      · rcases List.mem_cons.mp htz with y | y
        · have y':x=ml:=y
          rw[y']
          exact .inl ((s1.trans s2).free hml0)
        · rcases hO3 x y with u | u
          · exact .inl ((s1.trans s2).free u)
          · exact u.elim
    have htk4:upd H3 bh (.lst (refT (T2.set o (ml,cs)))) tk=some (.lst (refT T1)):=by rw[upd_ne ntk]; exact s3 _ _ htk2
    have hN14:NRL (upd H3 bh (.lst (refT (T2.set o (ml,cs))))) T1:=(hN12.same s3).off hbt
    have s04:Same H (upd H3 bh (.lst (refT (T2.set o (ml,cs))))):=((s1.trans s2).trans s3).put n0
    generalize upd H3 bh (.lst (refT (T2.set o (ml,cs))))=H4 at e4 hN4 htk4 hN14 s04 ⊢
    refine⟨_,rfl,_,rfl,tk,true,rfl,⟨_,SqL.of htk4⟩,?_⟩
    refine comp_mapB ((((datT T0).map fun r=>thg (r.take m))).map V.int) (show SqB true K H4 tk (refT T1) from SqL.of htk4) (by simp[datT,hT1l]) (by rw[List.length_map]; omega) (fun i x y hx hy H5 s5 R hR=>?_) fun acc H5 h0 s5 hacc=>?_
    · obtain⟨t,ht,rfl,htm,hd⟩:=dat_at hx
      have ey:y=.int (thg (t.2.map cD)):=by
        have:(datT T0).map (fun r=>thg (r.take m))=(datT T1).map thg:=by rw[hD1',List.map_map]; rfl
        rw[this,List.map_map,List.getElem?_map,hd] at hy
        exact (Option.some.inj hy).symm
      subst ey
      have hlen:t.2.length<=15000:=by
        have h1:t.2.map cD∈datT T1:=List.mem_of_getElem? hd
        rw[hD1'] at h1
        obtain⟨r,hr',er⟩:=List.mem_map.mp h1
        have h2:=congrArg List.length er
        rw[List.length_take,List.length_map] at h2
        have:=zr r hr'
        omega
      exact⟨_,rfl,t.1,t.2,rfl,(hN14 t htm).same s5,hlen,fun H6 s6=>hR H6 s6⟩
    · refine⟨(by show 2<=sizeLine; decide),fun t nt=>?_⟩
      have s6:Same H5 (upd H5 t (.tup [.ref bh,.ref acc])):=Same.new nt
      exact k t bh acc (T2.set o (ml,cs)) _ upd_same (s6 _ _ (s5 _ _ e4)) ((hN4.same s5).same s6) hD4 (s6 _ _ hacc) (s04.free h0) n0 hb4 hO4 ((s04.trans s5).trans s6)
end
end Fl52
namespace Fl52
open PySem L2 Lv
section
variable {P:Program}{w:World}{K:PySem.W.Frag}{mg:Str->Option Value}{base:Heap}
theorem scPlay:FnScope ["reels","phases","behind","read","at","phase","of_each"] ["reels","phases"] (defScope sPlay):=⟨rfl,rfl,rfl,by decide +kernel,rfl,by decide +kernel,by decide +kernel⟩
theorem pls_take:∀ {D:List Rows}{ps:List (Int × Int)},Pls D ps->∀ i,Pls D (ps.take i)
  | D,ps,h,0=>by rw[List.take_zero]; exact trivial
  | D,[],h,i+1=>trivial
  | D,(a,b)::ps,h,i+1=>⟨h.1,pls_take (D:=phR D a.toNat b.toNat) h.2 i⟩
theorem map_ref_get {rs:List Addr}{i:Nat}{x:V} (h:(rs.map V.ref)[i]?=some x):∃ r,rs[i]?=some r/\x=.ref r:=by
  rw[List.getElem?_map] at h
  cases e:rs[i]? with
  | none=>rw[e] at h; cases h
  | some r=>rw[e] at h; exact⟨r,rfl,(Option.some.inj h).symm⟩
theorem ok_playR {f f1 f2 f3:Addr}{fd d1 d2 d3:FuncData} (F:Fun K "play_rows" "play_rows" sPlay f fd) (T:Txt mg) (Te:mg "enumerate"=none) (CY:Cal P w K mg base 1 "copied_row" ["row"] spCopyR f1 d1) (CF:Cal P w K mg base 3 "is_phase" ["counts","phase"] spIsPhL f2 d2) (CP:Cal P w K mg base 3 "phase_played" ["reels","phase"] spPhPlR f3 d3):FnOk P w K mg base CX0 4 f fd ["reels","phases"] spPlayR:=by
  refine okW F scPlay (fun vs H Q E h=>?_) (fun cdv A outer s H vs Q E hr h=>?_)
  · obtain⟨l,b,T0,rs,ps,rfl,_⟩:=h
    rfl
  · obtain⟨l,b,T0,rs,ps,rfl,hl,hN,hb,hps,h1000,hne,hz,hpl,k⟩:=h
    have hr1:Room 1 _:=hr.mono (by decide)
    have hr3:Room 3 _:=hr.mono (by decide)
    refine⟨_,(wss_cons (ws (ps_comp (i:=2) scPlay.nd rfl rfl (own:=["reel"]) (js:=[]) (CompOk.by (sc:=defScope sPlay) (N:=["reels","phases","behind","read","at","phase","of_each"]) rfl rfl (by decide +kernel)) rfl (pi_seqB (pv 0)) gkeep_name (fun _ _ _ _ _=>(pg_name (i:=0) (by show (["reel"]:List Str).Nodup; decide +kernel) rfl (Or.inl rfl) (.inr rfl))) (fun _ _ _ _ _=>pts_nil) (fun _ _ _ _ _=>(pe_comp (own:=["row"]) (js:=[]) (CompOk.bare (by decide +kernel)) rfl (piK_seqB K (pv 0)) gkeep_name (fun _ _ _ _ _=>(pg_name (i:=0) (by show (["row"]:List Str).Nodup; decide +kernel) rfl (Or.inl rfl) (.inr rfl))) (fun _ _ _ _ _=>pts_nil) (fun _ _ _ _ _=>(pe_cal CY hr1 rfl (pa_cons (pv 0) pa_nil)))))))
      (wss_cons (ws (ps_set (i:=3) scPlay.nd rfl (Or.inl rfl) (pe_lst pa_nil)))
      (wss_cons (ws (ps_for PassesOwn.never rfl (pi_enumB rfl Te (pa_cons (pv 1) pa_nil)) (pg_tup rfl (pgs_cons (pg_name (i:=4) scPlay.nd rfl (Or.inl rfl)) (pgs_cons (pg_name (i:=5) scPlay.nd rfl (Or.inl rfl)) pgs_nil)))
      (WSs.out (wss_cons (ws_if (pt_not (pt_val (pe_cal CF hr3 rfl (pa_cons (pe_comp (own:=["reel"]) (js:=[]) (CompOk.by (sc:=defScope sPlay) (N:=["reels","phases","behind","read","at","phase","of_each"]) rfl rfl (by decide +kernel)) rfl (pi_seqB (pv 2)) gkeep_name (fun _ _ _ _ _=>(pg_name (i:=0) (by show (["reel"]:List Str).Nodup; decide +kernel) rfl (Or.inl rfl) (.inr rfl))) (fun _ _ _ _ _=>pts_nil) (fun _ _ _ _ _=>(pe_callB (callK_len K) rfl T.len PySem.boot_len (pa_cons (pv 0) pa_nil)))) (pa_cons (pv 5) pa_nil)))))
        (wss pss_never)
        wss_nil)
        (wss_cons (ws (ps_asg (pe_cal CP hr3 rfl (pa_cons (pv 2) (pa_cons (pv 5) pa_nil))) (pg_tup rfl (pgs_cons (pg_name (i:=2) scPlay.nd rfl (Or.inl rfl)) (pgs_cons (pg_name (i:=6) scPlay.nd rfl (Or.inl rfl)) pgs_nil)))))
        (wss_one (ws (ps_expr (pe_bm PySem.F.plainAttrs_list PySem.F.slot_list_append PySem.F.type_list_append mt_append (pv 3) (pa_cons (pv 6) pa_nil))))))))))
      (wss_one (ws (ps_ret (pe_tup (pa_cons (pv 2) (pa_cons (pv 3) pa_nil))))))))),?_⟩
    have hTl:T0.length=(datT T0).length:=by unfold datT; rw[List.length_map]
    have hpsl:rs.length=ps.length:=by have:=hps.1; rwa [List.length_map] at this
    refine⟨_,rfl,l,true,rfl,⟨_,SqL.of hl⟩,?_⟩
    refine comp_reels (b:=true) (fun i=>(datT T0).getD i []) (fun _=>False) (fun _ z=>z.elim) (show SqB true K H l (refT T0) from SqL.of hl) (by rw[List.length_map]; have:=hz.1; omega) (fun i x hx H1 s1 R hR=>?_) fun bh T1 H1 hbh0 hbh hN1 hD1 hnb hO1 s1=>?_
    · obtain⟨t,ht,rfl,htm,hd⟩:=dat_at hx
      have ok:=(hN t htm).same s1
      have h15:=hz.2.1 _ (List.mem_of_getElem? hd)
      rw[List.length_map] at h15
      refine⟨_,rfl,t.1,true,rfl,⟨_,SqL.of ok.1⟩,?_⟩
      refine comp_cells (b:=true) (fun j=>(t.2.map cD).getD j none) (fun _=>False) (fun _ z=>z.elim) (show SqB true K H1 t.1 (t.2.map cV) from SqL.of ok.1) (by rw[List.length_map]; exact h15) (fun j x hx H2 s2 R2 hR2=>?_) fun acc cs H2 hacc0 hacc hDc hna hOc s2=>?_
      · rw[List.getElem?_map] at hx
        obtain⟨c,hc,rfl⟩:∃ c,t.2[j]?=some c/\x=cV c:=by
          cases e:t.2[j]? with
          | none=>rw[e] at hx; cases hx
          | some c=>rw[e] at hx; exact⟨c,rfl,(Option.some.inj hx).symm⟩
        refine⟨_,rfl,c,rfl,(ok.2 c (List.mem_of_getElem? hc)).same s2,fun c' H3 hc' okc hnc s3=>hR2 c' H3 okc ?_ (fun r hr=>.inl (hnc r hr)) s3⟩
        rw[hc',List.getD_eq_getElem?_getD,List.getElem?_map,hc]
        rfl
      · refine hR (acc,cs) H2 hacc ?_ (fun r hr=>?_) s2
        · rw[hDc,List.length_map,List.getD_eq_getElem?_getD,hd,<- List.length_map (f:=cD)]
          show _=t.2.map cD
          have:=range_map (t.2.map cD) none id
          simpa using this
        · rcases List.mem_cons.mp hr with y | y
          · have y':r=acc:=y
            rw[y']
            exact .inl hacc0
          · rcases hOc r y with u | u
            · exact .inl u
            · exact u.elim
    have hD1':datT T1=datT T0:=by
      rw[hD1,List.length_map,hTl]
      have:=range_map (datT T0) [] id
      simpa using this
    have hOn:∀ x∈adr T1,H x=none:=fun x hx=>by
      rcases hO1 x hx with u | u
      · exact u
      · exact u.elim
    refine⟨Nat.zero_le _,fun rd nrd=>?_⟩
    have s2:Same H1 (upd H1 rd (.lst [])):=Same.new nrd
    have e2:upd H1 rd (.lst []) rd=some (.lst []):=upd_same
    have nb:rd≠bh:=fun z=>by rw[z,hbh] at nrd; cases nrd
    have nT:rd ∉ adr T1:=fun z=>by
      obtain⟨t,ht,htz⟩:=List.mem_flatMap.mp z
      exact (hN1 t ht).has rd htz nrd
    have n0:H rd=none:=s1.free nrd
    have hbh2:=s2 _ _ hbh
    have hN2:=hN1.same s2
    have s02:=s1.trans s2
    generalize upd H1 rd (.lst [])=H2 at s2 e2 hbh2 hN2 s02 ⊢
    refine⟨_,rfl,b,true,rfl,⟨_,SqL.of (s02 _ _ hb)⟩,?_⟩
    refine for_enumB (b:=true) (xs:=rs.map V.ref) (fun i σ Hx=>∃ (bl:Addr) (T':List Reel) (es:List Addr) (o4 o5 o6:Option V),σ=[some (.ref l),some (.ref b),some (.ref bl),some (.ref rd),o4,o5,o6]/\Hx bl=some (.lst (refT T'))/\NRL Hx T'/\datT T'=plR (datT T0) (ps.take i)/\Hx rd=some (.lst (es.map V.ref))/\LLs Hx es (rdR (datT T0) (ps.take i))/\rd ∉ es/\rd≠bl/\rd ∉ adr T'/\(∀ x∈adr T',H x=none)/\Same H Hx/\es.length=i)
      ⟨bh,T1,[],none,none,none,rfl,hbh2,hN2,by rw[hD1']; rfl,e2,⟨rfl,fun j r xs a _=>by simp at a⟩,by simp,nb,nT,hOn,s02,rfl⟩ (fun i σ Hx _ z=>by obtain⟨_,_,_,_,_,_,_,_,_,_,_,_,_,_,_,_,sz,_⟩:=z; exact SqL.of (sz _ _ hb)) ?_ ?_
    · rintro i x pq σ Hx hx ⟨bl,T',es,o4,o5,o6,rfl,hbl,hN',hD',hrd,hLe,hne',hnbl,hnT',hnew,sx,hel⟩ hpq
      obtain⟨q,hq,rfl⟩:=map_ref_get hx
      have hi:i<rs.length:=(List.getElem?_eq_some_iff.mp hq).1
      obtain⟨o,m,hom⟩:∃ o m,ps[i]?=some (o,m):=⟨_,_,List.getElem?_eq_getElem (by omega)⟩
      have hqt:=sx _ _ (hps.2 i q (prT (o,m)) hq (by rw[List.getElem?_map,hom]; rfl))
      have hPh:=hpl.at hom
      rw[<- hD'] at hPh
      have etk:ps.take (i+1)=ps.take i++[(o,m)]:=by rw[List.take_add_one,hom]; rfl
      have hplt:Pls (datT T0) (ps.take i):=pls_take hpl i
      obtain⟨zz,zl,_⟩:=plR_all hplt hz
      rw[<- hD'] at zz zl
      have s3:Same Hx (upd Hx pq (.tup [.int i,.ref q])):=Same.new hpq
      have e3:upd Hx pq (.tup [.int i,.ref q]) pq=some (.tup [.int i,.ref q]):=upd_same
      generalize upd Hx pq (.tup [.int i,.ref q])=H3 at s3 e3 ⊢
      refine⟨pq,_,rfl,SqT.of e3,rfl,_,_,rfl,_,_,rfl,rfl,?_⟩
      have hbl3:=s3 _ _ hbl
      have hN3:=hN'.same s3
      refine⟨_,rfl,bl,true,rfl,⟨_,SqL.of hbl3⟩,?_⟩
      refine comp_mapB ((lns (datT T')).map V.int) (show SqB true K H3 bl (refT T') from SqL.of hbl3) (by simp[lns,datT]) (by rw[List.length_map]; have:=zz.1; unfold datT at this; rw[List.length_map] at this; omega) (fun j x y hx hy H4 s4 R hR=>?_) fun cl H4 hcl0 s4 hcl=>?_
      · obtain⟨t,ht,rfl,htm,hd⟩:=dat_at hx
        have ey:y=.int (((t.2.map cV).length:Nat):Int):=by
          unfold lns at hy
          rw[List.map_map,List.getElem?_map,hd] at hy
          have:=(Option.some.inj hy).symm
          rw[this]
          simp
        subst ey
        exact⟨_,rfl,t.1,_,rfl,.inl (SqL.of (s4 _ _ (hN3 t htm).1)),hR H4 (Same.refl _)⟩
      obtain⟨a0,b0,rfl,rfl,ha0,h00,hb1,hb0⟩:=phok_nat hPh
      have hq4:=s4 _ _ (s3 _ _ hqt)
      refine⟨_,rfl,cl,q,lns (datT T'),_,_,rfl,hcl,hq4,?_,fun x hx=>by obtain⟨r,_,rfl⟩:=List.mem_map.mp hx; omega,?_⟩
      · intro z
        have h1:(lns (datT T')).length=(datT T').length:=by unfold lns; rw[List.length_map]
        rw[z] at h1
        have h2:(datT T').length=0:=h1.symm
        omega
      rw[decide_eq_true hPh]
      refine⟨true,rfl,iteF ?_⟩
      have hT'l:T'.length=(datT T').length:=by unfold datT; rw[List.length_map]
      have hb15:b0<=15000:=by
        obtain⟨r,hr,hl'⟩:=hb0
        have:=zz.2.1 r hr
        omega
      refine⟨_,rfl,_,rfl,bl,q,T',a0,b0,rfl,s4 _ _ hbl3,hN3.same s4,hq4,by omega,hb15,zz,fun t b2 e2' T2 H5 ht hb2 hN5 hD5 he he0 hb20 hb2T hO5 s5=>?_⟩
      refine⟨t,_,rfl,SqT.of ht,rfl,_,_,rfl,_,_,rfl,rfl,?_⟩
      have sx4:=s3.trans s4
      have sx5:=sx4.trans s5
      have hrd5:=sx5 _ _ hrd
      have hrd4:=sx4 _ _ hrd
      refine⟨_,rfl,.inl ⟨rfl,_,SqL.of hrd5⟩,_,rfl,rd,_,_,rfl,rfl,hrd5,small15 (by rw[List.length_map]; omega),?_⟩
      have nr2:rd≠b2:=fun z=>by rw[z,hb20] at hrd4; cases hrd4
      have nrT:rd ∉ adr T2:=fun z=>by
        rcases hO5 rd z with u | u
        · rw[u] at hrd4; cases hrd4
        · exact hnT' u
      have nre:rd≠e2':=fun z=>by rw[z,he0] at hrd4; cases hrd4
      have eD:plR (datT T0) (ps.take (i+1))=phR (datT T') a0 b0:=by rw[etk,plR_snoc,<- hD',Int.toNat_natCast,Int.toNat_natCast]
      refine⟨b2,T2,es++[e2'],_,_,_,rfl,?_,hN5.off nrT,by rw[hD5,eD],by rw[upd_same]; simp,?_,by simp[hne',nre],nr2,nrT,fun x hx=>?_,(sx.trans sx5).put n0,by simp[hel]⟩
      · rw[upd_ne nr2.symm]
        exact hb2
      · rw[etk,rdR_snoc,<- hD',Int.toNat_natCast]
        have hL5:LLs H5 es (rdR (datT T0) (ps.take i)):=hLe.same sx5
        refine (hL5.lst hne').snoc ?_
        rw[upd_ne nre.symm]
        exact he
      · rcases hO5 x hx with u | u
        · exact (sx.trans sx4).free u
        · exact hnew x u
    · rintro σ Hx ⟨bl,T',es,o4,o5,o6,rfl,hbl,hN',hD',hrd,hLe,hne',hnbl,hnT',hnew,sx,hel⟩
      rw[List.length_map,hpsl,List.take_length] at hD' hLe
      refine⟨_,rfl,_,rfl,(by show 2<=sizeLine; decide),fun t nt=>?_⟩
      have s3:Same Hx (upd Hx t (.tup [.ref bl,.ref rd])):=Same.new nt
      exact k t bl rd T' es _ upd_same (s3 _ _ hbl) (hN'.same s3) hD' (s3 _ _ hrd) (hLe.same s3) hnew (sx.trans s3)
end
end Fl52
namespace Fl52
open PySem L2 Lv
section
variable {P:Program}{w:World}{K:PySem.W.Frag}{mg:Str->Option Value}{base:Heap}
theorem scLaid:FnScope ["laying","rows","reels","laid","on_reel","reel","real"] ["laying","rows"] (defScope sLaid):=⟨rfl,rfl,rfl,by decide +kernel,rfl,by decide +kernel,by decide +kernel⟩
theorem rws_at {D:List Rows}{j i:Nat}{ds:Rows}{xs:List Int} (h1:D[j]?=some ds) (h2:ds[i]?=some (some xs)):(Lv.rws D)[(Lv.rws (D.take j)).length+((ds.take i).filterMap id).length]?=some xs:=by
  have a:=(List.getElem?_eq_some_iff.mp h1)
  have b:=(List.getElem?_eq_some_iff.mp h2)
  have e1:D=D.take j++ds::D.drop (j+1):=by
    have:D.drop j=ds::D.drop (j+1):=by rw[List.drop_eq_getElem_cons a.1,a.2]
    rw[<- this,List.take_append_drop]
  have e2:ds=ds.take i++some xs::ds.drop (i+1):=by
    have:ds.drop i=some xs::ds.drop (i+1):=by rw[List.drop_eq_getElem_cons b.1,b.2]
    rw[<- this,List.take_append_drop]
  have e3:Lv.rws D=Lv.rws (D.take j)++((ds.take i).filterMap id++xs::((ds.drop (i+1)).filterMap id++Lv.rws (D.drop (j+1)))):=by
    unfold Lv.rws
    conv=>lhs; rw[e1]
    rw[List.flatten_append,List.filterMap_append,List.flatten_cons,List.filterMap_append]
    congr 1
    conv=>lhs; rw[e2]
    rw[List.filterMap_append,List.filterMap_cons]
    simp
  rw[e3,List.getElem?_append_right (by omega),List.getElem?_append_right (by omega)]
  simp
theorem take_succ_at {α:Type}{L:List α}{i:Nat}{x:α} (h:L[i]?=some x):L.take (i+1)=L.take i++[x]:=by rw[List.take_add_one,h,Option.toList_some]
theorem b_get {bs:List Bool}{i:Nat}{x:V} (h:(bs.map V.bl)[i]?=some x):∃ b,bs[i]?=some b/\x=.bl b:=by
  rw[List.getElem?_map] at h
  cases e:bs[i]? with
  | none=>rw[e] at h; cases h
  | some b=>rw[e] at h; cases h; exact⟨b,rfl,rfl⟩
theorem ok_laid {f:Addr}{fd:FuncData} (F:Fun K "laid_reels" "laid_reels" sLaid f fd) (T:Txt mg):FnOk P w K mg base CX0 1 f fd ["laying","rows"] spLaidR:=by
  refine F.ok scLaid (fun vs H Q E h=>?_) (fun cdv A outer s H vs Q E hr h=>?_)
  · obtain⟨la,rw,tr,rs,D,rfl,_⟩:=h
    rfl
  · obtain⟨la,rw,tr,rs,D,rfl,hla,hTB,hRw,hDl,hDs,k⟩:=h
    refine⟨_,pss_cons (ps_set (i:=2) scLaid.nd rfl (Or.inl rfl) (pe_lst pa_nil))
      (pss_cons (ps_set (i:=3) scLaid.nd rfl (Or.inl rfl) pe_int)
      (pss_cons (ps_for PassesOwn.never rfl (pi_seqB (pv 0)) (pg_name (i:=4) scLaid.nd rfl (Or.inl rfl))
        (pss_cons (ps_set (i:=5) scLaid.nd rfl (Or.inl rfl) (pe_lst pa_nil))
        (pss_cons (ps_for PassesOwn.never rfl (pi_seqB (pv 4)) (pg_name (i:=6) scLaid.nd rfl (Or.inl rfl))
          (pss_cons (ps_expr (pe_bm PySem.F.plainAttrs_list PySem.F.slot_list_append PySem.F.type_list_append mt_append (pv 5) (pa_cons (pe_ifExp (pt_val (pv 6)) (pe_callTy call_list_of rfl T.list b_list (pa_cons (pe_ix ix_sq (pv 1) (pv 3) (fun _ _=>rfl)) pa_nil)) pe_non) pa_nil)))
          (pss_one (ps_aug (i:=3) scLaid.nd rfl (Or.inl rfl) (pe_ifExp (pt_val (pv 6)) pe_int pe_int) ip_add))))
        (pss_one (ps_expr (pe_bm PySem.F.plainAttrs_list PySem.F.slot_list_append PySem.F.type_list_append mt_append (pv 2) (pa_cons (pv 5) pa_nil)))))))
      (pss_one (ps_ret (pe_op op_cat (pv 2) (pe_lst (pa_cons (pe_lst pa_nil) pa_nil))))))),?_⟩
    refine⟨Nat.zero_le _,fun l nl=>?_⟩
    have el:upd H l (.lst []) l=some (.lst (([]:List Reel).map fun t=>V.ref t.1)):=upd_same
    have s1:Same H (upd H l (.lst [])):=Same.new nl
    generalize upd H l (.lst [])=H1 at el s1 ⊢
    have trl:tr.length=D.length:=by rw[hTB.1]; unfold shp; rw[List.length_map]
    refine⟨_,rfl,la,false,rfl,⟨_,SqT.of (s1 _ _ hla)⟩,?_⟩
    refine for_seqB (b:=false) (xs:=tr.map V.ref) (fun j σ H2=>∃ (T:List Reel) (o4 o5 o6:Option V),σ=[some (.ref la),some (.ref rw),some (.ref l),some (.int ((Lv.rws (D.take j)).length:Int)),o4,o5,o6]/\H2 l=some (.lst (T.map fun t=>V.ref t.1))/\NRL H2 T/\datT T=D.take j/\(Lv.adr T).Nodup/\(∀ x∈Lv.adr T,H x=none/\x≠l)/\Same H H2)
      ⟨[],_,_,_,rfl,el,fun t ht=>(nomatch ht),rfl,List.nodup_nil,fun x hx=>(nomatch hx),s1⟩ (fun j σ H2 _ ⟨_,_,_,_,_,_,_,_,_,_,s2⟩=>SqT.of (s2 _ _ hla)) ?_ ?_
    · rintro j x σ H2 hxj ⟨T,o4,o5,o6,rfl,hl2,hN2,hdat,hnd,hfr,s2⟩
      obtain⟨r,hr',rfl⟩:=get_ref hxj
      have hjl:=(List.getElem?_eq_some_iff.mp hr').1
      have hjD:j<D.length:=by omega
      obtain⟨ds,hds⟩:∃ ds,D[j]?=some ds:=⟨_,List.getElem?_eq_getElem hjD⟩
      have hrow:H r=some (.tup ((ds.map Option.isSome).map V.bl)):=hTB.2 j r _ hr' (by unfold shp; rw[List.getElem?_map,hds]; rfl)
      refine⟨Nat.zero_le _,fun e ne=>?_⟩
      have hel:e≠l:=Ne.symm (ne_of_none hl2 ne)
      have eH:H e=none:=s2.free ne
      have heT:e ∉ Lv.adr T:=fun hm=>by
        obtain⟨t,ht,hx⟩:=List.mem_flatMap.mp hm
        have ok:=hN2 t ht
        rcases List.mem_cons.mp hx with rfl | hx
        · rw[ok.1] at ne; cases ne
        · obtain⟨c,hc,hx⟩:=List.mem_flatMap.mp hx
          have:=ok.2 c hc
          cases c with
          | none=>cases hx
          | some q=>
            rw[List.mem_singleton.mp hx] at ne
            rw[show H2 q.1=some (.lst (q.2.map V.int)) from this] at ne
            cases ne
      have ee:upd H2 e (.lst []) e=some (.lst (([]:List Cell).map cV)):=upd_same
      have hl3:upd H2 e (.lst []) l=some (.lst (T.map fun t=>V.ref t.1)):=by rw[upd_ne (Ne.symm hel)]; exact hl2
      have hN3:NRL (upd H2 e (.lst [])) T:=hN2.off heT
      have s3:Same H (upd H2 e (.lst [])):=s2.trans (Same.new ne)
      generalize upd H2 e (.lst [])=H3 at ee hl3 hN3 s3 ⊢
      refine⟨_,rfl,r,false,rfl,⟨_,SqT.of (s3 _ _ hrow)⟩,?_⟩
      refine for_seqB (b:=false) (xs:=(ds.map Option.isSome).map V.bl) (fun i σ H4=>∃ (cs:List Cell) (o6:Option V),σ=[some (.ref la),some (.ref rw),some (.ref l),some (.int (((Lv.rws (D.take j)).length+((ds.take i).filterMap id).length:Nat):Int)),some (.ref r),some (.ref e),o6]/\H4 l=some (.lst (T.map fun t=>V.ref t.1))/\NRL H4 T/\tOk H4 (e,cs)/\cs.map cD=ds.take i/\(Lv.adr T++tA (e,cs)).Nodup/\(∀ x∈Lv.adr T++tA (e,cs),H x=none/\x≠l)/\Same H H4)
        ⟨[],_,rfl,hl3,hN3,⟨ee,fun c hc=>(nomatch hc)⟩,rfl,?_,?_,s3⟩ (fun i σ H4 _ ⟨_,_,_,_,_,_,_,_,_,s4⟩=>SqT.of (s4 _ _ hrow)) ?_ ?_
      · refine List.nodup_append.mpr ⟨hnd,List.nodup_cons.mpr ⟨List.not_mem_nil,List.nodup_nil⟩,fun x hx y hy z=>heT ?_⟩
        have:y=e:=List.mem_singleton.mp hy
        rw[<- this,<- z]; exact hx
      · intro x hx
        rcases List.mem_append.mp hx with hx | hx
        · exact hfr x hx
        · have:x=e:=List.mem_singleton.mp hx
          rw[this]; exact⟨eH,hel⟩
      · rintro i x σ H4 hxi ⟨cs,o6,rfl,hl4,hN4,hok,hcd,hnd4,hfr4,s4⟩
        obtain⟨b,hb,rfl⟩:=b_get hxi
        rw[List.getElem?_map] at hb
        cases hc:ds[i]? with
        | none=>rw[hc] at hb; cases hb
        | some c=>
        rw[hc] at hb
        have hil:=(List.getElem?_eq_some_iff.mp hc).1
        have hbig:ds.length<=6000000:=hDs ds (List.mem_of_getElem? hds)
        have csl:cs.length=i:=by have:=congrArg List.length hcd; rw[List.length_map,List.length_take] at this; omega
        have hsz:(cs.map cV).length<sizeLine:=by rw[List.length_map]; exact Nat.lt_of_lt_of_le (by omega) (show 6000001<=sizeLine by decide)
        have ty:tyV K "list" (.ref e) H4:=.inl ⟨rfl,_,SqL.of hok.1⟩
        have he4:e∈Lv.adr T++tA (e,cs):=List.mem_append_right _ List.mem_cons_self
        refine⟨_,rfl,ty,_,rfl,?_⟩
        cases c with
        | none=>
          cases hb
          refine⟨false,rfl,iteF ?_⟩
          refine⟨e,_,_,rfl,rfl,hok.1,hsz,?_⟩
          refine⟨_,rfl,_,rfl,false,rfl,iteF ?_⟩
          refine⟨_,_,rfl,rfl,?_⟩
          have hnl:(Lv.adr T++tA (e,cs++[none]))=Lv.adr T++tA (e,cs):=by unfold tA; simp[List.flatMap_append,cA]
          have hoff:∀ x,x≠e->∀ o,H4 x=some o->upd H4 e (.lst (cs.map cV++[.non])) x=some o:=fun x hx o q=>by rw[upd_ne hx]; exact q
          have n4:=List.nodup_append.mp hnd4
          have ec:((ds.take (i+1)).filterMap id).length=((ds.take i).filterMap id).length:=by rw[take_succ_at hc,List.filterMap_append]; simp
          refine⟨cs++[none],some (.bl false),by
            show [some (V.ref la),some (.ref rw),some (.ref l),some (.int ((((Lv.rws (D.take j)).length+((ds.take i).filterMap id).length:Nat):Int)+0)),some (.ref r),some (.ref e),some (.bl false)]=_
            rw[ec,Int.add_zero],?_,?_,⟨by rw[upd_same]; simp[cV],fun c hc=>?_⟩,by rw[List.map_append,hcd,take_succ_at hc]; rfl,by rw[hnl]; exact hnd4,by rw[hnl]; exact hfr4,s4.put eH⟩
          · exact hoff l (Ne.symm hel) _ hl4
          · exact hN4.off heT
          · rcases List.mem_append.mp hc with hc | hc
            · refine (hok.2 c hc).frame fun x hx=>hoff x fun z=>?_
              have:=(List.nodup_cons.mp n4.2.1).1
              exact this (by rw[<- z]; exact List.mem_flatMap.mpr ⟨c,hc,hx⟩)
            · rw[List.mem_singleton.mp hc]; trivial
        | some xs=>
          cases hb
          have hat:=rws_at hds hc
          obtain⟨q,hq⟩:∃ q,rs[(Lv.rws (D.take j)).length+((ds.take i).filterMap id).length]?=some q:=⟨_,List.getElem?_eq_getElem (by rw[hRw.len]; exact (List.getElem?_eq_some_iff.mp hat).1)⟩
          have hq4:SeqI H4 q (xs.map V.int):=(hRw.row _ q xs hq hat).same s4
          refine⟨true,rfl,iteT ?_⟩
          refine⟨_,rfl,_,rfl,rw,_,_,.ref q,rfl,rfl,(hRw.top.same s4).imp SqL.of SqT.of,?_,?_⟩
          · exact atI_nat (by rw[List.getElem?_map,hq]; rfl)
          refine⟨q,_,rfl,hq4.imp SqL.of SqT.of,fun r2 nr2=>?_⟩
          have hr2e:r2≠e:=Ne.symm (ne_of_none hok.1 nr2)
          have hr2l:r2≠l:=Ne.symm (ne_of_none hl4 nr2)
          have r2H:H r2=none:=s4.free nr2
          have u:Same H4 (upd H4 r2 (.lst (xs.map V.int))):=Same.new nr2
          have e2:upd H4 r2 (.lst (xs.map V.int)) r2=some (.lst (xs.map V.int)):=upd_same
          have hr2T:r2 ∉ Lv.adr T++tA (e,cs):=fun hm=>by
            rcases List.mem_append.mp hm with hm | hm
            · obtain⟨t,ht,hx⟩:=List.mem_flatMap.mp hm
              have ok:=hN4 t ht
              rcases List.mem_cons.mp hx with rfl | hx
              · rw[ok.1] at nr2; cases nr2
              · obtain⟨c,hc,hx⟩:=List.mem_flatMap.mp hx
                have:=ok.2 c hc
                cases c with
                | none=>cases hx
                | some q=>
                  rw[List.mem_singleton.mp hx] at nr2
                  rw[show H4 q.1=some (.lst (q.2.map V.int)) from this] at nr2
                  cases nr2
            · rcases List.mem_cons.mp hm with hm | hx
              · exact hr2e hm
              · obtain⟨c,hc,hx⟩:=List.mem_flatMap.mp hx
                have:=hok.2 c hc
                cases c with
                | none=>cases hx
                | some q=>
                  rw[List.mem_singleton.mp hx] at nr2
                  rw[show H4 q.1=some (.lst (q.2.map V.int)) from this] at nr2
                  cases nr2
          generalize upd H4 r2 (.lst (xs.map V.int))=H5 at u e2 ⊢
          refine⟨e,_,_,rfl,rfl,u _ _ hok.1,hsz,?_⟩
          refine⟨_,rfl,_,rfl,true,rfl,iteT ?_⟩
          refine⟨_,_,rfl,rfl,?_⟩
          have hnl:(Lv.adr T++tA (e,cs++[some (r2,xs)]))=(Lv.adr T++tA (e,cs))++[r2]:=by unfold tA; simp[List.flatMap_append,cA]
          have hoff:∀ x,x≠e->∀ o,H4 x=some o->upd H5 e (.lst (cs.map cV++[.ref r2])) x=some o:=fun x hx o q=>by rw[upd_ne hx]; exact u _ _ q
          have n4:=List.nodup_append.mp hnd4
          have ec:((ds.take (i+1)).filterMap id).length=((ds.take i).filterMap id).length+1:=by rw[take_succ_at hc,List.filterMap_append]; simp
          refine⟨cs++[some (r2,xs)],some (.bl true),by
            show [some (V.ref la),some (.ref rw),some (.ref l),some (.int ((((Lv.rws (D.take j)).length+((ds.take i).filterMap id).length:Nat):Int)+1)),some (.ref r),some (.ref e),some (.bl true)]=_
            rw[ec]
            rfl,?_,?_,⟨by rw[upd_same]; simp[cV],fun c hc=>?_⟩,by rw[List.map_append,hcd,take_succ_at hc]; rfl,?_,?_,(s4.trans u).put eH⟩
          · exact hoff l (Ne.symm hel) _ hl4
          · exact (hN4.same u).off heT
          · rcases List.mem_append.mp hc with hc | hc
            · refine (hok.2 c hc).frame fun x hx=>hoff x fun z=>?_
              have:=(List.nodup_cons.mp n4.2.1).1
              exact this (by rw[<- z]; exact List.mem_flatMap.mpr ⟨c,hc,hx⟩)
            · rw[List.mem_singleton.mp hc]
              show upd H5 e _ r2=_
              rw[upd_ne hr2e]; exact e2
          · rw[hnl]
            exact List.nodup_append.mpr ⟨hnd4,List.nodup_cons.mpr ⟨List.not_mem_nil,List.nodup_nil⟩,fun x hx y hy z=>hr2T (by rw[List.mem_singleton.mp hy] at z; rw[<- z]; exact hx)⟩
          · rw[hnl]
            intro x hx
            rcases List.mem_append.mp hx with hx | hx
            · exact hfr4 x hx
            · rw[List.mem_singleton.mp hx]; exact⟨r2H,hr2l⟩
      · rintro σ H4 ⟨cs,o6,rfl,hl4,hN4,hok,hcd,hnd4,hfr4,s4⟩
        have hlen:((ds.map Option.isSome).map V.bl).length=ds.length:=by rw[List.length_map,List.length_map]
        rw[hlen,List.take_length] at hcd ⊢
        have hTl:T.length<=7:=by have:=congrArg List.length hdat; unfold datT at this; rw[List.length_map,List.length_take] at this; omega
        refine⟨_,rfl,.inl ⟨rfl,_,SqL.of hl4⟩,_,rfl,l,_,_,rfl,rfl,hl4,small1000 (by rw[List.length_map]; omega),?_⟩
        have hadr:Lv.adr (T++[(e,cs)])=Lv.adr T++tA (e,cs):=by rw[adr_app,adr_cons]; simp[Lv.adr]
        have hlT:l ∉ Lv.adr (T++[(e,cs)]):=fun hm=>(hfr4 l (by rw[<- hadr]; exact hm)).2 rfl
        refine⟨T++[(e,cs)],some (.ref r),some (.ref e),o6,?_,by rw[upd_same,List.map_append]; rfl,?_,?_,by rw[hadr]; exact hnd4,by rw[hadr]; exact hfr4,s4.put nl⟩
        · have ec : (Lv.rws (D.take (j + 1))).length = (Lv.rws (D.take j)).length + (ds.filterMap id).length := by
            rw[take_succ_at hds]
            simp[Lv.rws]
          rw[ec]
        · refine NRL.off (fun t ht=>?_) hlT
          rcases List.mem_append.mp ht with ht | ht
          · exact hN4 t ht
          · rw[List.mem_singleton.mp ht]; exact hok
        · show datT (T++[(e,cs)])=_
          unfold datT at hdat ⊢
          rw[List.map_append,hdat,take_succ_at hds,<- hcd]
          rfl
    · rintro σ H2 ⟨T,o4,o5,o6,rfl,hl2,hN2,hdat,hnd,hfr,s2⟩
      rw[List.length_map,trl,List.take_length] at hdat
      refine⟨_,rfl,Nat.zero_le _,fun e ne=>?_⟩
      have eH:H e=none:=s2.free ne
      have hel:e≠l:=Ne.symm (ne_of_none hl2 ne)
      have ee:upd H2 e (.lst []) e=some (.lst []):=upd_same
      have u:Same H2 (upd H2 e (.lst [])):=Same.new ne
      have heT:e ∉ Lv.adr T:=fun hm=>by
        obtain⟨t,ht,hx⟩:=List.mem_flatMap.mp hm
        have ok:=hN2 t ht
        rcases List.mem_cons.mp hx with rfl | hx
        · rw[ok.1] at ne; cases ne
        · obtain⟨c,hc,hx⟩:=List.mem_flatMap.mp hx
          have:=ok.2 c hc
          cases c with
          | none=>cases hx
          | some q=>
            rw[List.mem_singleton.mp hx] at ne
            rw[show H2 q.1=some (.lst (q.2.map V.int)) from this] at ne
            cases ne
      generalize upd H2 e (.lst [])=H3 at ee u ⊢
      refine⟨(by show 1<=sizeLine; decide),fun l2 nl2=>?_⟩
      have u2:Same H3 (upd H3 l2 (.lst [.ref e])):=Same.new nl2
      have e2:upd H3 l2 (.lst [.ref e]) l2=some (.lst [.ref e]):=upd_same
      generalize upd H3 l2 (.lst [.ref e])=H4 at u2 e2 ⊢
      have hTl:T.length<=7:=by have:=congrArg List.length hdat; unfold datT at this; rw[List.length_map] at this; omega
      have u24:=u.trans u2
      refine⟨l,l2,_,_,rfl,rfl,u24 _ _ hl2,e2,Nat.le_of_lt (small1000 (by rw[List.length_map]; show _+1<=_; omega)),fun l3 nl3=>?_⟩
      have u3:Same H4 (upd H4 l3 (.lst (T.map (fun t=>V.ref t.1)++[.ref e]))):=Same.new nl3
      have h3e:l3≠e:=Ne.symm (ne_of_none (u2 _ _ ee) nl3)
      have hadr:Lv.adr (T++[(e,[])])=Lv.adr T++[e]:=by rw[adr_app]; rfl
      have l3T:l3 ∉ Lv.adr T:=fun hm=>by
        obtain⟨t,ht,hx⟩:=List.mem_flatMap.mp hm
        have ok:=(hN2.same u24) t ht
        rcases List.mem_cons.mp hx with rfl | hx
        · rw[ok.1] at nl3; cases nl3
        · obtain⟨c,hc,hx⟩:=List.mem_flatMap.mp hx
          have:=ok.2 c hc
          cases c with
          | none=>cases hx
          | some q=>
            rw[List.mem_singleton.mp hx] at nl3
            rw[show H4 q.1=some (.lst (q.2.map V.int)) from this] at nl3
            cases nl3
      refine k l3 (T++[(e,[])]) _ ((s2.trans u24).free nl3) (by rw[upd_same,List.map_append]; rfl) ?_ ?_ ?_ ?_ (s2.trans (u24.trans u3))
      · intro t ht
        rcases List.mem_append.mp ht with ht | ht
        · exact ((hN2.same u24).same u3) t ht
        · rw[List.mem_singleton.mp ht]
          exact⟨u3 _ _ (u2 _ _ ee),fun c hc=>(nomatch hc)⟩
      · unfold datT at hdat ⊢
        rw[List.map_append,hdat]
        rfl
      · rw[hadr]
        exact List.nodup_append.mpr ⟨hnd,List.nodup_cons.mpr ⟨List.not_mem_nil,List.nodup_nil⟩,fun x hx y hy z=>heT (by rw[List.mem_singleton.mp hy] at z; rw[<- z]; exact hx)⟩
      · rw[hadr]
        intro x hx
        rcases List.mem_append.mp hx with hx | hx
        · exact⟨(hfr x hx).1,fun z=>l3T (by rw[<- z]; exact hx)⟩
        · rw[List.mem_singleton.mp hx]; exact⟨eH,Ne.symm h3e⟩
end
end Fl52
namespace Fl52
open PySem L2 Lv
section
variable {P:Program}{w:World}{K:PySem.W.Frag}{mg:Str->Option Value}{base:Heap}
theorem scPlace:FnScope ["thing","many"] ["thing","many"] (defScope sPlace):=⟨rfl,rfl,rfl,by decide +kernel,rfl,by decide +kernel,by decide +kernel⟩
theorem scIsPh:FnScope ["counts","phase","out","many"] ["counts","phase"] (defScope sIsPh):=⟨rfl,rfl,rfl,by decide +kernel,rfl,by decide +kernel,by decide +kernel⟩
theorem ok_placeB {f fW:Addr}{fd dW:FuncData} (F:Fun K "is_place" "is_place" sPlace f fd) (T:Txt mg) (CW:Cal P w K mg base 1 "is_whole" ["thing"] spWhole fW dW):FnOk P w K mg base CX0 2 f fd ["thing","many"] spPlaceB:=by
  refine F.ok scPlace (fun vs H Q E h=>?_) (fun cdv A outer s H vs Q E hr h=>?_)
  · obtain⟨i,n,rfl,_⟩:=h
    rfl
  · obtain⟨i,n,rfl,k⟩:=h
    refine⟨_,pss_one (ps_ret (pe_and (pe_cal CW hr rfl (pa_cons (pv 0) pa_nil)) (pe_one (pe_chain op_le op_lt pe_int (pv 0) (pv 1))))),?_⟩
    refine⟨_,rfl,i,rfl,true,rfl,iteT ⟨_,rfl,0,i,rfl,rfl,_,rfl,?_⟩⟩
    by_cases h1:(0:Int)<=i
    · rw[decide_eq_true h1]
      refine iteT ⟨_,rfl,i,n,rfl,rfl,?_⟩
      show Q (.bl (decide (i<n))) H
      rw[show decide (0<=i/\i<n)=decide (i<n) from by simp[h1]] at k
      exact k
    · rw[decide_eq_false h1]
      refine iteF ?_
      rw[decide_eq_false (fun z=>h1 z.1)] at k
      exact k
theorem ok_isphL {f fA fB fC:Addr}{fd dA dB dC:FuncData} (F:Fun K "is_phase" "is_phase" sIsPh f fd) (T:Txt mg) (CW:Cal P w K mg base 1 "is_whole" ["thing"] spWhole fA dA) (CP:Cal P w K mg base 2 "is_place" ["thing","many"] spPlaceB fB dB) (CT:Cal P w K mg base 1 "is_tuple_of" ["thing","many"] spTupOf fC dC):FnOk P w K mg base CX0 3 f fd ["counts","phase"] spIsPhL:=by
  refine F.ok scIsPh (fun vs H Q E h=>?_) (fun cdv A outer s H vs Q E hr h=>?_)
  · obtain⟨a,q,c,out,m,rfl,_⟩:=h
    rfl
  · obtain⟨a,q,c,out,m,rfl,hA,hq,hne,hnn,k⟩:=h
    have hr1:Room 1 _:=hr.mono (by decide)
    refine⟨_,pss_cons (ps_if (pt_not (pt_val (pe_cal CT hr1 rfl (pa_cons (pv 1) (pa_cons pe_int pa_nil))))) (pss_one (ps_ret pe_bl)) pss_nil)
      (pss_cons (ps_asg (pv 1) (pg_tup rfl (pgs_cons (pg_name (i:=2) scIsPh.nd rfl (Or.inl rfl)) (pgs_cons (pg_name (i:=3) scIsPh.nd rfl (Or.inl rfl)) pgs_nil))))
      (pss_cons (ps_if (PW.pt (pw_or (pt_not (pt_val (pe_cal CP hr rfl (pa_cons (pv 2) (pa_cons (pe_callB call_len_seq rfl T.len PySem.boot_len (pa_cons (pv 0) pa_nil)) pa_nil)))))
        (pw_or1 (pt_cmpR op_gt (pe_ix ix_list (pv 0) (pv 2) (fun _ _=>rfl)) pe_int (nomark _))))) (pss_one (ps_ret pe_bl)) pss_nil)
      (pss_one (ps_ret (pe_and (pe_cal CW hr1 rfl (pa_cons (pv 3) pa_nil)) (pe_one (pe_chain op_le op_le pe_int (pv 3) (pe_callB (call_maxB rfl) rfl T.max b_max (pa_cons (pv 0) pa_nil))))))))),?_⟩
    refine⟨_,rfl,q,_,2,rfl,hq,rfl,true,rfl,iteF ?_⟩
    refine⟨_,rfl,q,_,rfl,SqT.of hq,rfl,_,_,rfl,_,_,rfl,rfl,?_⟩
    refine⟨_,rfl,_,rfl,a,_,rfl,.inl (SqL.of hA),out,_,rfl,_,rfl,?_⟩
    rw[List.length_map]
    by_cases ho:0<=out/\out<(c.length:Int)
    · rw[decide_eq_true ho]
      have hat:atI (c.map V.int) out=some (.int (c.getD out.toNat 0)):=by
        obtain⟨n,rfl⟩:∃ n:Nat,out=n:=⟨out.toNat,by omega⟩
        have hn:n<c.length:=by omega
        refine atI_nat ?_
        rw[List.getElem?_map,List.getElem?_eq_getElem hn,Int.toNat_natCast,List.getD_eq_getElem?_getD,List.getElem?_eq_getElem hn]
        rfl
      refine iteF ⟨_,rfl,_,rfl,a,_,_,.int (c.getD out.toNat 0),rfl,rfl,SqL.of hA,hat,_,0,rfl,rfl,_,rfl,?_⟩
      by_cases h0:0<c.getD out.toNat 0
      · rw[decide_eq_true h0]
        refine iteT ?_
        rw[decide_eq_false (fun z=>by have:=z.2.1; (clear ho; omega))] at k
        exact k
      · rw[decide_eq_false h0]
        refine iteF ⟨_,rfl,m,rfl,true,rfl,iteT ⟨_,rfl,1,m,rfl,rfl,_,rfl,?_⟩⟩
        by_cases h1:(1:Int)<=m
        · rw[decide_eq_true h1]
          refine iteT ⟨_,rfl,true,a,c,rfl,SqL.of hA,hne,fun mm hm hg=>⟨_,_,rfl,rfl,?_⟩⟩
          have em:=mxl_eq hnn hm hg
          show Q (.bl (decide (m<=mm))) H
          rw[em]
          rw[show decide (PhOk c out m)=decide (m<=mxl c) from by
            by_cases h2:m<=mxl c
            · rw[decide_eq_true h2]; exact decide_eq_true ⟨ho,by (clear h2 em h1 ho; omega),h1,h2⟩
            · rw[decide_eq_false h2]; exact decide_eq_false fun z=>h2 z.2.2.2] at k
          exact k
        · rw[decide_eq_false h1]
          refine iteF ?_
          rw[decide_eq_false (fun z=>h1 z.2.2.1)] at k
          exact k
    · rw[decide_eq_false ho]
      refine iteT (iteT ?_)
      rw[decide_eq_false (fun z=>ho z.1)] at k
      exact k
end
end Fl52
namespace Fl52
open PySem L2 Lv
section
variable {P:Program}{w:World}{K:PySem.W.Frag}{mg:Str->Option Value}{base:Heap}
theorem scFoldC:FnScope ["cells","many","found","k","cell"] ["cells","many"] (defScope sFoldC):=⟨rfl,rfl,rfl,by decide +kernel,rfl,by decide +kernel,by decide +kernel⟩
theorem ok_foldC {f:Addr}{fd:FuncData} (F:Fun K "_law_folded" "_law_folded" sFoldC f fd) (T:Txt mg) (Te:mg "enumerate"=none):FnOk P w K mg base CX0 1 f fd ["cells","many"] (spFold K):=by
  refine F.ok scFoldC (fun vs H Q E h=>?_) (fun cdv A outer s H vs Q E hr h=>?_)
  · obtain⟨a,ns,m,rfl,_⟩:=h
    rfl
  · obtain⟨a,ns,m,rfl,hS,hl,m1,m2,k⟩:=h
    refine⟨_,pss_cons (ps_set (i:=2) scFoldC.nd rfl (Or.inl rfl) (pe_op op_rep (pe_lst (pa_cons pe_int pa_nil)) (pe_callB (call_min2 rfl) rfl T.min b_min (pa_cons (pv 1) (pa_cons (pe_callB (call_max2 rfl) rfl T.max b_max (pa_cons pe_int (pa_cons (pe_callB call_len_seq rfl T.len PySem.boot_len (pa_cons (pv 0) pa_nil)) pa_nil))) pa_nil)))))
      (pss_cons (ps_for PassesOwn.never rfl (pi_enumB rfl Te (pa_cons (pv 0) pa_nil)) (pg_tup rfl (pgs_cons (pg_name (i:=3) scFoldC.nd rfl (Or.inl rfl)) (pgs_cons (pg_name (i:=4) scFoldC.nd rfl (Or.inl rfl)) pgs_nil)))
        (pss_one (ps_asg (pe_op op_add (pe_op op_mul (pe_ix ix_list (pv 2) (pe_op op_mod (pv 3) (pe_callB call_len_seq rfl T.len PySem.boot_len (pa_cons (pv 2) pa_nil))) (fun _ _=>rfl)) pe_int) (pv 4)) (pg_sub (pv 2) (pe_op op_mod (pv 3) (pe_callB call_len_seq rfl T.len PySem.boot_len (pa_cons (pv 2) pa_nil))) set_list))))
      (pss_one (ps_ret (pv 2)))),?_⟩
    refine⟨(by show 1<=sizeLine; decide),fun l1 e1=>?_⟩
    refine⟨_,rfl,_,rfl,a,_,rfl,.inl ((Same.new e1).seq hS),_,_,rfl,_,_,rfl,?_⟩
    obtain⟨n,en,n1,n2⟩:∃ n:Nat,(if (if ((ns.map V.int).length:Int) > 1 then ((ns.map V.int).length:Int) else 1)<(m:Int) then (if ((ns.map V.int).length:Int) > 1 then ((ns.map V.int).length:Int) else 1) else (m:Int))=(n:Int)/\1<=n/\n<=50:=by
      rw[List.length_map]
      refine⟨(if (if (ns.length:Int) > 1 then (ns.length:Int) else 1)<(m:Int) then (if (ns.length:Int) > 1 then (ns.length:Int) else 1) else (m:Int)).toNat,?_,?_,?_⟩
      · split <;> split <;> omega
      · split <;> split <;> omega
      · split <;> split <;> omega
    rw[en]
    refine⟨l1,(n:Int),_,rfl,rfl,upd_same,by omega,by omega,?_,fun l2 e2=>?_⟩
    · exact Nat.le_of_lt (small1000 (by show 1*((n:Nat):Int).toNat<=1000; omega))
    have ez:(List.replicate ((n:Nat):Int).toNat [V.int 0]).flatten=(List.replicate n (0:Int)).map V.int:=by
      rw[show ((n:Nat):Int).toNat=n by omega,List.map_replicate]
      exact List.flatten_replicate_singleton
    rw[ez]
    have s2:=(Same.new (o:=.lst [.int 0]) e1).trans (Same.new (o:=.lst ((List.replicate n (0:Int)).map V.int)) e2)
    have hl2:(upd (upd H l1 (.lst [.int 0])) l2 (.lst ((List.replicate n (0:Int)).map V.int))) l2=some (.lst ((List.replicate n (0:Int)).map V.int)):=upd_same
    have hl20:H l2=none:=(Same.new (o:=.lst [.int 0]) e1).free e2
    generalize (upd (upd H l1 (.lst [.int 0])) l2 (.lst ((List.replicate n (0:Int)).map V.int)))=H2 at s2 hl2 ⊢
    refine⟨_,rfl,a,true,rfl,⟨_,s2.seq hS⟩,?_⟩
    refine for_enumB (b:=true) (xs:=ns.map V.int) (fun i σ Hx=>∃ (fs:List Int) (o3 o4:Option V),σ=[some (.ref a),some (.int m),some (.ref l2),o3,o4]/\fs.length=n/\Hx l2=some (.lst (fs.map V.int))/\Same H Hx)
      ⟨List.replicate n 0,none,none,rfl,by simp,hl2,s2⟩ (fun i σ Hx _ ⟨_,_,_,_,_,_,sx⟩=>sx.seq hS) ?_ ?_
    · rintro i x q σ Hx hx ⟨fs,o3,o4,rfl,hfl,hlx,sx⟩ hq
      obtain⟨z,hz,rfl⟩:=map_get hx
      have s3:Same Hx (upd Hx q (.tup [.int i,.int z])):=Same.new hq
      have hl3:=s3 l2 _ hlx
      have hq3:(upd Hx q (.tup [.int i,.int z])) q=some (.tup [.int i,.int z]):=upd_same
      generalize (upd Hx q (.tup [.int i,.int z]))=H3 at s3 hl3 hq3 ⊢
      have m0:=Int.emod_nonneg (i:Int) (show ((n:Nat):Int)≠0 by omega)
      have m1:=Int.emod_lt_of_pos (i:Int) (show (0:Int)<((n:Nat):Int) by omega)
      have elen:((fs.map V.int).length:Int)=((n:Nat):Int):=by rw[List.length_map,hfl]
      refine⟨q,_,rfl,SqT.of hq3,rfl,_,_,rfl,_,_,rfl,rfl,?_⟩
      refine⟨_,rfl,_,rfl,_,rfl,l2,_,rfl,.inl (SqL.of hl3),_,_,rfl,rfl,by rw[elen]; omega,l2,_,_,.int (fs.getD ((i:Int) % ((n:Nat):Int)).toNat 0),rfl,rfl,SqL.of hl3,?_,?_⟩
      · rw[elen]
        exact atI_int m0 (by rw[hfl]; exact m1)
      refine⟨_,7,rfl,rfl,.inr ⟨by decide,by decide⟩,_,rfl,_,_,rfl,rfl,?_⟩
      refine⟨_,rfl,_,rfl,_,rfl,l2,_,rfl,.inl (SqL.of hl3),_,_,rfl,rfl,by rw[elen]; omega,l2,_,_,((i:Int) % ((n:Nat):Int)).toNat,rfl,rfl,hl3,?_,?_⟩
      · rw[elen,List.length_map,hfl]
        exact ixN_of m0 m1
      refine⟨fs.set ((i:Int) % ((n:Nat):Int)).toNat (fs.getD ((i:Int) % ((n:Nat):Int)).toNat 0*7+z),_,_,rfl,by simp[hfl],?_,(sx.trans s3).put hl20⟩
      rw[upd_same,List.map_set]
    · rintro σ Hx ⟨fs,o3,o4,rfl,hfl,hlx,sx⟩
      exact⟨_,rfl,k l2 fs Hx hl20 hlx (by omega) sx⟩
theorem b_abs:bootBuiltins "abs"=some (.builtin "abs"):=by decide +kernel
theorem scBegunC:FnScope ["cell","rest"] ["cell"] (defScope sBegunC):=⟨rfl,rfl,rfl,by decide +kernel,rfl,by decide +kernel,by decide +kernel⟩
theorem ok_begunC {f:Addr}{fd:FuncData} (F:Fun K "_law_begun" "_law_begun" sBegunC f fd) (T:Txt mg) (Ta:mg "abs"=none):FnOk P w K mg base CX0 1 f fd ["cell"] spBegun:=by
  refine F.ok scBegunC (fun vs H Q E h=>?_) (fun cdv A outer s H vs Q E hr h=>?_)
  · obtain⟨z,rfl,_⟩:=h
    rfl
  · obtain⟨z,rfl,k⟩:=h
    refine⟨_,pss_cons (ps_set (i:=1) scBegunC.nd rfl (Or.inl rfl) pe_int)
      (pss_cons (ps_if (pt_cmpR op_ge (pe_callB call_abs rfl Ta b_abs (pa_cons (pv 0) pa_nil)) (pe_op op_pow pe_int pe_int) (nomark _)) (pss_one (ps_set (i:=1) scBegunC.nd rfl (Or.inl rfl) (pe_op op_add (pe_op op_sub (pe_callB call_abs rfl Ta b_abs (pa_cons (pv 0) pa_nil)) (pe_op op_pow pe_int pe_int)) pe_int))) pss_nil)
      (pss_one (ps_ret (pe_lst (pa_cons (pv 1) (pa_cons pe_int (pa_cons (pe_op op_mod (pv 0) pe_int) pa_nil))))))),?_⟩
    refine cut2 (fun σ' H'=>∃ r:Int,σ'=[some (.int z),some (.int r)]/\H'=H) (fun R hR=>?_) ?_
    · refine⟨_,rfl,z,rfl,10,18,rfl,rfl,⟨by decide,by decide,by decide⟩,_,_,rfl,rfl,_,rfl,?_⟩
      refine ite2 (fun hc=>?_) (fun hc=>hR _ _ ⟨_,rfl,rfl⟩)
      exact⟨_,rfl,z,rfl,10,18,rfl,rfl,⟨by decide,by decide,by decide⟩,_,_,rfl,rfl,_,_,rfl,rfl,hR _ _ ⟨_,rfl,rfl⟩⟩
    · rintro σ' H' ⟨r,rfl,rfl⟩
      refine⟨_,rfl,_,rfl,z,2147483647,rfl,rfl,(by show (0:Int)<2147483647; decide),(by show 3<=sizeLine; decide),fun l hl=>?_⟩
      exact k l _ hl ⟨_,_,_,upd_same,Int.le_refl _,Int.le_refl _,Int.emod_nonneg _ (by decide),Int.emod_lt_of_pos _ (by decide)⟩ (Same.new hl)
theorem scTakeC:FnScope ["pot","size","digit","mixed"] ["pot","size"] (defScope sTakeC):=⟨rfl,rfl,rfl,by decide +kernel,rfl,by decide +kernel,by decide +kernel⟩
theorem ok_takeC {f:Addr}{fd:FuncData} (F:Fun K "_law_take" "_law_take" sTakeC f fd) (T:Txt mg):FnOk P w K mg base CX0 1 f fd ["pot","size"] spTakeC:=by
  refine F.ok scTakeC (fun vs H Q E h=>?_) (fun cdv A outer s H vs Q E hr h=>?_)
  · obtain⟨p,m,c,rfl,_⟩:=h
    rfl
  · obtain⟨p,m,c,rfl,⟨a,b,g,hp,b0,b1,g0,g1⟩,hc,h0,h1,k⟩:=h
    refine ⟨_, pss_cons (ps_if (pt_cmpR op_gt (pe_ix ix_list (pv 0) pe_int (fun _ _ => rfl)) pe_int (nomark _))
        (pss_cons (ps_set (i:=2) scTakeC.nd rfl (Or.inl rfl) (pe_op op_mod (pe_ix ix_list (pv 0) pe_int (fun _ _=>rfl)) (pv 1)))
        (pss_cons (ps_asg (pe_op op_fdivB (pe_ix ix_list (pv 0) pe_int (fun _ _=>rfl)) (pv 1)) (pg_sub (pv 0) pe_int set_list))
        (pss_one (ps_ret (pv 2))))) pss_nil)
      (pss_cons (ps_asg (pe_op op_add (pe_ix ix_list (pv 0) pe_int (fun _ _=>rfl)) pe_int) (pg_sub (pv 0) pe_int set_list))
      (pss_cons (ps_set (i:=3) scTakeC.nd rfl (Or.inl rfl) (pe_op op_mod (pe_op op_add (pe_op op_add (pe_op op_add (pe_ix ix_list (pv 0) pe_int (fun _ _=>rfl)) (pe_op op_mul (pe_op op_mul pe_int (pe_ix ix_list (pv 0) pe_int (fun _ _=>rfl))) (pe_ix ix_list (pv 0) pe_int (fun _ _=>rfl)))) (pe_op op_mul pe_int (pe_ix ix_list (pv 0) pe_int (fun _ _=>rfl)))) pe_int) pe_int))
      (pss_cons (ps_set (i:=3) scTakeC.nd rfl (Or.inl rfl) (pe_op op_mod (pe_op op_mul (pe_op op_mod (pe_op op_mul (pv 3) (pv 3)) pe_int) pe_int) pe_int))
      (pss_one (ps_ret (pe_op op_mod (pe_op op_fdiv (pv 3) pe_int) (pv 1))))))),?_⟩
    refine⟨_,rfl,p,_,0,.int a,rfl,rfl,SqL.of hp,rfl,_,_,rfl,rfl,_,rfl,?_⟩
    refine ite2 (fun _=>?_) (fun _=>?_)
    · refine⟨_,rfl,p,_,0,.int a,rfl,rfl,SqL.of hp,rfl,_,rfl,a,m,rfl,rfl,h0,?_⟩
      refine⟨_,rfl,p,_,0,.int a,rfl,rfl,SqL.of hp,rfl,_,rfl,a,m,rfl,rfl,⟨h0,h1⟩,_,rfl,p,_,0,0,rfl,rfl,hp,rfl,_,rfl,?_⟩
      exact k _ _ (Int.emod_nonneg _ (by omega)) (Int.emod_lt_of_pos _ h0) ⟨_,b,g,upd_same,b0,by omega,g0,g1⟩ Sm.put
    · refine⟨_,rfl,p,_,1,.int b,rfl,rfl,SqL.of hp,rfl,b,1,rfl,rfl,_,rfl,p,_,1,1,rfl,rfl,hp,rfl,?_⟩
      have hp1:(upd H p (.lst ([V.int a,.int b,.int g].set 1 (.int (b+1))))) p=some (.lst [.int a,.int (b+1),.int g]):=by rw[upd_same]; rfl
      have sm1:Sm p H (upd H p (.lst ([V.int a,.int b,.int g].set 1 (.int (b+1))))):=Sm.put
      generalize (upd H p (.lst ([V.int a,.int b,.int g].set 1 (.int (b+1)))))=H1 at hp1 sm1 ⊢
      refine⟨_,rfl,p,_,2,.int g,rfl,rfl,SqL.of hp1,rfl,?_⟩
      refine⟨_,rfl,p,_,1,.int (b+1),rfl,rfl,SqL.of hp1,rfl,977,_,rfl,rfl,.inl ⟨by decide,by decide⟩,?_⟩
      refine⟨_,rfl,p,_,1,.int (b+1),rfl,rfl,SqL.of hp1,rfl,_,_,rfl,rfl,.inr ⟨by omega,by omega⟩,_,_,rfl,rfl,?_⟩
      refine⟨_,rfl,p,_,1,.int (b+1),rfl,rfl,SqL.of hp1,rfl,40693,_,rfl,rfl,.inl ⟨by decide,by decide⟩,_,_,rfl,rfl,_,1,rfl,rfl,_,2147483647,rfl,rfl,(by show (0:Int)<2147483647; decide),?_⟩
      dsimp only
      have x0:=Int.emod_nonneg (g+977*(b+1)*(b+1)+40693*(b+1)+1) (show (2147483647:Int)≠0 by decide)
      have x1:=Int.emod_lt_of_pos (g+977*(b+1)*(b+1)+40693*(b+1)+1) (show (0:Int)<2147483647 by decide)
      generalize (g+977*(b+1)*(b+1)+40693*(b+1)+1) % 2147483647=x at x0 x1 ⊢
      refine⟨_,rfl,_,rfl,x,x,rfl,rfl,.inl ⟨by omega,by omega⟩,_,1000000007,rfl,rfl,(by show (0:Int)<1000000007; decide),_,48271,rfl,rfl,.inr ⟨by decide,by decide⟩,_,998244353,rfl,rfl,(by show (0:Int)<998244353; decide),?_⟩
      refine⟨_,rfl,_,8,rfl,rfl,⟨by decide,by decide⟩,_,rfl,_,m,rfl,rfl,h0,?_⟩
      exact k _ _ (Int.emod_nonneg _ (by omega)) (Int.emod_lt_of_pos _ h0) ⟨_,_,_,hp1,by omega,by omega,g0,g1⟩ sm1
end
end Fl52
namespace Fl52
open PySem L2 Lv
theorem len1 {P:List Value->Prop} (us:List Value) (hl:us.length=1) (h:∀ a0:Value,P [a0]):P us:=by
  match us,hl with
  | [a0],_=>exact h a0
theorem len2 {P:List Value->Prop} (us:List Value) (hl:us.length=2) (h:∀ a0 a1:Value,P [a0,a1]):P us:=by
  match us,hl with
  | [a0,a1],_=>exact h a0 a1
theorem len3 {P:List Value->Prop} (us:List Value) (hl:us.length=3) (h:∀ a0 a1 a2:Value,P [a0,a1,a2]):P us:=by
  match us,hl with
  | [a0,a1,a2],_=>exact h a0 a1 a2
theorem len5 {P:List Value->Prop} (us:List Value) (hl:us.length=5) (h:∀ a0 a1 a2 a3 a4:Value,P [a0,a1,a2,a3,a4]):P us:=by
  match us,hl with
  | [a0,a1,a2,a3,a4],_=>exact h a0 a1 a2 a3 a4
theorem all_mk {l : PySem.W.OpenLaw} {w : World} {K : PySem.W.Frag} {h : Heap} {mg : Str → Option Value} {fa f0 f1 f2 f3 f4 f5 f6 f7 f8 f9 f10 f11 f12 f13 f14 f15 f16 f17 f18 f19 f20 f21 f22 f23 f24 f25 f26 f27 f28 f29 f30 f31 f32 f33 f34 f35 f36 f37 f38 f39 f40 : Addr} {tk0 tk1 tk2 : Tok} (X : K.In h) (G : h.Ns mainGlobals mg) (hfa : mg "law" = some (.ref fa))
    {od0 an0 od1 an1 od2 an2 od3 an3 od4 an4 od5 an5 od6 an6 od7 an7 od8 an8 od9 an9 od10 an10 od11 an11 od12 an12 od13 an13 od14 an14 od15 an15 od16 an16 od17 an17 od18 an18 od19 an19 od20 an20 od21 an21 od22 an22 od23 an23 od24 an24 od25 an25 od26 an26 od27 an27 od28 an28 od29 an29 od30 an30 od31 an31 od32 an32 od33 an33 od34 an34 od35 an35 od36 an36 od37 an37 od38 an38 od39 an39 od40 an40:Option Addr}{sl0 sl1 sl2 sl3 sl4 sl5 sl6 sl7 sl8 sl9 sl10 sl11 sl12 sl13 sl14 sl15 sl16 sl17 sl18 sl19 sl20 sl21 sl22 sl23 sl24 sl25 sl26 sl27 sl28 sl29 sl30 sl31 sl32 sl33 sl34 sl35 sl36 sl37 sl38 sl39 sl40:Array (Option Value)}{oc0 kV0 dc0 pm0 cd0 ct0 oc1 kV1 dc1 pm1 cd1 ct1 oc2 kV2 dc2 pm2 cd2 ct2 oc3 kV3 dc3 pm3 cd3 ct3 oc4 kV4 dc4 pm4 cd4 ct4 oc5 kV5 dc5 pm5 cd5 ct5 oc6 kV6 dc6 pm6 cd6 ct6 oc7 kV7 dc7 pm7 cd7 ct7 oc8 kV8 dc8 pm8 cd8 ct8 oc9 kV9 dc9 pm9 cd9 ct9 oc10 kV10 dc10 pm10 cd10 ct10 oc11 kV11 dc11 pm11 cd11 ct11 oc12 kV12 dc12 pm12 cd12 ct12 oc13 kV13 dc13 pm13 cd13 ct13 oc14 kV14 dc14 pm14 cd14 ct14 oc15 kV15 dc15 pm15 cd15 ct15 oc16 kV16 dc16 pm16 cd16 ct16 oc17 kV17 dc17 pm17 cd17 ct17 oc18 kV18 dc18 pm18 cd18 ct18 oc19 kV19 dc19 pm19 cd19 ct19 oc20 kV20 dc20 pm20 cd20 ct20 oc21 kV21 dc21 pm21 cd21 ct21 oc22 kV22 dc22 pm22 cd22 ct22 oc23 kV23 dc23 pm23 cd23 ct23 oc24 kV24 dc24 pm24 cd24 ct24 oc25 kV25 dc25 pm25 cd25 ct25 oc26 kV26 dc26 pm26 cd26 ct26 oc27 kV27 dc27 pm27 cd27 ct27 oc28 kV28 dc28 pm28 cd28 ct28 oc29 kV29 dc29 pm29 cd29 ct29 oc30 kV30 dc30 pm30 cd30 ct30 oc31 kV31 dc31 pm31 cd31 ct31 oc32 kV32 dc32 pm32 cd32 ct32 oc33 kV33 dc33 pm33 cd33 ct33 oc34 kV34 dc34 pm34 cd34 ct34 oc35 kV35 dc35 pm35 cd35 ct35 oc36 kV36 dc36 pm36 cd36 ct36 oc37 kV37 dc37 pm37 cd37 ct37 oc38 kV38 dc38 pm38 cd38 ct38 oc39 kV39 dc39 pm39 cd39 ct39 oc40 kV40 dc40 pm40 cd40 ct40:Value}
    {da4:Addr}{doc4:Value}{dod4:Option Addr}{dn4:Nat}{dsl4:Array (Option Value)}{dt4_0:Tok}
    (a0:PySem.W.nsIn K mainGlobals "is_whole"=some (some (.ref f0))) (l0:K.lookup f0=some ⟨oc0,od0,.func (PySem.W.fnOf "is_whole" "is_whole" (defArgs sWhole) (defBody sWhole) (defScope sWhole) .none kV0 dc0 pm0 an0 cd0 ct0),sl0⟩) (c0:PySem.W.codeIn K cd0 "is_whole"=true) (k0:PySem.W.keepIn K (.ref f0)=true)
    (a1:PySem.W.nsIn K mainGlobals "is_place"=some (some (.ref f1))) (l1:K.lookup f1=some ⟨oc1,od1,.func (PySem.W.fnOf "is_place" "is_place" (defArgs sPlace) (defBody sPlace) (defScope sPlace) .none kV1 dc1 pm1 an1 cd1 ct1),sl1⟩) (c1:PySem.W.codeIn K cd1 "is_place"=true) (k1:PySem.W.keepIn K (.ref f1)=true)
    (a2:PySem.W.nsIn K mainGlobals "is_tuple_of"=some (some (.ref f2))) (l2:K.lookup f2=some ⟨oc2,od2,.func (PySem.W.fnOf "is_tuple_of" "is_tuple_of" (defArgs sTupOf) (defBody sTupOf) (defScope sTupOf) .none kV2 dc2 pm2 an2 cd2 ct2),sl2⟩) (c2:PySem.W.codeIn K cd2 "is_tuple_of"=true) (k2:PySem.W.keepIn K (.ref f2)=true)
    (a3:PySem.W.nsIn K mainGlobals "check_ways"=some (some (.ref f3))) (l3:K.lookup f3=some ⟨oc3,od3,.func (PySem.W.fnOf "check_ways" "check_ways" (defArgs sWays) (defBody sWays) (defScope sWays) .none kV3 dc3 pm3 an3 cd3 ct3),sl3⟩) (c3:PySem.W.codeIn K cd3 "check_ways"=true) (k3:PySem.W.keepIn K (.ref f3)=true)
    (a4:PySem.W.nsIn K mainGlobals "check_level"=some (some (.ref f4))) (l4:K.lookup f4=some ⟨oc4,od4,.func (PySem.W.fnOf "check_level" "check_level" (defArgs sLevel) (defBody sLevel) (defScope sLevel) (.ref da4) kV4 dc4 pm4 an4 cd4 ct4),sl4⟩) (c4:PySem.W.codeIn K cd4 "check_level"=true) (k4:PySem.W.keepIn K (.ref f4)=true)
    (d4:K.lookup da4=some ⟨doc4,dod4,.seq #[.int 300 dt4_0] dn4,dsl4⟩)
    (a5:PySem.W.nsIn K mainGlobals "first_counts"=some (some (.ref f5))) (l5:K.lookup f5=some ⟨oc5,od5,.func (PySem.W.fnOf "first_counts" "first_counts" (defArgs sFirst) (defBody sFirst) (defScope sFirst) .none kV5 dc5 pm5 an5 cd5 ct5),sl5⟩) (c5:PySem.W.codeIn K cd5 "first_counts"=true) (k5:PySem.W.keepIn K (.ref f5)=true)
    (a6:PySem.W.nsIn K mainGlobals "next_counts"=some (some (.ref f6))) (l6:K.lookup f6=some ⟨oc6,od6,.func (PySem.W.fnOf "next_counts" "next_counts" (defArgs sNext) (defBody sNext) (defScope sNext) .none kV6 dc6 pm6 an6 cd6 ct6),sl6⟩) (c6:PySem.W.codeIn K cd6 "next_counts"=true) (k6:PySem.W.keepIn K (.ref f6)=true)
    (a7:PySem.W.nsIn K mainGlobals "level_counts"=some (some (.ref f7))) (l7:K.lookup f7=some ⟨oc7,od7,.func (PySem.W.fnOf "level_counts" "level_counts" (defArgs sCounts) (defBody sCounts) (defScope sCounts) .none kV7 dc7 pm7 an7 cd7 ct7),sl7⟩) (c7:PySem.W.codeIn K cd7 "level_counts"=true) (k7:PySem.W.keepIn K (.ref f7)=true)
    (a8:PySem.W.nsIn K mainGlobals "level_total"=some (some (.ref f8))) (l8:K.lookup f8=some ⟨oc8,od8,.func (PySem.W.fnOf "level_total" "level_total" (defArgs sTotal) (defBody sTotal) (defScope sTotal) .none kV8 dc8 pm8 an8 cd8 ct8),sl8⟩) (c8:PySem.W.codeIn K cd8 "level_total"=true) (k8:PySem.W.keepIn K (.ref f8)=true)
    (a9:PySem.W.nsIn K mainGlobals "is_phase"=some (some (.ref f9))) (l9:K.lookup f9=some ⟨oc9,od9,.func (PySem.W.fnOf "is_phase" "is_phase" (defArgs sIsPh) (defBody sIsPh) (defScope sIsPh) .none kV9 dc9 pm9 an9 cd9 ct9),sl9⟩) (c9:PySem.W.codeIn K cd9 "is_phase"=true) (k9:PySem.W.keepIn K (.ref f9)=true)
    (a10:PySem.W.nsIn K mainGlobals "merged_row"=some (some (.ref f10))) (l10:K.lookup f10=some ⟨oc10,od10,.func (PySem.W.fnOf "merged_row" "merged_row" (defArgs sMerged) (defBody sMerged) (defScope sMerged) .none kV10 dc10 pm10 an10 cd10 ct10),sl10⟩) (c10:PySem.W.codeIn K cd10 "merged_row"=true) (k10:PySem.W.keepIn K (.ref f10)=true)
    (a11:PySem.W.nsIn K mainGlobals "copied_row"=some (some (.ref f11))) (l11:K.lookup f11=some ⟨oc11,od11,.func (PySem.W.fnOf "copied_row" "copied_row" (defArgs sCopy) (defBody sCopy) (defScope sCopy) .none kV11 dc11 pm11 an11 cd11 ct11),sl11⟩) (c11:PySem.W.codeIn K cd11 "copied_row"=true) (k11:PySem.W.keepIn K (.ref f11)=true)
    (a12:PySem.W.nsIn K mainGlobals "things_in"=some (some (.ref f12))) (l12:K.lookup f12=some ⟨oc12,od12,.func (PySem.W.fnOf "things_in" "things_in" (defArgs sThin) (defBody sThin) (defScope sThin) .none kV12 dc12 pm12 an12 cd12 ct12),sl12⟩) (c12:PySem.W.codeIn K cd12 "things_in"=true) (k12:PySem.W.keepIn K (.ref f12)=true)
    (a13:PySem.W.nsIn K mainGlobals "merged_or_idle"=some (some (.ref f13))) (l13:K.lookup f13=some ⟨oc13,od13,.func (PySem.W.fnOf "merged_or_idle" "merged_or_idle" (defArgs sIdle) (defBody sIdle) (defScope sIdle) .none kV13 dc13 pm13 an13 cd13 ct13),sl13⟩) (c13:PySem.W.codeIn K cd13 "merged_or_idle"=true) (k13:PySem.W.keepIn K (.ref f13)=true)
    (a14:PySem.W.nsIn K mainGlobals "taken_at"=some (some (.ref f14))) (l14:K.lookup f14=some ⟨oc14,od14,.func (PySem.W.fnOf "taken_at" "taken_at" (defArgs sTkAt) (defBody sTkAt) (defScope sTkAt) .none kV14 dc14 pm14 an14 cd14 ct14),sl14⟩) (c14:PySem.W.codeIn K cd14 "taken_at"=true) (k14:PySem.W.keepIn K (.ref f14)=true)
    (a15:PySem.W.nsIn K mainGlobals "phase_played"=some (some (.ref f15))) (l15:K.lookup f15=some ⟨oc15,od15,.func (PySem.W.fnOf "phase_played" "phase_played" (defArgs sPhPl) (defBody sPhPl) (defScope sPhPl) .none kV15 dc15 pm15 an15 cd15 ct15),sl15⟩) (c15:PySem.W.codeIn K cd15 "phase_played"=true) (k15:PySem.W.keepIn K (.ref f15)=true)
    (a16:PySem.W.nsIn K mainGlobals "play_rows"=some (some (.ref f16))) (l16:K.lookup f16=some ⟨oc16,od16,.func (PySem.W.fnOf "play_rows" "play_rows" (defArgs sPlay) (defBody sPlay) (defScope sPlay) .none kV16 dc16 pm16 an16 cd16 ct16),sl16⟩) (c16:PySem.W.codeIn K cd16 "play_rows"=true) (k16:PySem.W.keepIn K (.ref f16)=true)
    (a17:PySem.W.nsIn K mainGlobals "level_phases"=some (some (.ref f17))) (l17:K.lookup f17=some ⟨oc17,od17,.func (PySem.W.fnOf "level_phases" "level_phases" (defArgs sLPh) (defBody sLPh) (defScope sLPh) .none kV17 dc17 pm17 an17 cd17 ct17),sl17⟩) (c17:PySem.W.codeIn K cd17 "level_phases"=true) (k17:PySem.W.keepIn K (.ref f17)=true)
    (a18:PySem.W.nsIn K mainGlobals "laid_reels"=some (some (.ref f18))) (l18:K.lookup f18=some ⟨oc18,od18,.func (PySem.W.fnOf "laid_reels" "laid_reels" (defArgs sLaid) (defBody sLaid) (defScope sLaid) .none kV18 dc18 pm18 an18 cd18 ct18),sl18⟩) (c18:PySem.W.codeIn K cd18 "laid_reels"=true) (k18:PySem.W.keepIn K (.ref f18)=true)
    (a19:PySem.W.nsIn K mainGlobals "check_total"=some (some (.ref f19))) (l19:K.lookup f19=some ⟨oc19,od19,.func (PySem.W.fnOf "check_total" "check_total" (defArgs sTot) (defBody sTot) (defScope sTot) .none kV19 dc19 pm19 an19 cd19 ct19),sl19⟩) (c19:PySem.W.codeIn K cd19 "check_total"=true) (k19:PySem.W.keepIn K (.ref f19)=true)
    (a20:PySem.W.nsIn K mainGlobals "check_places"=some (some (.ref f20))) (l20:K.lookup f20=some ⟨oc20,od20,.func (PySem.W.fnOf "check_places" "check_places" (defArgs sPlaces) (defBody sPlaces) (defScope sPlaces) .none kV20 dc20 pm20 an20 cd20 ct20),sl20⟩) (c20:PySem.W.codeIn K cd20 "check_places"=true) (k20:PySem.W.keepIn K (.ref f20)=true)
    (a21:PySem.W.nsIn K mainGlobals "first_numbers"=some (some (.ref f21))) (l21:K.lookup f21=some ⟨oc21,od21,.func (PySem.W.fnOf "first_numbers" "first_numbers" (defArgs sFirstN) (defBody sFirstN) (defScope sFirstN) .none kV21 dc21 pm21 an21 cd21 ct21),sl21⟩) (c21:PySem.W.codeIn K cd21 "first_numbers"=true) (k21:PySem.W.keepIn K (.ref f21)=true)
    (a22:PySem.W.nsIn K mainGlobals "next_numbers"=some (some (.ref f22))) (l22:K.lookup f22=some ⟨oc22,od22,.func (PySem.W.fnOf "next_numbers" "next_numbers" (defArgs sNextN) (defBody sNextN) (defScope sNextN) .none kV22 dc22 pm22 an22 cd22 ct22),sl22⟩) (c22:PySem.W.codeIn K cd22 "next_numbers"=true) (k22:PySem.W.keepIn K (.ref f22)=true)
    (a23:PySem.W.nsIn K mainGlobals "numbers_after"=some (some (.ref f23))) (l23:K.lookup f23=some ⟨oc23,od23,.func (PySem.W.fnOf "numbers_after" "numbers_after" (defArgs sAfter) (defBody sAfter) (defScope sAfter) .none kV23 dc23 pm23 an23 cd23 ct23),sl23⟩) (c23:PySem.W.codeIn K cd23 "numbers_after"=true) (k23:PySem.W.keepIn K (.ref f23)=true)
    (a24:PySem.W.nsIn K mainGlobals "numbers_of"=some (some (.ref f24))) (l24:K.lookup f24=some ⟨oc24,od24,.func (PySem.W.fnOf "numbers_of" "numbers_of" (defArgs sNumOf) (defBody sNumOf) (defScope sNumOf) .none kV24 dc24 pm24 an24 cd24 ct24),sl24⟩) (c24:PySem.W.codeIn K cd24 "numbers_of"=true) (k24:PySem.W.keepIn K (.ref f24)=true)
    (a25:PySem.W.nsIn K mainGlobals "level_numbers"=some (some (.ref f25))) (l25:K.lookup f25=some ⟨oc25,od25,.func (PySem.W.fnOf "level_numbers" "level_numbers" (defArgs sLN) (defBody sLN) (defScope sLN) .none kV25 dc25 pm25 an25 cd25 ct25),sl25⟩) (c25:PySem.W.codeIn K cd25 "level_numbers"=true) (k25:PySem.W.keepIn K (.ref f25)=true)
    (a26:PySem.W.nsIn K mainGlobals "fits_reel"=some (some (.ref f26))) (l26:K.lookup f26=some ⟨oc26,od26,.func (PySem.W.fnOf "fits_reel" "fits_reel" (defArgs sFits) (defBody sFits) (defScope sFits) .none kV26 dc26 pm26 an26 cd26 ct26),sl26⟩) (c26:PySem.W.codeIn K cd26 "fits_reel"=true) (k26:PySem.W.keepIn K (.ref f26)=true)
    (a27:PySem.W.nsIn K mainGlobals "real_rows"=some (some (.ref f27))) (l27:K.lookup f27=some ⟨oc27,od27,.func (PySem.W.fnOf "real_rows" "real_rows" (defArgs sReal) (defBody sReal) (defScope sReal) .none kV27 dc27 pm27 an27 cd27 ct27),sl27⟩) (c27:PySem.W.codeIn K cd27 "real_rows"=true) (k27:PySem.W.keepIn K (.ref f27)=true)
    (a28:PySem.W.nsIn K mainGlobals "is_laying"=some (some (.ref f28))) (l28:K.lookup f28=some ⟨oc28,od28,.func (PySem.W.fnOf "is_laying" "is_laying" (defArgs sIsLay) (defBody sIsLay) (defScope sIsLay) .none kV28 dc28 pm28 an28 cd28 ct28),sl28⟩) (c28:PySem.W.codeIn K cd28 "is_laying"=true) (k28:PySem.W.keepIn K (.ref f28)=true)
    (a29:PySem.W.nsIn K mainGlobals "reading_of"=some (some (.ref f29))) (l29:K.lookup f29=some ⟨oc29,od29,.func (PySem.W.fnOf "reading_of" "reading_of" (defArgs sRead) (defBody sRead) (defScope sRead) .none kV29 dc29 pm29 an29 cd29 ct29),sl29⟩) (c29:PySem.W.codeIn K cd29 "reading_of"=true) (k29:PySem.W.keepIn K (.ref f29)=true)
    (a30:PySem.W.nsIn K mainGlobals "laying_holds"=some (some (.ref f30))) (l30:K.lookup f30=some ⟨oc30,od30,.func (PySem.W.fnOf "laying_holds" "laying_holds" (defArgs sLayH) (defBody sLayH) (defScope sLayH) .none kV30 dc30 pm30 an30 cd30 ct30),sl30⟩) (c30:PySem.W.codeIn K cd30 "laying_holds"=true) (k30:PySem.W.keepIn K (.ref f30)=true)
    (a31:PySem.W.nsIn K mainGlobals "laying_reading"=some (some (.ref f31))) (l31:K.lookup f31=some ⟨oc31,od31,.func (PySem.W.fnOf "laying_reading" "laying_reading" (defArgs sLayR) (defBody sLayR) (defScope sLayR) .none kV31 dc31 pm31 an31 cd31 ct31),sl31⟩) (c31:PySem.W.codeIn K cd31 "laying_reading"=true) (k31:PySem.W.keepIn K (.ref f31)=true)
    (a32:PySem.W.nsIn K mainGlobals "_law_folded"=some (some (.ref f32))) (l32:K.lookup f32=some ⟨oc32,od32,.func (PySem.W.fnOf "_law_folded" "_law_folded" (defArgs sFoldC) (defBody sFoldC) (defScope sFoldC) .none kV32 dc32 pm32 an32 cd32 ct32),sl32⟩) (c32:PySem.W.codeIn K cd32 "_law_folded"=true) (k32:PySem.W.keepIn K (.ref f32)=true)
    (a33:PySem.W.nsIn K mainGlobals "_law_begun"=some (some (.ref f33))) (l33:K.lookup f33=some ⟨oc33,od33,.func (PySem.W.fnOf "_law_begun" "_law_begun" (defArgs sBegunC) (defBody sBegunC) (defScope sBegunC) .none kV33 dc33 pm33 an33 cd33 ct33),sl33⟩) (c33:PySem.W.codeIn K cd33 "_law_begun"=true) (k33:PySem.W.keepIn K (.ref f33)=true)
    (a34:PySem.W.nsIn K mainGlobals "_law_take"=some (some (.ref f34))) (l34:K.lookup f34=some ⟨oc34,od34,.func (PySem.W.fnOf "_law_take" "_law_take" (defArgs sTakeC) (defBody sTakeC) (defScope sTakeC) .none kV34 dc34 pm34 an34 cd34 ct34),sl34⟩) (c34:PySem.W.codeIn K cd34 "_law_take"=true) (k34:PySem.W.keepIn K (.ref f34)=true)
    (a35:PySem.W.nsIn K mainGlobals "_law_laying"=some (some (.ref f35))) (l35:K.lookup f35=some ⟨oc35,od35,.func (PySem.W.fnOf "_law_laying" "_law_laying" (defArgs sLay52) (defBody sLay52) (defScope sLay52) .none kV35 dc35 pm35 an35 cd35 ct35),sl35⟩) (c35:PySem.W.codeIn K cd35 "_law_laying"=true) (k35:PySem.W.keepIn K (.ref f35)=true)
    (a36:PySem.W.nsIn K mainGlobals "_law_places"=some (some (.ref f36))) (l36:K.lookup f36=some ⟨oc36,od36,.func (PySem.W.fnOf "_law_places" "_law_places" (defArgs sPlc52) (defBody sPlc52) (defScope sPlc52) .none kV36 dc36 pm36 an36 cd36 ct36),sl36⟩) (c36:PySem.W.codeIn K cd36 "_law_places"=true) (k36:PySem.W.keepIn K (.ref f36)=true)
    (a37:PySem.W.nsIn K mainGlobals "_law_right"=some (some (.ref f37))) (l37:K.lookup f37=some ⟨oc37,od37,.func (PySem.W.fnOf "_law_right" "_law_right" (defArgs sRt52) (defBody sRt52) (defScope sRt52) .none kV37 dc37 pm37 an37 cd37 ct37),sl37⟩) (c37:PySem.W.codeIn K cd37 "_law_right"=true) (k37:PySem.W.keepIn K (.ref f37)=true)
    (a38:PySem.W.nsIn K mainGlobals "_law_all_read"=some (some (.ref f38))) (l38:K.lookup f38=some ⟨oc38,od38,.func (PySem.W.fnOf "_law_all_read" "_law_all_read" (defArgs sAll52) (defBody sAll52) (defScope sAll52) .none kV38 dc38 pm38 an38 cd38 ct38),sl38⟩) (c38:PySem.W.codeIn K cd38 "_law_all_read"=true) (k38:PySem.W.keepIn K (.ref f38)=true)
    (a39:PySem.W.nsIn K mainGlobals "_law_lot"=some (some (.ref f39))) (l39:K.lookup f39=some ⟨oc39,od39,.func (PySem.W.fnOf "_law_lot" "_law_lot" (defArgs sLot52) (defBody sLot52) (defScope sLot52) .none kV39 dc39 pm39 an39 cd39 ct39),sl39⟩) (c39:PySem.W.codeIn K cd39 "_law_lot"=true) (k39:PySem.W.keepIn K (.ref f39)=true)
    (a40:PySem.W.nsIn K mainGlobals "law"=some (some (.ref f40))) (l40:K.lookup f40=some ⟨oc40,od40,.func (PySem.W.fnOf "law" "law" (defArgs sLaw) (defBody sLaw) (defScope sLaw) .none kV40 dc40 pm40 an40 cd40 ct40),sl40⟩) (c40:PySem.W.codeIn K cd40 "law"=true) (k40:PySem.W.keepIn K (.ref f40)=true)
    (y0:PySem.W.nsIn K mainGlobals "LEAST_WAYS"=some (some (.int 2 tk0)))
    (y1:PySem.W.nsIn K mainGlobals "MOST_WAYS"=some (some (.int 7 tk1)))
    (y2:PySem.W.nsIn K mainGlobals "MOST_PLACES"=some (some (.int 4000 tk2)))
    (z0:PySem.W.nsIn K mainGlobals "isinstance"=some none) (z1:PySem.W.nsIn K mainGlobals "int"=some none) (z2:PySem.W.nsIn K mainGlobals "bool"=some none) (z3:PySem.W.nsIn K mainGlobals "list"=some none) (z4:PySem.W.nsIn K mainGlobals "tuple"=some none) (z5:PySem.W.nsIn K mainGlobals "min"=some none) (z6:PySem.W.nsIn K mainGlobals "max"=some none) (z7:PySem.W.nsIn K mainGlobals "len"=some none) (z8:PySem.W.nsIn K mainGlobals "range"=some none) (z9:PySem.W.nsIn K mainGlobals "all"=some none) (z10:PySem.W.nsIn K mainGlobals "sum"=some none) (z11:PySem.W.nsIn K mainGlobals "sorted"=some none) (z12:PySem.W.nsIn K mainGlobals "zip"=some none) (zenumerate:PySem.W.nsIn K mainGlobals "enumerate"=some none) (zabs:PySem.W.nsIn K mainGlobals "abs"=some none) :
    ∃ fd:FuncData,(∀ (s:Shared) (v:Value),BindsTo s fd ⟨[v],[]⟩ [("script",v)])/\∀ base:Heap,K.In base->base.Ns mainGlobals mg->FnOk l.prog w K mg base CX0 8 fa fd ["script"] (spLaw K):=by
  have e:=hfa.symm.trans (PySem.W.mg_of X G a40)
  cases e
  have T:Txt mg:=⟨PySem.W.mg_none_of X G z0,PySem.W.mg_none_of X G z1,PySem.W.mg_none_of X G z2,PySem.W.mg_none_of X G z3,PySem.W.mg_none_of X G z4,PySem.W.mg_none_of X G z5,PySem.W.mg_none_of X G z6,PySem.W.mg_none_of X G z7,PySem.W.mg_none_of X G z8,PySem.W.mg_none_of X G z9,PySem.W.mg_none_of X G z10,PySem.W.mg_none_of X G z11,PySem.W.mg_none_of X G z12⟩
  have F0:=fun_mk (st:=sWhole) l0 c0 k0
  have b0:=F0.binds (ps:=["thing"]) fun _ _ _ _ _ _ us hl=>@len1 (fun us=>bindArgs _ ⟨us,[]⟩=pure (List.zip _ us)) us hl fun _=>rfl
  have F1:=fun_mk (st:=sPlace) l1 c1 k1
  have b1:=F1.binds (ps:=["thing","many"]) fun _ _ _ _ _ _ us hl=>@len2 (fun us=>bindArgs _ ⟨us,[]⟩=pure (List.zip _ us)) us hl fun _ _=>rfl
  have F2:=fun_mk (st:=sTupOf) l2 c2 k2
  have b2:=F2.binds (ps:=["thing","many"]) fun _ _ _ _ _ _ us hl=>@len2 (fun us=>bindArgs _ ⟨us,[]⟩=pure (List.zip _ us)) us hl fun _ _=>rfl
  have F3:=fun_mk (st:=sWays) l3 c3 k3
  have b3:=F3.binds (ps:=["p"]) fun _ _ _ _ _ _ us hl=>@len1 (fun us=>bindArgs _ ⟨us,[]⟩=pure (List.zip _ us)) us hl fun _=>rfl
  have F4:=funD_mk (st:=sLevel) l4 c4 k4
  have b4:=F4.binds (ps:=["n","last"]) d4 rfl [.int 300 dt4_0] ["n"] rfl fun _ _ _ _ _ _ us hl=>match us,hl with | [_],_=>⟨_,rfl,rfl⟩
  have F5:=fun_mk (st:=sFirst) l5 c5 k5
  have b5:=F5.binds (ps:=["p"]) fun _ _ _ _ _ _ us hl=>@len1 (fun us=>bindArgs _ ⟨us,[]⟩=pure (List.zip _ us)) us hl fun _=>rfl
  have F6:=fun_mk (st:=sNext) l6 c6 k6
  have b6:=F6.binds (ps:=["counts"]) fun _ _ _ _ _ _ us hl=>@len1 (fun us=>bindArgs _ ⟨us,[]⟩=pure (List.zip _ us)) us hl fun _=>rfl
  have F7:=fun_mk (st:=sCounts) l7 c7 k7
  have b7:=F7.binds (ps:=["p","n"]) fun _ _ _ _ _ _ us hl=>@len2 (fun us=>bindArgs _ ⟨us,[]⟩=pure (List.zip _ us)) us hl fun _ _=>rfl
  have F8:=fun_mk (st:=sTotal) l8 c8 k8
  have b8:=F8.binds (ps:=["p","n"]) fun _ _ _ _ _ _ us hl=>@len2 (fun us=>bindArgs _ ⟨us,[]⟩=pure (List.zip _ us)) us hl fun _ _=>rfl
  have F9:=fun_mk (st:=sIsPh) l9 c9 k9
  have b9:=F9.binds (ps:=["counts","phase"]) fun _ _ _ _ _ _ us hl=>@len2 (fun us=>bindArgs _ ⟨us,[]⟩=pure (List.zip _ us)) us hl fun _ _=>rfl
  have F10:=fun_mk (st:=sMerged) l10 c10 k10
  have b10:=F10.binds (ps:=["rows"]) fun _ _ _ _ _ _ us hl=>@len1 (fun us=>bindArgs _ ⟨us,[]⟩=pure (List.zip _ us)) us hl fun _=>rfl
  have F11:=fun_mk (st:=sCopy) l11 c11 k11
  have b11:=F11.binds (ps:=["row"]) fun _ _ _ _ _ _ us hl=>@len1 (fun us=>bindArgs _ ⟨us,[]⟩=pure (List.zip _ us)) us hl fun _=>rfl
  have F12:=fun_mk (st:=sThin) l12 c12 k12
  have b12:=F12.binds (ps:=["rows"]) fun _ _ _ _ _ _ us hl=>@len1 (fun us=>bindArgs _ ⟨us,[]⟩=pure (List.zip _ us)) us hl fun _=>rfl
  have F13:=fun_mk (st:=sIdle) l13 c13 k13
  have b13:=F13.binds (ps:=["rows"]) fun _ _ _ _ _ _ us hl=>@len1 (fun us=>bindArgs _ ⟨us,[]⟩=pure (List.zip _ us)) us hl fun _=>rfl
  have F14:=fun_mk (st:=sTkAt) l14 c14 k14
  have b14:=F14.binds (ps:=["taken","at"]) fun _ _ _ _ _ _ us hl=>@len2 (fun us=>bindArgs _ ⟨us,[]⟩=pure (List.zip _ us)) us hl fun _ _=>rfl
  have F15:=fun_mk (st:=sPhPl) l15 c15 k15
  have b15:=F15.binds (ps:=["reels","phase"]) fun _ _ _ _ _ _ us hl=>@len2 (fun us=>bindArgs _ ⟨us,[]⟩=pure (List.zip _ us)) us hl fun _ _=>rfl
  have F16:=fun_mk (st:=sPlay) l16 c16 k16
  have b16:=F16.binds (ps:=["reels","phases"]) fun _ _ _ _ _ _ us hl=>@len2 (fun us=>bindArgs _ ⟨us,[]⟩=pure (List.zip _ us)) us hl fun _ _=>rfl
  have F17:=fun_mk (st:=sLPh) l17 c17 k17
  have b17:=F17.binds (ps:=["p","n"]) fun _ _ _ _ _ _ us hl=>@len2 (fun us=>bindArgs _ ⟨us,[]⟩=pure (List.zip _ us)) us hl fun _ _=>rfl
  have F18:=fun_mk (st:=sLaid) l18 c18 k18
  have b18:=F18.binds (ps:=["laying","rows"]) fun _ _ _ _ _ _ us hl=>@len2 (fun us=>bindArgs _ ⟨us,[]⟩=pure (List.zip _ us)) us hl fun _ _=>rfl
  have F19:=fun_mk (st:=sTot) l19 c19 k19
  have b19:=F19.binds (ps:=["total"]) fun _ _ _ _ _ _ us hl=>@len1 (fun us=>bindArgs _ ⟨us,[]⟩=pure (List.zip _ us)) us hl fun _=>rfl
  have F20:=fun_mk (st:=sPlaces) l20 c20 k20
  have b20:=F20.binds (ps:=["p","n"]) fun _ _ _ _ _ _ us hl=>@len2 (fun us=>bindArgs _ ⟨us,[]⟩=pure (List.zip _ us)) us hl fun _ _=>rfl
  have F21:=fun_mk (st:=sFirstN) l21 c21 k21
  have b21:=F21.binds (ps:=["p"]) fun _ _ _ _ _ _ us hl=>@len1 (fun us=>bindArgs _ ⟨us,[]⟩=pure (List.zip _ us)) us hl fun _=>rfl
  have F22:=fun_mk (st:=sNextN) l22 c22 k22
  have b22:=F22.binds (ps:=["numbers"]) fun _ _ _ _ _ _ us hl=>@len1 (fun us=>bindArgs _ ⟨us,[]⟩=pure (List.zip _ us)) us hl fun _=>rfl
  have F23:=fun_mk (st:=sAfter) l23 c23 k23
  have b23:=F23.binds (ps:=["p","n","following"]) fun _ _ _ _ _ _ us hl=>@len3 (fun us=>bindArgs _ ⟨us,[]⟩=pure (List.zip _ us)) us hl fun _ _ _=>rfl
  have F24:=fun_mk (st:=sNumOf) l24 c24 k24
  have b24:=F24.binds (ps:=["p","n"]) fun _ _ _ _ _ _ us hl=>@len2 (fun us=>bindArgs _ ⟨us,[]⟩=pure (List.zip _ us)) us hl fun _ _=>rfl
  have F25:=fun_mk (st:=sLN) l25 c25 k25
  have b25:=F25.binds (ps:=["p","n"]) fun _ _ _ _ _ _ us hl=>@len2 (fun us=>bindArgs _ ⟨us,[]⟩=pure (List.zip _ us)) us hl fun _ _=>rfl
  have F26:=fun_mk (st:=sFits) l26 c26 k26
  have b26:=F26.binds (ps:=["on_reel","count"]) fun _ _ _ _ _ _ us hl=>@len2 (fun us=>bindArgs _ ⟨us,[]⟩=pure (List.zip _ us)) us hl fun _ _=>rfl
  have F27:=fun_mk (st:=sReal) l27 c27 k27
  have b27:=F27.binds (ps:=["laying"]) fun _ _ _ _ _ _ us hl=>@len1 (fun us=>bindArgs _ ⟨us,[]⟩=pure (List.zip _ us)) us hl fun _=>rfl
  have F28:=fun_mk (st:=sIsLay) l28 c28 k28
  have b28:=F28.binds (ps:=["p","n","laying"]) fun _ _ _ _ _ _ us hl=>@len3 (fun us=>bindArgs _ ⟨us,[]⟩=pure (List.zip _ us)) us hl fun _ _ _=>rfl
  have F29:=fun_mk (st:=sRead) l29 c29 k29
  have b29:=F29.binds (ps:=["numbers","laying"]) fun _ _ _ _ _ _ us hl=>@len2 (fun us=>bindArgs _ ⟨us,[]⟩=pure (List.zip _ us)) us hl fun _ _=>rfl
  have F30:=fun_mk (st:=sLayH) l30 c30 k30
  have b30:=F30.binds (ps:=["p","n","laying"]) fun _ _ _ _ _ _ us hl=>@len3 (fun us=>bindArgs _ ⟨us,[]⟩=pure (List.zip _ us)) us hl fun _ _ _=>rfl
  have F31:=fun_mk (st:=sLayR) l31 c31 k31
  have b31:=F31.binds (ps:=["p","n","laying"]) fun _ _ _ _ _ _ us hl=>@len3 (fun us=>bindArgs _ ⟨us,[]⟩=pure (List.zip _ us)) us hl fun _ _ _=>rfl
  have F32:=fun_mk (st:=sFoldC) l32 c32 k32
  have b32:=F32.binds (ps:=["cells","many"]) fun _ _ _ _ _ _ us hl=>@len2 (fun us=>bindArgs _ ⟨us,[]⟩=pure (List.zip _ us)) us hl fun _ _=>rfl
  have F33:=fun_mk (st:=sBegunC) l33 c33 k33
  have b33:=F33.binds (ps:=["cell"]) fun _ _ _ _ _ _ us hl=>@len1 (fun us=>bindArgs _ ⟨us,[]⟩=pure (List.zip _ us)) us hl fun _=>rfl
  have F34:=fun_mk (st:=sTakeC) l34 c34 k34
  have b34:=F34.binds (ps:=["pot","size"]) fun _ _ _ _ _ _ us hl=>@len2 (fun us=>bindArgs _ ⟨us,[]⟩=pure (List.zip _ us)) us hl fun _ _=>rfl
  have F35:=fun_mk (st:=sLay52) l35 c35 k35
  have b35:=F35.binds (ps:=["pot","numbers"]) fun _ _ _ _ _ _ us hl=>@len2 (fun us=>bindArgs _ ⟨us,[]⟩=pure (List.zip _ us)) us hl fun _ _=>rfl
  have F36:=fun_mk (st:=sPlc52) l36 c36 k36
  have b36:=F36.binds (ps:=["numbers","laying"]) fun _ _ _ _ _ _ us hl=>@len2 (fun us=>bindArgs _ ⟨us,[]⟩=pure (List.zip _ us)) us hl fun _ _=>rfl
  have F37:=fun_mk (st:=sRt52) l37 c37 k37
  have b37:=F37.binds (ps:=["p","n","laying","rows","numbers"]) fun _ _ _ _ _ _ us hl=>@len5 (fun us=>bindArgs _ ⟨us,[]⟩=pure (List.zip _ us)) us hl fun _ _ _ _ _=>rfl
  have F38:=fun_mk (st:=sAll52) l38 c38 k38
  have b38:=F38.binds (ps:=["p","n","numbers"]) fun _ _ _ _ _ _ us hl=>@len3 (fun us=>bindArgs _ ⟨us,[]⟩=pure (List.zip _ us)) us hl fun _ _ _=>rfl
  have F39:=fun_mk (st:=sLot52) l39 c39 k39
  have b39:=F39.binds (ps:=["pot","far","many"]) fun _ _ _ _ _ _ us hl=>@len3 (fun us=>bindArgs _ ⟨us,[]⟩=pure (List.zip _ us)) us hl fun _ _ _=>rfl
  have F40:=fun_mk (st:=sLaw) l40 c40 k40
  refine⟨PySem.W.fnOf "law" "law" (defArgs sLaw) (defBody sLaw) (defScope sLaw) .none kV40 dc40 pm40 an40 cd40 ct40,fun s v=>.of_eq rfl,fun base _ _=>?_⟩
  have m:=fun {x:Str}{v:Value} (a:PySem.W.nsIn K mainGlobals x=some (some v))=>PySem.W.mg_of X G a
  have mLEAST_WAYS:=m y0
  have mMOST_WAYS:=m y1
  have mMOST_PLACES:=m y2
  have Cis_whole:Cal l.prog w K mg base 1 "is_whole" ["thing"] spWhole _ _:=⟨ok_whole F0 T,m a0,k0,b0⟩
  have Cis_place:Cal l.prog w K mg base 2 "is_place" ["thing","many"] spPlaceB _ _:=⟨ok_placeB F1 T Cis_whole,m a1,k1,b1⟩
  have Cis_tuple_of:Cal l.prog w K mg base 1 "is_tuple_of" ["thing","many"] spTupOf _ _:=⟨ok_tupof F2 T,m a2,k2,b2⟩
  have Ctup2:Cal l.prog w K mg base 1 "is_tuple_of" ["thing","many"] spTupOf2 _ _:=⟨ok_tupof2 F2 T,m a2,k2,b2⟩
  have Ccheck_ways:Cal l.prog w K mg base 2 "check_ways" ["p"] spWays _ _:=⟨ok_ways F3 T mLEAST_WAYS mMOST_WAYS Cis_whole,m a3,k3,b3⟩
  have Ccheck_level:CalD l.prog w K mg base 2 "check_level" ["n","last"] [.int 300] spLevelD _ _:=⟨ok_level F4 T Cis_whole,m a4,k4,⟨_,b4,.cons ⟨_,rfl⟩ (.nil)⟩⟩
  have Cfirst_counts:Cal l.prog w K mg base 1 "first_counts" ["p"] spFirst _ _:=⟨ok_first F5 T,m a5,k5,b5⟩
  have Cnext_counts:Cal l.prog w K mg base 1 "next_counts" ["counts"] (spNext K) _ _:=⟨ok_next F6 T,m a6,k6,b6⟩
  have Clevel_counts:Cal l.prog w K mg base 3 "level_counts" ["p","n"] spCounts _ _:=⟨ok_counts F7 T Ccheck_ways Ccheck_level Cfirst_counts Cnext_counts,m a7,k7,b7⟩
  have Clevel_total:Cal l.prog w K mg base 4 "level_total" ["p","n"] spTotal _ _:=⟨ok_total F8 T Clevel_counts,m a8,k8,b8⟩
  have Cis_phase:Cal l.prog w K mg base 3 "is_phase" ["counts","phase"] spIsPhL _ _:=⟨ok_isphL F9 T Cis_whole Cis_place Cis_tuple_of,m a9,k9,b9⟩
  have Cmerged_row:Cal l.prog w K mg base 1 "merged_row" ["rows"] spMergeB _ _:=⟨ok_mergeB F10 T,m a10,k10,b10⟩
  have Ccopied_row:Cal l.prog w K mg base 1 "copied_row" ["row"] spCopyR _ _:=⟨ok_copyR F11 T,m a11,k11,b11⟩
  have Cthings_in:Cal l.prog w K mg base 1 "things_in" ["rows"] spThinR _ _:=⟨ok_thinR F12 T,m a12,k12,b12⟩
  have Cmerged_or_idle:Cal l.prog w K mg base 2 "merged_or_idle" ["rows"] spIdleR _ _:=⟨ok_idleR F13 T Cmerged_row,m a13,k13,b13⟩
  have Ctaken_at:Cal l.prog w K mg base 1 "taken_at" ["taken","at"] spTkAtR _ _:=⟨ok_tkAtR F14 T,m a14,k14,b14⟩
  have Cphase_played:Cal l.prog w K mg base 3 "phase_played" ["reels","phase"] spPhPlR _ _:=⟨ok_phPlR F15 T Cmerged_or_idle Ctaken_at Cthings_in,m a15,k15,b15⟩
  have Cplay_rows:Cal l.prog w K mg base 5 "play_rows" ["reels","phases"] spPlayR _ _:=⟨(ok_playR F16 T (PySem.W.mg_none_of X G zenumerate) Ccopied_row Cis_phase Cphase_played).mono (by decide),m a16,k16,b16⟩
  have Clevel_phases:Cal l.prog w K mg base 3 "level_phases" ["p","n"] spLPh _ _:=⟨ok_lph F17 T (PySem.W.mg_none_of X G zenumerate) Ccheck_ways Ccheck_level Cfirst_counts Cnext_counts,m a17,k17,b17⟩
  have Claid_reels:Cal l.prog w K mg base 1 "laid_reels" ["laying","rows"] spLaidR _ _:=⟨ok_laid F18 T,m a18,k18,b18⟩
  have Ccheck_total:Cal l.prog w K mg base 1 "check_total" ["total"] spTot _ _:=⟨ok_tot F19 T mMOST_PLACES,m a19,k19,b19⟩
  have Ccheck_places:Cal l.prog w K mg base 5 "check_places" ["p","n"] spPlaces _ _:=⟨ok_places F20 T Clevel_total Ccheck_total,m a20,k20,b20⟩
  have Cfirst_numbers:Cal l.prog w K mg base 1 "first_numbers" ["p"] spFirstN _ _:=⟨ok_firstN F21 T,m a21,k21,b21⟩
  have Cnext_numbers:Cal l.prog w K mg base 1 "next_numbers" ["numbers"] spNextN _ _:=⟨ok_nextN F22 T,m a22,k22,b22⟩
  have Cnumbers_after:Cal l.prog w K mg base 2 "numbers_after" ["p","n","following"] (spAfter _) _ _:=⟨ok_after F23 T Cfirst_numbers Cnext_numbers,m a23,k23,b23⟩
  have Cnumbers_of:Cal l.prog w K mg base 3 "numbers_of" ["p","n"] spNum _ _:=⟨ok_numof F24 T Cnext_numbers Cnumbers_after,m a24,k24,b24⟩
  have Clevel_numbers:Cal l.prog w K mg base 6 "level_numbers" ["p","n"] spNum _ _:=⟨ok_ln F25 T Ccheck_places Cnumbers_of,m a25,k25,b25⟩
  have Cfits_reel:Cal l.prog w K mg base 2 "fits_reel" ["on_reel","count"] spFits _ _:=⟨ok_fits F26 T Ctup2,m a26,k26,b26⟩
  have Creal_rows:Cal l.prog w K mg base 1 "real_rows" ["laying"] spReal _ _:=⟨ok_real F27 T,m a27,k27,b27⟩
  have Cis_laying:Cal l.prog w K mg base 4 "is_laying" ["p","n","laying"] spIsLay _ _:=⟨ok_islay F28 T Ctup2 Cfits_reel Clevel_counts Creal_rows,m a28,k28,b28⟩
  have Creading_of:Cal l.prog w K mg base 1 "reading_of" ["numbers","laying"] spRead _ _:=⟨ok_read F29 T,m a29,k29,b29⟩
  have Claying_holds:Cal l.prog w K mg base 6 "laying_holds" ["p","n","laying"] spIsLay _ _:=⟨ok_layh F30 T Ccheck_places Cis_laying,m a30,k30,b30⟩
  have Claying_reading:Cal l.prog w K mg base 7 "laying_reading" ["p","n","laying"] spLayR _ _:=⟨ok_layr F31 T Clevel_numbers Creading_of,m a31,k31,b31⟩
  have C_law_folded:Cal l.prog w K mg base 1 "_law_folded" ["cells","many"] (spFold K) _ _:=⟨ok_foldC F32 T (PySem.W.mg_none_of X G zenumerate),m a32,k32,b32⟩
  have C_law_begun:Cal l.prog w K mg base 1 "_law_begun" ["cell"] spBegun _ _:=⟨ok_begunC F33 T (PySem.W.mg_none_of X G zabs),m a33,k33,b33⟩
  have C_law_take:Cal l.prog w K mg base 1 "_law_take" ["pot","size"] spTakeC _ _:=⟨ok_takeC F34 T,m a34,k34,b34⟩
  have C_law_laying:Cal l.prog w K mg base 2 "_law_laying" ["pot","numbers"] spLay52 _ _:=⟨ok_lay52 F35 T C_law_take,m a35,k35,b35⟩
  have C_law_places:Cal l.prog w K mg base 1 "_law_places" ["numbers","laying"] spPlc52 _ _:=⟨ok_plc52 F36 T,m a36,k36,b36⟩
  have C_law_right:Cal l.prog w K mg base 6 "_law_right" ["p","n","laying","rows","numbers"] spRt52 _ _:=⟨ok_rt52 F37 T Cplay_rows Claid_reels Clevel_phases C_law_places,m a37,k37,b37⟩
  have C_law_all_read:Cal l.prog w K mg base 6 "_law_all_read" ["p","n","numbers"] spAll52 _ _:=⟨ok_all52 F38 T Cplay_rows Claid_reels Clevel_phases,m a38,k38,b38⟩
  have C_law_lot:Cal l.prog w K mg base 2 "_law_lot" ["pot","far","many"] spLot52 _ _:=⟨ok_lot52 F39 T C_law_take,m a39,k39,b39⟩
  exact ok_law52 F40 T C_law_folded C_law_begun C_law_take Clevel_numbers C_law_laying C_law_lot C_law_right C_law_all_read Cplay_rows Claid_reels Clevel_phases Claying_holds Claying_reading
theorem walk {l : PySem.W.OpenLaw} {q : Program} {loose : List Str} {XP : (Str → Option Value) → Heap → Prop} {YP : World → Heap → Prop} {d : DefRec} {K : Params → PySem.W.Frag} (hn : l.most = some 63) (hdf : d.params.defaults = [])
    (hY:∀ (w:World) (h:Heap),YP w h->(K w.params).In h)
    (F:∀ (w:World) (mg:Str->Option Value) (fa:Addr) (h:Heap),(K w.params).In h->h.Ns mainGlobals mg->mg d.name=some (.ref fa) ->
      ∃ fd:FuncData,(∀ (s:Shared) (u:Value),BindsTo s fd ⟨[u],[]⟩ [("script",u)])/\∀ base:Heap,(K w.params).In base->base.Ns mainGlobals mg->FnOk l.prog w (K w.params) mg base CX0 8 fa fd ["script"] (spLaw (K w.params))) :
    PySem.W.WalkO q loose XP YP l.row.toRowW d [] (fun f vs=>PySem.call f vs) :=
  L2.walk_of (n:=63) (k:=8) (x:="script") (CX:=fun _=>CX0) (sp:=fun w=>spLaw (K w.params)) hn (by decide) hdf ⟨rfl,by decide,by decide,rfl⟩ hY F (fun _ _ a ns hl _ hS=>⟨a,ns,rfl,hS,hl,fun _=>rfl⟩) fun _ _ _ _ _ z=>z
end Fl52
def PySem.W.Fast.tw11731815685292521601 : Unit := ()
def PySem.W.Fast.tw5121101844436814073 : Unit := ()
def PySem.W.Fast.tw1349336475041411672 : Unit := ()
def PySem.W.Fast.tw16473844436629473318 : Unit := ()
def PySem.W.Fast.tw1178726639533403060 : Unit := ()
def PySem.W.Fast.tw16115374113220420362 : Unit := ()
def PySem.W.Fast.tw4115639293398667410 : Unit := ()
def PySem.W.Fast.tw4719886190252746616 : Unit := ()
def PySem.W.Fast.tw9460751853247860191 : Unit := ()
def PySem.W.Fast.tw6185688122339178817 : Unit := ()
def PySem.W.Fast.tw13751154596172712040 : Unit := ()
def PySem.W.Fast.tw6099457067096298630 : Unit := ()
def PySem.W.Fast.tw9865297503267464864 : Unit := ()
def PySem.W.Fast.tw6187991400318965169 : Unit := ()
def PySem.W.Fast.tw11351224557406503639 : Unit := ()
def PySem.W.Fast.tw4141404508974108637 : Unit := ()
def PySem.W.Fast.tw5180427685804195996 : Unit := ()
def PySem.W.Fast.tw2776629500192822960 : Unit := ()
def PySem.W.Fast.tw387579193739164709 : Unit := ()
def PySem.W.Fast.tw4372616848511754129 : Unit := ()
def PySem.W.Fast.tw9429816220949842897 : Unit := ()
def PySem.W.Fast.tw13038021959715237659 : Unit := ()
def PySem.W.Fast.tw11529224252925763812 : Unit := ()
def PySem.W.Fast.tw8279731784478403198 : Unit := ()
def PySem.W.Fast.tw9007023547494664125 : Unit := ()
def PySem.W.Fast.tw16984376195634435452 : Unit := ()
def PySem.W.Fast.tw8513452414083725359 : Unit := ()
def PySem.W.Fast.tw9020694693156055478 : Unit := ()
def PySem.W.Fast.tw5236150953211453760 : Unit := ()
def PySem.W.Fast.tw7887075883245158084 : Unit := ()
def PySem.W.Fast.tw6766772198874755815 : Unit := ()
def PySem.W.Fast.tw2262508000194656010 : Unit := ()
def PySem.W.Fast.tw9060290196273558610 : Unit := ()
def PySem.W.Fast.tw12078798002212067558 : Unit := ()
def PySem.W.Fast.tw2876443500657725498 : Unit := ()
def PySem.W.Fast.tw6904165564866679238 : Unit := ()
def PySem.W.Fast.tw1329008265826719105 : Unit := ()
def PySem.W.Fast.tw15463256522055102501 : Unit := ()
def PySem.W.Fast.tw11549174726675463868 : Unit := ()
def PySem.W.Fast.tw13242893944405041447 : Unit := ()
def PySem.W.Fast.tw5082339568709683534 : Unit := ()
def PySem.W.Fast.tw3050890312047708573 : Unit := ()
def PySem.W.Fast.tw13376068853421672724 : Unit := ()
def PySem.W.Fast.tw8517046475110252033 : Unit := ()
def PySem.W.Fast.tw13881795741457692871 : Unit := ()
open PySem PySem.W PyProof.Rows
set_option maxRecDepth 100000 in
set_option maxHeartbeats 0 in
theorem PySem.Challenge.cw_fewreels_k52_whole_levels_come_to_one_ro_holds : PySem.Challenge.rw_fewreels_k52_whole_levels_come_to_one_ro.Holds := by
  w_on; o_law; k_head; (case hw => w_witness2)
  k_fill
  refine Fl52.walk (l := PySem.Challenge.rw_fewreels_k52_whole_levels_come_to_one_ro) rfl rfl (fun w h Y => PySem.W.kIn_of Y) ?F
  case F =>
    intro w mg fa h KX G hmg
    refine' Fl52.all_mk KX G hmg ?a0 ?l0 ?c0 ?k0 ?a1 ?l1 ?c1 ?k1 ?a2 ?l2 ?c2 ?k2 ?a3 ?l3 ?c3 ?k3 ?a4 ?l4 ?c4 ?k4 ?d4 ?a5 ?l5 ?c5 ?k5 ?a6 ?l6 ?c6 ?k6 ?a7 ?l7 ?c7 ?k7 ?a8 ?l8 ?c8 ?k8 ?a9 ?l9 ?c9 ?k9 ?a10 ?l10 ?c10 ?k10 ?a11 ?l11 ?c11 ?k11 ?a12 ?l12 ?c12 ?k12 ?a13 ?l13 ?c13 ?k13 ?a14 ?l14 ?c14 ?k14 ?a15 ?l15 ?c15 ?k15 ?a16 ?l16 ?c16 ?k16 ?a17 ?l17 ?c17 ?k17 ?a18 ?l18 ?c18 ?k18 ?a19 ?l19 ?c19 ?k19 ?a20 ?l20 ?c20 ?k20 ?a21 ?l21 ?c21 ?k21 ?a22 ?l22 ?c22 ?k22 ?a23 ?l23 ?c23 ?k23 ?a24 ?l24 ?c24 ?k24 ?a25 ?l25 ?c25 ?k25 ?a26 ?l26 ?c26 ?k26 ?a27 ?l27 ?c27 ?k27 ?a28 ?l28 ?c28 ?k28 ?a29 ?l29 ?c29 ?k29 ?a30 ?l30 ?c30 ?k30 ?a31 ?l31 ?c31 ?k31 ?a32 ?l32 ?c32 ?k32 ?a33 ?l33 ?c33 ?k33 ?a34 ?l34 ?c34 ?k34 ?a35 ?l35 ?c35 ?k35 ?a36 ?l36 ?c36 ?k36 ?a37 ?l37 ?c37 ?k37 ?a38 ?l38 ?c38 ?k38 ?a39 ?l39 ?c39 ?k39 ?a40 ?l40 ?c40 ?k40 ?y0 ?y1 ?y2 ?z0 ?z1 ?z2 ?z3 ?z4 ?z5 ?z6 ?z7 ?z8 ?z9 ?z10 ?z11 ?z12 ?zenumerate ?zabs
    (case a0 => k_is); (case l0 => k_is); (case c0 => k_is); (case k0 => k_is); (case a1 => k_is); (case l1 => k_is)
    (case c1 => k_is); (case k1 => k_is); (case a2 => k_is); (case l2 => k_is); (case c2 => k_is); (case k2 => k_is)
    (case a3 => k_is); (case l3 => k_is); (case c3 => k_is); (case k3 => k_is); (case a4 => k_is); (case l4 => k_is)
    (case c4 => k_is); (case k4 => k_is); (case d4 => k_is); (case a5 => k_is); (case l5 => k_is); (case c5 => k_is)
    (case k5 => k_is); (case a6 => k_is); (case l6 => k_is); (case c6 => k_is); (case k6 => k_is); (case a7 => k_is)
    (case l7 => k_is); (case c7 => k_is); (case k7 => k_is); (case a8 => k_is); (case l8 => k_is); (case c8 => k_is)
    (case k8 => k_is); (case a9 => k_is); (case l9 => k_is); (case c9 => k_is); (case k9 => k_is); (case a10 => k_is)
    (case l10 => k_is); (case c10 => k_is); (case k10 => k_is); (case a11 => k_is); (case l11 => k_is); (case c11 => k_is)
    (case k11 => k_is); (case a12 => k_is); (case l12 => k_is); (case c12 => k_is); (case k12 => k_is); (case a13 => k_is)
    (case l13 => k_is); (case c13 => k_is); (case k13 => k_is); (case a14 => k_is); (case l14 => k_is); (case c14 => k_is)
    (case k14 => k_is); (case a15 => k_is); (case l15 => k_is); (case c15 => k_is); (case k15 => k_is); (case a16 => k_is)
    (case l16 => k_is); (case c16 => k_is); (case k16 => k_is); (case a17 => k_is); (case l17 => k_is); (case c17 => k_is)
    (case k17 => k_is); (case a18 => k_is); (case l18 => k_is); (case c18 => k_is); (case k18 => k_is); (case a19 => k_is)
    (case l19 => k_is); (case c19 => k_is); (case k19 => k_is); (case a20 => k_is); (case l20 => k_is); (case c20 => k_is)
    (case k20 => k_is); (case a21 => k_is); (case l21 => k_is); (case c21 => k_is); (case k21 => k_is); (case a22 => k_is)
    (case l22 => k_is); (case c22 => k_is); (case k22 => k_is); (case a23 => k_is); (case l23 => k_is); (case c23 => k_is)
    (case k23 => k_is); (case a24 => k_is); (case l24 => k_is); (case c24 => k_is); (case k24 => k_is); (case a25 => k_is)
    (case l25 => k_is); (case c25 => k_is); (case k25 => k_is); (case a26 => k_is); (case l26 => k_is); (case c26 => k_is)
    (case k26 => k_is); (case a27 => k_is); (case l27 => k_is); (case c27 => k_is); (case k27 => k_is); (case a28 => k_is)
    (case l28 => k_is); (case c28 => k_is); (case k28 => k_is); (case a29 => k_is); (case l29 => k_is); (case c29 => k_is)
    (case k29 => k_is); (case a30 => k_is); (case l30 => k_is); (case c30 => k_is); (case k30 => k_is); (case a31 => k_is)
    (case l31 => k_is); (case c31 => k_is); (case k31 => k_is); (case a32 => k_is); (case l32 => k_is); (case c32 => k_is)
    (case k32 => k_is); (case a33 => k_is); (case l33 => k_is); (case c33 => k_is); (case k33 => k_is); (case a34 => k_is)
    (case l34 => k_is); (case c34 => k_is); (case k34 => k_is); (case a35 => k_is); (case l35 => k_is); (case c35 => k_is)
    (case k35 => k_is); (case a36 => k_is); (case l36 => k_is); (case c36 => k_is); (case k36 => k_is); (case a37 => k_is)
    (case l37 => k_is); (case c37 => k_is); (case k37 => k_is); (case a38 => k_is); (case l38 => k_is); (case c38 => k_is)
    (case k38 => k_is); (case a39 => k_is); (case l39 => k_is); (case c39 => k_is); (case k39 => k_is); (case a40 => k_is)
    (case l40 => k_is); (case c40 => k_is); (case k40 => k_is); (case y0 => k_is); (case y1 => k_is); (case y2 => k_is)
    (case z0 => k_is); (case z1 => k_is); (case z2 => k_is); (case z3 => k_is); (case z4 => k_is); (case z5 => k_is)
    (case z6 => k_is); (case z7 => k_is); (case z8 => k_is); (case z9 => k_is); (case z10 => k_is); (case z11 => k_is)
    (case z12 => k_is); (case zenumerate => k_is); (case zabs => k_is)
