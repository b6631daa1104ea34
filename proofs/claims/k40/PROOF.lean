import PyProof.Rows.All
import Wide.All
import OpenK.AllK
import Wide.FinOn
import Lean
import PyProof.EqAt
import PyProof.EqKinds
import PyProof.TupleCall
import KE.KMinBuiltin
import KE.KRevIter
import KE.KRevSl
import KE.KSortTup
import KE.KTryMore
import Open.Pieces
import OpenK.KQuick
import OpenK.KWalk
import PyProof.CollectWalk
import PyProof.EnumMake
import PyProof.ExcAttrAll.ValueError
import PyProof.FitsBits
import PyProof.NeKinds
import PyProof.Rows.SetFrom
import PyProof.Rows.SortRuns
import PyProof.SetRoads
import PyProof.TupleKey
import PySem.Challenge.RW_countkin_k40_mirrors
set_option Elab.async false
set_option linter.all false
set_option maxRecDepth 100000
namespace L2
open PySem PySem.Spec PyProof.Rows
noncomputable abbrev Key:=Sum Int Str
noncomputable def za:Key->Value->Bool
  | .inl k,v=>Value.isInt k v
  | .inr x,v=>Value.isStrOf x v
noncomputable def DT (w:World):Key->Int
  | .inl k=>hashInt k
  | .inr x=>hashStr w x
theorem cz:∀ {k:Key} {v:Value},za k v=true->(∃ i t,k=Sum.inl i/\v=Value.int i t)\/(∃ x t,k=Sum.inr x/\v=Value.str x t)
  | .inl i,v,h=>by
    obtain ⟨t,e⟩:=Value.isInt_shape (k:=i) (v:=v) h
    exact .inl ⟨i,t,rfl,e⟩
  | .inr x,v,h=>by
    obtain ⟨t,e⟩:=Value.isStrOf_shape (x:=x) (v:=v) h
    exact .inr ⟨x,t,rfl,e⟩
theorem AB (a b:Int):decide ((Sum.inl a:Key)=Sum.inl b)=(a == b):=by
  by_cases e:a=b
  · subst e; simp
  · have h:¬ (Sum.inl a:Key)=Sum.inl b:=fun q=>e (Sum.inl.inj q)
    rw [decide_eq_false h]
    exact (beq_eq_false_iff_ne.mpr e).symm
theorem z6 (a b:Str):decide ((Sum.inr a:Key)=Sum.inr b)=decide (a=b):=by
  by_cases e:a=b
  · subst e; simp
  · have h:¬ (Sum.inr a:Key)=Sum.inr b:=fun q=>e (Sum.inr.inj q)
    rw [decide_eq_false h,decide_eq_false e]
theorem A5 (a:Int) (b:Str):decide ((Sum.inl a:Key)=Sum.inr b)=false:=decide_eq_false (fun q=>nomatch q)
theorem Ab (a:Str) (b:Int):decide ((Sum.inr a:Key)=Sum.inl b)=false:=decide_eq_false (fun q=>nomatch q)
noncomputable def tq (prog:Program) (w:World):PySem.KeyKind prog w Key where
  is:=za
  hash:=DT w
  inj:=fun v a b ha hb=>by
    rcases cz ha with ⟨i,t,rfl,rfl⟩ | ⟨x,t,rfl,rfl⟩
    · rcases cz hb with ⟨j,u,rfl,e⟩ | ⟨y,u,rfl,e⟩
      · injection e with e1 _; rw [e1]
      · exact nomatch e
    · rcases cz hb with ⟨j,u,rfl,e⟩ | ⟨y,u,rfl,e⟩
      · exact nomatch e
      · injection e with e1 _; rw [e1]
  byValue:=fun k v h=>by
    rcases cz h with ⟨i,t,rfl,rfl⟩ | ⟨x,t,rfl,rfl⟩<;>rfl
  pyHash:=fun hv h=>by
    rcases cz hv with ⟨i,t,rfl,rfl⟩ | ⟨x,t,rfl,rfl⟩
    · exact wpAny_pyHash_int h
    · exact wpAny_pyHash_str h
  eqBool:=fun hu hv h=>by
    rcases cz hu with ⟨i,t,rfl,rfl⟩ | ⟨x,t,rfl,rfl⟩
    · rcases cz hv with ⟨j,u,rfl,rfl⟩ | ⟨y,u,rfl,rfl⟩
      · rw [AB] at h; exact wpAny_eqBool_int h
      · rw [A5] at h; exact SeqAt.EqAt.int_str i t y u _ _ _ _ h
    · rcases cz hv with ⟨j,u,rfl,rfl⟩ | ⟨y,u,rfl,rfl⟩
      · rw [Ab] at h; exact SeqAt.EqAt.str_int x t j u _ _ _ _ h
      · rw [z6] at h; exact wpAny_eqBool_str h
  «strs»:=fun k x t v h=>by
    rcases cz h with ⟨i,u,rfl,e⟩ | ⟨y,u,rfl,e⟩
    · exact nomatch e
    · injection e with e1 _
      subst e1
      cases v<;>rfl
end L2
namespace L2
open PySem PySem.Spec PyProof.Rows
inductive V where
  | non | bl (b:Bool) | int (i:Int) | str (x:Str) | byt (b:Array UInt8) | flt (b:UInt64) | ref (a:Addr) | ty (n:String)
  deriving DecidableEq
noncomputable def RelV:V->Value->Prop
  | .non,u=>u=Value.none
  | .bl b,u=>u=Value.bool b
  | .int i,u=>∃ t,u=Value.int i t
  | .str x,u=>∃ t,u=Value.str x t
  | .byt b,u=>∃ t,u=Value.bytes b t
  | .flt b,u=>∃ t,u=Value.float b t
  | .ref a,u=>u=Value.ref a
  | .ty n,u=>u=Value.type n
noncomputable abbrev Vals:List V->List Value->Prop:=Paired RelV
theorem Vals.length {xs:List V} {us:List Value} (r:Vals xs us):xs.length=us.length:=Paired.length r
theorem Vals.get:∀ {xs:List V} {us:List Value} {i:Nat} {x:V},Vals xs us->xs[i]? = some x->∃ u,us[i]? = some u/\RelV x u
  | _,_,_,_,.nil,e=>by simp at e
  | _,_,0,_,.cons r _,e=>by simp at e; subst e; exact ⟨_,rfl,r⟩
  | _,_,i+1,x,.cons _ t,e=>by
    obtain ⟨u,h1,h2⟩:=Vals.get (i:=i) (x:=x) t (by simpa using e)
    exact ⟨u,by simpa using h1,h2⟩
theorem Vals.set {x:V} {u:Value} (r:RelV x u):∀ {xs:List V} {us:List Value} (i:Nat),Vals xs us->Vals (xs.set i x) (us.set i u)
  | _,_,_,.nil=>.nil
  | _,_,0,.cons _ t=>.cons r t
  | _,_,i+1,.cons q t=>.cons q (Vals.set r i t)
theorem Vals.append:∀ {xs ys:List V} {us ws:List Value},Vals xs us->Vals ys ws->Vals (xs++ys) (us++ws)
  | _,_,_,_,.nil,s=>s
  | _,_,_,_,.cons r t,s=>.cons r (Vals.append t s)
theorem Vals.take:∀ {xs:List V} {us:List Value} (n:Nat),Vals xs us->Vals (xs.take n) (us.take n)
  | _,_,0,_=>.nil
  | _,_,_+1,.nil=>.nil
  | _,_,n+1,.cons r t=>.cons r (Vals.take n t)
theorem Vals.drop:∀ {xs:List V} {us:List Value} (n:Nat),Vals xs us->Vals (xs.drop n) (us.drop n)
  | _,_,0,r=>r
  | _,_,_+1,.nil=>.nil
  | _,_,n+1,.cons _ t=>Vals.drop n t
noncomputable def lu:Option V->Option Value->Prop
  | some v,some u=>RelV v u
  | none,none=>True
  | _,_=>False
noncomputable def KV {κ:Type}:List (κ × V)->List (κ × Value)->Prop:=Paired fun (p:κ × V) (q:κ × Value)=>p.1=q.1/\RelV p.2 q.2
noncomputable def kV:Key->V
  | .inl i=>.int i
  | .inr x=>.str x
inductive HO where
  | lst (xs:List V)
  | tup (xs:List V)
  | dK (kvs:List (Key × V)) | dT (kvs:List (List Key × V))
  | set (S:Int->Bool) (n:Nat)
  | ins (C dx:Addr) (fs:List (Str × V))
  | own (x:Addr)
  | xd (fs:List (Str × V))
  | met (f x:Addr)
  | rng (lo hi:Int)
  | frz (o:Obj) (u:HO)
  | tbl (ps:Array Value)
  | ext (φ:Heap->Prop)
noncomputable abbrev Hp:=Addr->Option HO
noncomputable def upd (H:Hp) (a:Addr) (o:HO):Hp:=fun b=>if b=a then some o else H b
theorem upd_same {H:Hp} {a:Addr} {o:HO}:upd H a o a=some o:=by unfold upd; rw [if_pos rfl]
theorem upd_ne {H:Hp} {a b:Addr} {o:HO} (h:b≠a):upd H a o b=H b:=by unfold upd; rw [if_neg h]
theorem gz {H:Hp} {a:Addr} {o u:HO}:upd (upd H a o) a u=upd H a u:=by
  funext b; unfold upd; split<;>rfl
theorem De {H:Hp} {a b:Addr} {o u:HO} (h:H a=some o) (h':H b=some u) (d:o≠u):a≠b:=by
  intro e; subst e; rw [h] at h'; exact d (Option.some.inj h')
theorem ao {H:Hp} {a b:Addr} {o:HO} (h:H a=some o) (h':H b=none):a≠b:=by
  intro e; subst e; rw [h] at h'; cases h'
section
variable (P:Program) (w:World)
noncomputable def cI (H:Hp) (h:Heap) (a:Addr):HO->Prop
  | .lst xs=>xs.length<=sizeLine/\∃ (its:List Value) (n:Nat),Vals xs its/\h.get? a=some { cls:=.type "list",data:=.seq its.toArray n }
  | .tup xs=>xs.length<=sizeLine/\∃ its:List Value,Vals xs its/\IsTup h a its.toArray
  | .dK kvs=>kvs.length<=sizeLine/\(a == sysModules)=false/\∃ vs,KV kvs vs/\h.DictOf (tq P w) a vs
  | .dT kvs=>kvs.length<=sizeLine/\(a == sysModules)=false/\∃ xs:List (List Key × Addr × Value),
      Paired (fun (p:List Key × V) (q:List Key × Addr × Value)=>p.1=q.1/\H q.2.1=some (.tup (p.1.map kV))/\RelV p.2 q.2.2) kvs xs /\
      ∃ o es ep,h.get? a=some o/\o.ExactDict/\o.data = .dict es ep/\es.toList=xs.map (entryOfKey (tupleKind (tq P w)))/\(xs.map (·.1)).Nodup
  | .set S n=>h.SetOf (intKind P w) a S n
  | .ins C dx fs=>H dx=some (.own a)/\fs.length<=1000/\dx≠a/\h.get? a=some (PySem.W.instObj C dx) /\
      ∃ mA,h.Ns1 dx mA/\(∀ f,lu (fs.lookup f) (mA f))/\PySem.Within mA (fs.map (·.1))
  | .own _=>∃ o,h.get? a=some o
  | .xd fs=>∃ mA,h.Ns1 a mA/\∀ f,lu (fs.lookup f) (mA f)
  | .rng lo hi=>∃ t u v,h.get? a=some { cls:=.type "range",data:=.fields #[.int lo t,.int hi u,.int 1 v] }
  | .frz o u=>h.get? a=some o/\cI H h a u
  | .tbl ps=>h.get? a=some { cls:=.none,data:=.fields ps }
  | .met f x=>h.get? a=some (PySem.W.methodObj (.ref f) (.ref x))
  | .ext φ=>φ h/\(∃ o,h.get? a=some o)/\∀ h1 h2:Heap,φ h1->(∀ o,h1.get? a=some o->h2.get? a=some o)->φ h2
def dZ (H:Hp) (h:Heap):Prop:=∀ a o,H a=some o->cI P w H h a o
end
section
variable {P:Program} {w:World} {H H':Hp} {h h':Heap} {a:Addr} {o:HO}
theorem cI.lt (x:cI P w H h a o):a < h.objs.size:=by
  cases o with
  | lst xs=>obtain ⟨_,_,_,_,e⟩:=x; exact Heap.lt_size e
  | tup xs=>obtain ⟨_,_,_,p⟩:=x; exact p.lt
  | dK kvs=>obtain ⟨_,_,_,_,o,_,_,e,_⟩:=x; exact Heap.lt_size e
  | dT kvs=>obtain ⟨_,_,_,_,o,_,_,e,_⟩:=x; exact Heap.lt_size e
  | set S n=>obtain ⟨o,_,_,_,e,_⟩:=x; exact Heap.lt_size e
  | ins C dx fs=>obtain ⟨_,_,_,e,_⟩:=x; exact Heap.lt_size e
  | own y=>obtain ⟨_,e⟩:=x; exact Heap.lt_size e
  | xd fs=>obtain ⟨_,⟨_,_,_,e,_⟩,_⟩:=x; exact Heap.lt_size e
  | rng lo hi=>obtain ⟨_,_,_,e⟩:=x; exact Heap.lt_size e
  | frz ob u=>obtain ⟨e,_⟩:=x; exact Heap.lt_size e
  | tbl ps=>exact Heap.lt_size (show h.get? a=some _ from x)
  | met f y=>exact Heap.lt_size (show h.get? a=some _ from x)
  | ext φ=>obtain ⟨_,⟨_,e⟩,_⟩:=x; exact Heap.lt_size e
theorem Paired.mapP {α β:Type} {F G:α->β->Prop}:∀ {l₁:List α} {l₂:List β},Paired F l₁ l₂->(∀ a b,F a b->G a b)->Paired G l₁ l₂
  | _,_,.nil,_=>.nil
  | _,_,.cons r t,f=>.cons (f _ _ r) (Paired.mapP t f)
theorem cI.stay (x:cI P w H h a o) (k:∀ b u,(b=a\/H b=some (.own a))->h.get? b=some u->h'.get? b=some u)
    (ho:∀ b,H b=some (.own a)->H' b=some (.own a)) (ht:∀ b xs,H b=some (.tup xs)->H' b=some (.tup xs)):cI P w H' h' a o:=by
  induction o with
  | lst xs=>obtain ⟨z,its,n,r,e⟩:=x; exact ⟨z,its,n,r,k _ _ (.inl rfl) e⟩
  | tup xs=>obtain ⟨z,its,r,ob,e,c⟩:=x; exact ⟨z,its,r,ob,k _ _ (.inl rfl) e,c⟩
  | dK kvs=>obtain ⟨z,y,vs,r,ob,es,ep,e,c⟩:=x; exact ⟨z,y,vs,r,ob,es,ep,k _ _ (.inl rfl) e,c⟩
  | dT kvs =>
    obtain ⟨z,y,xs,r,ob,es,ep,e,c⟩:=x
    exact ⟨z,y,xs,Paired.mapP r fun p q z=>⟨z.1,ht _ _ z.2.1,z.2.2⟩,ob,es,ep,k _ _ (.inl rfl) e,c⟩
  | set S n=>obtain ⟨ob,es,ep,t,e,c⟩:=x; exact ⟨ob,es,ep,t,k _ _ (.inl rfl) e,c⟩
  | ins C dx fs =>
    obtain ⟨d,z,ne,e,mA,⟨od,es,ep,e2,c⟩,r⟩:=x
    exact ⟨ho _ d,z,ne,k _ _ (.inl rfl) e,mA,⟨od,es,ep,k _ _ (.inr d) e2,c⟩,r⟩
  | own y=>obtain ⟨ob,e⟩:=x; exact ⟨ob,k _ _ (.inl rfl) e⟩
  | xd fs=>obtain ⟨mA,⟨od,es,ep,e,c⟩,r⟩:=x; exact ⟨mA,⟨od,es,ep,k _ _ (.inl rfl) e,c⟩,r⟩
  | rng lo hi=>obtain ⟨t,u,v,e⟩:=x; exact ⟨t,u,v,k _ _ (.inl rfl) e⟩
  | frz ob u ih=>obtain ⟨e,q⟩:=x; exact ⟨k _ _ (.inl rfl) e,ih q⟩
  | tbl ps =>
    have e:h.get? a=some { cls:=.none,data:=.fields ps }:=x
    show h'.get? a=some { cls:=.none,data:=.fields ps }
    exact k a _ (.inl rfl) e
  | met f y =>
    have e:h.get? a=some (PySem.W.methodObj (.ref f) (.ref y)):=x
    show h'.get? a=some (PySem.W.methodObj (.ref f) (.ref y))
    exact k a _ (.inl rfl) e
  | ext φ=>obtain ⟨p,⟨o,e⟩,st⟩:=x; exact ⟨st _ _ p fun o q=>k _ _ (.inl rfl) q,⟨o,k _ _ (.inl rfl) e⟩,st⟩
theorem dZ.lt (x:dZ P w H h) (e:H a=some o):a < h.objs.size:=(x a o e).lt
theorem dZ.fresh (x:dZ P w H h) (e:h.objs.size<=a):H a=none:=by
  cases q:H a with
  | none=>rfl
  | some u=>exact absurd (Nat.lt_of_lt_of_le (x.lt q) e) (Nat.lt_irrefl _)
theorem dZ.kept (x:dZ P w H h) (k:∀ b u,h.get? b=some u->h'.get? b=some u):dZ P w H h':=fun a o e =>
  (x a o e).stay (fun b u _ q=>k b u q) (fun _ q=>q) fun _ _ q=>q
theorem dZ.laid (x:dZ P w H h) (k:∀ b u,h.get? b=some u->h'.get? b=some u) (hp:h.objs.size<=a) (new:cI P w (upd H a o) h' a o):dZ P w (upd H a o) h':=fun b u e=>by
  have hn:=x.fresh hp
  by_cases hb:b=a
  · subst hb; rw [upd_same] at e; cases e; exact new
  · rw [upd_ne hb] at e
    exact (x b u e).stay (fun c v _ q=>k c v q) (fun c q=>by rw [upd_ne (ao q hn)]; exact q) fun c xs q=>by rw [upd_ne (ao q hn)]; exact q
end
def Rd (H:Hp) (a:Addr) (u:HO):Prop:=H a=some u\/∃ o,H a=some (.frz o u)
theorem Rd.ok {P:Program} {w:World} {H:Hp} {h:Heap} {a:Addr} {u:HO} (r:Rd H a u) (x:dZ P w H h):cI P w H h a u:=by
  rcases r with r | ⟨o,r⟩
  · exact x a u r
  · obtain ⟨_,q⟩:=x a _ r
    exact q
noncomputable def y0:Option HO->Prop
  | some (.lst _)=>True
  | some (.dK _)=>True
  | some (.dT _)=>True
  | some (.set _ _)=>True
  | some (.ins _ _ _)=>True
  | some (.ext _)=>True
  | _=>False
section
variable {P:Program} {w:World} {H:Hp} {h h':Heap} {x e:Addr} {o':HO}
theorem dZ.write (ok:dZ P w H h) (mu:y0 (H x)) (he:e=x\/H e=some (.own x)) (k:∀ b u,b≠e->h.get? b=some u->h'.get? b=some u) (heo:∃ u,h'.get? e=some u)
    (new:cI P w (upd H x o') h' x o'):dZ P w (upd H x o') h':=fun b u q=>by
  have nown:∀ c y,H c=some (.own y)->c≠x:=fun c y r z=>by subst z; rw [r] at mu; exact mu
  have ntup:∀ c xs,H c=some (.tup xs)->c≠x:=fun c xs r z=>by subst z; rw [r] at mu; exact mu
  by_cases hb:b=x
  · subst hb; rw [upd_same] at q; cases q; exact new
  · rw [upd_ne hb] at q
    by_cases hbe:b=e
    · have q':H b=some (.own x):=by
        rcases he with z | z
        · exact absurd (hbe.trans z) hb
        · rw [hbe]; exact z
      rw [q] at q'; cases q'
      obtain ⟨v,hv⟩:=heo
      exact ⟨v,by rw [hbe]; exact hv⟩
    · refine (ok b u q).stay (fun c v hc r=>k c v ?_ r) (fun c r=>by rw [upd_ne (nown c b r)]; exact r) fun c xs r=>by rw [upd_ne (ntup c xs r)]; exact r
      rcases hc with rfl | hc
      · exact hbe
      · rintro rfl
        rcases he with z | z
        · exact nown c b hc z
        · rw [hc] at z; cases z; exact hb rfl
end
structure Un (fs ex:List Addr) (H H':Hp) (h h':Heap):Prop where
  keep:∀ b o,h.get? b=some o->H b=none->b∉fs->b∉ex->h'.get? b=some o
  slot:∀ b o,h.get? b=some o->H b=none->b∈fs->b∉ex->∃ sl,h'.get? b=some { o with slots:=sl }
  free:∀ b o,h.get? b=some o->H b=none->b∉ex->H' b=none
  there:∀ b o,h.get? b=some o->b∉ex->∃ o',h'.get? b=some o'
  tups:∀ b xs,H b=some (.tup xs)->H' b=some (.tup xs)
  frzs:∀ b o u,H b=some (.frz o u)->H' b=some (.frz o u)
  tbls:∀ b ps,H b=some (.tbl ps)->∃ more,H' b=some (.tbl (ps++more))
section
variable {fs fs' ex ex':List Addr} {H H1 H2:Hp} {h h1 h2 h':Heap} {a x e:Addr} {o:HO}
theorem Un.any (u:Un fs ex H H1 h h1) {b:Addr} {ob:Obj} (q:h.get? b=some ob) (n:H b=none) (hx:b∉ex):∃ sl,h1.get? b=some { ob with slots:=sl }:=by
  by_cases hb:b∈fs
  · exact u.slot b ob q n hb hx
  · exact ⟨ob.slots,u.keep b ob q n hb hx⟩
theorem Un.kept (k:∀ b u,h.get? b=some u->h'.get? b=some u):Un fs ex H H h h' :=
  ⟨fun b ob q _ _ _=>k b ob q,fun b ob q _ _ _=>⟨ob.slots,k b ob q⟩,fun _ _ _ n _=>n,fun b ob q _=>⟨ob,k b ob q⟩,fun _ _ q=>q,fun _ _ _ q=>q,fun _ ps q=>⟨#[],by rw [q]; simp⟩⟩
theorem Un.refl:Un fs ex H H h h:=Un.kept fun _ _ q=>q
theorem Un.laid (k:∀ b u,h.get? b=some u->h'.get? b=some u) (hp:h.objs.size<=a) (hn:H a=none):Un fs ex H (upd H a o) h h' where
  keep:=fun b u q _ _ _=>k b u q
  slot:=fun b u q _ _ _=>⟨u.slots,k b u q⟩
  free:=fun b u q n _=>by rw [upd_ne (Nat.ne_of_lt (Nat.lt_of_lt_of_le (Heap.lt_size q) hp))]; exact n
  there:=fun b u q _=>⟨u,k b u q⟩
  tups:=fun b xs q=>by rw [upd_ne (ao q hn)]; exact q
  frzs:=fun b u xs q=>by rw [upd_ne (ao q hn)]; exact q
  tbls:=fun b ps q=>⟨#[],by rw [upd_ne (ao q hn),q]; simp⟩
theorem Un.write (mu:y0 (H x)) (he:e=x\/H e=some (.own x)) (k:∀ b u,b≠e->h.get? b=some u->h'.get? b=some u) (heo:∃ u,h'.get? e=some u):Un fs ex H (upd H x o) h h':=by
  have hx:∀ b,H b=none->b≠x:=fun b n z=>by subst z; rw [n] at mu; exact mu
  have hb:∀ b,H b=none->b≠e:=fun b n z=>by
    subst z
    rcases he with r | r
    · exact hx b n r
    · rw [n] at r; cases r
  have hm:∀ b u,H b=some u->¬ y0 (some u)->b≠x:=fun b u q nm z=>by subst z; rw [q] at mu; exact nm mu
  refine ⟨fun b u q n _ _=>k b u (hb b n) q,fun b u q n _ _=>⟨u.slots,k b u (hb b n) q⟩,fun b u q n _=>by rw [upd_ne (hx b n)]; exact n,fun b u q _=>?_,
    fun b xs q=>by rw [upd_ne (hm b _ q fun z=>z)]; exact q,fun b u xs q=>by rw [upd_ne (hm b _ q fun z=>z)]; exact q,fun b ps q=>⟨#[],by rw [upd_ne (hm b _ q fun z=>z),q]; simp⟩⟩
  by_cases hbe:b=e
  · subst hbe; exact heo
  · exact ⟨u,k b u hbe q⟩
end
noncomputable def yS (h:Heap) (H:Hp):List Addr:=(List.range h.objs.size).filter fun a=>(H a).isSome
noncomputable def iA (h:Heap) (H:Hp):Heap:=PySem.W.hideAll h (yS h H)
theorem xk (h:Heap) (H:Hp):(iA h H).objs.size=h.objs.size:=PySem.W.hideAll_size _ _
theorem yv {h:Heap} {H:Hp} {b:Addr} {o:Obj} (e:h.get? b=some o) (n:H b=none):(iA h H).get? b=some o :=
  PySem.W.hideAll_get _ e fun hm=>by
    have q:(H b).isSome=true:=(List.mem_filter.mp hm).2
    rw [n] at q; simp at q
theorem zc {h:Heap} {H:Hp} {b:Addr} {o:Obj} (e:(iA h H).get? b=some o):h.get? b=some o/\H b=none:=by
  have e':h.get? b=some o:=PySem.W.of_hideAll (yS h H) e
  refine ⟨e',?_⟩
  cases q:H b with
  | none=>rfl
  | some x =>
    have hm:b∈yS h H:=List.mem_filter.mpr ⟨List.mem_range.mpr (Heap.lt_size e'),by simp [q]⟩
    have z:(iA h H).get? b=none:=PySem.W.hideAll_none (yS h H) hm
    rw [z] at e; cases e
noncomputable def zS (g h:Heap) (L:Addr):List (Addr × Obj):=(List.range h.objs.size).filterMap fun a=>if a=L\/(g.get? a).isSome=true then none else (h.get? a).map fun o=>(a,o)
noncomputable def rest (g h:Heap) (L d:Addr):List (Addr × Obj):=(zS g h L).filter fun p=>decide (p.1≠d)
end L2
namespace L2
open PySem PySem.Spec PyProof.Rows
structure Mod (K:PySem.W.Frag) (mg:Str->Option Value) (base:Heap):Prop where
  kin:K.In base
  glob:base.Ns mainGlobals mg
  blt:∃ mb,base.Ns builtinsNs mb/\∀ x:Str,x≠"__name__"->mb x=bootBuiltins x
  nolimit:base.NoLimit
structure Cx where
  prog:Program
  w:World
  K:PySem.W.Frag
  mg:Str->Option Value
  base:Heap
  A:Around
  N:List Str
  s₀:Shared
  H₀:Hp
  env:Env
  outer:List Env
  stack:List Env
  ex:List Addr
  fn:Str->Bool
  calm:Bool
  pn:List (Addr × Obj)
  xe:Value->Shared->Prop
noncomputable def ic (l:List Env):List Addr:=l.filterMap (·.frame)
noncomputable abbrev Cx.fs (X:Cx):List Addr:=ic X.outer
def mx (sc:Scope) (x:Str):Prop:=sc.names.lookup x=some .local\/sc.names.lookup x=some .cell\/sc.names.lookup x=some .free
def Loc (sc:Scope) (x:Str):Prop:=sc.names.lookup x=some .local\/sc.names.lookup x=some .cell
def Look (env:Env) (h:Heap) (m:Str->Option Value) (x:Str) (u:Value):Prop :=
  (env.kindOf x=some .local/\m x=some u)\/((env.kindOf x=some .cell\/env.kindOf x=some .free)/\∃ c,env.cells.lookup x=some c/\h.IsCell c (some u))
structure Cx.Ok (X:Cx):Prop where
  mod:Mod X.K X.mg X.base
  kind:X.env.scope.kind = .function
  glob:X.env.globals=mainGlobals
  blt:X.env.builtins=builtinsNs
  above:X.s₀.heap.objs.size<=X.env.locals
  inj:∀ x y c,X.env.cells.lookup x=some c->X.env.cells.lookup y=some c->x=y
  has:∀ x,(X.env.kindOf x=some .cell\/X.env.kindOf x=some .free)->∃ c,X.env.cells.lookup x=some c
  cab:∀ x c,X.fn x=true->X.env.cells.lookup x=some c->X.s₀.heap.objs.size<=c
  hd:X.calm=true->X.A.handled=none
  frames:X.A.frames=some X.stack
  stk:X.stack=X.outer\/(X.stack=X.env::X.outer/\X.env.frame=some X.env.locals)
  exf:∀ b∈X.ex,b≠X.env.locals/\∀ x c,X.env.cells.lookup x=some c->c≠b
  bs:∀ b o,X.base.get? b=some o->X.s₀.heap.get? b=some o/\X.H₀ b=none
  bsz:X.base.objs.size<=X.s₀.heap.objs.size
  noex:∀ b o,X.base.get? b=some o->b∉X.ex
  exfs:∀ b∈X.ex,b∉X.fs
  funs:X.s₀.heap.FunFrames X.base X.outer
  frf:∀ b∈X.fs,X.H₀ b=none
structure Inv (X:Cx) (pins:List (Addr × Obj)) (σ:List (Option V)) (H:Hp) (s:Shared):Prop where
  ok:X.Ok
  os:s.os=X.s₀.os
  bare:AllBare s.gens
  base:Un X.fs X.ex X.H₀ H X.s₀.heap s.heap
  loc:∃ m,s.heap.Ns X.env.locals m/\∀ (i:Nat) (x:Str) (v:V),X.N[i]? = some x->σ[i]? = some (some v)->mx X.env.scope x->∃ u,RelV v u/\Look X.env s.heap m x u
  cell:∀ x c,X.env.cells.lookup x=some c->∃ v,s.heap.IsCell c v
  free:H X.env.locals=none
  freeC:∀ x c,X.env.cells.lookup x=some c->H c=none
  pin:∀ p∈X.pn++pins,s.heap.get? p.1=some p.2/\H p.1=none/\p.1≠X.env.locals/\p.1∉X.fs/\∀ v,p.2.data≠.cell v
  hok:dZ X.prog X.w H s.heap
  len:σ.length=X.N.length
section
variable {X:Cx} {pins:List (Addr × Obj)} {σ:List (Option V)} {H H':Hp} {s:Shared} {h':Heap}
theorem Cx.Ok.nofr (ok:X.Ok) {b:Addr} {o:Obj} (e:X.base.get? b=some o):b∉X.fs:=fun hb=>by
  have:=(ok.funs.mem hb).1
  rw [e] at this; cases this
theorem Inv.bs (I:Inv X pins σ H s):∀ b o,X.base.get? b=some o->s.heap.get? b=some o/\H b=none:=fun b o e =>
  ⟨I.base.keep b o (I.ok.bs b o e).1 (I.ok.bs b o e).2 (I.ok.nofr e) (I.ok.noex b o e),I.base.free b o (I.ok.bs b o e).1 (I.ok.bs b o e).2 (I.ok.noex b o e)⟩
theorem Inv.bk (I:Inv X pins σ H s):∀ b o,X.base.get? b=some o->s.heap.get? b=some o:=fun b o e=>(I.bs b o e).1
theorem Inv.mod (I:Inv X pins σ H s):Mod X.K X.mg X.base:=I.ok.mod
theorem Inv.kIn (I:Inv X pins σ H s):X.K.In s.heap:=I.ok.mod.kin.keeps I.bk
theorem Inv.fr (I:Inv X pins σ H s):∃ m,Fr X.base X.env.locals s.heap m :=
  let ⟨m,hn,_⟩:=I.loc
  ⟨m,hn,I.bk,Nat.le_trans I.ok.bsz I.ok.above⟩
theorem Inv.lt (I:Inv X pins σ H s):X.env.locals < s.heap.objs.size:=let ⟨_,hn,_⟩:=I.loc; hn.lt
theorem Inv.sz (I:Inv X pins σ H s):X.s₀.heap.objs.size<=s.heap.objs.size:=Nat.le_trans I.ok.above (Nat.le_of_lt I.lt)
theorem Inv.nofs (I:Inv X pins σ H s) {a:Addr} (h:s.heap.objs.size<=a):a∉X.fs:=fun hb=>by
  obtain ⟨_,o,ho,_⟩:=I.ok.funs.mem hb
  exact absurd (Nat.lt_of_lt_of_le (Heap.lt_size ho) (Nat.le_trans I.sz h)) (Nat.lt_irrefl _)
theorem Inv.cne (I:Inv X pins σ H s):∀ x c,X.env.cells.lookup x=some c->c≠X.env.locals:=fun x c e z=>by
  obtain ⟨v,o,ho,hd⟩:=I.cell x c e
  obtain ⟨m,⟨o',es,ep,ho',hd',_⟩,_⟩:=I.loc
  rw [z,ho'] at ho; cases ho; rw [hd'] at hd; cases hd
theorem Inv.funs (I:Inv X pins σ H s):s.heap.FunFrames X.base X.outer:=by
  have all:∀ (l:List Env),(∀ b∈ic l,b∈X.fs)->X.s₀.heap.FunFrames X.base l->s.heap.FunFrames X.base l:=by
    intro l
    induction l with
    | nil=>intro _ _; trivial
    | cons env r ih =>
      intro hs hl
      obtain ⟨hk,⟨L,o,hf,hn,ho,hd⟩,hr⟩:=hl
      have hL:L∈X.fs:=hs L (by unfold ic; rw [List.filterMap_cons,hf]; exact List.mem_cons_self)
      obtain ⟨sl,e⟩:=I.base.slot L o ho (I.ok.frf L hL) hL fun z=>I.ok.exfs L z hL
      exact ⟨hk,⟨L,_,hf,hn,e,hd⟩,ih (fun b hb=>hs b (by unfold ic; rw [List.filterMap_cons,hf]; exact List.mem_cons_of_mem _ hb)) hr⟩
  exact all X.outer (fun _ hb=>hb) I.ok.funs
theorem Inv.stack (I:Inv X pins σ H s):s.heap.FunFrames X.base X.stack:=by
  rcases I.ok.stk with e | ⟨e,hf⟩
  · rw [e]; exact I.funs
  · rw [e]
    obtain ⟨m,hn,_⟩:=I.loc
    refine .cons (by rw [I.ok.kind]; decide) hf hn ?_ I.funs
    exact Heap.get?_none_of_le (Nat.le_trans I.ok.bsz I.ok.above)
theorem Inv.stkSub (I:Inv X pins σ H s):∀ b∈ic X.stack,b∈X.env.locals::X.fs:=fun b hb=>by
  rcases I.ok.stk with e | ⟨e,hf⟩
  · rw [e] at hb; exact List.mem_cons_of_mem _ hb
  · rw [e] at hb
    unfold ic at hb
    rw [List.filterMap_cons,hf] at hb
    exact hb
theorem Inv.stkFree (I:Inv X pins σ H s):∀ b∈ic X.stack,H b=none:=fun b hb=>by
  rcases List.mem_cons.mp (I.stkSub b hb) with e | hb
  · rw [e]; exact I.free
  · obtain ⟨_,o,ho,_⟩:=I.ok.funs.mem hb
    exact I.base.free b o ho (I.ok.frf b hb) fun z=>I.ok.exfs b z hb
theorem Inv.step {g':Array GenState} {t':Nat} {d':Drawn} {ch:List Addr} (I:Inv X pins σ H s)
    (hch:∀ b∈ch,(b∈X.ex\/X.s₀.heap.objs.size<=b)/\b≠X.env.locals/\(∀ x c,X.env.cells.lookup x=some c->c≠b)/\∀ p∈X.pn++pins,p.1≠b)
    (keep:∀ b o,b≠X.env.locals->b∉X.fs->b∉ch->s.heap.get? b=some o->H b=none->h'.get? b=some o)
    (slot:∀ b o,b≠X.env.locals->b∈X.fs->b∉ch->s.heap.get? b=some o->H b=none->∃ sl,h'.get? b=some { o with slots:=sl }) (free:∀ b o,b∉ch->s.heap.get? b=some o->H b=none->H' b=none)
    (there:∀ b o,b∉ch->s.heap.get? b=some o->∃ o',h'.get? b=some o')
    (tups:∀ b xs,H b=some (.tup xs)->H' b=some (.tup xs)) (frzs:∀ b o u,H b=some (.frz o u)->H' b=some (.frz o u)) (tbls:∀ b ps,H b=some (.tbl ps)->∃ more,H' b=some (.tbl (ps++more)))
    (ns:∀ m,s.heap.Ns X.env.locals m->h'.Ns X.env.locals m) (hok:dZ X.prog X.w H' h') (hg:AllBare g') :
    Inv X pins σ H' { s with heap:=h',gens:=g',drawn:=d',toks:=t' }:=by
  have neL:∀ b o,X.s₀.heap.get? b=some o->b≠X.env.locals:=fun b o e=>Nat.ne_of_lt (Nat.lt_of_lt_of_le (Heap.lt_size e) I.ok.above)
  have neC:∀ b o,X.s₀.heap.get? b=some o->b∉X.ex->b∉ch:=fun b o e hx hb=>by
    rcases (hch b hb).1 with z | z
    · exact hx z
    · exact absurd (Nat.lt_of_lt_of_le (Heap.lt_size e) z) (Nat.lt_irrefl _)
  have cellK:∀ x c,X.env.cells.lookup x=some c->∀ v,s.heap.IsCell c v->h'.IsCell c v:=fun x c e v ⟨o,ho,hd⟩=>by
    have nch:c∉ch:=fun z=>(hch c z).2.2.1 x c e rfl
    by_cases hc:c∈X.fs
    · obtain ⟨sl,q⟩:=slot c o (I.cne x c e) hc nch ho (I.freeC x c e)
      exact ⟨_,q,hd⟩
    · exact ⟨o,keep c o (I.cne x c e) hc nch ho (I.freeC x c e),hd⟩
  refine ⟨I.ok,I.os,hg,⟨fun b o e n hb hx=>?_,fun b o e n hb hx=>?_,fun b o e n hx=>?_,fun b o e hx=>?_,fun b xs e=>tups b xs (I.base.tups b xs e),fun b o xs e=>frzs b o xs (I.base.frzs b o xs e),fun b ps e=>?_⟩,?_,fun x c e=>?_,?_,fun x c e=>?_,fun p hp=>?_,hok,I.len⟩
  · exact keep b o (neL b o e) hb (neC b o e hx) (I.base.keep b o e n hb hx) (I.base.free b o e n hx)
  · obtain ⟨sl,e1⟩:=I.base.slot b o e n hb hx
    obtain ⟨sl',e2⟩:=slot b _ (neL b o e) hb (neC b o e hx) e1 (I.base.free b o e n hx)
    exact ⟨sl',e2⟩
  · obtain ⟨o',e1⟩:=I.base.there b o e hx
    exact free b o' (neC b o e hx) e1 (I.base.free b o e n hx)
  · obtain ⟨o',e1⟩:=I.base.there b o e hx
    exact there b o' (neC b o e hx) e1
  · obtain ⟨m1,e1⟩:=I.base.tbls b ps e
    obtain ⟨m2,e2⟩:=tbls b _ e1
    exact ⟨m1++m2,by rw [e2,Array.append_assoc]⟩
  · obtain ⟨m,hn,hl⟩:=I.loc
    refine ⟨m,ns m hn,fun i x v e1 e2 e3=>?_⟩
    obtain ⟨u,r,l⟩:=hl i x v e1 e2 e3
    refine ⟨u,r,?_⟩
    rcases l with l | ⟨k,c,e,z⟩
    · exact .inl l
    · exact .inr ⟨k,c,e,cellK x c e _ z⟩
  · obtain ⟨v,z⟩:=I.cell x c e
    exact ⟨v,cellK x c e v z⟩
  · obtain ⟨m,⟨o,_,_,ho,_⟩,_⟩:=I.loc
    exact free _ o (fun z=>(hch _ z).2.1 rfl) ho I.free
  · obtain ⟨v,o,ho,hd⟩:=I.cell x c e
    exact free c o (fun z=>(hch c z).2.2.1 x c e rfl) ho (I.freeC x c e)
  · obtain ⟨e,n,ne,nf,d⟩:=I.pin p hp
    have nch:p.1∉ch:=fun z=>(hch p.1 z).2.2.2 p hp rfl
    exact ⟨keep p.1 p.2 ne nf nch e n,free p.1 p.2 nch e n,ne,nf,d⟩
theorem Inv.un {t':Nat} (I:Inv X pins σ H s) (u:Un X.fs [] H H' s.heap h') (hok:dZ X.prog X.w H' h'):Inv X pins σ H' { s with heap:=h',toks:=t' }:=by
  obtain ⟨m,⟨o,es,ep,ho,r⟩,_⟩:=id I.loc
  obtain ⟨sl,hL⟩:=u.any ho I.free (by simp)
  exact I.step (g':=s.gens) (d':=s.drawn) (ch:=[]) (fun _ z=>nomatch z) (fun b o _ hb _ e n=>u.keep b o e n hb (by simp)) (fun b o _ hb _ e n=>u.slot b o e n hb (by simp)) (fun b o _ e n=>u.free b o e n (by simp)) (fun b o _ e=>u.there b o e (by simp)) u.tups u.frzs u.tbls (fun m' hm=>by
    obtain ⟨o',es',ep',ho',r'⟩:=hm
    rw [ho] at ho'; cases ho'
    exact ⟨_,es',ep',hL,r'⟩) hok I.bare
theorem Inv.call {g':Array GenState} {t':Nat} {d':Drawn} {ch:List Addr} (I:Inv X pins σ H s) (u:Un (ic X.stack) ch H H' s.heap h') (hok:dZ X.prog X.w H' h') (hg:AllBare g')
    (hch:∀ b∈ch,(b∈X.ex\/X.s₀.heap.objs.size<=b)/\b≠X.env.locals/\(∀ x c,X.env.cells.lookup x=some c->c≠b)/\∀ p∈X.pn++pins,p.1≠b) :
    Inv X pins σ H' { s with heap:=h',gens:=g',drawn:=d',toks:=t' }:=by
  obtain ⟨m,⟨o,es,ep,ho,r⟩,_⟩:=id I.loc
  obtain ⟨sl,hL⟩:=u.any ho I.free fun z=>(hch _ z).2.1 rfl
  exact I.step (ch:=ch) hch (fun b o hL hb hc e n=>u.keep b o e n (fun z=>(List.mem_cons.mp (I.stkSub b z)).elim hL hb) hc) (fun b o _ _ hc e n=>u.any e n hc) (fun b o hc e n=>u.free b o e n hc) (fun b o hc e=>u.there b o e hc) u.tups u.frzs u.tbls (fun m' hm=>by
    obtain ⟨o',es',ep',ho',r'⟩:=hm
    rw [ho] at ho'; cases ho'
    exact ⟨_,es',ep',hL,r'⟩) hok hg
theorem Inv.turned {t':Nat} {it:Addr} (I:Inv X pins σ H s) (k:∀ b o,b≠it->s.heap.get? b=some o->h'.get? b=some o) (hn:H it=none) (hL:it≠X.env.locals)
    (h1:it∈X.ex\/X.s₀.heap.objs.size<=it) (h2:∀ x c,X.env.cells.lookup x=some c->c≠it) (h3:∀ p∈X.pn++pins,p.1≠it):Inv X pins σ H { s with heap:=h',toks:=t' }:=by
  have nit:∀ b u,H b=some u->b≠it:=fun b u e z=>by rw [z,hn] at e; cases e
  refine I.step (g':=s.gens) (d':=s.drawn) (ch:=[it]) (fun b hb=>?_) (fun b o _ _ hc e _=>k b o (fun z=>hc (by simp [z])) e) (fun b o _ _ hc e _=>⟨o.slots,k b o (fun z=>hc (by simp [z])) e⟩) (fun _ _ _ _ n=>n)
    (fun b o hc e=>⟨o,k b o (fun z=>hc (by simp [z])) e⟩) (fun _ _ e=>e) (fun _ _ _ e=>e) (fun b ps e=>⟨#[],by rw [e]; simp⟩) (fun m hm=>?_) (fun b u e=>?_) I.bare
  · have e:b=it:=by simpa using hb
    subst e
    exact ⟨h1,hL,h2,h3⟩
  · obtain ⟨o,es,ep,ho,r⟩:=hm
    exact ⟨o,es,ep,k _ o (Ne.symm hL) ho,r⟩
  · refine (I.hok b u e).stay (fun c v hc q=>k c v ?_ q) (fun _ q=>q) fun _ _ q=>q
    rcases hc with z | z
    · rw [z]; exact nit b u e
    · exact nit c _ z
theorem Inv.tok (I:Inv X pins σ H s) (t:Nat):Inv X pins σ H { s with toks:=t }:=I.un (h':=s.heap) (t':=t) Un.refl I.hok
theorem Inv.kept {t':Nat} (I:Inv X pins σ H s) (k:∀ b u,s.heap.get? b=some u->h'.get? b=some u):Inv X pins σ H { s with heap:=h',toks:=t' }:=I.un (Un.kept k) (I.hok.kept k)
theorem Inv.laid {a:Addr} {o:HO} {t':Nat} (I:Inv X pins σ H s) (k:∀ b u,s.heap.get? b=some u->h'.get? b=some u) (hp:s.heap.objs.size<=a) (new:cI X.prog X.w (upd H a o) h' a o) :
    Inv X pins σ (upd H a o) { s with heap:=h',toks:=t' }:=I.un (Un.laid k hp (I.hok.fresh hp)) (I.hok.laid k hp new)
theorem Inv.write {x e:Addr} {o:HO} {t':Nat} (I:Inv X pins σ H s) (mu:y0 (H x)) (he:e=x\/H e=some (.own x)) (k:∀ b u,b≠e->s.heap.get? b=some u->h'.get? b=some u) (heo:∃ u,h'.get? e=some u)
    (new:cI X.prog X.w (upd H x o) h' x o):Inv X pins σ (upd H x o) { s with heap:=h',toks:=t' }:=I.un (Un.write mu he k heo) (I.hok.write mu he k heo new)
theorem Inv.weak {σ':List (Option V)} (I:Inv X pins σ H s) (hl:σ'.length=σ.length) (w:∀ (i:Nat) v,σ'[i]? = some (some v)->σ[i]? = some (some v)):Inv X pins σ' H s :=
  ⟨I.ok,I.os,I.bare,I.base,let ⟨m,hn,hl'⟩:=I.loc; ⟨m,hn,fun i x v e1 e2 e3=>hl' i x v e1 (w i v e2) e3⟩,I.cell,I.free,I.freeC,I.pin,I.hok,hl.trans I.len⟩
theorem Inv.pins_of {pins':List (Addr × Obj)} (I:Inv X pins σ H s) (h:∀ p∈pins',s.heap.get? p.1=some p.2/\H p.1=none/\p.1≠X.env.locals/\p.1∉X.fs/\∀ v,p.2.data≠.cell v):Inv X pins' σ H s :=
  ⟨I.ok,I.os,I.bare,I.base,I.loc,I.cell,I.free,I.freeC,fun p hp=>(List.mem_append.mp hp).elim (fun z=>I.pin p (List.mem_append_left _ z)) (h p),I.hok,I.len⟩
theorem sv {N:List Str} (hN:N.Nodup) {i j:Nat} {x:Str} (a:N[i]? = some x) (b:N[j]? = some x):i=j:=by
  obtain ⟨h1,e1⟩:=List.getElem?_eq_some_iff.mp a
  obtain ⟨h2,e2⟩:=List.getElem?_eq_some_iff.mp b
  exact (List.getElem_inj hN).mp (e1.trans e2.symm)
theorem oO {M:Model} {A:Around} {E:Value->Shared->Prop} {i:Nat} {x:Str} {v:V} {u:Value} {Q:Unit->Shared->Prop} (I:Inv X pins σ H s) (hN:X.N.Nodup) (hi:X.N[i]? = some x) (hx:Loc X.env.scope x) (r:RelV v u)
    (h:∀ s',Inv X pins (σ.set i (some v)) H s'->(∃ a,Heap.SameBut a s.heap s'.heap/\(a=X.env.locals\/X.env.cells.lookup x=some a))->Q () s') (hf:X.fn x=true\/X.env.scope.names.lookup x=some .local:=by first | exact .inl rfl | exact .inr rfl | assumption):wpAny M A (storeName X.env x u) Q E s:=by
  obtain ⟨m,hn,hl⟩:=id I.loc
  have hcls:(X.env.scope.kind == .class || (X.env.scope.kind == .module&&X.env.locals != X.env.globals))=false:=by rw [I.ok.kind]; rfl
  have hiσ:i < σ.length:=by rw [I.len]; exact (List.getElem?_eq_some_iff.mp hi).1
  have cne:=I.cne
  have tracked:∀ {a:Addr} {h':Heap},(∃ o,s.heap.get? a=some o/\H a=none)->Heap.SameBut a s.heap h'->dZ X.prog X.w H h':=fun {a h'} ha hs b ob e=>by
    obtain ⟨_,_,hfree⟩:=ha
    refine (I.hok b ob e).stay (fun c w' hc q=>(hs.2 c ?_).trans q) (fun _ q=>q) fun _ _ q=>q
    rintro rfl
    rcases hc with rfl | hc
    · rw [hfree] at e; cases e
    · rw [hfree] at hc; cases hc
  rcases hx with hk | hk
  · refine wpAny_storeName_local hk hn (fun h' hn' hs=>?_) hcls
    obtain ⟨oL,_,_,hoL,_⟩:=id hn
    refine h _ ⟨I.ok,I.os,I.bare,⟨fun b o e n hb hx=>?_,fun b o e n hb hx=>?_,I.base.free,fun b o e hx=>?_,I.base.tups,I.base.frzs,I.base.tbls⟩,⟨_,hn',fun j y v' e1 e2 e3=>?_⟩,fun y c e=>?_,I.free,I.freeC,fun p hp=>?_,tracked ⟨oL,hoL,I.free⟩ hs,by simpa using I.len⟩ ⟨_,hs,.inl rfl⟩
    · exact (hs.2 b (Nat.ne_of_lt (Nat.lt_of_lt_of_le (Heap.lt_size e) I.ok.above))).trans (I.base.keep b o e n hb hx)
    · obtain ⟨sl,e1⟩:=I.base.slot b o e n hb hx
      exact ⟨sl,(hs.2 b (Nat.ne_of_lt (Nat.lt_of_lt_of_le (Heap.lt_size e) I.ok.above))).trans e1⟩
    · obtain ⟨o',e1⟩:=I.base.there b o e hx
      exact ⟨o',(hs.2 b (Nat.ne_of_lt (Nat.lt_of_lt_of_le (Heap.lt_size e) I.ok.above))).trans e1⟩
    · by_cases hj:j=i
      · subst hj
        rw [hi] at e1; cases e1
        rw [List.getElem?_set_self hiσ] at e2
        cases e2
        exact ⟨u,r,.inl ⟨hk,by simp⟩⟩
      · rw [List.getElem?_set_ne (Ne.symm hj)] at e2
        obtain ⟨u',r',q⟩:=hl j y v' e1 e2 e3
        refine ⟨u',r',?_⟩
        rcases q with ⟨k,e⟩ | ⟨k,c,e,z⟩
        · refine .inl ⟨k,?_⟩
          have:y≠x:=fun e=>hj (sv hN e1 (e▸hi))
          simp [this,e]
        · exact .inr ⟨k,c,e,z.sameBut hs (cne y c e)⟩
    · obtain ⟨w',z⟩:=I.cell y c e
      exact ⟨w',z.sameBut hs (cne y c e)⟩
    · obtain ⟨e,n,ne,nf,d⟩:=I.pin p hp
      exact ⟨(hs.2 p.1 ne).trans e,n,ne,nf,d⟩
  · have hfn:X.fn x=true:=by
      rcases hf with z | z
      · exact z
      · rw [z] at hk; cases hk
    obtain ⟨c,hc⟩:=I.ok.has x (.inl hk)
    obtain ⟨w',z⟩:=I.cell x c hc
    refine wpAny_storeName_cell I.ok.kind hk hc z (fun h' hc' hs=>?_)
    obtain ⟨oc,hoc,hocd⟩:=id z
    refine h { s with heap:=h' } ⟨I.ok,I.os,I.bare,⟨fun b o e n hb hx=>?_,fun b o e n hb hx=>?_,I.base.free,fun b o e hx=>?_,I.base.tups,I.base.frzs,I.base.tbls⟩,⟨m,hn.sameBut hs (Ne.symm (cne x c hc)),fun j y v' e1 e2 e3=>?_⟩,fun y c' e=>?_,I.free,I.freeC,fun p hp=>?_,tracked ⟨oc,hoc,I.freeC x c hc⟩ hs,by simpa using I.len⟩ ⟨c,hs,.inr hc⟩
    · exact (hs.2 b (Nat.ne_of_lt (Nat.lt_of_lt_of_le (Heap.lt_size e) (I.ok.cab x c hfn hc)))).trans (I.base.keep b o e n hb hx)
    · obtain ⟨sl,e1⟩:=I.base.slot b o e n hb hx
      exact ⟨sl,(hs.2 b (Nat.ne_of_lt (Nat.lt_of_lt_of_le (Heap.lt_size e) (I.ok.cab x c hfn hc)))).trans e1⟩
    · obtain ⟨o',e1⟩:=I.base.there b o e hx
      exact ⟨o',(hs.2 b (Nat.ne_of_lt (Nat.lt_of_lt_of_le (Heap.lt_size e) (I.ok.cab x c hfn hc)))).trans e1⟩
    · by_cases hj:j=i
      · subst hj
        rw [hi] at e1; cases e1
        rw [List.getElem?_set_self hiσ] at e2
        cases e2
        exact ⟨u,r,.inr ⟨.inl hk,c,hc,hc'⟩⟩
      · rw [List.getElem?_set_ne (Ne.symm hj)] at e2
        obtain ⟨u',r',q⟩:=hl j y v' e1 e2 e3
        refine ⟨u',r',?_⟩
        rcases q with q | ⟨k,c',e,z'⟩
        · exact .inl q
        · refine .inr ⟨k,c',e,z'.sameBut hs ?_⟩
          rintro rfl
          exact hj (sv hN e1 (I.ok.inj _ _ _ e hc▸hi))
    · by_cases hcc:c'=c
      · subst hcc; exact ⟨_,hc'⟩
      · obtain ⟨w2,z2⟩:=I.cell y c' e
        exact ⟨w2,z2.sameBut hs hcc⟩
    · obtain ⟨e,n,ne,nf,d⟩:=I.pin p hp
      refine ⟨(hs.2 p.1 ?_).trans e,n,ne,nf,d⟩
      intro q
      rw [q,hoc] at e
      have q':oc=p.2:=Option.some.inj e
      exact d w' (by rw [<- q']; exact hocd)
theorem lY {M:Model} {A:Around} {E:Value->Shared->Prop} {i:Nat} {x:Str} {v:V} {u:Value} {Q:Unit->Shared->Prop} (I:Inv X pins σ H s) (hN:X.N.Nodup) (hi:X.N[i]? = some x) (hx:Loc X.env.scope x) (r:RelV v u)
    (h:∀ s',Inv X pins (σ.set i (some v)) H s'->Q () s') (hf:X.fn x=true\/X.env.scope.names.lookup x=some .local:=by first | exact .inl rfl | exact .inr rfl | assumption):wpAny M A (storeName X.env x u) Q E s :=
  oO I hN hi hx r (fun s' I' _=>h s' I') hf
theorem Inv.call' {s':Shared} {ch:List Addr} (I:Inv X pins σ H s) (ho:s'.os=s.os) (u:Un (ic X.stack) ch H H' s.heap s'.heap) (hok:dZ X.prog X.w H' s'.heap) (hg:AllBare s'.gens)
    (hch:∀ b∈ch,(b∈X.ex\/X.s₀.heap.objs.size<=b)/\b≠X.env.locals/\(∀ x c,X.env.cells.lookup x=some c->c≠b)/\∀ p∈X.pn++pins,p.1≠b):Inv X pins σ H' s':=by
  obtain ⟨h',g',d',t',o'⟩:=s'
  have e:o'=s.os:=ho
  subst e
  exact I.call (g':=g') (t':=t') (d':=d') u hok hg hch
end
noncomputable abbrev XK:=Value->Option Addr->Hp->Prop
noncomputable abbrev St:=List (Option V)
noncomputable abbrev VK:=V->Hp->Prop
noncomputable abbrev TE:=St->Hp->VK->Prop
noncomputable abbrev TT:=St->Hp->(Bool->Hp->Prop)->Prop
noncomputable abbrev TA:=St->Hp->(List V->Hp->Prop)->Prop
structure Ends where
  nx:St->Hp->Prop
  rt:VK
  bk:St->Hp->Prop:=fun _ _=>False
  ct:St->Hp->Prop:=fun _ _=>False
noncomputable abbrev TS:=Ends->St->Hp->Prop
def EP (X:Cx) (pins:List (Addr × Obj)) (σ:St) (Q:VK) (u:Value) (s':Shared):Prop:=∃ v H',Inv X pins σ H' s'/\RelV v u/\Q v H'
def TP (X:Cx) (pins:List (Addr × Obj)) (σ:St) (Q:Bool->Hp->Prop) (b:Bool) (s':Shared):Prop:=∃ H',Inv X pins σ H' s'/\Q b H'
def AP (X:Cx) (pins:List (Addr × Obj)) (σ:St) (Q:List V->Hp->Prop) (us:List Value) (s':Shared):Prop:=∃ vs H',Inv X pins σ H' s'/\Vals vs us/\Q vs H'
def SP (X:Cx) (pins:List (Addr × Obj)) (D:Ends) (f:Flow) (s':Shared):Prop :=
  match f with
  | .next=>∃ σ' H',Inv X pins σ' H' s'/\D.nx σ' H'
  | .brk=>∃ σ' H',Inv X pins σ' H' s'/\D.bk σ' H'
  | .cont=>∃ σ' H',Inv X pins σ' H' s'/\D.ct σ' H'
  | .ret u=>∃ v σ' H',Inv X pins σ' H' s'/\RelV v u/\D.rt v H'
def PE (X:Cx) (e:Expr) (t:TE):Prop :=
  ∀ (pins:List (Addr × Obj)) (s:Shared) (σ:St) (H:Hp) (Q:VK),Inv X pins σ H s->t σ H Q->wpAny (model X.prog X.w) X.A (eval e X.env) (EP X pins σ Q) X.xe s
def PT (X:Cx) (e:Expr) (t:TT):Prop :=
  ∀ (pins:List (Addr × Obj)) (s:Shared) (σ:St) (H:Hp) (Q:Bool->Hp->Prop),Inv X pins σ H s->t σ H Q->wpAny (model X.prog X.w) X.A (isTrue e X.env (eval e X.env)) (TP X pins σ Q) X.xe s
def PW (X:Cx) (e:Expr) (t:TT):Prop :=
  ∀ (whole:Sem Value) (pins:List (Addr × Obj)) (s:Shared) (σ:St) (H:Hp) (Q:Bool->Hp->Prop),Inv X pins σ H s->t σ H Q->wpAny (model X.prog X.w) X.A (isTrue e X.env whole) (TP X pins σ Q) X.xe s
theorem PW.pt {X:Cx} {e:Expr} {t:TT} (h:PW X e t):PT X e t:=h _
def PA (X:Cx) (es:List Expr) (t:TA):Prop :=
  ∀ (pos:Pos) (pins:List (Addr × Obj)) (s:Shared) (σ:St) (H:Hp) (Q:List V->Hp->Prop),Inv X pins σ H s->t σ H Q->wpAny (model X.prog X.w) X.A (spliced (backTo pos (starEach es X.env))) (AP X pins σ Q) X.xe s
def PS (X:Cx) (st:Stmt) (t:TS):Prop :=
  ∀ (pins:List (Addr × Obj)) (s:Shared) (σ:St) (H:Hp) (D:Ends),Inv X pins σ H s->t D σ H->wpAny (model X.prog X.w) X.A (exec st X.env) (SP X pins D) X.xe s
def gE (X:Cx) (st:List Stmt) (t:TS):Prop :=
  ∀ (pins:List (Addr × Obj)) (s:Shared) (σ:St) (H:Hp) (D:Ends),Inv X pins σ H s->t D σ H->wpAny (model X.prog X.w) X.A (execs st X.env) (SP X pins D) X.xe s
theorem aI {α:Type} {t:Sem α} {Q Q':α->Shared->Prop} {M:Model} {A:Around} {E:Value->Shared->Prop} {s:Shared} (h:wpAny M A t Q E s) (hQ:∀ a s,Q a s->Q' a s):wpAny M A t Q' E s:=wpAny_mono h hQ fun _ _ x=>x
end L2
namespace L2
open PySem PySem.Spec PyProof.Rows
section
variable {X:Cx}
theorem bin {a b:Expr} {ta tb:TE} (ha:PE X a ta) (hb:PE X b tb) {pins:List (Addr × Obj)} {s:Shared} {σ:St} {H:Hp} {R:V->V->Hp->Prop} (I:Inv X pins σ H s) (h:ta σ H fun x H1=>tb σ H1 fun y H2=>R x y H2)
    {α:Type} {Q:α->Shared->Prop} {f:Value->Value->Sem α}
    (hf:∀ v u s2 x y H2,Inv X pins σ H2 s2->RelV x v->RelV y u->R x y H2->wpAny (model X.prog X.w) X.A (f v u) Q X.xe s2) :
    wpAny (model X.prog X.w) X.A (eval a X.env) (fun v s₁=>wpAny (model X.prog X.w) X.A (eval b X.env) (fun u s₂=>wpAny (model X.prog X.w) X.A (f v u) Q X.xe s₂) X.xe s₁) X.xe s:=by
  refine aI (ha pins s σ H _ I h) fun v s1 ⟨x,H1,I1,r1,q1⟩=>?_
  refine aI (hb pins s1 σ H1 _ I1 q1) fun u s2 ⟨y,H2,I2,r2,q2⟩=>?_
  exact hf v u s2 x y H2 I2 r1 r2 q2
noncomputable def Ce (i:Nat):TE:=fun σ H Q=>∃ v,σ[i]? = some (some v)/\Q v H
noncomputable def tC (v:V):TE:=fun _ H Q=>Q v H
theorem Ao {i:Nat} {x:Str} {pos:Pos} (hN:X.N[i]? = some x) (hv:mx X.env.scope x) (hd:(x == ("__debug__" : Str))=false:=by decide) (hcd:(x == ("__classdict__" : Str))=false:=by decide):PE X (.Name x pos) (Ce i):=by
  intro pins s σ H Q I h
  obtain ⟨v,e,h⟩:=h
  obtain ⟨m,hn,hl⟩:=I.loc
  obtain ⟨u,r,l⟩:=hl i x v hN e hv
  have fin:EP X pins σ Q u s:=⟨v,H,I,r,h⟩
  rcases l with ⟨hk,hm⟩ | ⟨hk,c,hc,hcell⟩
  · exact wpAny_Name (wpAny_loadName_local I.ok.kind hk hn hm fin) hd
  · rcases hk with hk | hk
    · exact wpAny_Name (wpAny_loadName_cell I.ok.kind hk hc hcell fin) hd
    · exact wpAny_Name (wpAny_loadName_free I.ok.kind hk hc hcell fin hcd) hd
theorem ai {i j pos}:PE X (.Constant (.int i) j pos) (tC (.int i)):=fun _ _ _ H _ I h=>wpAny_Constant_int ⟨.int i,H,I.tok _,⟨_,rfl⟩,h⟩
theorem bI {b j pos}:PE X (.Constant (.bool b) j pos) (tC (.bl b)):=fun _ _ _ H _ I h=>Constant_bool ⟨.bl b,H,I,rfl,h⟩
theorem bF {x j pos}:PE X (.Constant (.str x) j pos) (tC (.str x)):=fun _ _ _ H _ I h=>Calls.Constant_str ⟨.str x,H,I.tok _,⟨_,rfl⟩,h⟩
def Gl (X:Cx) (x:Str):Prop:=X.env.kindOf x=some .globalImplicit
theorem nO {E:Value->Shared->Prop} {pins:List (Addr × Obj)} {s:Shared} {σ:St} {H:Hp} {x:Str} {u:Value} {pos:Pos} {Q:Value->Shared->Prop} (I:Inv X pins σ H s) (hg:Gl X x) (hm:X.mg x=some u) (h:Q u s)
    (hd:(x == ("__debug__" : Str))=false:=by decide):wpAny (model X.prog X.w) X.A (eval (.Name x pos) X.env) Q E s :=
  Calls.Name_function_global I.ok.kind hg (Calls.loadGlobal_global (by rw [I.ok.glob]; exact I.mod.glob.keeps I.bk) hm h) hd
theorem dY {E:Value->Shared->Prop} {pins:List (Addr × Obj)} {s:Shared} {σ:St} {H:Hp} {x:Str} {u:Value} {pos:Pos} {Q:Value->Shared->Prop} (I:Inv X pins σ H s) (hg:Gl X x) (hm:X.mg x=none) (hv:bootBuiltins x=some u) (h:Q u s)
    (hn:x≠"__name__":=by decide) (hd:(x == ("__debug__" : Str))=false:=by decide):wpAny (model X.prog X.w) X.A (eval (.Name x pos) X.env) Q E s:=by
  obtain ⟨mb,h1,h2⟩:=I.mod.blt
  exact Calls.Name_function_global I.ok.kind hg (Calls.loadGlobal_builtin (by rw [I.ok.glob]; exact I.mod.glob.keeps I.bk) hm (by rw [I.ok.blt]; exact h1.keeps I.bk) ((h2 x hn).trans hv) h) hd
theorem eO {x:Str} {v:V} {u:Value} {pos:Pos} (hg:Gl X x) (hm:X.mg x=none) (hv:bootBuiltins x=some u) (r:RelV v u) (hn:x≠"__name__":=by decide) (hd:(x == ("__debug__" : Str))=false:=by decide):PE X (.Name x pos) (tC v) :=
  fun _ _ _ H _ I h=>dY I hg hm hv ⟨v,H,I,r,h⟩ hn hd
variable {a b:Expr} {ta tb:TE} {pos:Pos}
def PC (X:Cx) (op:CmpOp) (a b:Expr) (t:TE):Prop :=
  ∀ (pins:List (Addr × Obj)) (s:Shared) (σ:St) (H:Hp) (Q:VK),Inv X pins σ H s->t σ H Q ->
    wpAny (model X.prog X.w) X.A (eval a X.env) (fun v s₁=>wpAny (model X.prog X.w) X.A (eval b X.env) (fun u s₂=>wpAny (model X.prog X.w) X.A (compareOp op v u) (EP X pins σ Q) X.xe s₂) X.xe s₁) X.xe s
theorem yG (b:Expr) {op:CmpOp} (h:op≠.In) (h2:op≠.NotIn):behindInMarks op b=false:=by
  have e1:(op == CmpOp.In)=false:=by cases op<;>first | rfl | exact absurd rfl h
  have e2:(op == CmpOp.NotIn)=false:=by cases op<;>first | rfl | exact absurd rfl h2
  cases b<;>simp [behindInMarks,e1,e2]
noncomputable def tB (t:TE):TT:=fun σ H Q=>t σ H fun x H1=>∃ c,x = .bl c/\Q c H1
theorem DW {op:CmpOp} {t:TE} (h:PC X op a b t) (h1:behindInMarks op b=false:=by first | exact yG _ (by decide) (by decide) | rfl):PT X (.Compare a [op] [b] pos) (tB t):=by
  intro pins s σ H Q I hw
  refine wpAny_isTrue_Compare1 (aI (h pins s σ H _ I hw) fun v s1 h1=>aI h1 fun u s2 h2=>aI h2 fun c s3 ⟨x,H1,I1,r1,q1⟩=>?_) h1
  obtain ⟨d,rfl,q⟩:=q1
  cases r1
  exact wpAny_truthy_bool ⟨H1,I1,q⟩
theorem bb {e:Expr} {t:TE} (h:PE X e t) (he:∀ whole,isTrue e X.env whole=(do let v <- whole; standAt e.pos; holding [v] (truthy v)):=by intro _; rfl):PT X e (tB t):=by
  intro pins s σ H Q I hw
  refine isTrue_plain (aI (h pins s σ H _ I hw) fun v s1 ⟨x,H1,I1,r1,q1⟩=>?_) (he _)
  obtain ⟨d,rfl,q⟩:=q1
  cases r1
  exact wpAny_truthy_bool ⟨H1,I1,q⟩
variable {tA tB':TT} {rest:List Expr}
noncomputable def DN (t u:TT):TT:=fun σ H Q=>t σ H fun c H1=>if c=true then u σ H1 Q else Q false H1
noncomputable def DX (t u:TT):TT:=fun σ H Q=>t σ H fun c H1=>if c=true then Q true H1 else u σ H1 Q
noncomputable def DP (t:TT):TT:=fun σ H Q=>t σ H fun c H1=>Q (!c) H1
theorem jR (ha:PT X a tA):PW X (.BoolOp .And [a] pos) tA:=by
  intro wh pins s σ H Q I h
  refine isTrue_and (aI (ha pins s σ H Q I h) fun c s1 e=>?_)
  cases c with
  | true=>exact isTrue_and_nil e
  | false=>exact e
theorem cE (ha:PT X a tA):PW X (.BoolOp .Or [a] pos) tA:=by
  intro wh pins s σ H Q I h
  refine isTrue_or (aI (ha pins s σ H Q I h) fun c s1 e=>?_)
  cases c with
  | false=>exact isTrue_or_nil e
  | true=>exact e
theorem m6 (ha:PT X a tA) (hb:PW X (.BoolOp .And (b::rest) pos) tB'):PW X (.BoolOp .And (a::b::rest) pos) (DN tA tB'):=by
  intro wh pins s σ H Q I h
  refine isTrue_and (aI (ha pins s σ H _ I h) fun c s1 ⟨H1,I1,q1⟩=>?_)
  cases c with
  | true=>exact hb wh pins s1 σ H1 Q I1 q1
  | false=>exact ⟨H1,I1,q1⟩
theorem cA (ha:PT X a tA) (hb:PW X (.BoolOp .Or (b::rest) pos) tB'):PW X (.BoolOp .Or (a::b::rest) pos) (DX tA tB'):=by
  intro wh pins s σ H Q I h
  refine isTrue_or (aI (ha pins s σ H _ I h) fun c s1 ⟨H1,I1,q1⟩=>?_)
  cases c with
  | true=>exact ⟨H1,I1,q1⟩
  | false=>exact hb wh pins s1 σ H1 Q I1 q1
theorem br (ha:PT X a tA):PT X (.UnaryOp .Not a pos) (DP tA):=by
  intro pins s σ H Q I h
  exact isTrue_not (ha pins s σ H (fun c H1=>Q (!c) H1) I h)
noncomputable def Dd (ta tb:TE):TE:=fun σ H Q=>ta σ H fun x H1=>∃ c,x = .bl c/\if c=true then tb σ H1 Q else Q (.bl false) H1
noncomputable def CZ (ta:TE):TE:=fun σ H Q=>ta σ H fun x H1=>∃ c,x = .bl c/\Q (.bl (!c)) H1
theorem jr {op} {t:TE} (h:PE X a t):PE X (.BoolOp op [a] pos) t:=fun pins s σ H Q I hw=>BoolOp_one (h pins s σ H Q I hw)
theorem iq (ha:PE X a ta) (hb:PE X (.BoolOp .And (b::rest) pos) tb):PE X (.BoolOp .And (a::b::rest) pos) (Dd ta tb):=by
  intro pins s σ H Q I h
  refine BoolOp_and (aI (ha pins s σ H _ I h) fun v s1 ⟨x,H1,I1,r1,q1⟩=>?_)
  obtain ⟨c,rfl,q1⟩:=q1
  cases r1
  refine wpAny_truthy_bool ?_
  cases c with
  | true=>exact hb pins s1 σ H1 Q I1 q1
  | false=>exact ⟨.bl false,H1,I1,rfl,q1⟩
theorem w6 (ha:PE X a ta):PE X (.UnaryOp .Not a pos) (CZ ta):=by
  intro pins s σ H Q I h
  refine UnaryOp_ (aI (ha pins s σ H _ I h) fun v s1 ⟨x,H1,I1,r1,q1⟩=>?_)
  obtain ⟨c,rfl,q1⟩:=q1
  cases r1
  exact not_of (wpAny_truthy_bool ⟨.bl (!c),H1,I1,rfl,q1⟩)
noncomputable def D4 (t:TT) (ta tb:TE):TE:=fun σ H Q=>t σ H fun c H1=>if c=true then ta σ H1 Q else tb σ H1 Q
theorem xE {c:Expr} (hc:PT X c tA) (ha:PE X a ta) (hb:PE X b tb):PE X (.IfExp c a b pos) (D4 tA ta tb):=by
  intro pins s σ H Q I h
  refine wpAny_IfExp (aI (hc pins s σ H _ I h) fun d s1 ⟨H1,I1,q1⟩=>?_)
  cases d with
  | true=>exact ha pins s1 σ H1 Q I1 q1
  | false=>exact hb pins s1 σ H1 Q I1 q1
end
end L2
namespace L2
open PySem PySem.Spec PyProof.Rows
def ar (K:PySem.W.Frag) (H:Hp) (a:Addr) (xs:List V):Prop :=
  Rd H a (.lst xs) \/
    ∃ (o:Obj) (its:Array Value) (n:Nat),K.lookup a=some o/\o.cls = .type "list"/\o.dict=none/\o.data = .seq its n/\its.size<=sizeLine/\Vals xs its.toList
def a9 (K:PySem.W.Frag) (H:Hp) (a:Addr) (xs:List V):Prop :=
  Rd H a (.tup xs) \/
    ∃ (o:Obj) (its:Array Value) (n:Nat),K.lookup a=some o/\o.cls = .type "tuple"/\o.data = .seq its n/\its.size<=sizeLine/\Vals xs its.toList
noncomputable def Du:Value->Option V
  | .none=>some .non
  | .bool b=>some (.bl b)
  | .int i _=>some (.int i)
  | .str x _=>some (.str x)
  | .bytes b _=>some (.byt b)
  | .float b _=>some (.flt b)
  | .ref a=>some (.ref a)
  | .type n=>some (.ty n)
  | _=>none
theorem RelV.abs {x:V} {u:Value} (r:RelV x u):Du u=some x:=by
  cases x with
  | non=>cases r; rfl
  | bl _=>cases r; rfl
  | int _=>obtain ⟨t,rfl⟩:=r; rfl
  | str _=>obtain ⟨t,rfl⟩:=r; rfl
  | byt _=>obtain ⟨t,rfl⟩:=r; rfl
  | flt _=>obtain ⟨t,rfl⟩:=r; rfl
  | ref _=>cases r; rfl
  | ty _=>cases r; rfl
theorem RelV.inj {x y:V} {u:Value} (r:RelV x u) (q:RelV y u):x=y:=Option.some.inj (r.abs.symm.trans q.abs)
theorem Vals.inj:∀ {xs ys:List V} {us:List Value},Vals xs us->Vals ys us->xs=ys
  | _,_,_,.nil,.nil=>rfl
  | _,_,_,.cons r t,.cons r' t'=>by rw [r.inj r',Vals.inj t t']
section
variable {X:Cx} {pins:List (Addr × Obj)} {σ:St} {H:Hp} {s:Shared} {a:Addr} {xs ys:List V}
theorem ar.of {K:PySem.W.Frag} (h:H a=some (.lst xs)):ar K H a xs:=.inl (.inl h)
theorem a9.of {K:PySem.W.Frag} (h:H a=some (.tup xs)):a9 K H a xs:=.inl (.inl h)
theorem Inv.list (I:Inv X pins σ H s) (h:ar X.K H a xs):∃ its:List Value,Vals xs its/\PlainL s.heap a its.toArray/\xs.length<=sizeLine:=by
  rcases h with h | ⟨o,its,n,hk,hc,hd,hs,hz,r⟩
  · obtain ⟨z,its,n,r,e⟩:=h.ok I.hok
    exact ⟨its,r,⟨_,n,e,rfl,rfl,rfl⟩,z⟩
  · refine ⟨its.toList,r,⟨o,n,I.kIn a o hk,hc,hd,by simpa using hs⟩,?_⟩
    have e:=r.length
    simp only [Array.length_toList] at e
    omega
theorem Inv.tuple (I:Inv X pins σ H s) (h:a9 X.K H a xs):∃ its:List Value,Vals xs its/\IsTup s.heap a its.toArray/\xs.length<=sizeLine:=by
  rcases h with h | ⟨o,its,n,hk,hc,hs,hz,r⟩
  · obtain ⟨z,its,r,p⟩:=h.ok I.hok
    exact ⟨its,r,p,z⟩
  · refine ⟨its.toList,r,⟨o,I.kIn a o hk,hc,n,by simpa using hs⟩,?_⟩
    have e:=r.length
    simp only [Array.length_toList] at e
    omega
theorem Inv.list_inj (I:Inv X pins σ H s) (h:ar X.K H a xs) (h':ar X.K H a ys):xs=ys:=by
  obtain ⟨its,r,⟨o,n,e,_,_,d⟩,_⟩:=I.list h
  obtain ⟨its',r',⟨o',n',e',_,_,d'⟩,_⟩:=I.list h'
  rw [e] at e'; cases e'
  rw [d] at d'
  injection d' with d1 _
  have:its=its':=by simpa using congrArg Array.toList d1
  subst this
  exact r.inj r'
end
noncomputable abbrev Cx.wish (X:Cx) (E:Value->Shared->Prop):Cx:={ X with xe:=E }
noncomputable abbrev Cx.nox (X:Cx):Cx:=X.wish fun _ _=>False
theorem Cx.Ok.wish {X:Cx} (ok:X.Ok) (E:Value->Shared->Prop):(X.wish E).Ok :=
  ⟨ok.mod,ok.kind,ok.glob,ok.blt,ok.above,ok.inj,ok.has,ok.cab,ok.hd,ok.frames,ok.stk,ok.exf,ok.bs,ok.bsz,ok.noex,ok.exfs,ok.funs,ok.frf⟩
theorem Cx.Ok.unwish {X:Cx} {E:Value->Shared->Prop} (ok:(X.wish E).Ok):X.Ok :=
  ⟨ok.mod,ok.kind,ok.glob,ok.blt,ok.above,ok.inj,ok.has,ok.cab,ok.hd,ok.frames,ok.stk,ok.exf,ok.bs,ok.bsz,ok.noex,ok.exfs,ok.funs,ok.frf⟩
section
variable {X:Cx} {pins:List (Addr × Obj)} {σ:St} {H:Hp} {s:Shared} {E:Value->Shared->Prop}
theorem Inv.wish (I:Inv X pins σ H s) (E:Value->Shared->Prop):Inv (X.wish E) pins σ H s:=⟨I.ok.wish E,I.os,I.bare,I.base,I.loc,I.cell,I.free,I.freeC,I.pin,I.hok,I.len⟩
theorem Inv.unwish (I:Inv (X.wish E) pins σ H s):Inv X pins σ H s:=⟨I.ok.unwish,I.os,I.bare,I.base,I.loc,I.cell,I.free,I.freeC,I.pin,I.hok,I.len⟩
theorem SP.unwish {D:Ends} {f:Flow} {s':Shared} (h:SP (X.wish E) pins D f s'):SP X pins D f s':=by
  cases f with
  | next=>obtain ⟨σ',H',I,q⟩:=h; exact ⟨σ',H',I.unwish,q⟩
  | brk=>obtain ⟨σ',H',I,q⟩:=h; exact ⟨σ',H',I.unwish,q⟩
  | cont=>obtain ⟨σ',H',I,q⟩:=h; exact ⟨σ',H',I.unwish,q⟩
  | ret u=>obtain ⟨v,σ',H',I,r,q⟩:=h; exact ⟨v,σ',H',I.unwish,r,q⟩
theorem gE.nox {st:List Stmt} {t:TS} (h:gE X.nox st t):gE X st t:=fun pins s σ H D I hw =>
  wpAny_mono (h pins s σ H D (I.wish _) hw) (fun _ _ q=>q.unwish) fun _ _ z=>False.elim z
end
section
variable {X:Cx} {st:Stmt} {rest:List Stmt} {t u:TS} {e:Expr} {te:TE} {pos:Pos}
noncomputable def CH:TS:=fun D σ H=>D.nx σ H
noncomputable def DR (t u:TS):TS:=fun D σ H=>t { D with nx:=u D } σ H
theorem aN:gE X [] CH:=fun _ _ σ H _ I h=>wpAny_execs_nil ⟨σ,H,I,h⟩
theorem ag (h1:PS X st t) (h2:gE X rest u):gE X (st::rest) (DR t u):=by
  intro pins s σ H D I h
  refine wpAny_execs_cons (aI (h1 pins s σ H { D with nx:=u D } I h) fun f s1 q=>?_)
  cases f with
  | next =>
    obtain ⟨σ',H',I',q⟩:=q
    exact h2 pins s1 σ' H' D I' q
  | ret v=>exact q
  | brk=>exact q
  | cont=>exact q
theorem af (h1:PS X st t):gE X [st] t:=by
  intro pins s σ H D I h
  refine wpAny_execs_cons (aI (h1 pins s σ H D I h) fun f s1 q=>?_)
  cases f with
  | next=>exact wpAny_execs_nil q
  | ret v=>exact q
  | brk=>exact q
  | cont=>exact q
theorem Inv.quiet {pins:List (Addr × Obj)} {σ:St} {H:Hp} {s:Shared} (I:Inv X pins σ H s):interactive X.env=false:=by simp [interactive,I.ok.kind]
noncomputable def C9 (te:TE):TS:=fun D σ H=>te σ H fun _ H1=>D.nx σ H1
theorem aT (he:PE X e te) (hs:swapsWith e none pos.line X.env=pure false:=by rfl):PS X (.Expr e pos) (C9 te):=by
  intro pins s σ H D I h
  exact wpAny_Expr_any (aI (he pins s σ H _ I h) fun v s1 ⟨x,H1,I1,r1,q1⟩=>⟨σ,H1,I1,q1⟩) I.quiet hs
noncomputable def DH (te:TE):TS:=fun D σ H=>te σ H D.rt
theorem au (he:PE X e te):PS X (.Return (some e) pos) (DH te):=by
  intro pins s σ H D I h
  exact wpAny_Return_some (aI (he pins s σ H _ I h) fun v s1 ⟨x,H1,I1,r1,q1⟩=>⟨x,σ,H1,I1,r1,q1⟩)
noncomputable def DK (c:TT) (t u:TS):TS:=fun D σ H=>c σ H fun b H1=>if b=true then t D σ H1 else u D σ H1
theorem aW {c:Expr} {a b:List Stmt} {tc:TT} (hc:PT X c tc) (ha:gE X a t) (hb:gE X b u):PS X (.If c a b pos) (DK tc t u):=by
  intro pins s σ H D I h
  refine wpAny_If (aI (hc pins s σ H _ I h) fun d s1 ⟨H1,I1,q1⟩=>?_)
  cases d with
  | true=>exact ha pins s1 σ H1 D I1 q1
  | false=>exact hb pins s1 σ H1 D I1 q1
noncomputable def Bv:TS:=fun _ _ _=>False
theorem gP:PS X st Bv:=fun _ _ _ _ _ _ h=>h.elim
end
noncomputable abbrev TG:=V->St->Hp->(St->Hp->Prop)->Prop
noncomputable abbrev oI:=List V->St->Hp->(St->Hp->Prop)->Prop
def PG (X:Cx) (target:Expr) (t:TG):Prop :=
  ∀ (pins:List (Addr × Obj)) (s:Shared) (σ:St) (H:Hp) (v:V) (u:Value) (Q:St->Hp->Prop),Inv X pins σ H s->RelV v u->t v σ H Q ->
    wpAny (model X.prog X.w) X.A (assign target X.env u) (fun _ s'=>∃ σ' H',Inv X pins σ' H' s'/\Q σ' H') X.xe s
def wZ (X:Cx) (ts:List Expr) (t:oI):Prop :=
  ∀ (pins:List (Addr × Obj)) (s:Shared) (σ:St) (H:Hp) (vs:List V) (us:List Value) (Q:St->Hp->Prop),Inv X pins σ H s->Vals vs us->t vs σ H Q ->
    wpAny (model X.prog X.w) X.A (assignInOrder ((assignEach ts X.env).map (·.2)) us) (fun _ s'=>∃ σ' H',Inv X pins σ' H' s'/\Q σ' H') X.xe s
noncomputable abbrev x9:=V->V->V->Hp->(Hp->Prop)->Prop
def fH (X:Cx) (t:x9):Prop :=
  ∀ (pins:List (Addr × Obj)) (s:Shared) (σ:St) (H:Hp) (o i v:V) (ov iv u:Value) (Q:Hp->Prop),Inv X pins σ H s->RelV o ov->RelV i iv->RelV v u->t o i v H Q ->
    wpAny (model X.prog X.w) X.A (setItem ov iv u) (fun _ s'=>∃ H',Inv X pins σ H' s'/\Q H') X.xe s
noncomputable abbrev yY:=V->V->Hp->VK->Prop
def z7 (X:Cx) (op:Operator) (t:yY):Prop :=
  ∀ (pins:List (Addr × Obj)) (s:Shared) (σ:St) (H:Hp) (x y:V) (v u:Value) (Q:VK),Inv X pins σ H s->RelV x v->RelV y u->t x y H Q ->
    wpAny (model X.prog X.w) X.A (inplaceOp op v u) (EP X pins σ Q) X.xe s
section
variable {X:Cx} {pos:Pos}
noncomputable def yR (i:Nat):TG:=fun v σ H Q=>Q (σ.set i (some v)) H
theorem aM {i:Nat} {x:Str} (hN:X.N.Nodup) (hi:X.N[i]? = some x) (hx:Loc X.env.scope x) (hf:X.fn x=true\/X.env.scope.names.lookup x=some .local:=by first | exact .inl rfl | exact .inr rfl | assumption):PG X (.Name x pos) (yR i):=by
  intro pins s σ H v u Q I r h
  exact wpAny_assign_Name (lY I hN hi hx r (fun s' I'=>⟨_,H,I',h⟩) hf)
noncomputable def DM:oI:=fun vs σ H Q=>vs=[]/\Q σ H
noncomputable def CV (t:TG) (u:oI):oI:=fun vs σ H Q=>∃ v r,vs=v::r/\t v σ H fun σ' H'=>u r σ' H' Q
theorem eZ:wZ X [] DM:=by
  intro pins s σ H vs us Q I r h
  obtain ⟨e,h⟩:=h
  subst e
  cases r
  exact assignInOrder_nil ⟨σ,H,I,h⟩
theorem bG {e:Expr} {es:List Expr} {t:TG} {u:oI} (h1:PG X e t) (h2:wZ X es u)
    (hs:(assignEach (e::es) X.env).map (·.2)=assign e X.env::(assignEach es X.env).map (·.2):=by rfl):wZ X (e::es) (CV t u):=by
  intro pins s σ H vs us Q I r h
  obtain ⟨v,vr,e1,h⟩:=h
  subst e1
  cases r with
  | cons r rr =>
    rw [hs]
    refine assignInOrder_cons (aI (h1 pins s σ H _ _ _ I r h) fun _ s1 ⟨σ1,H1,I1,q1⟩=>?_)
    exact h2 pins s1 σ1 H1 _ _ Q I1 rr q1
noncomputable def Bq (K:PySem.W.Frag) (n:Nat) (t:oI):TG:=fun v σ H Q=>∃ a xs,v = .ref a/\a9 K H a xs/\xs.length=n/\t xs σ H Q
theorem iY {es:List Expr} {k:Nat} {t:oI} {n:Nat} (hc:X.calm=true) (h:wZ X es t)
    (hn:(assignEach es X.env).length=n:=by rfl) (hst:(assignEach es X.env).findIdx? (·.1)=none:=by rfl):PG X (.Tuple es k pos) (Bq X.K n t):=by
  intro pins s σ H v u Q I r hw
  obtain ⟨a,xs,e1,hq,hl,hw⟩:=hw
  subst e1
  cases r
  obtain ⟨its,rv,ht,hz⟩:=I.tuple hq
  refine assign_Tuple_tuple (I.ok.hd hc) ht (by simp [hn,<- hl,rv.length]) hst fun h' hx=>?_
  have I1:Inv X pins σ H { s with heap:=h' }:=I.kept (t':=s.toks) fun b o e=>hx b o (Nat.ne_of_lt (Heap.lt_size e)) e
  exact h pins _ σ H xs _ Q I1 (by simpa using rv) hw
noncomputable def DG (to ti:TE) (t:x9):TG:=fun v σ H Q=>to σ H fun o H1=>ti σ H1 fun i H2=>t o i v H2 fun H3=>Q σ H3
theorem wU {o i:Expr} {to ti:TE} {t:x9} (ho:PE X o to) (hi:PE X i ti) (hs:fH X t)
    (ha:∀ v,assign (.Subscript o i pos) X.env v=(do
      let ov <- holding [v] (eval o X.env)
      let iv <- holding [v,ov] (eval i X.env)
      standAt pos
      holding [v,ov,iv] (setItem ov iv v)
      release [v,ov,iv] []):=by intro _; rfl):PG X (.Subscript o i pos) (DG to ti t):=by
  intro pins s σ H v u Q I r h
  rw [ha]
  refine wpAny_bind (wpAny_holding (aI (ho pins s σ H _ I h) fun ov s1 ⟨x,H1,I1,r1,q1⟩=>?_))
  refine wpAny_bind (wpAny_holding (aI (hi pins s1 σ H1 _ I1 q1) fun iv s2 ⟨y,H2,I2,r2,q2⟩=>?_))
  refine wpAny_bind (wpAny_standAt (wpAny_bind (wpAny_holding (aI (hs pins s2 σ H2 x y v ov iv u _ I2 r1 r2 r q2) fun _ s3 ⟨H3,I3,q3⟩=>?_))))
  exact wpAny_release ⟨σ,H3,I3,q3⟩
noncomputable def AX (te:TE) (g:TG):TS:=fun D σ H=>te σ H fun x H1=>g x σ H1 D.nx
theorem qS {tg e:Expr} {te:TE} {g:TG} (he:PE X e te) (hg:PG X tg g) (hs:swapsWithSole [tg] e pos.line X.env=pure false:=by rfl) (hw:swappedStores [tg] e X.env=pure none:=by rfl)
    (h1:(assignEach [tg] X.env).map (·.2)=[assign tg X.env]:=by rfl):PS X (.Assign [tg] e pos) (AX te g):=by
  intro pins s σ H D I h
  refine wpAny_Assign_stores (aI (he pins s σ H _ I h) fun v s1 ⟨x,H1,I1,r1,q1⟩=>?_) hs hw
  rw [h1]
  exact aI (hg pins s1 σ H1 x v _ I1 r1 q1) fun _ s2 q=>q
theorem aB {i:Nat} {x:Str} {e:Expr} {te:TE} {pos':Pos} (hN:X.N.Nodup) (hi:X.N[i]? = some x) (hx:Loc X.env.scope x) (he:PE X e te) (hs:swapsWith e (some (.Name x pos')) pos.line X.env=pure false:=by rfl) (hf:X.fn x=true\/X.env.scope.names.lookup x=some .local:=by first | exact .inl rfl | exact .inr rfl | assumption) :
    PS X (.Assign [.Name x pos'] e pos) (AX te (yR i)):=by
  intro pins s σ H D I h
  refine wpAny_Assign_Name (aI (he pins s σ H _ I h) fun v s1 ⟨y,H1,I1,r1,q1⟩=>?_) hs
  exact lY I1 hN hi hx r1 (fun s2 I2=>⟨_,H1,I2,q1⟩) hf
noncomputable def DJ (i:Nat) (te:TE) (ti:yY):TS:=fun D σ H=>∃ x,σ[i]? = some (some x)/\te σ H fun y H1=>ti x y H1 fun z H2=>D.nx (σ.set i (some z)) H2
theorem qU {i:Nat} {x:Str} {e:Expr} {te:TE} {op:Operator} {ti:yY} {pos':Pos} (hN:X.N.Nodup) (hi:X.N[i]? = some x) (hx:Loc X.env.scope x) (he:PE X e te) (ho:z7 X op ti) (hf:X.fn x=true\/X.env.scope.names.lookup x=some .local:=by first | exact .inl rfl | exact .inr rfl | assumption) :
    PS X (.AugAssign (.Name x pos') op e pos) (DJ i te ti):=by
  intro pins s σ H D I h
  obtain ⟨v,e1,h⟩:=h
  obtain ⟨m,hn,hl⟩:=I.loc
  have AI:mx X.env.scope x:=by rcases hx with k | k; exact .inl k; exact .inr (.inl k)
  obtain ⟨u,r,l⟩:=hl i x v hi e1 AI
  refine wpAny_AugAssign_Name ?_
  have go:wpAny (model X.prog X.w) X.A (eval e X.env) (fun w s₂=>wpAny (model X.prog X.w) X.A (inplaceOp op u w) (fun r s₃=>wpAny (model X.prog X.w) X.A (storeName X.env x r) (fun _=>SP X pins D .next) X.xe s₃) X.xe s₂) X.xe s:=by
    refine aI (he pins s σ H _ I h) fun w s1 ⟨y,H1,I1,r1,q1⟩=>?_
    refine aI (ho pins s1 σ H1 v y u w _ I1 r r1 q1) fun z s2 ⟨zv,H2,I2,r2,q2⟩=>?_
    exact lY I2 hN hi hx r2 (fun s3 I3=>⟨_,H2,I3,q2⟩) hf
  rcases l with ⟨hk,hm⟩ | ⟨hk,c,hc,hcell⟩
  · exact wpAny_loadName_local I.ok.kind hk hn hm go
  · rcases hk with hk | hk
    · exact wpAny_loadName_cell I.ok.kind hk hc hcell go
    · rcases hx with k | k
      · have:X.env.scope.names.lookup x=some .free:=hk
        rw [k] at this; cases this
      · have:X.env.scope.names.lookup x=some .free:=hk
        rw [k] at this; cases this
noncomputable def Dm (f:Int->Int->Int):yY:=fun x y H Q=>∃ i j,x = .int i/\y = .int j/\Q (.int (f i j)) H
theorem xC:z7 X .Add (Dm fun i j=>i+j):=by
  intro pins s σ H x y v u Q I r1 r2 h
  obtain ⟨i,j,e1,e2,q⟩:=h
  subst e1; subst e2
  obtain ⟨t,rfl⟩:=r1
  obtain ⟨t',rfl⟩:=r2
  exact iadd_int ⟨.int _,H,I.tok _,⟨_,rfl⟩,q⟩
theorem Cd:z7 X .Sub (Dm fun i j=>i - j):=by
  intro pins s σ H x y v u Q I r1 r2 h
  obtain ⟨i,j,e1,e2,q⟩:=h
  subst e1; subst e2
  obtain ⟨t,rfl⟩:=r1
  obtain ⟨t',rfl⟩:=r2
  exact isub_int ⟨.int _,H,I.tok _,⟨_,rfl⟩,q⟩
end
section
variable {X:Cx} {pos:Pos}
noncomputable def AO (c:TT) (tb:TS):TS:=fun D σ H=>∃ W:Nat->St->Hp->Prop,(∃ m,W m σ H)/\∀ m σ H,W m σ H ->
  c σ H fun b H1=>if b=true then ∃ N:St->Hp->Prop,(∀ σ' H',N σ' H'->∃ m',m' < m/\W m' σ' H')/\tb { D with nx:=N,ct:=N,bk:=D.nx } σ H1 else D.nx σ H1
theorem p8 {c:Expr} {body:List Stmt} {tc:TT} {tb:TS} (hp:PassesOwn (model X.prog X.w) X.A X.env X.xe) (hc:PT X c tc) (hb:gE X body tb):PS X (.While c body [] pos) (AO tc tb):=by
  intro pins s σ H D I h
  obtain ⟨W,⟨m0,w0⟩,turn⟩:=h
  refine wpAny_While (codeAny_whileLoop (fun n s'=>∃ σ' H',Inv X pins σ' H' s'/\W n σ' H') ?_ m0 ⟨σ,H,I,w0⟩)
  rintro n s1 ⟨σ1,H1,I1,w1⟩
  refine wpAny_passesOwn hp (aI (hc pins s1 σ1 H1 _ I1 (turn n σ1 H1 w1)) fun b s2 ⟨H2,I2,q2⟩=>?_)
  cases b with
  | true =>
    obtain ⟨N,hN,q2⟩:=q2
    rw [if_pos rfl]
    refine wpAny_passesOwn hp (aI (hb pins s2 σ1 H2 _ I2 q2) fun f s3 q3=>?_)
    cases f with
    | next =>
      obtain ⟨σ3,H3,I3,n3⟩:=q3
      obtain ⟨m',hm,w3⟩:=hN σ3 H3 n3
      exact ⟨m',hm,σ3,H3,I3,w3⟩
    | cont =>
      obtain ⟨σ3,H3,I3,n3⟩:=q3
      obtain ⟨m',hm,w3⟩:=hN σ3 H3 n3
      exact ⟨m',hm,σ3,H3,I3,w3⟩
    | brk=>exact q3
    | ret v=>exact q3
  | false =>
    rw [if_neg Bool.false_ne_true]
    exact wpAny_execs_nil ⟨σ1,H2,I2,q2⟩
end
structure It where
  go:Nat->Hp->Prop
  yld:Nat->Hp->V->Hp->Prop
  stop:Nat->Hp->Prop
def gY (X:Cx) (pins:List (Addr × Obj)) (H:Hp) (b:Addr):Prop :=
  H b=none/\b≠X.env.locals/\b∉X.fs/\(b∈X.ex\/X.s₀.heap.objs.size<=b)/\(∀ x c,X.env.cells.lookup x=some c->c≠b)/\∀ p∈X.pn++pins,p.1≠b
theorem Inv.fpOk {X:Cx} {pins:List (Addr × Obj)} {σ:St} {H H':Hp} {s:Shared} {b:Addr} (I:Inv X pins σ H s) (hb:s.heap.objs.size<=b) (hn:H' b=none):gY X pins H' b:=by
  refine ⟨hn,Nat.ne_of_gt (Nat.lt_of_lt_of_le I.lt hb),I.nofs hb,.inr (Nat.le_trans I.sz hb),fun x c e z=>?_,fun p hp z=>?_⟩
  · obtain ⟨v,q⟩:=I.cell x c e
    exact absurd (Nat.lt_of_lt_of_le q.lt (by rw [z]; exact hb)) (Nat.lt_irrefl _)
  · exact absurd (Nat.lt_of_lt_of_le (Heap.lt_size (I.pin p hp).1) (by rw [z]; exact hb)) (Nat.lt_irrefl _)
structure Turn (P:Program) (w:World) (K:PySem.W.Frag) (tg:Expr) (J:It) (fp:List Addr) (it:Addr) (tn:Nat->Heap->Prop):Prop where
  mem:it∈fp
  obj:∀ i h,tn i h->∀ b∈fp,∃ o,h.get? b=some o/\∀ v,o.data≠.cell v
  keep:∀ i h h',tn i h->(∀ b∈fp,∀ o,h.get? b=some o->h'.get? b=some o)->tn i h'
  item:∀ (X:Cx),X.prog=P->X.w=w->X.K=K->X.calm=true->∀ (i:Nat) (pins:List (Addr × Obj)) (s:Shared) (σ:St) (H:Hp) (E:Value->Shared->Prop),Inv X pins σ H s->(∀ b∈fp,gY X pins H b)->tn i s.heap->J.go i H ->
    wpAny (model P w) X.A (pyNext (.ref it)) (fun r s1=>∃ u,r=some u /\
      wpAny (model P w) X.A (letOwnedTupleGo tg (.ref it) u) (fun _ s2=>∃ x H',Inv X pins σ H' s2/\RelV x u/\J.yld i H x H'/\tn (i+1) s2.heap/\∀ b∈fp,H' b=none) E s1) E s
  done:∀ (X:Cx),X.prog=P->X.w=w->X.K=K->X.calm=true->∀ (i:Nat) (pins:List (Addr × Obj)) (s:Shared) (σ:St) (H:Hp) (E:Value->Shared->Prop),Inv X pins σ H s->(∀ b∈fp,gY X pins H b)->tn i s.heap->J.stop i H ->
    wpAny (model P w) X.A (pyNext (.ref it)) (fun r s1=>r=none/\Inv X pins σ H s1) E s
  self:∀ (A:Around) (i:Nat) (s:Shared) (Q:Value->Shared->Prop) (E:Value->Shared->Prop),tn i s.heap->Q (.ref it) s->wpAny (model P w) A (pyIter (.ref it)) Q E s
noncomputable abbrev TI:=St->Hp->(It->Hp->Prop)->Prop
def y6 (X:Cx) (pins:List (Addr × Obj)) (σ:St) (tg:Expr) (R:It->Hp->Prop) (itv:Value) (s2:Shared):Prop :=
  ∃ (it:Addr) (fp:List Addr) (tn:Nat->Heap->Prop) (J:It) (H':Hp),itv = .ref it/\Inv X pins σ H' s2/\Turn X.prog X.w X.K tg J fp it tn/\tn 0 s2.heap/\(∀ b∈fp,gY X pins H' b)/\R J H'
def PI (X:Cx) (tg iter:Expr) (wi:TI):Prop :=
  ∀ (pins:List (Addr × Obj)) (s:Shared) (σ:St) (H:Hp) (R:It->Hp->Prop),Inv X pins σ H s->wi σ H R ->
    wpAny (model X.prog X.w) X.A (eval iter X.env) (fun v s1=>wpAny (model X.prog X.w) X.A (pyIter v) (y6 X pins σ tg R) X.xe s1) X.xe s
theorem mU {M:Model} {A:Around} {E:Value->Shared->Prop} {s:Shared} {tg:Expr} {it:Addr} {u:Value} {o:Obj} {n:String} {vs:Array Value} {Q:Unit->Shared->Prop} (ho:s.heap.get? it=some o) (hc:o.cls = .type n) (hd:o.data = .fields vs)
    (hn:["enumerate","zip","dict_itemiterator","dict_reverseitemiterator","odict_iterator","itertools.zip_longest","itertools.pairwise"].contains n=false) (hQ:Q () s):wpAny M A (letOwnedTupleGo tg (.ref it) u) Q E s:=by
  unfold letOwnedTupleGo
  cases tg<;>first
    | exact wpAny_pure hQ
    | (cases u<;>first
        | exact wpAny_pure hQ
        | (refine wpAny_bind (wpAny_load ho ?_)
           rw [hc,hd]
           show wpAny M A (if (["enumerate","zip","dict_itemiterator","dict_reverseitemiterator","odict_iterator","itertools.zip_longest","itertools.pairwise"].contains n&&vs[0]? == some (rawInt _))=true then _ else _) Q E s
           rw [if_neg (by intro h; rw [hn,Bool.false_and] at h; cases h)]
           exact wpAny_pure hQ))
noncomputable def qW (K:PySem.W.Frag) (a:Addr):It :=
  ⟨fun i H=>∃ xs x,ar K H a xs/\xs[i]? = some x,fun i H x H'=>H'=H/\∀ xs,ar K H a xs->xs[i]? = some x,fun i H=>∃ xs,ar K H a xs/\xs.length<=i⟩
noncomputable def og (lo:Int) (n:Nat):It:=⟨fun i _=>i < n,fun i H x H'=>H'=H/\x = .int (lo+i),fun i _=>n<=i⟩
theorem we {P:Program} {w:World} {K:PySem.W.Frag} {tg:Expr} (a it:Addr):Turn P w K tg (qW K a) [it] it (fun i h=>h.IsListIter it a i) where
  mem:=by simp
  obj:=fun i h st b hb=>by
    have e:b=it:=by simpa using hb
    subst e
    obtain ⟨o,e,c,d⟩:=st
    exact ⟨o,e,fun v z=>by rw [d] at z; cases z⟩
  keep:=fun i h h' st k=>st.at fun o e=>k it (by simp) o e
  item:=by
    intro X hP hw hK hc i pins s σ H E I hf st hg
    subst hP hw hK
    obtain ⟨xs,x,hq,hx⟩:=hg
    obtain ⟨its,rv,p,hz⟩:=I.list hq
    obtain ⟨u,hu,ru⟩:=rv.get hx
    obtain ⟨f0,f1,f2,f3,f4,f5⟩:=hf it (by simp)
    refine wpAny_pyNext_list_item st p.isList (x:=u) (by simpa using hu) fun h' st' sb=>?_
    have I1:Inv X pins σ H { s with heap:=h' }:=I.turned (t':=s.toks) (fun b o hb e=>(sb.2 b hb).trans e) f0 f1 f3 f4 f5
    obtain ⟨o,e,c,d⟩:=id st'
    exact ⟨u,rfl,mU (s:={ s with heap:=h' }) e c d (by decide) ⟨x,H,I1,ru,⟨rfl,fun ys hy=>by rw [I.list_inj hy hq]; exact hx⟩,st',fun b hb=>(hf b hb).1⟩⟩
  done:=by
    intro X hP hw hK hc i pins s σ H E I hf st hg
    subst hP hw hK
    obtain ⟨xs,hq,hx⟩:=hg
    obtain ⟨its,rv,p,hz⟩:=I.list hq
    obtain ⟨f0,f1,f2,f3,f4,f5⟩:=hf it (by simp)
    have hl:=rv.length
    exact wpAny_pyNext_list_end (I.ok.hd hc) st p.isList (by simp; omega) fun h' eb=>⟨rfl,I.turned (t':=s.toks) (fun b o hb e=>eb b o hb e) f0 f1 f3 f4 f5⟩
  self:=fun _ _ _ _ _ st h=>wpAny_pyIter_listiter st h
theorem vM {P:Program} {w:World} {K:PySem.W.Frag} {tg:Expr} (it:Addr) (lo:Int) (n:Nat):Turn P w K tg (og lo n) [it] it (fun i h=>IsRangeIter h it (lo+(i:Nat)*1) ((n:Int) - (i:Nat)) 1) where
  mem:=by simp
  obj:=fun i h st b hb=>by
    have e:b=it:=by simpa using hb
    subst e
    exact ⟨_,st,fun v z=>by
      have z':Data.fields _=Data.cell v:=z
      cases z'⟩
  keep:=fun i h h' st k=>k it (by simp) _ st
  item:=by
    intro X hP hw hK hc i pins s σ H E I hf st hg
    subst hP hw hK
    obtain ⟨f0,f1,f2,f3,f4,f5⟩:=hf it (by simp)
    have W:=Walks.range (prog:=X.prog) (w:=X.w) (I.ok.hd hc) it lo 1 n
    refine W.item i s _ _ hg st fun v h' tk hv st' kk=>?_
    obtain ⟨t,rfl⟩:=hv
    have I1:Inv X pins σ H { s with heap:=h',toks:=tk }:=I.turned (fun b o hb e=>kk b o (by simpa using hb) e) f0 f1 f3 f4 f5
    refine ⟨_,rfl,mU (s:={ s with heap:=h',toks:=tk }) (n:="range_iterator") st' rfl rfl (by decide) ⟨.int (lo+i),H,I1,⟨t,?_⟩,⟨rfl,rfl⟩,st',fun b hb=>(hf b hb).1⟩⟩
    rw [Int.mul_one]
  done:=by
    intro X hP hw hK hc i pins s σ H E I hf st hg
    subst hP hw hK
    obtain ⟨f0,f1,f2,f3,f4,f5⟩:=hf it (by simp)
    exact wpAny_pyNext_range_end (I.ok.hd hc) st (by have:n<=i:=hg; omega) fun h' eb=>⟨rfl,I.turned (t':=s.toks) (fun b o hb e=>eb b o hb e) f0 f1 f3 f4 f5⟩
  self:=fun _ _ _ _ _ st h=>wpAny_pyIter_rangeiter st h
end L2
namespace L2
open PySem PySem.Spec PyProof.Rows
section
variable {X:Cx} {tg:Expr}
noncomputable def CW (K:PySem.W.Frag) (tl:TE):TI:=fun σ H R=>tl σ H fun x H1=>∃ a,x = .ref a/\(∃ xs,ar K H1 a xs)/\R (qW K a) H1
theorem dI {l:Expr} {tl:TE} (hl:PE X l tl):PI X tg l (CW X.K tl):=by
  intro pins s σ H R I h
  refine aI (hl pins s σ H _ I h) fun v s1 ⟨x,H1,I1,r1,q1⟩=>?_
  obtain ⟨a,e,⟨xs,hq⟩,q⟩:=q1
  subst e
  cases r1
  obtain ⟨its,rv,p,hz⟩:=I1.list hq
  refine wpAny_pyIter_list p.isList ?_
  refine ⟨s1.heap.objs.size,[s1.heap.objs.size],_,_,H1,rfl,I1.kept (t':=s1.toks) fun b o e=>Heap.get?_push_of_some _ e,we a _,⟨_,Heap.get?_push_size _ rfl,rfl,rfl⟩,fun b hb=>?_,q⟩
  have e:b=s1.heap.objs.size:=by simpa using hb
  subst e
  exact I1.fpOk (Nat.le_refl _) (I1.hok.fresh (Nat.le_refl _))
theorem so {pins:List (Addr × Obj)} {σ:St} {H:Hp} {s:Shared} {R:It->Hp->Prop} {E:Value->Shared->Prop} {lo hi:Int} {t u v:Tok} {tk:Nat} (I:Inv X pins σ H s) (h1 : -(2 ^ 62)<=lo) (h2:lo < 2 ^ 62) (h3 : -(2 ^ 62)<=hi) (h4:hi < 2 ^ 62)
    (q:R (og lo (hi - lo).toNat) H):wpAny (model X.prog X.w) X.A (pyIter (.ref s.heap.objs.size)) (y6 X pins σ tg R) E { s with heap:=s.heap.push { cls:=.type "range",data:=.fields #[.int lo t,.int hi u,.int 1 v] },toks:=tk }:=by
  refine wpAny_pyIter_range (IsRange.new ..) (small_one h1 h2 h3 h4) ?_
  have I1:Inv X pins σ H { s with heap:=s.heap.push { cls:=.type "range",data:=.fields #[.int lo t,.int hi u,.int 1 v] },toks:=tk }:=I.kept fun b o e=>Heap.get?_push_of_some _ e
  refine ⟨(s.heap.push { cls:=.type "range",data:=.fields #[.int lo t,.int hi u,.int 1 v] }).objs.size,[(s.heap.push { cls:=.type "range",data:=.fields #[.int lo t,.int hi u,.int 1 v] }).objs.size],_,_,H,rfl,
    I1.kept (t':=tk) fun b o e=>Heap.get?_push_of_some _ e,vM _ lo (hi - lo).toNat,?_,fun b hb=>?_,q⟩
  · have e1:lo+((0:Nat):Int)*1=lo:=by simp
    have e2:(((hi - lo).toNat:Nat):Int) - ((0:Nat):Int)=Builtin.Range.rangeSize lo hi 1:=by rw [rangeSize_one]; split<;>omega
    show IsRangeIter _ _ (lo+((0:Nat):Int)*1) ((((hi - lo).toNat:Nat):Int) - ((0:Nat):Int)) 1
    rw [e1,e2]
    exact Heap.get?_push_size _ rfl
  · have e:b=(s.heap.push { cls:=.type "range",data:=.fields #[.int lo t,.int hi u,.int 1 v] }).objs.size:=by simpa using hb
    subst e
    exact I1.fpOk (Nat.le_refl _) (I1.hok.fresh (Nat.le_refl _))
noncomputable def CO (ta:TA):TI:=fun σ H R=>ta σ H fun vs H1=>∃ j:Int,vs=[.int j]/\-(2 ^ 62)<=j/\j < 2 ^ 62/\R (og 0 j.toNat) H1
noncomputable def Co (ta:TA):TI:=fun σ H R=>ta σ H fun vs H1=>∃ i j:Int,vs=[.int i,.int j]/\(-(2 ^ 62)<=i/\i < 2 ^ 62/\-(2 ^ 62)<=j/\j < 2 ^ 62)/\R (og i (j - i).toNat) H1
theorem dy {a:Expr} {ta:TA} {p pos:Pos} (hg:Gl X "range") (hm:X.mg "range" = none) (ha:PA X [a] ta) (hs:starEach [a] X.env=[(false,eval a X.env)]:=by rfl):PI X tg (.Call (.Name "range" p) [a] [] pos) (CO ta):=by
  intro pins s σ H R I h
  refine Call_ (dY I hg hm boot_range (PyProof.Rows.callWith_type1 (aI (ha pos pins s σ H _ I h) fun us s1 ⟨vs,H1,I1,r1,q1⟩=>?_) hs rfl))
  obtain ⟨j,e,q1,q2,q⟩:=q1
  subst e
  cases r1 with
  | cons r rr =>
    cases rr
    obtain ⟨t,rfl⟩:=r
    exact call_range_1 (so I1 (by omega) (by omega) q1 q2 (by simpa using q))
theorem xx {a b:Expr} {ta:TA} {p pos:Pos} (hg:Gl X "range") (hm:X.mg "range" = none) (ha:PA X [a,b] ta) (hs:starEach [a,b] X.env=[(false,eval a X.env),(false,eval b X.env)]:=by rfl) (hs2:starEach [b] X.env=[(false,eval b X.env)]:=by rfl) :
    PI X tg (.Call (.Name "range" p) [a,b] [] pos) (Co ta):=by
  intro pins s σ H R I h
  refine Call_ (dY I hg hm boot_range (PyProof.Rows.callWith_type1 (aI (ha pos pins s σ H _ I h) fun us s1 ⟨vs,H1,I1,r1,q1⟩=>?_) (by rw [hs,hs2]) (by rw [hs2]; rfl)))
  obtain ⟨i,j,e,⟨q1,q2,q3,q4⟩,q⟩:=q1
  subst e
  cases r1 with
  | cons r rr =>
    cases rr with
    | cons r' rr =>
      cases rr
      obtain ⟨t,rfl⟩:=r
      obtain ⟨t',rfl⟩:=r'
      exact call_range_2 (so I1 q1 q2 q3 q4 q)
noncomputable def Dx (wi:TI) (g:TG) (tb:TS):TS:=fun D σ H=>wi σ H fun J H1=>∃ W:Nat->Nat->St->Hp->Prop,(∃ m,W 0 m σ H1)/\∀ i m σ H,W i m σ H ->
  (J.stop i H/\D.nx σ H)\/(J.go i H/\∃ N:St->Hp->Prop,(∀ σ' H',N σ' H'->∃ m',m' < m/\W (i+1) m' σ' H')/\∀ x H',J.yld i H x H'->g x σ H' fun σ2 H2=>tb { D with nx:=N,ct:=N,bk:=D.nx } σ2 H2)
noncomputable def i0 (fp:List Addr) (h:Heap):List (Addr × Obj):=fp.filterMap fun b=>(h.get? b).map fun o=>(b,o)
theorem gu {fp:List Addr} {h:Heap} {b:Addr} {o:Obj} (hb:b∈fp) (e:h.get? b=some o):(b,o)∈i0 fp h:=List.mem_filterMap.mpr ⟨b,hb,by rw [e]; rfl⟩
theorem wq {fp:List Addr} {h:Heap} {p:Addr × Obj} (hp:p∈i0 fp h):p.1∈fp/\h.get? p.1=some p.2:=by
  obtain ⟨b,hb,e⟩:=List.mem_filterMap.mp hp
  cases q:h.get? b with
  | none=>rw [q] at e; cases e
  | some o =>
    rw [q] at e
    have e':(b,o)=p:=Option.some.inj e
    subst e'
    exact ⟨hb,q⟩
theorem Inv.pinned {pins:List (Addr × Obj)} {σ:St} {H:Hp} {s:Shared} {fp:List Addr} (I:Inv X pins σ H s) (hf:∀ b∈fp,gY X pins H b) (ho:∀ b∈fp,∃ o,s.heap.get? b=some o/\∀ v,o.data≠.cell v):Inv X (pins++i0 fp s.heap) σ H s :=
  I.pins_of fun p hp=>(List.mem_append.mp hp).elim (fun z=>I.pin p (List.mem_append_right _ z)) fun z=>by
    obtain ⟨hb,e⟩:=wq z
    obtain ⟨f0,f1,f2,_⟩:=hf p.1 hb
    obtain ⟨o,e',d⟩:=ho p.1 hb
    rw [e] at e'; cases e'
    exact ⟨e,f0,f1,f2,d⟩
theorem Inv.unpinned {pins pl:List (Addr × Obj)} {σ:St} {H:Hp} {s:Shared} (I:Inv X (pins++pl) σ H s):Inv X pins σ H s:=I.pins_of fun p hp=>I.pin p (List.mem_append_right _ (List.mem_append_left _ hp))
theorem cX {iter:Expr} {body:List Stmt} {wi:TI} {g:TG} {tb:TS} {pos:Pos} (hp:PassesOwn (model X.prog X.w) X.A X.env X.xe) (hc:X.calm=true) (hi:PI X tg iter wi) (hg:PG X tg g) (hb:gE X body tb)
    (hs:∀ x,foldedSetIterable iter X.env x=pure x:=by intro _; rfl):PS X (.For tg iter body [] pos) (Dx wi g tb):=by
  intro pins s σ H D I h
  refine wpAny_For (aI (hi pins s σ H _ I h) fun v s1 h1=>aI h1 fun itv s2 h2=>?_) hs
  obtain ⟨it,fp,tn,J,H2,e,I2,T,st2,f2,W,⟨m0,w0⟩,turn⟩:=h2
  subst e
  -- what stays true of the iterator's objects through the loop
  have stat:∀ {H':Hp},(∀ b∈fp,H' b=none)->∀ b∈fp,gY X pins H' b:=fun hn b hb=>⟨hn b hb,(f2 b hb).2⟩
  refine codeAny_forLoop_any (fun n s'=>∃ i σ' H',Inv X pins σ' H' s'/\tn i s'.heap/\(∀ b∈fp,H' b=none)/\W i n σ' H') ?_ m0 ⟨0,σ,H2,I2,st2,fun b hb=>(f2 b hb).1,w0⟩
  rintro n s3 ⟨i,σ3,H3,I3,st3,fr3,w3⟩
  rcases turn i n σ3 H3 w3 with ⟨stop,qn⟩ | ⟨go,N,hN,step⟩
  · refine wpAny_passesOwn hp (aI (T.done X rfl rfl rfl hc i pins s3 σ3 H3 X.xe I3 (stat fr3) st3 stop) fun r s4 ⟨hr,I4⟩=>?_)
    subst hr
    exact wpAny_execs_nil ⟨σ3,H3,I4,qn⟩
  · refine wpAny_passesOwn hp (aI (T.item X rfl rfl rfl hc i pins s3 σ3 H3 X.xe I3 (stat fr3) st3 go) fun r s4 ⟨u,hr,h4⟩=>?_)
    subst hr
    refine wpAny_passesOwn hp (aI h4 fun _ s5 ⟨x,H5,I5,r5,y5,st5,fr5⟩=>?_)
    have I5':=I5.pinned (stat fr5) (T.obj _ _ st5)
    refine wpAny_passesOwn hp (aI (hg _ s5 σ3 H5 x u _ I5' r5 (step x H5 y5)) fun _ s6 ⟨σ6,H6,I6,q6⟩=>?_)
    refine wpAny_passesOwn hp (aI (hb _ s6 σ6 H6 _ I6 q6) fun f s7 q7=>?_)
    have again:∀ {σ7:St} {H7:Hp},Inv X (pins++i0 fp s5.heap) σ7 H7 s7->N σ7 H7->∃ m,m < n/\∃ i σ' H',Inv X pins σ' H' s7/\tn i s7.heap/\(∀ b∈fp,H' b=none)/\W i m σ' H':=fun {σ7 H7} I7 n7=>by
      obtain ⟨m',hm,w7⟩:=hN σ7 H7 n7
      refine ⟨m',hm,i+1,σ7,H7,I7.unpinned,T.keep _ _ _ st5 fun b hb o e=>(I7.pin (b,o) (List.mem_append_right _ (List.mem_append_right _ (gu hb e)))).1,fun b hb=>?_,w7⟩
      obtain ⟨o,e,d⟩:=T.obj _ _ st5 b hb
      exact (I7.pin (b,o) (List.mem_append_right _ (List.mem_append_right _ (gu hb e)))).2.1
    cases f with
    | next=>obtain ⟨σ7,H7,I7,n7⟩:=q7; exact again I7 n7
    | cont=>obtain ⟨σ7,H7,I7,n7⟩:=q7; exact again I7 n7
    | brk=>obtain ⟨σ7,H7,I7,q7⟩:=q7; exact ⟨σ7,H7,I7.unpinned,q7⟩
    | ret v=>obtain ⟨x7,σ7,H7,I7,r7,q7⟩:=q7; exact ⟨x7,σ7,H7,I7.unpinned,r7,q7⟩
end
theorem iD {K:PySem.W.Frag} {a:Addr} {xs:List V} {g:TG} {tb:TS} {D:Ends} {σ:St} {H:Hp} (Pv:Nat->St->Hp->Prop) (h0:Pv 0 σ H) (hl:∀ i σ H,i<=xs.length->Pv i σ H->ar K H a xs)
    (hs:∀ i x σ H,xs[i]? = some x->Pv i σ H->g x σ H fun σ2 H2=>tb { D with nx:=Pv (i+1),ct:=Pv (i+1),bk:=D.nx } σ2 H2) (hd:∀ σ H,Pv xs.length σ H->D.nx σ H) :
    ∃ W:Nat->Nat->St->Hp->Prop,(∃ m,W 0 m σ H)/\∀ i m σ H,W i m σ H ->
      ((qW K a).stop i H/\D.nx σ H)\/((qW K a).go i H/\∃ N:St->Hp->Prop,(∀ σ' H',N σ' H'->∃ m',m' < m/\W (i+1) m' σ' H')/\∀ x H',(qW K a).yld i H x H'->g x σ H' fun σ2 H2=>tb { D with nx:=N,ct:=N,bk:=D.nx } σ2 H2):=by
  refine ⟨fun i m σ H=>m=xs.length - i/\i<=xs.length/\Pv i σ H,⟨xs.length,by simp,Nat.zero_le _,h0⟩,?_⟩
  rintro i m σ H ⟨rfl,hi,p⟩
  have q:=hl i σ H hi p
  by_cases hlt:i < xs.length
  · refine .inr ⟨⟨xs,xs[i],q,by simp [hlt]⟩,Pv (i+1),fun σ' H' p'=>⟨xs.length - (i+1),by omega,rfl,hlt,p'⟩,fun x H' y=>?_⟩
    obtain ⟨e,y⟩:=y
    subst e
    exact hs i x σ _ (y xs q) p
  · have e:i=xs.length:=by omega
    subst e
    exact .inl ⟨⟨xs,q,Nat.le_refl _⟩,hd σ H p⟩
theorem eD {lo:Int} {n:Nat} {g:TG} {tb:TS} {D:Ends} {σ:St} {H:Hp} (Pv:Nat->St->Hp->Prop) (h0:Pv 0 σ H)
    (hs:∀ i σ H,i < n->Pv i σ H->g (.int (lo+i)) σ H fun σ2 H2=>tb { D with nx:=Pv (i+1),ct:=Pv (i+1),bk:=D.nx } σ2 H2) (hd:∀ σ H,Pv n σ H->D.nx σ H) :
    ∃ W:Nat->Nat->St->Hp->Prop,(∃ m,W 0 m σ H)/\∀ i m σ H,W i m σ H ->
      ((og lo n).stop i H/\D.nx σ H)\/((og lo n).go i H/\∃ N:St->Hp->Prop,(∀ σ' H',N σ' H'->∃ m',m' < m/\W (i+1) m' σ' H')/\∀ x H',(og lo n).yld i H x H'->g x σ H' fun σ2 H2=>tb { D with nx:=N,ct:=N,bk:=D.nx } σ2 H2):=by
  refine ⟨fun i m σ H=>m=n - i/\i<=n/\Pv i σ H,⟨n,by simp,Nat.zero_le _,h0⟩,?_⟩
  rintro i m σ H ⟨rfl,hi,p⟩
  by_cases hlt:i < n
  · refine .inr ⟨hlt,Pv (i+1),fun σ' H' p'=>⟨n - (i+1),by omega,rfl,hlt,p'⟩,fun x H' y=>?_⟩
    obtain ⟨e,y⟩:=y
    subst e y
    exact hs i σ _ hlt p
  · have e:i=n:=by omega
    subst e
    exact .inl ⟨Nat.le_refl _,hd σ H p⟩
end L2
namespace L2
open PySem PySem.Spec PyProof.Rows
noncomputable abbrev R2:=V->V->Hp->VK->Prop
def cQ (X:Cx) (f:Value->Value->Sem Value) (r:R2):Prop :=
  ∀ (pins:List (Addr × Obj)) (s:Shared) (σ:St) (H:Hp) (x y:V) (v u:Value) (Q:VK),Inv X pins σ H s->RelV x v->RelV y u->r x y H Q ->
    wpAny (model X.prog X.w) X.A (f v u) (EP X pins σ Q) X.xe s
def B1 (X:Cx) (f:Value->Sem Value) (r:V->Hp->VK->Prop):Prop :=
  ∀ (pins:List (Addr × Obj)) (s:Shared) (σ:St) (H:Hp) (x:V) (v:Value) (Q:VK),Inv X pins σ H s->RelV x v->r x H Q ->
    wpAny (model X.prog X.w) X.A (f v) (EP X pins σ Q) X.xe s
def eN (X:Cx) (f:Value) (r:List V->Hp->VK->Prop):Prop :=
  ∀ (pins:List (Addr × Obj)) (s:Shared) (σ:St) (H:Hp) (xs:List V) (us:List Value) (Q:VK),Inv X pins σ H s->Vals xs us->r xs H Q ->
    wpAny (model X.prog X.w) X.A (call f us) (EP X pins σ Q) X.xe s
noncomputable def yV (r:R2) (ta tb:TE):TE:=fun σ H Q=>ta σ H fun x H1=>tb σ H1 fun y H2=>r x y H2 Q
noncomputable def DV (r:V->Hp->VK->Prop) (ta:TE):TE:=fun σ H Q=>ta σ H fun x H1=>r x H1 Q
noncomputable def rI (C:Int->Int->Prop) (g:Int->Int->V):R2:=fun x y H Q=>∃ i j,x = .int i/\y = .int j/\C i j/\Q (g i j) H
noncomputable def qX (g:Int->Int->V):R2:=fun x y H Q=>∃ i j,x = .int i/\y = .int j/\Q (g i j) H
noncomputable def rU (g:Int->V):V->Hp->VK->Prop:=fun x H Q=>∃ i,x = .int i/\Q (g i) H
section
variable {X:Cx} {a b c:Expr} {ta tb tc:TE} {pos:Pos}
theorem yB (ha:PE X a ta) (hb:PE X b tb) {pins:List (Addr × Obj)} {s:Shared} {σ:St} {H:Hp} {R:V->V->Hp->Prop} (I:Inv X pins σ H s)
    (h:ta σ H fun x H1=>tb σ H1 fun y H2=>R x y H2) {Q:Value->Shared->Prop} {f:Value->Value->Sem Value}
    (hf:∀ v u s2 x y H2,Inv X pins σ H2 s2->RelV x v->RelV y u->R x y H2->wpAny (model X.prog X.w) X.A (f v u) Q X.xe s2) :
    wpAny (model X.prog X.w) X.A (eval a X.env) (fun v s₁=>wpAny (model X.prog X.w) X.A (eval b X.env) (fun u s₂=>wpAny (model X.prog X.w) X.A (f v u) Q X.xe s₂) X.xe s₁) X.xe s:=by
  refine aI (ha pins s σ H _ I h) fun v s1 ⟨x,H1,I1,r1,q1⟩=>?_
  refine aI (hb pins s1 σ H1 _ I1 q1) fun u s2 ⟨y,H2,I2,r2,q2⟩=>?_
  exact hf v u s2 x y H2 I2 r1 r2 q2
theorem aw {op:Operator} {r:R2} (ho:cQ X (binaryOp op) r) (ha:PE X a ta) (hb:PE X b tb):PE X (.BinOp a op b pos) (yV r ta tb):=by
  intro pins s σ H Q I h
  exact wpAny_BinOp (yB ha hb I h fun v u s2 x y H2 I2 rx ry q=>ho pins s2 σ H2 x y v u Q I2 rx ry q)
theorem um {op:UnaryOp} {r:V->Hp->VK->Prop} (ho:B1 X (unaryOp op) r) (ha:PE X a ta):PE X (.UnaryOp op a pos) (DV r ta):=by
  intro pins s σ H Q I h
  exact UnaryOp_ (aI (ha pins s σ H _ I h) fun v s1 ⟨x,H1,I1,r1,q1⟩=>ho pins s1 σ H1 x v Q I1 r1 q1)
theorem Bz {f:Value->Value->Sem Value} {C:Int->Int->Prop} {g:Int->Int->Int}
    (rule:∀ (i j:Int) (t u:Tok) (s:Shared) (Q:Value->Shared->Prop) (E:Value->Shared->Prop),C i j->Q (.int (g i j) s.toks) { s with toks:=s.toks+1 }->wpAny (model X.prog X.w) X.A (f (.int i t) (.int j u)) Q E s) :
    cQ X f (rI C fun i j=>.int (g i j)):=by
  intro pins s σ H x y v u Q I rx ry h
  obtain ⟨i,j,rfl,rfl,hc,q⟩:=h
  obtain ⟨t,rfl⟩:=rx
  obtain ⟨t',rfl⟩:=ry
  exact rule i j t t' s _ _ hc ⟨.int (g i j),H,I.tok _,⟨_,rfl⟩,q⟩
theorem Bi {f:Value->Value->Sem Value} {g:Int->Int->Int}
    (rule:∀ (i j:Int) (t u:Tok) (s:Shared) (Q:Value->Shared->Prop) (E:Value->Shared->Prop),Q (.int (g i j) s.toks) { s with toks:=s.toks+1 }->wpAny (model X.prog X.w) X.A (f (.int i t) (.int j u)) Q E s) :
    cQ X f (qX fun i j=>.int (g i j)):=by
  intro pins s σ H x y v u Q I rx ry h
  obtain ⟨i,j,rfl,rfl,q⟩:=h
  obtain ⟨t,rfl⟩:=rx
  obtain ⟨t',rfl⟩:=ry
  exact rule i j t t' s _ _ ⟨.int (g i j),H,I.tok _,⟨_,rfl⟩,q⟩
theorem yc {f:Value->Value->Sem Value} {g:Int->Int->Bool}
    (rule:∀ (i j:Int) (t u:Tok) (s:Shared) (Q:Value->Shared->Prop) (E:Value->Shared->Prop),Q (.bool (g i j)) s->wpAny (model X.prog X.w) X.A (f (.int i t) (.int j u)) Q E s) :
    cQ X f (qX fun i j=>.bl (g i j)):=by
  intro pins s σ H x y v u Q I rx ry h
  obtain ⟨i,j,rfl,rfl,q⟩:=h
  obtain ⟨t,rfl⟩:=rx
  obtain ⟨t',rfl⟩:=ry
  exact rule i j t t' s _ _ ⟨.bl (g i j),H,I,rfl,q⟩
def xZ (i j:Int):Prop:=(-(2 ^ 64) < i/\i < 2 ^ 64)\/(-(2 ^ 64) < j/\j < 2 ^ 64)
theorem xZ.ok {i j:Int} (h:xZ i j):IntMulOk i j:=by
  rcases h with ⟨h1,h2⟩ | ⟨h1,h2⟩
  · exact .of_left (intBits_le_64 h1 h2)
  · exact .of_right (intBits_le_64 h1 h2)
theorem cG:cQ X (binaryOp .Add) (qX fun i j=>.int (i+j)):=Bi fun _ _ _ _ _ _ _ q=>add_int q
theorem bE:cQ X (binaryOp .Sub) (qX fun i j=>.int (i - j)):=Bi fun _ _ _ _ _ _ _ q=>sub_int q
theorem dz:cQ X (binaryOp .Mult) (rI xZ fun i j=>.int (i*j)):=Bz fun _ _ _ _ _ _ _ hc q=>mul_int q hc.ok
theorem ck:cQ X (binaryOp .Mod) (rI (fun _ j=>0 < j) fun i j=>.int (i % j)):=Bz fun i j _ _ _ _ _ hc q=>by
  have h1:(0:Int) < j:=hc
  exact mod_int' (by omega) (by rw [Int.fmod_eq_emod_of_nonneg i (by omega)]; exact q)
theorem D6 {f:Value->Sem Value} {g:Int->Int}
    (rule:∀ (i:Int) (t:Tok) (s:Shared) (Q:Value->Shared->Prop) (E:Value->Shared->Prop),Q (.int (g i) s.toks) { s with toks:=s.toks+1 }->wpAny (model X.prog X.w) X.A (f (.int i t)) Q E s) :
    B1 X f (rU fun i=>.int (g i)):=by
  intro pins s σ H x v Q I rx h
  obtain ⟨i,rfl,q⟩:=h
  obtain ⟨t,rfl⟩:=rx
  exact rule i t s _ _ ⟨.int (g i),H,I.tok _,⟨_,rfl⟩,q⟩
theorem qJ:B1 X (unaryOp .USub) (rU fun i=>.int (-i)):=D6 fun _ _ _ _ _ q=>neg_int q
end
noncomputable def BC:V->V->Bool
  | .non,.non=>true | .non,.int _=>true | .int _,.non=>true | .non,.bl _=>true | .bl _,.non=>true | .non,.str _=>true | .str _,.non=>true
  | .int _,.int _=>true | .bl _,.bl _=>true | .str _,.str _=>true | .byt _,.byt _=>true
  | .int _,.str _=>true | .str _,.int _=>true | .bl _,.str _=>true | .str _,.bl _=>true
  | _,_=>false
noncomputable def DU:R2:=fun x y H Q=>BC x y=true/\Q (.bl (decide (x=y))) H
noncomputable def DY:R2:=fun x y H Q=>BC x y=true/\Q (.bl (!decide (x=y))) H
theorem nF {i j:Int}:decide (V.int i=V.int j)=(i == j):=by
  rw [Bool.eq_iff_iff]
  simp
theorem wD {i j:Bool}:decide (V.bl i=V.bl j)=(i == j):=by
  rw [Bool.eq_iff_iff]
  simp
theorem tV {i j:Str}:decide (V.str i=V.str j)=(i == j):=by
  rw [Bool.eq_iff_iff]
  simp
theorem tE {i j:Array UInt8}:decide (V.byt i=V.byt j)=(i.toList == j.toList):=by
  rw [Bool.eq_iff_iff]
  cases i
  cases j
  simp
section
variable {X:Cx} {a b c:Expr} {ta tb tc:TE} {pos:Pos}
theorem ba {pins:List (Addr × Obj)} {σ:St} {H:Hp} {s:Shared} {Q:VK} {k k':Bool} (I:Inv X pins σ H s) (q:Q (.bl k) H) (e:k=k'):EP X pins σ Q (.bool k') s:=by
  subst e
  exact ⟨.bl k,H,I,rfl,q⟩
theorem cN:cQ X (compareOp .Eq) DU:=by
  intro pins s σ H x y v u Q I rx ry h
  obtain ⟨hs,q⟩:=h
  cases x with
  | non =>
    cases rx
    cases y with
    | non=>cases ry; exact PySem.EqNone.eq_none_none (ba I q (by simp))
    | bl j=>cases ry; exact PySem.EqNone.eq_none_bool (ba I q (by simp))
    | int j=>obtain ⟨t',rfl⟩:=ry; exact PySem.EqNone.eq_none_int (ba I q (by simp))
    | str j=>obtain ⟨t',rfl⟩:=ry; exact PySem.EqNone.eq_none_str (ba I q (by simp))
    | _=>exact absurd (show false=true from hs) Bool.false_ne_true
  | bl i =>
    cases rx
    cases y with
    | non=>cases ry; exact PySem.EqNone.eq_bool_none (ba I q (by simp))
    | bl j=>cases ry; exact eq_bool (ba I q wD)
    | str j=>obtain ⟨t',rfl⟩:=ry; exact PySem.EqMixed.eq_bool_str (ba I q (by simp))
    | _=>exact absurd (show false=true from hs) Bool.false_ne_true
  | int i =>
    obtain ⟨t,rfl⟩:=rx
    cases y with
    | non=>cases ry; exact PySem.EqNone.eq_int_none (ba I q (by simp))
    | int j=>obtain ⟨t',rfl⟩:=ry; exact eq_int (ba I q nF)
    | str j=>obtain ⟨t',rfl⟩:=ry; exact PySem.EqMixed.eq_int_str (ba I q (by simp))
    | _=>exact absurd (show false=true from hs) Bool.false_ne_true
  | str i =>
    obtain ⟨t,rfl⟩:=rx
    cases y with
    | non=>cases ry; exact PySem.EqNone.eq_str_none (ba I q (by simp))
    | bl j=>cases ry; exact PySem.EqMixed.eq_str_bool (ba I q (by simp))
    | int j=>obtain ⟨t',rfl⟩:=ry; exact PySem.EqMixed.eq_str_int (ba I q (by simp))
    | str j=>obtain ⟨t',rfl⟩:=ry; exact eq_str (ba I q tV)
    | _=>exact absurd (show false=true from hs) Bool.false_ne_true
  | byt i =>
    obtain ⟨t,rfl⟩:=rx
    cases y with
    | byt j=>obtain ⟨t',rfl⟩:=ry; exact PySem.W.eq_bytes (ba I q tE)
    | _=>exact absurd (show false=true from hs) Bool.false_ne_true
  | _=>cases y<;>exact absurd (show false=true from hs) Bool.false_ne_true
theorem fV:cQ X (compareOp .NotEq) DY:=by
  intro pins s σ H x y v u Q I rx ry h
  obtain ⟨hs,q⟩:=h
  cases x with
  | non =>
    cases rx
    cases y with
    | non=>cases ry; exact PySem.EqNone.ne_none_none (ba I q (by simp))
    | bl j=>cases ry; exact PySem.EqNone.ne_none_bool (ba I q (by simp))
    | int j=>obtain ⟨t',rfl⟩:=ry; exact PySem.EqNone.ne_none_int (ba I q (by simp))
    | str j=>obtain ⟨t',rfl⟩:=ry; exact PySem.EqNone.ne_none_str (ba I q (by simp))
    | _=>exact absurd (show false=true from hs) Bool.false_ne_true
  | bl i =>
    cases rx
    cases y with
    | non=>cases ry; exact PySem.EqNone.ne_bool_none (ba I q (by simp))
    | bl j=>cases ry; exact ne_bool (ba I q (congrArg not wD))
    | str j=>obtain ⟨t',rfl⟩:=ry; exact PySem.EqMixed.ne_bool_str (ba I q (by simp))
    | _=>exact absurd (show false=true from hs) Bool.false_ne_true
  | int i =>
    obtain ⟨t,rfl⟩:=rx
    cases y with
    | non=>cases ry; exact PySem.EqNone.ne_int_none (ba I q (by simp))
    | int j=>obtain ⟨t',rfl⟩:=ry; exact ne_int (ba I q (congrArg not nF))
    | str j=>obtain ⟨t',rfl⟩:=ry; exact PySem.EqMixed.ne_int_str (ba I q (by simp))
    | _=>exact absurd (show false=true from hs) Bool.false_ne_true
  | str i =>
    obtain ⟨t,rfl⟩:=rx
    cases y with
    | non=>cases ry; exact PySem.EqNone.ne_str_none (ba I q (by simp))
    | bl j=>cases ry; exact PySem.EqMixed.ne_str_bool (ba I q (by simp))
    | int j=>obtain ⟨t',rfl⟩:=ry; exact PySem.EqMixed.ne_str_int (ba I q (by simp))
    | str j=>obtain ⟨t',rfl⟩:=ry; exact ne_str (ba I q (congrArg not tV))
    | _=>exact absurd (show false=true from hs) Bool.false_ne_true
  | byt i =>
    obtain ⟨t,rfl⟩:=rx
    cases y with
    | byt j=>obtain ⟨t',rfl⟩:=ry; exact PySem.W.ne_bytes (ba I q (congrArg not tE))
    | _=>exact absurd (show false=true from hs) Bool.false_ne_true
  | _=>cases y<;>exact absurd (show false=true from hs) Bool.false_ne_true
theorem fR:cQ X (compareOp .Lt) (qX fun i j=>.bl (decide (i < j))):=yc fun _ _ _ _ _ _ _ q=>lt_int q
theorem yX:cQ X (compareOp .LtE) (qX fun i j=>.bl (decide (i<=j))):=yc fun _ _ _ _ _ _ _ q=>le_int q
theorem jw:cQ X (compareOp .Gt) (qX fun i j=>.bl (decide (j < i))):=yc fun _ _ _ _ _ _ _ q=>gt_int q
theorem cQ.or {f:Value->Value->Sem Value} {r r':R2} (h:cQ X f r) (h':cQ X f r'):cQ X f (fun x y H Q=>r x y H Q\/r' x y H Q):=by
  intro pins s σ H x y v u Q I rx ry q
  rcases q with q | q
  · exact h pins s σ H x y v u Q I rx ry q
  · exact h' pins s σ H x y v u Q I rx ry q
theorem aF (b:Expr) {op:CmpOp} (h:op≠.In:=by decide) (h2:op≠.NotIn:=by decide):behindInMarks op b=false:=by
  have e1:(op == CmpOp.In)=false:=by cases op<;>first | rfl | exact absurd rfl h
  have e2:(op == CmpOp.NotIn)=false:=by cases op<;>first | rfl | exact absurd rfl h2
  cases b<;>simp [behindInMarks,e1,e2]
theorem dE {op:CmpOp} {r:R2} (ho:cQ X (compareOp op) r) (ha:PE X a ta) (hb:PE X b tb) (hm:behindInMarks op b=false):PE X (.Compare a [op] [b] pos) (yV r ta tb):=by
  intro pins s σ H Q I h
  exact wpAny_Compare1 (yB ha hb I h fun v u s2 x y H2 I2 rx ry q=>ho pins s2 σ H2 x y v u Q I2 rx ry q) hm
noncomputable def yO (t:TE):TT:=fun σ H Q=>t σ H fun x H'=>∃ k,x = .bl k/\Q k H'
theorem aJ {op:CmpOp} {r:R2} (ho:cQ X (compareOp op) r) (ha:PE X a ta) (hb:PE X b tb) (hm:behindInMarks op b=false):PT X (.Compare a [op] [b] pos) (yO (yV r ta tb)):=by
  intro pins s σ H Q I h
  refine wpAny_isTrue_Compare1 (aI (ha pins s σ H _ I h) fun v s1 ⟨x,H1,I1,r1,q1⟩=>aI (hb pins s1 σ H1 _ I1 q1) fun u s2 ⟨y,H2,I2,r2,q2⟩ =>
    aI (ho pins s2 σ H2 x y v u _ I2 r1 r2 q2) fun c s3 ⟨z,H3,I3,r3,k,e,q3⟩=>?_) hm
  subst e
  cases r3
  exact wpAny_truthy_bool ⟨H3,I3,q3⟩
noncomputable def Ad (r r':R2) (ta tb tc:TE):TE:=fun σ H Q=>ta σ H fun x H1=>tb σ H1 fun y H2=>r x y H2 fun z H3=>∃ k,z = .bl k /\
  (if k=true then tc σ H3 fun w' H4=>r' y w' H4 Q else Q (.bl false) H3)
theorem xH {op op':CmpOp} {r r':R2} (ho:cQ X (compareOp op) r) (ho':cQ X (compareOp op') r') (ha:PE X a ta) (hb:PE X b tb) (hc:PE X c tc)
    (hm:lastMarks [op,op'] [b,c]=false:=by with_unfolding_all rfl):PE X (.Compare a [op,op'] [b,c] pos) (Ad r r' ta tb tc):=by
  intro pins s σ H Q I h
  refine Compare_chain (aI (ha pins s σ H _ I h) fun v s1 ⟨x,H1,I1,r1,q1⟩=>chain_link (aI (hb pins s1 σ H1 _ I1 q1) fun u s2 ⟨y,H2,I2,r2,q2⟩ =>
    aI (ho pins s2 σ H2 x y v u _ I2 r1 r2 q2) fun d s3 ⟨z,H3,I3,r3,k,e,q3⟩=>?_)) hm
  subst e
  cases r3
  refine wpAny_truthy_bool ?_
  cases k with
  | false=>exact ite_ff ⟨.bl false,H3,I3,rfl,q3⟩
  | true=>exact ite_tt (chain_last (aI (hc pins s3 σ H3 _ I3 q3) fun w' s4 ⟨z',H4,I4,r4,q4⟩=>ho' pins s4 σ H4 y z' u w' Q I4 r2 r4 q4))
theorem il:(sizeLine:Nat) < 2 ^ 63:=by rw [sizeLine_eq]; decide
theorem uY:cQ X (binaryOp .Add) (fun x y H Q=>∃ i j,x = .str i/\y = .str j/\i.length+j.length<=sizeLine/\Q (.str (i++j)) H):=by
  intro pins s σ H x y v u Q I rx ry h
  obtain ⟨i,j,rfl,rfl,hz,q⟩:=h
  obtain ⟨t,rfl⟩:=rx
  obtain ⟨t',rfl⟩:=ry
  exact add_str (fun t' tk=>⟨.str (i++j),H,I.tok _,⟨_,rfl⟩,q⟩) hz
theorem vals1 {x:V} {us:List Value} (r:Vals [x] us):∃ u,us=[u]/\RelV x u:=by
  cases r with
  | cons r1 r2=>cases r2; exact ⟨_,rfl,r1⟩
theorem vals2 {x y:V} {us:List Value} (r:Vals [x,y] us):∃ u w',us=[u,w']/\RelV x u/\RelV y w':=by
  cases r with
  | cons r1 r2 =>
    cases r2 with
    | cons r3 r4=>cases r4; exact ⟨_,_,rfl,r1,r3⟩
theorem oC (hc:X.calm=true):eN X (.builtin "max") (fun xs H Q=>∃ i j,xs=[.int i,.int j]/\Q (.int (if j > i then j else i)) H):=by
  intro pins s σ H xs us Q I r h
  obtain ⟨i,j,rfl,q⟩:=h
  obtain ⟨u,w',rfl,⟨t,rfl⟩,⟨t',rfl⟩⟩:=vals2 r
  refine max_two_ints (I.ok.hd hc) fun h' tk k=>⟨_,H,I.kept k,?_,q⟩
  by_cases hj:j > i
  · rw [if_pos hj,if_pos hj]; exact ⟨_,rfl⟩
  · rw [if_neg hj,if_neg hj]; exact ⟨_,rfl⟩
theorem v7 (hc:X.calm=true):eN X (.builtin "min") (fun xs H Q=>∃ i j,xs=[.int i,.int j]/\Q (.int (if j < i then j else i)) H):=by
  intro pins s σ H xs us Q I r h
  obtain ⟨i,j,rfl,q⟩:=h
  obtain ⟨u,w',rfl,⟨t,rfl⟩,⟨t',rfl⟩⟩:=vals2 r
  refine min_two_ints (I.ok.hd hc) fun h' tk k=>⟨_,H,I.kept k,?_,q⟩
  by_cases hj:j < i
  · rw [if_pos hj,if_pos hj]; exact ⟨_,rfl⟩
  · rw [if_neg hj,if_neg hj]; exact ⟨_,rfl⟩
theorem oN:eN X (.type "int") (fun xs H Q=>(∃ i,xs=[.int i]/\Q (.int i) H)\/∃ k,xs=[.bl k]/\Q (.int (if k then 1 else 0)) H):=by
  intro pins s σ H xs us Q I r h
  rcases h with ⟨i,rfl,q⟩ | ⟨k,rfl,q⟩
  · obtain ⟨u,rfl,t,rfl⟩:=vals1 r
    exact call_int_int ⟨.int i,H,I,⟨_,rfl⟩,q⟩
  · obtain ⟨u,rfl,r1⟩:=vals1 r
    cases r1
    exact call_int_bool ⟨.int (if k then 1 else 0),H,I.tok _,⟨_,rfl⟩,q⟩
end
end L2
namespace L2
open PySem PySem.Spec PyProof.Rows
structure nL (h:Heap) (x dx C:Addr) (mA:Str->Option Value):Prop where
  obj:h.get? x=some (PySem.W.instObj C dx)
  ns:h.Ns1 dx mA
  ne:dx≠x
theorem xi {h:Heap} {dx:Addr} {mA:Str->Option Value} (n:h.Ns1 dx mA):∃ od,h.get? dx=some od/\∀ name,PySem.W.lookIn name od=some (mA name):=by
  obtain ⟨o,es,ep,ho,hd,hk,_,hm⟩:=n
  refine ⟨o,ho,fun name=>?_⟩
  have e:=hm name
  unfold nsFind findBy at e
  rw [<- Array.find?_toList] at e
  unfold PySem.W.lookIn
  rw [hd]
  dsimp only
  split
  · rename_i y q
    rw [q] at e
    exact congrArg some e
  · rename_i q
    rw [q] at e
    have a:es.toList.any (·.refKey)=false:=by
      rw [List.any_eq_false]
      intro y hy
      obtain ⟨z,t,hkey⟩:=hk y (Array.mem_toList_iff.mp hy)
      simp [DictEntry.refKey,hkey]
    have a':¬ es.toList.any (·.refKey)=true:=by rw [a]; exact Bool.false_ne_true
    rw [if_neg a']
    exact congrArg some e
theorem nL.look {h:Heap} {x dx C:Addr} {mA:Str->Option Value} (I:nL h x dx C mA):∃ od,PySem.W.InstAt h x (PySem.W.instObj C dx) C (some od)/\∀ name,PySem.W.lookIn name od=some (mA name) :=
  let ⟨od,ho,hl⟩:=xi I.ns
  ⟨od,⟨I.obj,rfl,rfl,ho⟩,hl⟩
section
variable {prog:Program} {w:World} {A:Around} {E:Value->Shared->Prop} {s:Shared} {K:PySem.W.Frag} {x dx C f:Addr} {mA:Str->Option Value} {name:Str} {v:Value}
theorem yo {pl:Sem Bool} {Q:Value × List Value->Shared->Prop} (X:K.In s.heap) (I:nL s.heap x dx C mA) (hg:PySem.W.plainGet K C name=true)
    (hf:PySem.W.findIn K (.ref C) name=some (some (.ref f))) (ht:PySem.W.isFn K (.ref f)=true) (hv:mA name=none) (h:Q (.ref f,[.ref x]) s) :
    wpAny (model prog w) A (getMethod (.ref x) name pl) Q E s:=by
  obtain ⟨od,J,hl⟩:=I.look
  exact PySem.W.method_fn X J (PySem.W.plainGet_of hg).1 (PySem.W.plainGet_of hg).2 hf (beq_iff_eq.mp ht) (by show (PySem.W.lookIn name od).map (·.isSome)=some false; rw [hl,hv]; rfl) h
theorem zk {ns:List Str} {Q:Unit->Shared->Prop} (X:K.In s.heap) (I:nL s.heap x dx C mA)
    (hs:PySem.W.findIn K (.ref C) "__setattr__" = some (some (.builtin "object.__setattr__"))) (hp:PySem.W.plainOver K C=true) (ht:PySem.W.takerIn K C name=some none) (hh:PySem.W.hasDictIn K C=true)
    (hw:PySem.Within mA ns) (hsz:ns.length<=sizeLine)
    (h:∀ h',nL h' x dx C (fun y=>if y=name then some v else mA y)->Heap.SameBut dx s.heap h'->Q () { s with heap:=h',toks:=s.toks+2 }) :
    wpAny (model prog w) A (setAttr (.ref x) name v) Q E s:=by
  obtain ⟨od,J,hl⟩:=I.look
  refine PySem.W.set_plain X J hs (PySem.W.osa_open (s:={ s with toks:=s.toks+1 }) (r:=none) X J hp ht fun b=>?_)
  obtain ⟨cd,hc,hd'⟩:=PySem.W.any_some hh
  have hx:s.heap.get? x=some ⟨.ref C,some dx,.plain,#[]⟩:=I.obj
  refine wpAny_bind (wpAny_pure (wpAny_bind (wpAny_bind (wpAny_loadPart hx (wpAny_bind (PySem.W.Looks.here (s:={ s with toks:=s.toks+1 }) (PySem.W.looks_clsIn X hc) ?_))))))
  rw [hd']
  refine wpAny_pure (a:=some dx) (wpAny_bind (wpAny_pure (wpAny_bind ?_)))
  refine wpAny_nsSet1 (s:={ s with toks:=s.toks+1 }) I.ns fun h' hn2 hs2=>?_
  obtain ⟨oD,esD,epD,hoD,hdD,hcD⟩:=hn2.count (PySem.Within.cons name v hw)
  refine wpAny_bind (wpAny_lookBehind hoD (by rw [hdD]; exact pastItsLine_dict (Nat.le_trans hcD (by rw [List.length_cons]; omega))) ?_)
  exact wpAny_pure (h _ ⟨(hs2.2 _ (Ne.symm I.ne)).trans I.obj,hn2,I.ne⟩ hs2)
theorem yx {R:Result->Shared->Prop} {vs:List Value} {kw:List (Str × Value)} (X:K.In s.heap) (hm:PySem.W.makesIn K C=true)
    (hi:PySem.W.findIn K (.ref C) "__init__" = some (some (.ref f))) (hf:PySem.W.typeIn K (.ref f)=some (.type "function"))
    (h:codeAny (model prog w) (A.under (.builtin "type.__call__" ⟨.ref C::vs,kw⟩)) (.call (.ref f) ⟨.ref (s.heap.objs.size+1)::vs,kw⟩) (PySem.W.InitBack (s.heap.objs.size+1) R)
      { s with heap:=(s.heap.push PySem.W.emptyDict).push (PySem.W.instObj C s.heap.objs.size) }) :
    codeAny (model prog w) A (.call (.ref C) ⟨vs,kw⟩) R s:=by
  obtain ⟨hh,g,d,t,os⟩:=s
  exact PySem.W.make_core (PySem.W.makes_of X hm) (PySem.W.looks_findIn X hi) (fun self=>PySem.W.bind_fn X self hf) (.inl rfl) h
end
noncomputable def d9 (f:Str) (v:V):List (Str × V)->List (Str × V)
  | []=>[(f,v)]
  | (g,x)::r=>if g=f then (g,v)::r else (g,x)::d9 f v r
theorem dB (f g:Str) (v:V):∀ fs:List (Str × V),(d9 f v fs).lookup g=if g=f then some v else fs.lookup g
  | []=>by
    show List.lookup g [(f,v)]=_
    by_cases h:g=f
    · have hb:(g == f)=true:=beq_iff_eq.mpr h
      simp only [List.lookup,hb,if_pos h]
    · have hb:(g == f)=false:=beq_eq_false_iff_ne.mpr h
      simp only [List.lookup,hb,if_neg h]
  | (k,x)::r=>by
    have ih:=dB f g v r
    rw [show d9 f v ((k,x)::r)=(if k=f then (k,v)::r else (k,x)::d9 f v r) from rfl]
    by_cases hk:k=f
    · rw [if_pos hk]
      by_cases h:g=k
      · have hb:(g == k)=true:=beq_iff_eq.mpr h
        simp only [List.lookup,hb,if_pos (h.trans hk)]
      · have hb:(g == k)=false:=beq_eq_false_iff_ne.mpr h
        simp only [List.lookup,hb,if_neg (fun e:g=f=>h (e.trans hk.symm))]
    · rw [if_neg hk]
      by_cases h:g=k
      · have hb:(g == k)=true:=beq_iff_eq.mpr h
        simp only [List.lookup,hb,if_neg (fun e:g=f=>hk (h.symm.trans e))]
      · have hb:(g == k)=false:=beq_eq_false_iff_ne.mpr h
        simp only [List.lookup,hb]
        exact ih
theorem i3 (f:Str) (v:V):∀ fs:List (Str × V),f∈(d9 f v fs).map (·.1)/\∀ g,g∈fs.map (·.1)->g∈(d9 f v fs).map (·.1)
  | []=>⟨by simp [d9],fun g h=>by simp at h⟩
  | (k,x)::r=>by
    obtain ⟨i1,i2⟩:=i3 f v r
    rw [show d9 f v ((k,x)::r)=(if k=f then (k,v)::r else (k,x)::d9 f v r) from rfl]
    by_cases hk:k=f
    · rw [if_pos hk]
      subst hk
      exact ⟨by simp,fun g h=>by simpa using h⟩
    · rw [if_neg hk]
      refine ⟨?_,fun g h=>?_⟩
      · rw [List.map_cons]
        exact List.mem_cons_of_mem _ i1
      · rw [List.map_cons] at h |-
        rcases List.mem_cons.mp h with e | e
        · exact List.mem_cons.mpr (.inl e)
        · exact List.mem_cons_of_mem _ (i2 g e)
theorem kX (f:Str) (v:V):∀ fs:List (Str × V),(d9 f v fs).length<=fs.length+1
  | []=>by simp [d9]
  | (k,x)::r=>by
    have ih:=kX f v r
    rw [show d9 f v ((k,x)::r)=(if k=f then (k,v)::r else (k,x)::d9 f v r) from rfl]
    by_cases hk:k=f
    · rw [if_pos hk,List.length_cons,List.length_cons]; omega
    · rw [if_neg hk,List.length_cons,List.length_cons]; omega
theorem lu.none_of {o:Option Value} (r:lu none o):o=none:=by
  cases o with
  | none=>rfl
  | some u=>exact (show False from r).elim
section
variable {P:Program} {w:World} {H H':Hp} {h h':Heap} {a C dx:Addr} {fs fs':List (Str × V)}
theorem nV (hok:dZ P w H h) (e:H a=some (.ins C dx fs)):∃ mA,nL h a dx C mA/\(∀ f,lu (fs.lookup f) (mA f))/\PySem.Within mA (fs.map (·.1))/\fs.length<=1000/\H dx=some (.own a):=by
  obtain ⟨d,z,ne,ob,mA,n,r,q⟩:=(show cI P w H h a (.ins C dx fs) from hok a _ e)
  exact ⟨mA,⟨ob,n,ne⟩,r,q,z,d⟩
end
structure gT (K:PySem.W.Frag) (C:Addr):Prop where
  pg:PySem.W.plainGet K C Str.empty=true
  hd:PySem.W.hasDictIn K C=true
  po:PySem.W.plainOver K C=true
  sa:PySem.W.findIn K (.ref C) "__setattr__" = some (some (.builtin "object.__setattr__"))
theorem gT.get {K:PySem.W.Frag} {C:Addr} (c:gT K C) (f:Str):PySem.W.plainGet K C f=true:=c.pg
def dw (K:PySem.W.Frag) (C:Addr) (f:Str):Prop:=PySem.W.findIn K (.ref C) f=some none
theorem dw.taker {K:PySem.W.Frag} {C:Addr} {f:Str} (n:dw K C f):PySem.W.takerIn K C f=some none:=by
  unfold PySem.W.takerIn
  rw [show PySem.W.findIn K (.ref C) f=some none from n]
  rfl
structure Meth (K:PySem.W.Frag) (C:Addr) (m:Str) (f:Addr):Prop where
  at_:PySem.W.findIn K (.ref C) m=some (some (.ref f))
  fn:PySem.W.isFn K (.ref f)=true
  kp:PySem.W.keepIn K (.ref f)=true
section
variable {X:Cx} {pins:List (Addr × Obj)} {σ:St} {H:Hp} {s:Shared} {a C dx:Addr} {fs:List (Str × V)} {f:Str} {v:V} {A:Around} {E:Value->Shared->Prop}
theorem mR {m:Str} {g:Addr} {pl:Sem Bool} {Q:Value × List Value->Shared->Prop} (I:Inv X pins σ H s) (e:H a=some (.ins C dx fs)) (c:gT X.K C) (k:Meth X.K C m g) (l:fs.lookup m=none)
    (h:Q (.ref g,[.ref a]) s):wpAny (model X.prog X.w) A (getMethod (.ref a) m pl) Q E s:=by
  obtain ⟨mA,O,r,_,_,_⟩:=nV I.hok e
  have hn:mA m=none:=lu.none_of (by rw [<- l]; exact r m)
  exact yo I.kIn O (c.get m) k.at_ k.fn hn h
theorem vK {y:V} {u:Value} {Q:Unit->Shared->Prop} (I:Inv X pins σ H s) (e:H a=some (.ins C dx fs)) (c:gT X.K C) (n:dw X.K C f) (hl:fs.length < 1000) (ry:RelV y u)
    (h:∀ s',Inv X pins σ (upd H a (.ins C dx (d9 f y fs))) s'->Q () s'):wpAny (model X.prog X.w) A (setAttr (.ref a) f u) Q E s:=by
  obtain ⟨mA,O,r,wi,_,ho⟩:=nV I.hok e
  have hz:(fs.map (·.1)).length<=sizeLine:=by rw [List.length_map,sizeLine_eq]; omega
  refine zk I.kIn O c.sa c.po n.taker c.hd wi hz fun h' O' sb=>h _ ?_
  have hd:∃ o,h'.get? dx=some o:=let ⟨o,_,_,e',_⟩:=O'.ns; ⟨o,e'⟩
  refine I.write (x:=a) (e:=dx) (by rw [e]; exact True.intro) (.inr ho) (fun b q hb z=>(sb.2 b hb).trans z) hd ?_
  refine ⟨by rw [upd_ne O.ne]; exact ho,?_,O.ne,O'.obj,_,O'.ns,fun g=>?_,fun g hg=>?_⟩
  · have:=kX f y fs; omega
  · show lu ((d9 f y fs).lookup g) (if g=f then some u else mA g)
    rw [dB]
    by_cases q:g=f
    · rw [if_pos q,if_pos q]; exact ry
    · rw [if_neg q,if_neg q]; exact r g
  · by_cases q:g=f
    · rw [q]; exact (i3 f y fs).1
    · refine (i3 f y fs).2 g (wi g fun z=>hg ?_)
      show (if g=f then some u else mA g)=none
      rw [if_neg q]; exact z
theorem Inv.made (I:Inv X pins σ H s):Inv X pins σ (upd (upd H s.heap.objs.size (.own (s.heap.objs.size+1))) (s.heap.objs.size+1) (.ins C s.heap.objs.size []))
    { s with heap:=(s.heap.push PySem.W.emptyDict).push (PySem.W.instObj C s.heap.objs.size) }:=by
  have e1:(s.heap.push PySem.W.emptyDict).get? s.heap.objs.size=some PySem.W.emptyDict:=Heap.get?_push_size s.heap rfl
  have e2:((s.heap.push PySem.W.emptyDict).push (PySem.W.instObj C s.heap.objs.size)).get? (s.heap.objs.size+1)=some (PySem.W.instObj C s.heap.objs.size):=by
    have:=Heap.get?_push_size (s.heap.push PySem.W.emptyDict) (o:=PySem.W.instObj C s.heap.objs.size) rfl
    rwa [Heap.size_push] at this
  have e3:(s.heap.push PySem.W.emptyDict).Ns s.heap.objs.size (fun _=>none):=⟨PySem.W.emptyDict,#[],_,e1,rfl,(fun e he=>absurd he (by simp)),fun _=>rfl⟩
  have I1:=I.laid (a:=s.heap.objs.size) (o:=.own (s.heap.objs.size+1)) (h':=s.heap.push PySem.W.emptyDict) (t':=s.toks) (fun b u q=>Heap.get?_push_of_some _ q) (Nat.le_refl _) ⟨_,e1⟩
  refine I1.laid (a:=s.heap.objs.size+1) (o:=.ins C s.heap.objs.size []) (t':=s.toks) (fun b u q=>Heap.get?_push_of_some _ q) (Nat.le_of_eq (Heap.size_push _ _)) ?_
  have ne:s.heap.objs.size≠s.heap.objs.size+1:=Nat.ne_of_lt (Nat.lt_succ_self _)
  refine ⟨by rw [upd_ne ne,upd_same],Nat.zero_le _,ne,e2,fun _=>none,(Heap.Ns1.of_empty e3).at fun o q=>Heap.get?_push_of_some _ q,fun _=>True.intro,fun y hy=>absurd rfl hy⟩
end
noncomputable def DD (K:PySem.W.Frag) (ta tv:TE) (f:Str):TS:=fun D σ H=>tv σ H fun y H1=>ta σ H1 fun x H2=>∃ a C dx fs,x = .ref a/\H2 a=some (.ins C dx fs)/\gT K C/\dw K C f/\fs.length < 1000 /\
  D.nx σ (upd H2 a (.ins C dx (d9 f y fs)))
section
variable {X:Cx} {o e value:Expr} {f:Str} {pos pos' tpos:Pos} {ta tv:TE}
theorem eT (ha:PE X o ta) (hv:PE X value tv) (hs:swapsWith value (some (.Attribute o f pos')) pos.line X.env=pure false):PS X (.Assign [.Attribute o f pos'] value pos) (DD X.K ta tv f):=by
  intro pins s σ H D I h
  refine plainObj_wpAny_Assign_Attribute (aI (hv pins s σ H _ I h) fun u s1 ⟨y,H1,I1,ry,q⟩=>aI (ha pins s1 σ H1 _ I1 q) fun ov s2 ⟨x,H2,I2,rx,a,C,dx,fs,ex,ea,c,n,l,q2⟩=>?_) hs
  subst ex
  obtain rfl:ov=Value.ref a:=rx
  exact vK I2 ea c n l ry fun s3 I3=>⟨σ,_,I3,q2⟩
theorem Cm {pl:Sem Bool} {m:Str} {apos:Pos} {args:List Expr} {pins:List (Addr × Obj)} {s:Shared} {σ:St} {H:Hp} {Q:Value->Shared->Prop} {te:TE} (he:PE X e te) (I:Inv X pins σ H s)
    (h:te σ H fun x H1=>∃ a C dx fs g,x = .ref a/\H1 a=some (.ins C dx fs)/\gT X.K C/\Meth X.K C m g/\fs.lookup m=none /\
      ∀ s1,Inv X pins σ H1 s1->wpAny (model X.prog X.w) X.A (callWith pos (.ref g) [.ref a] (backTo pos (starEach args X.env)) (backToKw pos (keywordEach [] X.env))) Q X.xe s1)
    (ht:eval (.Call (.Attribute e m apos) args [] pos) X.env=(do
      let ov <- eval e X.env
      standAt apos.atName
      let (f,first) <- holding [ov] (getMethod ov m pl)
      callWith pos f first (backTo pos (starEach args X.env)) (backToKw pos (keywordEach [] X.env)))) :
    wpAny (model X.prog X.w) X.A (eval (.Call (.Attribute e m apos) args [] pos) X.env) Q X.xe s:=by
  refine PySem.W.methodCall_KW (pl:=pl) (aI (he pins s σ H _ I h) fun u s1 ⟨x,H1,I1,rx,a,C,dx,fs,g,ex,ea,c,k,l,q⟩=>?_) ht
  subst ex
  obtain rfl:u=Value.ref a:=rx
  exact mR I1 ea c k l (q s1 I1)
end
section
variable {X:Cx} {pins:List (Addr × Obj)} {σ:St} {H:Hp} {s:Shared} {A:Around} {E:Value->Shared->Prop} {Q:Value->Shared->Prop} {c:Value} {b:Bool}
inductive fw (K:PySem.W.Frag) (H:Hp):V->Value->Prop where
  | non:fw K H .non (.type "NoneType")
  | bl (x:Bool):fw K H (.bl x) (.type "bool")
  | int (i:Int):fw K H (.int i) (.type "int")
  | str (x:Str):fw K H (.str x) (.type "str")
  | flt (x:UInt64):fw K H (.flt x) (.type "float")
  | lst {a:Addr} {xs:List V} (e:H a=some (.lst xs)):fw K H (.ref a) (.type "list")
  | frz {a:Addr} {o:Obj} {xs:List V} (e:H a=some (.frz o (.lst xs))):fw K H (.ref a) (.type "list")
  | tup {a:Addr} {xs:List V} (e:H a=some (.tup xs)):fw K H (.ref a) (.type "tuple")
  | dK {a:Addr} {kvs:List (Key × V)} (e:H a=some (.dK kvs)):fw K H (.ref a) (.type "dict")
  | dT {a:Addr} {kvs:List (List Key × V)} (e:H a=some (.dT kvs)):fw K H (.ref a) (.type "dict")
  | ins {a C dx:Addr} {fs:List (Str × V)} (e:H a=some (.ins C dx fs)) (cl:gT K C) (ha:PySem.W.findIn K (.ref C) "__class__" = some (some (.builtin "object.__class__")))
      (hn:PySem.W.specialIn K (.builtin "object.__class__") "__get__" = some (some (.builtin "getset_descriptor.__get__"))) (htk:PySem.W.takesIn K (.builtin "object.__class__")=some true)
      (hm:PySem.W.mroIn K C (.type "object")=some true):fw K H (.ref a) (.ref C)
theorem vV {x:V} {u t:Value} (I:Inv X pins σ H s) (rx:RelV x u) (ty:fw X.K H x t) (e:PySem.W.kitOne X.K t c=some b) (h:∀ tk,Q (.bool b) { s with toks:=tk }) :
    wpAny (model X.prog X.w) A (call (.builtin "isinstance") [u,c]) Q E s:=by
  cases ty with
  | non=>cases (show u=Value.none from rx); exact PySem.W.kia_one PySem.W.kitx_none I.kIn True.intro e (fun z=>nomatch z) h
  | bl y=>cases (show u=Value.bool y from rx); exact PySem.W.kia_one PySem.W.kitx_bool I.kIn True.intro e (fun z=>nomatch z) h
  | int i=>obtain ⟨t,q⟩:=(show ∃ t,u=Value.int i t from rx); cases q; exact PySem.W.kia_one PySem.W.kitx_int I.kIn True.intro e (fun z=>nomatch z) h
  | str y=>obtain ⟨t,q⟩:=(show ∃ t,u=Value.str y t from rx); cases q; exact PySem.W.kia_one PySem.W.kitx_str I.kIn True.intro e (fun z=>nomatch z) h
  | flt y=>obtain ⟨t,q⟩:=(show ∃ t,u=Value.float y t from rx); cases q; exact PySem.W.kia_one PySem.W.kitx_float I.kIn True.intro e (fun z=>nomatch z) h
  | @lst a xs ea =>
    cases (show u=Value.ref a from rx)
    obtain ⟨_,_,n,_,h1⟩:=(show cI X.prog X.w H s.heap a (.lst xs) from I.hok a _ ea)
    exact PySem.W.kia_one PySem.W.kitx_list I.kIn ⟨_,h1,rfl⟩ e (fun z=>nomatch z) h
  | @frz a ob xs ea =>
    cases (show u=Value.ref a from rx)
    obtain ⟨_,_,_,n,_,h1⟩:=(show cI X.prog X.w H s.heap a (.frz ob (.lst xs)) from I.hok a _ ea)
    exact PySem.W.kia_one PySem.W.kitx_list I.kIn ⟨_,h1,rfl⟩ e (fun z=>nomatch z) h
  | @tup a xs ea =>
    cases (show u=Value.ref a from rx)
    obtain ⟨_,_,_,p⟩:=(show cI X.prog X.w H s.heap a (.tup xs) from I.hok a _ ea)
    obtain ⟨o,h1,h2,_⟩:=p
    exact PySem.W.kia_one PySem.W.kitx_tuple I.kIn ⟨o,h1,h2⟩ e (fun z=>nomatch z) h
  | @dK a kvs ea =>
    cases (show u=Value.ref a from rx)
    obtain ⟨_,_,vs,_,p⟩:=(show cI X.prog X.w H s.heap a (.dK kvs) from I.hok a _ ea)
    obtain ⟨o,es,ep,h1,h2,_⟩:=p
    exact PySem.W.kia_one PySem.W.kitx_dict I.kIn ⟨o,h1,h2.1⟩ e (fun z=>nomatch z) h
  | @dT a kvs ea =>
    cases (show u=Value.ref a from rx)
    obtain ⟨_,_,xs,_,o,es,ep,h1,h2,_⟩:=(show cI X.prog X.w H s.heap a (.dT kvs) from I.hok a _ ea)
    exact PySem.W.kia_one PySem.W.kitx_dict I.kIn ⟨o,h1,h2.1⟩ e (fun z=>nomatch z) h
  | @ins a C dx fs ea cl ha hn htk hm =>
    cases (show u=Value.ref a from rx)
    obtain ⟨mA,O,_⟩:=nV I.hok ea
    obtain ⟨od,J,_⟩:=O.look
    exact PySem.W.kia_one (PySem.W.kitx_own (cl.get _) cl.hd ha hn htk hm) I.kIn J e (fun z=>nomatch z) h
end
end L2
namespace L2
open PySem PySem.Spec PyProof.Rows
structure bP (k:Nat) (A:Around):Prop where
  hd:A.handled=none
  dp:A.depth+3*k+5 < recursionLimit
  un:A.units+16*k+200 < cLine
theorem bP.mono {j k:Nat} {A:Around} (r:bP k A) (h:j<=k):bP j A:=⟨r.hd,by have:=r.dp; omega,by have:=r.un; omega⟩
theorem bP.deeper {k:Nat} {A:Around} (r:bP (k+1) A) (env:Env):bP k (A.deeper env) :=
  ⟨r.hd,by have:=r.dp; show A.depth+1+3*k+5 < _; omega,by have:=r.un; show A.units+3+16*k+200 < _; omega⟩
theorem uE {A:Around} {C:Addr} {us:List Value} {kw:List (Str × Value)}:(A.under (.builtin "type.__call__" ⟨.ref C::us,kw⟩)).depth=A.depth+1:=by
  first | rfl | simp [Around.under,Code.weight,Code.isCreation,Code.isGuard,Code.isCaller,Code.frames,Code.isFrame,guardIds]
theorem vc {A:Around} {C:Addr} {us:List Value} {kw:List (Str × Value)}:(A.under (.builtin "type.__call__" ⟨.ref C::us,kw⟩)).units=A.units+1:=by
  first | rfl | simp [Around.under,Code.cUnits,Code.frames,Code.isFrame]
theorem bP.make {k:Nat} {A:Around} (r:bP (k+1) A) (C:Addr) (us:List Value) (kw:List (Str × Value)):bP k (A.under (.builtin "type.__call__" ⟨.ref C::us,kw⟩)) :=
  ⟨r.hd,by have:=r.dp; rw [uE]; omega,by have:=r.un; rw [vc]; omega⟩
theorem bP.depth {k:Nat} {A:Around} (r:bP k A):A.depth < recursionLimit:=by have:=r.dp; omega
theorem bP.units {k:Nat} {A:Around} (r:bP k A):A.units+64 < cLine:=by have:=r.un; omega
noncomputable def yL:TA:=fun _ H Q=>Q [] H
noncomputable def CB (ta:TE) (tr:TA):TA:=fun σ H Q=>ta σ H fun x H1=>tr σ H1 fun xs H2=>Q (x::xs) H2
section
variable {X:Cx} {e:Expr} {es:List Expr} {te:TE} {t:TA} {pos:Pos}
theorem ab:PA X [] yL:=fun _ _ _ _ H Q I h=>Calls.spliced_nil ⟨[],H,I,.nil,h⟩
theorem aa (ha:PE X e te) (hr:PA X es t) (hs:starEach (e::es) X.env=(false,eval e X.env)::starEach es X.env:=by rfl):PA X (e::es) (CB te t):=by
  intro pos pins s σ H Q I h
  rw [hs]
  show wpAny _ _ (spliced ((false,eval e X.env)::backTo pos (starEach es X.env))) _ _ s
  refine Calls.spliced_cons (aI (ha pins s σ H _ I h) fun u s1 ⟨x,H1,I1,r1,q1⟩=>?_)
  exact aI (hr pos pins s1 σ H1 _ I1 q1) fun us s2 ⟨xs,H2,I2,r2,q2⟩=>⟨x::xs,H2,I2,.cons r1 r2,q2⟩
noncomputable def Dt (t:TA):TE:=fun σ H Q=>t σ H fun xs H1=>xs.length<=sizeLine/\∀ p,H1 p=none->Q (.ref p) (upd H1 p (.tup xs))
noncomputable def DE (t:TA):TE:=fun σ H Q=>t σ H fun xs H1=>xs.length<=sizeLine/\∀ p,H1 p=none->Q (.ref p) (upd H1 p (.lst xs))
theorem bA {x1} (h:PA X es t):PE X (.Tuple es x1 pos) (Dt t):=by
  intro pins s σ H Q I hq
  refine wpAny_Tuple_spliced (aI (h pos pins s σ H _ I hq) fun us s1 ⟨xs,H1,I1,r,z,q⟩=>⟨by rw [<- r.length]; exact z,?_⟩)
  have hf:H1 s1.heap.objs.size=none:=I1.hok.fresh (Nat.le_refl _)
  refine ⟨.ref s1.heap.objs.size,upd H1 s1.heap.objs.size (.tup xs),I1.laid (t':=s1.toks) (fun b u e=>Heap.get?_push_of_some _ e) (Nat.le_refl _) ?_,rfl,q _ hf⟩
  exact ⟨z,us,r,⟨_,Heap.get?_push_size _ rfl,rfl,_,rfl⟩⟩
theorem fg (h:PA X es t):PE X (.List es pos) (DE t):=by
  intro pins s σ H Q I hq
  refine wpAny_List_spliced (aI (h pos pins s σ H _ I hq) fun us s1 ⟨xs,H1,I1,r,z,q⟩=>⟨by rw [<- r.length]; exact z,?_⟩)
  have hf:H1 s1.heap.objs.size=none:=I1.hok.fresh (Nat.le_refl _)
  refine ⟨.ref s1.heap.objs.size,upd H1 s1.heap.objs.size (.lst xs),I1.laid (t':=s1.toks) (fun b u e=>Heap.get?_push_of_some _ e) (Nat.le_refl _) ?_,rfl,q _ hf⟩
  exact ⟨z,us,0,r,Heap.get?_push_size _ rfl⟩
end
noncomputable abbrev Sp:=List V->Hp->VK->XK->Prop
noncomputable abbrev gi:=List Env->Hp->Shared->XK->Value->Shared->Prop
structure lF (P:Program) (w:World) (K:PySem.W.Frag) (mg:Str->Option Value) (base:Heap) (A:Around) (outer:List Env) (s:Shared) (H:Hp):Prop where
  frames:A.frames=some outer
  mod:Mod K mg base
  bs:∀ b o,base.get? b=some o->s.heap.get? b=some o/\H b=none
  bsz:base.objs.size<=s.heap.objs.size
  funs:s.heap.FunFrames base outer
  frf:∀ b∈ic outer,H b=none
  hok:dZ P w H s.heap
  bare:AllBare s.gens
def CE (outer:List Env) (P:Program) (w:World) (H:Hp) (s:Shared) (Q:VK) (u:Value) (s':Shared):Prop :=
  ∃ v H',s'.os=s.os/\AllBare s'.gens/\Un (ic outer) [] H H' s.heap s'.heap/\dZ P w H' s'.heap/\RelV v u/\Q v H'
def CR (CX:gi) (outer:List Env) (P:Program) (w:World) (H:Hp) (s:Shared) (Q:VK) (E:XK) (r:Result) (s':Shared):Prop :=
  match r with
  | .ok (.ret u)=>CE outer P w H s Q u s'
  | .ok _=>False
  | .error e=>CX outer H s E e s'
structure az (P:Program) (w:World) (K:PySem.W.Frag) (mg:Str->Option Value) (base:Heap) (CX:gi) (k:Nat) (f:Addr) (fd:FuncData) (ps:List Str) (sp:Sp):Prop where
  len:∀ vs H Q E,sp vs H Q E->vs.length=ps.length
  run:∀ (A:Around) (outer:List Env) (s:Shared) (H:Hp) (args:Args) (us:List Value) (vs:List V) (Q:VK) (E:XK),bP k A->lF P w K mg base A outer s H->BindsTo s fd args (ps.zip us)->Vals vs us->sp vs H Q E ->
    codeAny (model P w) A (.call (.ref f) args) (CR CX outer P w H s Q E) s
theorem az.mono {P:Program} {w:World} {K:PySem.W.Frag} {mg:Str->Option Value} {base:Heap} {CX:gi} {j k:Nat} {f:Addr} {fd:FuncData} {ps:List Str} {sp:Sp} (F:az P w K mg base CX j f fd ps sp) (h:j<=k) :
    az P w K mg base CX k f fd ps sp:=⟨F.len,fun A outer s H args us vs Q E hr=>F.run A outer s H args us vs Q E (hr.mono h)⟩
theorem lF.make {P:Program} {w:World} {K:PySem.W.Frag} {mg:Str->Option Value} {base:Heap} {A:Around} {outer:List Env} {s:Shared} {H:Hp} (e:lF P w K mg base A outer s H) (C:Addr) (us:List Value) (kw:List (Str × Value)) :
    lF P w K mg base (A.under (.builtin "type.__call__" ⟨.ref C::us,kw⟩)) outer s H:=⟨by first | exact e.frames | (simpa [Around.under,Code.envs,Code.isFrame,pushEnvs] using e.frames),e.mod,e.bs,e.bsz,e.funs,e.frf,e.hok,e.bare⟩
section
variable {X:Cx} {pins:List (Addr × Obj)} {σ:St} {H:Hp} {s s':Shared}
theorem Inv.env0 (I:Inv X pins σ H s):lF X.prog X.w X.K X.mg X.base X.A X.stack s H :=
  ⟨I.ok.frames,I.ok.mod,I.bs,Nat.le_trans I.ok.bsz I.sz,I.stack,I.stkFree,I.hok,I.bare⟩
theorem Inv.after {Q:VK} {u:Value} (I:Inv X pins σ H s) (h:CE X.stack X.prog X.w H s Q u s'):EP X pins σ Q u s':=by
  obtain ⟨v,H',os,bare,un,hok,r,q⟩:=h
  obtain ⟨hh,g,d,t,os'⟩:=s'
  obtain rfl:os'=s.os:=os
  exact ⟨v,H',I.call (h':=hh) (g':=g) (d':=d) (t':=t) (ch:=[]) un hok bare (fun b z=>absurd z (by simp)),r,q⟩
end
noncomputable def vB (sp:Sp) (dvs:List V) (E:XK) (t:TA):TE:=fun σ H Q=>t σ H fun vs H1=>sp (vs++dvs) H1 Q E
noncomputable def yP (C:Addr) (m:Str) (sp:Sp) (dvs:List V) (E:XK) (ta:TE) (t:TA):TE:=fun σ H Q=>ta σ H fun x H1=>∃ a dx fs,x = .ref a/\H1 a=some (.ins C dx fs)/\fs.lookup m=none /\
  t σ H1 fun vs H2=>sp (x::(vs++dvs)) H2 Q E
noncomputable def y8 (C:Addr) (sp:Sp) (dvs:List V) (E:XK) (t:TA):TE:=fun σ H Q=>t σ H fun vs H1=>∀ x dx,H1 x=none->H1 dx=none->dx≠x ->
  sp (.ref x::(vs++dvs)) (upd (upd H1 dx (.own x)) x (.ins C dx [])) (fun v H2=>v = .non/\Q (.ref x) H2) E
def Binds (K:PySem.W.Frag) (fd:FuncData) (ps:List Str) (ds:List Value):Prop :=
  ∀ (s:Shared) (us:List Value),K.In s.heap->(us++ds).length=ps.length->BindsTo s fd ⟨us,[]⟩ (ps.zip (us++ds))
theorem Binds.all {K:PySem.W.Frag} {fd:FuncData} {ps:List Str} (h:∀ us:List Value,us.length=ps.length->bindArgs fd ⟨us,[]⟩=pure (ps.zip us)):Binds K fd ps []:=fun s us _ hl=>by
  rw [List.append_nil] at hl |-
  exact .of_eq (h us hl)
def Passes (CX:gi) (X:Cx) (E:XK):Prop:=∀ (pins:List (Addr × Obj)) (σ:St) (H:Hp) (s:Shared) (e:Value) (s':Shared),Inv X pins σ H s->CX X.stack H s E e s'->X.xe e s'
section
variable {X:Cx} {CX:gi} {k:Nat} {f C:Addr} {fd:FuncData} {ps:List Str} {sp:Sp} {dvs:List V} {ds:List Value} {E:XK} {x m:Str} {p pos apos:Pos} {e o:Expr} {es:List Expr} {ta:TE} {t:TA}
theorem rP {pins:List (Addr × Obj)} {σ:St} {H:Hp} {s:Shared} {Q:VK} {us:List Value} {vs:List V} (F:az X.prog X.w X.K X.mg X.base CX k f fd ps sp) (hr:bP k X.A) (hb:Binds X.K fd ps ds) (hd:Vals dvs ds) (hx:Passes CX X E)
    (I:Inv X pins σ H s) (r:Vals vs us) (h:sp (vs++dvs) H Q E):wpAny (model X.prog X.w) X.A (call (.ref f) us) (EP X pins σ Q) X.xe s:=by
  have r2:Vals (vs++dvs) (us++ds):=r.append hd
  have hl:(us++ds).length=ps.length:=by rw [<- r2.length]; exact F.len _ _ _ _ h
  refine wpAny_call (codeAny_mono (F.run X.A X.stack s H ⟨us,[]⟩ (us++ds) (vs++dvs) Q E hr I.env0 (hb s us I.kIn hl) r2 h) fun r s' hq=>?_)
  cases r with
  | error e=>exact hx pins σ H s e s' I hq
  | ok fl =>
    cases fl with
    | ret u=>exact I.after hq
    | next=>exact False.elim hq
    | brk=>exact False.elim hq
    | cont=>exact False.elim hq
theorem zl (F:az X.prog X.w X.K X.mg X.base CX k f fd ps sp) (hr:bP k X.A) (hg:Gl X x) (hm:X.mg x=some (.ref f)) (hk:PySem.W.keepIn X.K (.ref f)=true) (hb:Binds X.K fd ps ds) (hd:Vals dvs ds) (hx:Passes CX X E)
    (ha:PA X (e::es) t) (hdb:(x == ("__debug__" : Str))=false:=by decide) (he:starEach (e::es) X.env=(false,eval e X.env)::starEach es X.env:=by rfl) (hpl:(backTo pos (starEach es X.env)).any (·.1)=false:=by rfl) :
    PE X (.Call (.Name x p) (e::es) [] pos) (vB sp dvs E t):=by
  intro pins s σ H Q I h
  refine wpAny_Call_Name_kw (nO I hg hm ?_ hdb)
  refine PySem.W.callWith_K (h₀:=X.base) I.ok.mod.kin hk (aI (ha pos pins s σ H _ I h) fun us s1 ⟨vs,H1,I1,r,q⟩=>⟨I1.kIn,?_⟩) he hpl
  exact rP F hr hb hd hx I1 r q
theorem zd {pl:Sem Bool} (he:PE X o ta) (c:gT X.K C) (hm:Meth X.K C m f) (F:az X.prog X.w X.K X.mg X.base CX k f fd ps sp) (hr:bP k X.A) (hb:Binds X.K fd ps ds) (hd:Vals dvs ds) (hx:Passes CX X E) (ha:PA X (e::es) t)
    (hst:starEach (e::es) X.env=(false,eval e X.env)::starEach es X.env:=by rfl) (hpl:(backTo pos (starEach es X.env)).any (·.1)=false:=by rfl)
    (ht:eval (.Call (.Attribute o m apos) (e::es) [] pos) X.env=(do
      let ov <- eval o X.env
      standAt apos.atName
      let (f,first) <- holding [ov] (getMethod ov m pl)
      callWith pos f first (backTo pos (starEach (e::es) X.env)) (backToKw pos (keywordEach [] X.env))):=by rfl) :
    PE X (.Call (.Attribute o m apos) (e::es) [] pos) (yP C m sp dvs E ta t):=by
  intro pins s σ H Q I h
  refine PySem.W.methodCall_KW (pl:=pl) (aI (he pins s σ H _ I h) fun u s1 ⟨x,H1,I1,rx,a,dx,fs,ex,ea,l,q⟩=>?_) ht
  subst ex
  obtain rfl:u=Value.ref a:=rx
  refine mR I1 ea c hm l ?_
  refine PySem.W.callWith_K (first:=[.ref a]) (h₀:=X.base) I.ok.mod.kin hm.kp (aI (ha pos pins s1 σ H1 _ I1 q) fun us s2 ⟨vs,H2,I2,r,q2⟩=>⟨I2.kIn,?_⟩) hst hpl
  exact rP (us:=.ref a::us) (vs:=.ref a::vs) F hr hb hd hx I2 (.cons rfl r) q2
structure Mk (K:PySem.W.Frag) (C f:Addr):Prop where
  makes:PySem.W.makesIn K C=true
  init:PySem.W.findIn K (.ref C) "__init__" = some (some (.ref f))
  fn:PySem.W.isFn K (.ref f)=true
  kp:PySem.W.keepIn K (.ref C)=true
theorem xT {pins:List (Addr × Obj)} {σ:St} {H:Hp} {s:Shared} {Q:VK} {us:List Value} {vs:List V} (M:Mk X.K C f) (F:az X.prog X.w X.K X.mg X.base CX k f fd ps sp) (hr:bP (k+1) X.A) (hb:Binds X.K fd ps ds) (hd:Vals dvs ds)
    (hx:Passes CX X E) (I:Inv X pins σ H s) (r:Vals vs us)
    (h:∀ x dx,H x=none->H dx=none->dx≠x->sp (.ref x::(vs++dvs)) (upd (upd H dx (.own x)) x (.ins C dx [])) (fun v H2=>v = .non/\Q (.ref x) H2) E) :
    wpAny (model X.prog X.w) X.A (call (.ref C) us) (EP X pins σ Q) X.xe s:=by
  have hq:=h (s.heap.objs.size+1) s.heap.objs.size (I.hok.fresh (Nat.le_succ _)) (I.hok.fresh (Nat.le_refl _)) (Nat.ne_of_lt (Nat.lt_succ_self _))
  have I2:=Inv.made (C:=C) I
  have r2:Vals (V.ref (s.heap.objs.size+1)::(vs++dvs)) (Value.ref (s.heap.objs.size+1)::(us++ds)):=.cons rfl (r.append hd)
  have hl:(Value.ref (s.heap.objs.size+1)::us++ds).length=ps.length:=by
    have e:=r2.length
    rw [F.len _ _ _ _ hq] at e
    exact e.symm
  refine wpAny_call (yx (f:=f) I.kIn M.makes M.init (beq_iff_eq.mp M.fn) (codeAny_mono (F.run _ X.stack _ _ ⟨Value.ref (s.heap.objs.size+1)::us,[]⟩ (Value.ref (s.heap.objs.size+1)::(us++ds)) _ _ E (hr.make C us [])
    (I2.env0.make C us []) (hb _ (Value.ref (s.heap.objs.size+1)::us) I2.kIn hl) r2 hq) fun r s' hq'=>?_))
  cases r with
  | error e=>exact hx pins σ _ _ e s' I2 hq'
  | ok fl =>
    cases fl with
    | ret u =>
      obtain ⟨v,H',I3,rv,ev,q3⟩:=I2.after hq'
      subst ev
      exact ⟨rv,⟨V.ref (s.heap.objs.size+1),H',I3,rfl,q3⟩⟩
    | next=>exact False.elim hq'
    | brk=>exact False.elim hq'
    | cont=>exact False.elim hq'
theorem yj (M:Mk X.K C f) (F:az X.prog X.w X.K X.mg X.base CX k f fd ps sp) (hr:bP (k+1) X.A) (hg:Gl X x) (hm:X.mg x=some (.ref C)) (hb:Binds X.K fd ps ds) (hd:Vals dvs ds) (hx:Passes CX X E)
    (hdb:(x == ("__debug__" : Str))=false:=by decide):PE X (.Call (.Name x p) [] [] pos) (y8 C sp dvs E yL):=by
  intro pins s σ H Q I h
  refine wpAny_Call_Name_kw (nO I hg hm ?_ hdb)
  exact PySem.W.callWith_K0 I.kIn M.kp (xT (us:=[]) M F hr hb hd hx I .nil h)
end
section
variable {X:Cx} {CX:gi} {k:Nat} {f C:Addr} {fd:FuncData} {ps ks:List Str} {sp:Sp} {E:XK} {x m:Str} {p pos apos kpos:Pos} {e o:Expr} {es:List Expr} {kws:List Keyword} {te ta:TE} {t tk:TA} {nm:Option Str}
variable {g:List Value->List Value->List Value} {gV:List V->List V->List V}
end
structure aq (N P:List Str) (sc:Scope):Prop where
  kind:sc.kind = .function
  co:sc.isCoroutine=false
  gen:sc.isGenerator=false
  nd:N.Nodup
  pre:N.take P.length=P
  par:∀ x∈P,sc.names.lookup x=some .local\/sc.names.lookup x=some .cell
  nofree:∀ y∈sc.names,y.2≠.free
theorem oi {kindOf:Str->Option NameKind} {x:Str}:∀ {binds:List (Str × Value)} {m:Str->Option Value},(∀ v,(x,v)∉binds)->bindL kindOf binds m x=m x
  | [],_,_=>rfl
  | (n,v)::r,m,h=>by
    unfold bindL
    rw [oi fun w hw=>h w (List.mem_cons_of_mem _ hw)]
    split
    · have:x≠n:=by rintro rfl; exact h v List.mem_cons_self
      simp [this]
    · rfl
theorem oK {kindOf:Str->Option NameKind} {x:Str}:∀ {binds:List (Str × Value)} {m:Str->Option Value},(∀ v,(x,v)∉binds)->bindC kindOf binds m x=m x
  | [],_,_=>rfl
  | (n,v)::r,m,h=>by
    unfold bindC
    rw [oK fun w hw=>h w (List.mem_cons_of_mem _ hw)]
    split
    · rfl
    · have:x≠n:=by rintro rfl; exact h v List.mem_cons_self
      simp [this]
theorem oo {kindOf:Str->Option NameKind} {x:Str} {v:Value}:∀ {P:List Str} {vs:List Value} {i:Nat} {m:Str->Option Value},P.Nodup->P[i]? = some x->vs[i]? = some v->kindOf x=some .local ->
    bindL kindOf (P.zip vs) m x=some v
  | [],_,_,_,_,h,_,_=>by simp at h
  | _::_,[],_,_,_,_,h,_=>by simp at h
  | p::P,w::vs,0,m,nd,h1,h2,hk=>by
    simp at h1 h2; subst h1; subst h2
    show bindL kindOf ((p,w)::P.zip vs) m p=_
    unfold bindL
    rw [oi fun v hv=>(List.nodup_cons.mp nd).1 (List.of_mem_zip hv).1,if_pos hk]
    simp
  | p::P,w::vs,i+1,m,nd,h1,h2,hk=>by
    show bindL kindOf ((p,w)::P.zip vs) m x=_
    unfold bindL
    exact oo (i:=i) (List.nodup_cons.mp nd).2 (by simpa using h1) (by simpa using h2) hk
theorem oq {kindOf:Str->Option NameKind} {x:Str} {v:Value}:∀ {P:List Str} {vs:List Value} {i:Nat} {m:Str->Option Value},P.Nodup->P[i]? = some x->vs[i]? = some v->kindOf x≠some .local ->
    bindC kindOf (P.zip vs) m x=some v
  | [],_,_,_,_,h,_,_=>by simp at h
  | _::_,[],_,_,_,_,h,_=>by simp at h
  | p::P,w::vs,0,m,nd,h1,h2,hk=>by
    simp at h1 h2; subst h1; subst h2
    show bindC kindOf ((p,w)::P.zip vs) m p=_
    unfold bindC
    rw [oK fun v hv=>(List.nodup_cons.mp nd).1 (List.of_mem_zip hv).1,if_neg hk]
    simp
  | p::P,w::vs,i+1,m,nd,h1,h2,hk=>by
    show bindC kindOf ((p,w)::P.zip vs) m x=_
    unfold bindC
    exact oq (i:=i) (List.nodup_cons.mp nd).2 (by simpa using h1) (by simpa using h2) hk
noncomputable def start (N:List Str) (vs:List V):St:=vs.map some++List.replicate (N.length - vs.length) none
noncomputable def m9 (CX:gi) (P:Program) (w:World) (K:PySem.W.Frag) (mg:Str->Option Value) (base:Heap) (N:List Str) (qual:Str) (scope:Scope) (f:Addr) (cd:Value) (A:Around) (outer:List Env) (s:Shared) (H:Hp) (E:XK):Cx where
  prog:=P
  w:=w
  K:=K
  mg:=mg
  base:=base
  A:=A.deeper (envOfC qual scope s.heap.objs.size f cd)
  N:=N
  s₀:=s
  H₀:=H
  env:=envOfC qual scope s.heap.objs.size f cd
  outer:=outer
  stack:=envOfC qual scope s.heap.objs.size f cd::outer
  ex:=[]
  calm:=true
  fn:=fun _=>true
  pn:=[]
  xe:=fun e s'=>wpAny (model P w) (A.deeper (envOfC qual scope s.heap.objs.size f cd)) (leaving (envOfC qual scope s.heap.objs.size f cd) e) (fun _ s''=>CX outer H s E e s'') (fun e' s''=>CX outer H s E e' s'') s'
theorem sd {sc:Scope} {n:Nat} {x:Str} (h:sc.names.lookup x=some .cell):∃ c,(cellsFrom n sc.names []).lookup x=some c:=by
  have q:=PySem.W.cellsFrom_some sc.names n [] (.inl h)
  exact Option.isSome_iff_exists.mp q
theorem wI {CX:gi} {P:Program} {w:World} {K:PySem.W.Frag} {mg:Str->Option Value} {base:Heap} {N ps:List Str} {qual:Str} {scope:Scope} {f:Addr} {cd:Value} {A:Around} {outer:List Env} {s s1:Shared} {H:Hp} {E:XK} {us:List Value} {vs:List V}
    (S:aq N ps scope) (hd:A.handled=none) (e0:lF P w K mg base A outer s H) (hl:vs.length=ps.length) (r:Vals vs us)
    (x:InCallC s s.heap.objs.size (bindL (envOfC qual scope s.heap.objs.size f cd).kindOf (ps.zip us) fun _=>none) (cellsFrom (s.heap.objs.size+1) scope.names []) (bindC (envOfC qual scope s.heap.objs.size f cd).kindOf (ps.zip us) fun _=>none) s1) :
    Inv (m9 CX P w K mg base N qual scope f cd A outer s H E) [] (start N vs) H s1:=by
  have hpl:ps.length<=N.length:=by have:=congrArg List.length S.pre; rw [List.length_take] at this; omega
  obtain ⟨h1,tk,rfl,hk⟩:=x.done
  have noA:∀ b:Addr,b∉(m9 CX P w K mg base N qual scope f cd A outer s H E).ex:=fun b z=>absurd (show b∈([]:List Addr) from z) (by simp)
  refine ⟨⟨e0.mod,S.kind,rfl,rfl,Nat.le_refl _,fun y z c h1 h2=>?_,fun y hy=>?_,fun y c _ h=>?_,fun _=>hd,Around.frames_deeper e0.frames,.inr ⟨rfl,rfl⟩,fun b z=>absurd z (noA b),e0.bs,e0.bsz,fun b _ _=>noA b,fun b z=>absurd z (noA b),e0.funs,e0.frf⟩,
    rfl,e0.bare,Un.kept hk,⟨_,x.toInCall.ns,fun i y v h1 h2 h3=>?_⟩,fun y c h=>⟨_,x.cell y c h⟩,e0.hok.fresh (Nat.le_refl _),fun y c h=>?_,fun p hp=>absurd (show p∈([]:List (Addr × Obj)) from hp) (by simp),e0.hok.kept hk,?_⟩
  · exact name_of_addr x.apart (PySem.mem_of_lookup h1) (PySem.mem_of_lookup h2)
  · have hy:scope.names.lookup y=some .cell\/scope.names.lookup y=some .free:=hy
    rcases hy with hy | hy
    · exact sd hy
    · exact absurd rfl (S.nofree _ (PySem.mem_of_lookup hy))
  · exact Nat.le_of_lt (x.above y c (PySem.mem_of_lookup h))
  · have hi:i < vs.length:=by
      unfold start at h2
      by_cases hi:i < vs.length
      · exact hi
      · rw [List.getElem?_append_right (by simpa using hi)] at h2
        rw [List.getElem?_replicate] at h2
        split at h2<;>cases h2
    have ha:vs[i]? = some v:=by
      unfold start at h2
      rw [List.getElem?_append_left (by simpa using hi),List.getElem?_map] at h2
      cases e:vs[i]? with
      | none=>rw [e] at h2; cases h2
      | some a=>rw [e] at h2; cases h2; rfl
    obtain ⟨u,hu,rv⟩:=r.get ha
    have hp:ps[i]? = some y:=by
      rw [<- S.pre,List.getElem?_take_of_lt (by omega)]; exact h1
    have ndP:ps.Nodup:=by rw [<- S.pre]; exact S.nd.sublist (List.take_sublist _ _)
    refine ⟨u,rv,?_⟩
    rcases S.par y (List.mem_of_getElem? hp) with k | k
    · exact .inl ⟨k,oo ndP hp hu k⟩
    · obtain ⟨c,e⟩:=sd (n:=s.heap.objs.size+1) k
      refine .inr ⟨.inl k,c,e,?_⟩
      have q:=x.cell y c e
      rw [oq ndP hp hu (by show scope.names.lookup y≠_; rw [k]; decide)] at q
      exact q
  · exact e0.hok.fresh (Nat.le_of_lt (x.above y c (PySem.mem_of_lookup h)))
  · unfold start
    show _=N.length
    rw [List.length_append,List.length_map,List.length_replicate]
    omega
theorem Dc {CX:gi} {P:Program} {w:World} {K:PySem.W.Frag} {mg:Str->Option Value} {base:Heap} {k:Nat} {f:Addr} {name qual:Str} {params:Arguments} {body:List Stmt} {scope:Scope} {dV kV doc pm cdv ct oc:Value} {an od:Option Addr}
    {osl:Array (Option Value)} {N ps:List Str} {sp:Sp} (lk:K.lookup f=some ⟨oc,od,.func (PySem.W.fnOf name qual params body scope dV kV doc pm an cdv ct),osl⟩) (hcd:PySem.W.codeIn K cdv qual=true) (S:aq N ps scope)
    (len:∀ vs H Q E,sp vs H Q E->vs.length=ps.length)
    (hbody:∀ (A:Around) (outer:List Env) (s:Shared) (H:Hp) (vs:List V) (Q:VK) (E:XK),bP k (A.deeper (envOfC qual scope s.heap.objs.size f cdv))->sp vs H Q E ->
      ∃ t,gE (m9 CX P w K mg base N qual scope f cdv A outer s H E) body t/\t { nx:=fun _ H'=>Q .non H',rt:=Q } (start N vs) H) :
    az P w K mg base CX (k+1) f (PySem.W.fnOf name qual params body scope dV kV doc pm an cdv ct) ps sp:=by
  refine ⟨len,fun A outer s H args us vs Q E hr e0 hb r hsp=>?_⟩
  have hl:=len _ _ _ _ hsp
  have KX:K.In s.heap:=e0.mod.kin.keeps fun b o e=>(e0.bs b o e).1
  have lim:s.heap.NoLimit:=e0.mod.nolimit.keeps fun b o e=>(e0.bs b o e).1
  have hkind:∀ y∈ps.zip us,scope.names.lookup y.1=some .local\/(scope.names.lookup y.1=some .cell/\((cellsFrom (s.heap.objs.size+1) scope.names []).lookup y.1).isSome=true):=fun ⟨n,v⟩ hy=>by
    rcases S.par n (List.of_mem_zip hy).1 with q | q
    · exact .inl q
    · exact .inr ⟨q,PySem.W.cellsFrom_some _ _ _ (.inl q)⟩
  refine codeAny_call_function hr.depth (KX _ _ lk) rfl S.co S.gen rfl (PySem.W.codeRec_of KX hcd) (hb _ _ _ _ ?_)
  refine wpAny_newFunctionEnv_cells S.kind hkind fun env he s1 x=>?_
  subst he
  refine ⟨lim.keeps x.toInCall.keep,codeAny_func ?_⟩
  obtain ⟨t,ht,hq⟩:=hbody A outer s H vs Q E (hr.deeper _) hsp
  have I:Inv (m9 CX P w K mg base N qual scope f cdv A outer s H E) [] (start N vs) H s1:=wI S hr.hd e0 hl r x
  refine wpAny_mono (ht [] s1 (start N vs) H _ I hq) (fun fl s' hs=>?_) fun e s' hs=>hs
  have fin:∀ {σ':St} {H':Hp} {v:V} {u:Value},Inv (m9 CX P w K mg base N qual scope f cdv A outer s H E) [] σ' H' s'->RelV v u->Q v H'->CE outer P w H s Q u s' :=
    fun {σ' H' v u} J rv q=>⟨v,H',J.os,J.bare,J.base,J.hok,rv,q⟩
  cases fl with
  | ret u =>
    obtain ⟨v,σ',H',J,rv,q⟩:=hs
    exact fin J rv q
  | next =>
    obtain ⟨σ',H',J,q⟩:=hs
    exact fin (v:=V.non) (u:=Value.none) J rfl q
  | brk =>
    obtain ⟨_,_,_,q⟩:=hs
    exact False.elim q
  | cont =>
    obtain ⟨_,_,_,q⟩:=hs
    exact False.elim q
end L2
namespace L2
open PySem PySem.Spec PyProof.Rows
section
variable {X:Cx} {x:Str} {p pos:Pos} {e:Expr} {es:List Expr} {t:TA} {id T:String} {r:List V->Hp->VK->Prop}
noncomputable def Dq (r:List V->Hp->VK->Prop) (t:TA):TE:=fun σ H Q=>t σ H fun vs H1=>r vs H1 Q
theorem ax (hc:eN X (.builtin id) r) (hg:Gl X x) (hm:X.mg x=none) (hv:bootBuiltins x=some (.builtin id)) (ha:PA X (e::es) t) (hn:x≠"__name__":=by decide) (hdb:(x == ("__debug__" : Str))=false:=by decide)
    (he:starEach (e::es) X.env=(false,eval e X.env)::starEach es X.env:=by rfl) (hpl:(backTo pos (starEach es X.env)).any (·.1)=false:=by rfl):PE X (.Call (.Name x p) (e::es) [] pos) (Dq r t):=by
  intro pins s σ H Q I h
  refine wpAny_Call_Name_kw (dY I hg hm hv ?_ hn hdb)
  exact PyProof.Rows.callWith_builtin1 (aI (ha pos pins s σ H _ I h) fun us s1 ⟨vs,H1,I1,r1,q1⟩=>hc pins s1 σ H1 vs us Q I1 r1 q1) he hpl
theorem fW (hc:eN X (.type T) r) (hg:Gl X x) (hm:X.mg x=none) (hv:bootBuiltins x=some (.type T)) (ha:PA X (e::es) t) (hn:x≠"__name__":=by decide) (hdb:(x == ("__debug__" : Str))=false:=by decide)
    (he:starEach (e::es) X.env=(false,eval e X.env)::starEach es X.env:=by rfl) (hpl:(backTo pos (starEach es X.env)).any (·.1)=false:=by rfl):PE X (.Call (.Name x p) (e::es) [] pos) (Dq r t):=by
  intro pins s σ H Q I h
  refine wpAny_Call_Name_kw (dY I hg hm hv ?_ hn hdb)
  exact PyProof.Rows.callWith_type1 (aI (ha pos pins s σ H _ I h) fun us s1 ⟨vs,H1,I1,r1,q1⟩=>hc pins s1 σ H1 vs us Q I1 r1 q1) he hpl
end
end L2
namespace HT
open PySem PyProof.Rows
section
open PySem.SeqAt
open PySem.AutoSeq1 (wpAny_loadPart')
open PySem.MeetsSeq PySem.MeetsSeq2 PySem.MeetsSeq3
end
section
variable {prog:Program} {w:World} {A:Around} {E:Value->Shared->Prop} {s:Shared}
noncomputable def sIx (n d:Nat):Option Int->Nat
  | none=>d
  | some v=>if v < 0 then (v+(n:Int)).toNat else min v.toNat n
theorem sIx_none (n d:Nat):sIx n d none=d:=rfl
end
end HT
namespace L2
open PySem PySem.Spec PyProof.Rows
noncomputable abbrev TO:=St->Hp->(Option Int->Hp->Prop)->Prop
def PO (X:Cx) (e:Option Expr) (t:TO):Prop :=
  ∀ (pins:List (Addr × Obj)) (s:Shared) (σ:St) (H:Hp) (Q:Option Int->Hp->Prop),Inv X pins σ H s->t σ H Q ->
    wpAny (model X.prog X.w) X.A (evalPart e X.env) (fun u s'=>∃ o H',Inv X pins σ H' s'/\IsPart u o/\Q o H') X.xe s
noncomputable def zQ:TO:=fun _ H Q=>Q none H
noncomputable def CT (t:TE):TO:=fun σ H Q=>t σ H fun x H1=>∃ i,x = .int i/\Q (some i) H1
theorem intsAre_of {ns:List Int}:∀ {us:List Value},Vals (ns.map V.int) us->IntsAre us ns:=by
  induction ns with
  | nil=>intro us r; rw [List.map_nil] at r; cases r; exact .nil
  | cons n ns ih =>
    intro us r
    rw [List.map_cons] at r
    cases r with
    | cons r1 r2 =>
      obtain ⟨t,e⟩:=r1
      subst e
      exact .cons n t (ih r2)
section
variable {X:Cx} {e:Expr} {te:TE} {lo hi:Option Expr} {tl th:TO} {pos p2:Pos}
theorem nP:PO X none zQ:=by
  intro pins s σ H Q I h
  rw [evalPart_none]
  exact wpAny_pure ⟨none,H,I,.none,h⟩
theorem nt (h:PE X e te):PO X (some e) (CT te):=by
  intro pins s σ H Q I hw
  rw [evalPart_some]
  refine aI (h pins s σ H _ I hw) fun u s1 ⟨x,H1,I1,r1,q1⟩=>?_
  obtain ⟨i,rfl,q⟩:=q1
  obtain ⟨t,rfl⟩:=r1
  exact ⟨some i,H1,I1,.int i t,q⟩
def AU (X:Cx) (r:V->Option Int->Option Int->Hp->VK->Prop):Prop :=
  ∀ (pins:List (Addr × Obj)) (s:Shared) (σ:St) (H:Hp) (x:V) (v vl vu:Value) (lo hi:Option Int) (sl:Addr) (Q:VK),Inv X pins σ H s->RelV x v->s.heap.IsSliceOf sl vl vu .none->IsPart vl lo->IsPart vu hi->r x lo hi H Q ->
    ∃ T id,typeLookup (.type T) "__getitem__" = pure (some (.builtin id))/\s.TypeIs v T/\wpAny (model X.prog X.w) X.A (getItem v (.ref sl)) (EP X pins σ Q) X.xe s
noncomputable def D0 (r:V->Option Int->Option Int->Hp->VK->Prop) (te:TE) (tl th:TO):TE:=fun σ H Q=>te σ H fun x H1=>tl σ H1 fun l H2=>th σ H2 fun u H3=>r x l u H3 Q
theorem lL {r:V->Option Int->Option Int->Hp->VK->Prop} (hr:AU X r) (he:PE X e te) (hl:PO X lo tl) (hu:PO X hi th):PE X (.Subscript e (.Slice lo hi none p2) pos) (D0 r te tl th):=by
  intro pins s σ H Q I h
  refine Subscript_ (aI (he pins s σ H _ I h) fun v s1 ⟨x,H1,I1,r1,q1⟩=>?_)
  refine wpAny_Slice (aI (hl pins s1 σ H1 _ I1 q1) fun vl s2 ⟨l,H2,I2,pl,q2⟩=>aI (hu pins s2 σ H2 _ I2 q2) fun vu s3 ⟨u,H3,I3,pu,q3⟩=>?_)
  rw [evalPart_none]
  refine wpAny_pure ?_
  have I4:Inv X pins σ H3 { s3 with heap:=s3.heap.push { cls:=.type "slice",data:=.fields #[vl,vu,.none] } }:=I3.kept (t':=s3.toks) fun b ob q=>Heap.get?_push_of_some _ q
  obtain ⟨T,id,hT,ht,hg⟩:=hr pins { s3 with heap:=s3.heap.push { cls:=.type "slice",data:=.fields #[vl,vu,.none] } } σ H3 x v vl vu l u s3.heap.objs.size Q I4 r1 (Heap.IsSliceOf.new ..) pl pu q3
  show wpAny (model X.prog X.w) X.A (subscriptTail e (.Slice lo hi none p2) v (.ref s3.heap.objs.size)) (EP X pins σ Q) X.xe { s3 with heap:=s3.heap.push { cls:=.type "slice",data:=.fields #[vl,vu,.none] } }
  exact tail_any (ops:=[.ref s3.heap.objs.size,v]) ht hT hg (by with_unfolding_all rfl)
noncomputable def g5 (xs:List V) (lo hi:Option Int):List V:=(xs.drop (HT.sIx xs.length 0 lo)).take (HT.sIx xs.length xs.length hi - HT.sIx xs.length 0 lo)
theorem sF (xs:List V) (lo hi:Option Int):(g5 xs lo hi).length<=xs.length:=by
  unfold g5
  rw [List.length_take,List.length_drop]
  omega
end
end L2
namespace L2
open PySem PySem.Spec PyProof.Rows
noncomputable def mO (n:Nat) (i:Int):Option Nat:=if 0<=i then (if i < n then some i.toNat else none) else if -(n:Int)<=i then some (i+n).toNat else none
noncomputable def fh {α:Type} (xs:List α) (i:Int):Option α:=(mO xs.length i).bind fun j=>xs[j]?
theorem tM {n:Nat} {i:Int} {j:Nat} (h:mO n i=some j):seqIndex? i n=some j/\j < n/\-(n:Int)<=i/\i < n:=by
  unfold mO at h
  by_cases h0:0<=i
  · rw [if_pos h0] at h
    by_cases h1:i < n
    · rw [if_pos h1] at h
      have e:i.toNat=j:=Option.some.inj h
      exact ⟨by rw [seqIndex_of h0 h1,e],by omega,by omega,h1⟩
    · rw [if_neg h1] at h; cases h
  · rw [if_neg h0] at h
    by_cases h1 : -(n:Int)<=i
    · rw [if_pos h1] at h
      have e:(i+n).toNat=j:=Option.some.inj h
      exact ⟨by rw [seqIndex_neg (by omega) h1,e],by omega,h1,by omega⟩
    · rw [if_neg h1] at h; cases h
theorem nW {α:Type} {xs:List α} {i:Int} {v:α} (h:fh xs i=some v):∃ j,seqIndex? i xs.length=some j/\xs[j]? = some v/\j < xs.length/\-(xs.length:Int)<=i/\i < xs.length:=by
  unfold fh at h
  cases e:mO xs.length i with
  | none=>rw [e] at h; cases h
  | some j =>
    rw [e] at h
    obtain ⟨h1,h2,h3,h4⟩:=tM e
    exact ⟨j,h1,h,h2,h3,h4⟩
theorem fE {α:Type} {xs:List α} {j:Nat} {v:α} (h:xs[j]? = some v):fh xs (j:Int)=some v:=by
  have hj:j < xs.length:=(List.getElem?_eq_some_iff.mp h).1
  have e:mO xs.length (j:Int)=some j:=by
    unfold mO
    rw [if_pos (by omega),if_pos (by omega)]; simp
  unfold fh; rw [e]; exact h
def ze (b:Expr):Prop:=∀ o i,subscripted b false o i=operate [o,i] (getItem o i)
def wV (X:Cx) (r:R2):Prop :=
  ∀ (value slice:Expr) (pins:List (Addr × Obj)) (s:Shared) (σ:St) (H:Hp) (x y:V) (v u:Value) (Q:VK),Inv X pins σ H s->RelV x v->RelV y u->r x y H Q ->
    subscripted slice false v u=operate [v,u] (getItem v u)->wpAny (model X.prog X.w) X.A (subscriptTail value slice v u) (EP X pins σ Q) X.xe s
def yQ (X:Cx) (id:String) (r:V->List V->Hp->VK->Prop):Prop :=
  ∀ (pins:List (Addr × Obj)) (s:Shared) (σ:St) (H:Hp) (x:V) (xs:List V) (v:Value) (us:List Value) (Q:VK),Inv X pins σ H s->RelV x v->Vals xs us->r x xs H Q ->
    wpAny (model X.prog X.w) X.A (call (.builtin id) (v::us)) (EP X pins σ Q) X.xe s
section
variable {X:Cx} {a b:Expr} {ta tb:TE} {pos:Pos}
theorem aH {r:R2} (hr:wV X r) (ha:PE X a ta) (hb:PE X b tb) (hs:ze b):PE X (.Subscript a b pos) (yV r ta tb):=by
  intro pins s σ H Q I h
  exact Subscript_ (yB ha hb I h fun v u s2 x y H2 I2 rx ry q=>hr a b pins s2 σ H2 x y v u Q I2 rx ry q (hs _ _))
noncomputable def DO (K:PySem.W.Frag):R2:=fun x y H Q=>∃ p xs i v,x = .ref p/\y = .int i/\ar K H p xs/\fh xs i=some v/\Q v H
noncomputable def Az (K:PySem.W.Frag):R2:=fun x y H Q=>∃ p xs i v,x = .ref p/\y = .int i/\a9 K H p xs/\fh xs i=some v/\Q v H
noncomputable def Dr:R2:=fun x y H Q=>∃ z i c,x = .str z/\y = .int i/\z.length<=sizeLine/\fh z.cps.toList i=some c/\Q (.str ⟨#[c]⟩) H
theorem bu:wV X (DO X.K):=by
  intro value slice pins s σ H x y v u Q I rx ry h hs
  obtain ⟨p,xs,i,z,rfl,rfl,hq,he,q⟩:=h
  cases rx
  obtain ⟨t,rfl⟩:=ry
  obtain ⟨its,r,pl,hz⟩:=I.list hq
  obtain ⟨j,h1,h2,h3,h4,h5⟩:=nW he
  obtain ⟨w,ew,rw'⟩:=r.get h2
  have hl:=r.length
  have hn:=il
  have fin:EP X pins σ Q w s:=⟨z,H,I,rw',q⟩
  by_cases h0:0<=i
  · have hj:i.toNat=j:=by
      rw [seqIndex_of h0 h5] at h1
      exact Option.some.inj h1
    exact item_listR pl.isList h0 (by omega) (by rw [hj]; simpa using ew) fin hs
  · have hj:(i+(its.toArray.size:Int)).toNat=j:=by
      rw [seqIndex_neg (by omega) h4] at h1
      rw [List.size_toArray,<- hl]
      exact Option.some.inj h1
    exact subscriptTail_builtinR (x:=w) pl.isList.typeIs slot_list_getitem.lookup
      (wpAny_getItem_list_neg (Q:=fun r s'=>r=w/\EP X pins σ Q r s') pl.isList (by omega) (by rw [List.size_toArray]<;>omega) (by omega) (by rw [hj]; simpa using ew) ⟨rfl,fin⟩) hs
theorem bB:wV X (Az X.K):=by
  intro value slice pins s σ H x y v u Q I rx ry h hs
  obtain ⟨p,xs,i,z,rfl,rfl,hq,he,q⟩:=h
  cases rx
  obtain ⟨t,rfl⟩:=ry
  obtain ⟨its,r,pl,hz⟩:=I.tuple hq
  obtain ⟨j,h1,h2,h3,h4,h5⟩:=nW he
  obtain ⟨w,ew,rw'⟩:=r.get h2
  have hl:=r.length
  have hn:=il
  have fin:EP X pins σ Q w s:=⟨z,H,I,rw',q⟩
  exact subscriptTail_builtinR (x:=w) pl.typeIs slot_tuple_getitem.lookup
    (getItem_tuple (j:=j) (Q:=fun r s'=>r=w/\EP X pins σ Q r s') pl (by omega) (by omega) (by rw [List.size_toArray,<- hl]; exact h1) (by simpa using ew) ⟨rfl,fin⟩) hs
theorem jo:wV X Dr:=by
  intro value slice pins s σ H x y v u Q I rx ry h hs
  obtain ⟨z,i,c,rfl,rfl,hz,he,q⟩:=h
  obtain ⟨t,rfl⟩:=rx
  obtain ⟨t',rfl⟩:=ry
  obtain ⟨j,h1,h2,h3,h4,h5⟩:=nW he
  have hl:z.cps.toList.length=z.length:=by simp [Str.length]
  rw [hl] at h1 h4 h5
  have hn:=il
  exact tail_any (typeIs_str s z t) slot_str_getitem.lookup (getItem_str (c:=c) (by
    have e1:decide (i < -(2 ^ 63:Int))=false:=decide_eq_false (by omega)
    have e2:decide (i ≥ 2 ^ 63)=false:=decide_eq_false (by omega)
    rw [e1,e2,Bool.or_false]) (by rw [h1]; simpa using h2) ⟨.str ⟨#[c]⟩,H,I.tok _,⟨_,rfl⟩,q⟩) hs
theorem u9 (its:List Value) (n j:Nat) (u:Value):Obj.mapSeq (·.setIfInBounds j u) { cls:=.type "list",data:=.seq its.toArray n }={ cls:=.type "list",data:=.seq (its.set j u).toArray n }:=by
  simp [Obj.mapSeq]
theorem Inv.lst {pins:List (Addr × Obj)} {σ:St} {H:Hp} {s:Shared} {p:Addr} {xs:List V} (I:Inv X pins σ H s) (h:H p=some (.lst xs)) :
    ∃ (its:List Value) (n:Nat),Vals xs its/\s.heap.get? p=some { cls:=.type "list",data:=.seq its.toArray n }/\xs.length<=sizeLine:=by
  obtain ⟨z,its,n,r,e⟩:=I.hok p _ h
  exact ⟨its,n,r,e,z⟩
theorem Inv.lstUpd {pins:List (Addr × Obj)} {σ:St} {H:Hp} {s:Shared} {p:Addr} {xs ys:List V} {its its':List Value} {n n':Nat} {f:Obj->Obj} (I:Inv X pins σ H s) (h:H p=some (.lst xs))
    (ho:s.heap.get? p=some { cls:=.type "list",data:=.seq its.toArray n }) (hf:f { cls:=.type "list",data:=.seq its.toArray n }={ cls:=.type "list",data:=.seq its'.toArray n' }) (r:Vals ys its') (hz:ys.length<=sizeLine) (t:Nat) :
    Inv X pins σ (upd H p (.lst ys)) { s with heap:=s.heap.update p f,toks:=t }:=by
  have e:(s.heap.update p f).get? p=some { cls:=.type "list",data:=.seq its'.toArray n' }:=by
    rw [Heap.get?_update_self f ho (by rw [hf]<;>rfl),hf]
  refine I.write (x:=p) (e:=p) (by rw [h]; trivial) (.inl rfl) (fun b u hb q=>(Heap.get?_update_other _ _ (Ne.symm hb)).trans q) ⟨_,e⟩ ?_
  exact ⟨hz,its',n',r,e⟩
noncomputable def Cw:V->V->V->Hp->(Hp->Prop)->Prop:=fun o i v H Q=>∃ p xs k j,o = .ref p/\i = .int k/\H p=some (.lst xs)/\mO xs.length k=some j/\Q (upd H p (.lst (xs.set j v)))
theorem set_list:fH X Cw:=by
  intro pins s σ H o i v ov iv u Q I ro ri rv h
  obtain ⟨p,xs,k,j,rfl,rfl,hp,hj,q⟩:=h
  cases ro
  obtain ⟨t,rfl⟩:=ri
  obtain ⟨its,n,r,ho,hz⟩:=I.lst hp
  obtain ⟨h1,h2,h3,h4⟩:=tM hj
  have hl:=r.length
  have hn:=il
  have I':Inv X pins σ (upd H p (.lst (xs.set j v))) { s with heap:=s.heap.update p (Obj.mapSeq (·.setIfInBounds j u)) } :=
    I.lstUpd hp ho (u9 its n j u) (r.set rv j) (by rw [List.length_set]; exact hz) s.toks
  by_cases h0:0<=k
  · have hk:k.toNat=j:=by
      rw [seqIndex_of h0 h4] at h1
      exact Option.some.inj h1
    exact PySem.W.ki_setAt ho h0 (by omega) (by rw [List.size_toArray,<- hl]; exact h4) (by rw [hk]; exact ⟨_,I',q⟩)
  · have hk:(k+(its.toArray.size:Int)).toNat=j:=by
      rw [seqIndex_neg (by omega) h3] at h1
      rw [List.size_toArray,<- hl]
      exact Option.some.inj h1
    exact PySem.W.ki_setBack ho (by omega) (by rw [List.size_toArray,<- hl]; exact h3) (by omega) (by rw [hk]; exact ⟨_,I',q⟩)
theorem qe (lo hi:Option Int) (n:Nat):(sliceBounds lo hi none n).1=((HT.sIx n 0 lo:Nat):Int)/\(sliceBounds lo hi none n).2.1=((HT.sIx n n hi:Nat):Int)/\(sliceBounds lo hi none n).2.2=1:=by
  refine ⟨?_,?_,rfl⟩
  · cases lo with
    | none=>simp [sliceBounds,HT.sIx]
    | some i =>
      simp only [sliceBounds,HT.sIx,Option.getD_none,show (1:Int) > 0 by decide,if_true]
      by_cases h:i < 0
      · simp only [h,if_true]<;>omega
      · simp only [h,if_false]<;>omega
  · cases hi with
    | none=>simp [sliceBounds,HT.sIx]
    | some i =>
      simp only [sliceBounds,HT.sIx,Option.getD_none,show (1:Int) > 0 by decide,if_true]
      by_cases h:i < 0
      · simp only [h,if_true]<;>omega
      · simp only [h,if_false]<;>omega
theorem oW (its:List Value) (lo hi:Option Int):slicePick its.toArray lo hi none=((its.drop (HT.sIx its.length 0 lo)).take (HT.sIx its.length its.length hi - HT.sIx its.length 0 lo)).toArray:=by
  obtain ⟨h1,h2,h3⟩:=qe lo hi its.toArray.size
  unfold slicePick
  rw [h1,h2,h3]
  simp only [sliceRange_one,pick_run,List.size_toArray]<;>rfl
noncomputable def DB (K:PySem.W.Frag):V->Option Int->Option Int->Hp->VK->Prop:=fun x lo hi H Q=>∃ a xs,x = .ref a/\ar K H a xs/\∀ p,H p=none->Q (.ref p) (upd H p (.lst (g5 xs lo hi)))
theorem tU:AU X (DB X.K):=by
  intro pins s σ H x v vl vu lo hi sl Q I rx hs pl pu h
  obtain ⟨a,xs,rfl,hx,q⟩:=h
  cases rx
  obtain ⟨its,r,ht,hz⟩:=I.list hx
  have hlen:=r.length
  refine ⟨"list",_,slot_list_getitem.lookup,ht.isList.typeIs,?_⟩
  refine wpAny_getItem_list_slice ht.isList hs pl pu .none (by simp) ?_ (by rw [List.size_toArray]<;>omega)
  rw [oW,<- hlen]
  refine ⟨.ref s.heap.objs.size,_,I.laid (t':=s.toks) (o:=.lst (g5 xs lo hi)) (fun b ob q=>Heap.get?_push_of_some _ q) (Nat.le_refl _) ?_,rfl,q _ (I.hok.fresh (Nat.le_refl _))⟩
  exact ⟨Nat.le_trans (sF xs lo hi) hz,_,0,(r.drop (HT.sIx xs.length 0 lo)).take (HT.sIx xs.length xs.length hi - HT.sIx xs.length 0 lo),Heap.get?_push_size _ rfl⟩
noncomputable def gr:V->Bool
  | .non=>true
  | .bl _=>true
  | .int _=>true
  | .str _=>true
  | _=>false
noncomputable def mh:V->V->Bool
  | .non,.non=>true
  | .bl a,.bl b=>a == b
  | .bl a,.int b=>(if a then 1 else 0) == b
  | .int a,.bl b=>a == (if b then 1 else 0)
  | .int a,.int b=>a == b
  | .str a,.str b=>a == b
  | _,_=>false
theorem wz {A:Around} {s:Shared} {y x:V} {u v:Value} (ry:RelV y u) (rx:RelV x v) (fy:gr y=true) (fx:gr x=true):SeqAt.EqAt A s u v (mh y x):=by
  cases y with
  | non =>
    cases ry
    cases x with
    | non=>cases rx; exact SeqAt.EqAt.same _
    | bl b=>cases rx; exact SeqAt.EqAt.none_bool b
    | int b=>obtain ⟨t,rfl⟩:=rx; exact SeqAt.EqAt.none_int b t
    | str b=>obtain ⟨t,rfl⟩:=rx; exact SeqAt.EqAt.none_str b t
    | _=>exact absurd (show false=true from fx) Bool.false_ne_true
  | bl a =>
    cases ry
    cases x with
    | non=>cases rx; exact SeqAt.EqAt.bool_none a
    | bl b=>cases rx; exact SeqAt.EqAt.bool_bool a b
    | int b=>obtain ⟨t,rfl⟩:=rx; exact SeqAt.EqAt.bool_int a b t
    | str b=>obtain ⟨t,rfl⟩:=rx; exact SeqAt.EqAt.bool_str a b t
    | _=>exact absurd (show false=true from fx) Bool.false_ne_true
  | int a =>
    obtain ⟨t',rfl⟩:=ry
    cases x with
    | non=>cases rx; exact SeqAt.EqAt.int_none a t'
    | bl b=>cases rx; exact SeqAt.EqAt.int_bool a t' b
    | int b=>obtain ⟨t,rfl⟩:=rx; exact SeqAt.EqAt.int_int a t' b t
    | str b=>obtain ⟨t,rfl⟩:=rx; exact SeqAt.EqAt.int_str a t' b t
    | _=>exact absurd (show false=true from fx) Bool.false_ne_true
  | str a =>
    obtain ⟨t',rfl⟩:=ry
    cases x with
    | non=>cases rx; exact SeqAt.EqAt.str_none a t'
    | bl b=>cases rx; exact SeqAt.EqAt.str_bool a t' b
    | int b=>obtain ⟨t,rfl⟩:=rx; exact SeqAt.EqAt.str_int a t' b t
    | str b=>obtain ⟨t,rfl⟩:=rx; exact SeqAt.EqAt.str_str a t' b t
    | _=>exact absurd (show false=true from fx) Bool.false_ne_true
  | _=>exact absurd (show false=true from fy) Bool.false_ne_true
theorem aG:eN X (.builtin "len") (fun xs H Q=>∃ p ys,xs=[.ref p]/\(ar X.K H p ys\/a9 X.K H p ys)/\Q (.int ys.length) H):=by
  intro pins s σ H xs us Q I r h
  obtain ⟨p,ys,rfl,hq,q⟩:=h
  obtain ⟨u,rfl,rx⟩:=vals1 r
  cases rx
  have hn:=il
  rcases hq with hq | hq
  · obtain ⟨its,r',pl,hz⟩:=I.list hq
    have hlen:=r'.length
    exact Calls.call_len_list pl.isList (by simp only [List.size_toArray]<;>omega) ⟨.int ys.length,H,I.tok _,⟨s.toks+1,by rw [List.size_toArray,hlen]⟩,q⟩
  · obtain ⟨its,r',pl,hz⟩:=I.tuple hq
    have hlen:=r'.length
    exact len_tuple pl (by simp only [List.size_toArray]<;>omega) ⟨.int ys.length,H,I.tok _,⟨s.toks+1,by rw [List.size_toArray,hlen]⟩,q⟩
theorem e7:eN X (.builtin "len") (fun xs H Q=>∃ z,xs=[.str z]/\z.length<=sizeLine/\Q (.int z.length) H):=by
  intro pins s σ H xs us Q I r h
  obtain ⟨z,rfl,hz,q⟩:=h
  obtain ⟨u,rfl,t,rfl⟩:=vals1 r
  have hn:=il
  exact len_str (by omega) ⟨.int z.length,H,I.tok _,⟨_,rfl⟩,q⟩
theorem gD:eN X (.type "list") (fun xs H Q=>∃ p ys,xs=[.ref p]/\(ar X.K H p ys\/a9 X.K H p ys)/\∀ l,H l=none->Q (.ref l) (upd H l (.lst ys))):=by
  intro pins s σ H xs us Q I r h
  obtain ⟨p,ys,rfl,hq,q⟩:=h
  obtain ⟨u,rfl,rx⟩:=vals1 r
  cases rx
  have fin:∀ (its:List Value),Vals ys its->ys.length<=sizeLine->∀ (h':Heap) (c':Nat),(∀ b o',s.heap.get? b=some o'->h'.get? b=some o') ->
      h'.get? s.heap.objs.size=some { cls:=.type "list",dict:=none,data:=.seq its.toArray c',slots:=#[] }->EP X pins σ Q (.ref s.heap.objs.size) { s with heap:=h' }:=fun its r' hz h' c' kp e =>
    ⟨.ref s.heap.objs.size,_,I.laid (t':=s.toks) kp (Nat.le_refl _) (show cI X.prog X.w _ h' _ (.lst ys) from ⟨hz,its,c',r',e⟩),rfl,q _ (I.hok.fresh (Nat.le_refl _))⟩
  rcases hq with hq | hq
  · obtain ⟨its,r',pl,hz⟩:=I.list hq
    have hlen:=r'.length
    obtain ⟨o,ho,hc,n,hd⟩:=pl.isList
    exact call_list_seq p (.inl rfl) ho hc hd (fun h' c' kp e=>fin its r' hz h' c' kp e) (by simp only [List.size_toArray]<;>omega)
  · obtain ⟨its,r',pl,hz⟩:=I.tuple hq
    have hlen:=r'.length
    obtain ⟨o,ho,hc,n,hd⟩:=pl
    exact call_list_seq p (.inr rfl) ho hc hd (fun h' c' kp e=>fin its r' hz h' c' kp e) (by simp only [List.size_toArray]<;>omega)
def AA (K:PySem.W.Frag) (T:String) (x:V) (H:Hp):Prop:=match x with
  | .str _=>T = "str"
  | .int _=>T = "int"
  | .ref p=>(T = "list"/\∃ xs,ar K H p xs)\/(T = "tuple"/\∃ o,K.lookup p=some o/\o.cls = .type "tuple"/\o.dict=none) \/
      (T = "dict"/\((∃ kvs,H p=some (.dK kvs))\/∃ kvs,H p=some (.dT kvs)))\/(T = "set"/\∃ S n,H p=some (.set S n))
  | _=>False
theorem wJ {pins:List (Addr × Obj)} {σ:St} {H:Hp} {s:Shared} {T:String} {x:V} {v:Value} (I:Inv X pins σ H s) (r:RelV x v) (ty:AA X.K T x H) :
    s.TypeIs v T/\∀ a,v = .ref a->∃ ob,s.heap.get? a=some ob/\ob.dict=none:=by
  cases x with
  | str z =>
    obtain ⟨t,rfl⟩:=r
    cases (show T = "str" from ty)
    exact ⟨typeIs_str s z t,fun _ e=>nomatch e⟩
  | int i =>
    obtain ⟨t,rfl⟩:=r
    cases (show T = "int" from ty)
    exact ⟨typeIs_int s i t,fun _ e=>nomatch e⟩
  | ref p =>
    cases r
    rcases ty with ⟨rfl,xs,hq⟩ | ⟨rfl,o,hk,hc,hd⟩ | ⟨rfl,hk⟩ | ⟨rfl,S,n,hk⟩
    · obtain ⟨its,_,pl,_⟩:=I.list hq
      refine ⟨pl.isList.typeIs,fun a e=>?_⟩
      cases e
      obtain ⟨o,n,e,c,hd,_⟩:=pl
      exact ⟨o,e,hd⟩
    · refine ⟨⟨o,I.kIn p o hk,hc⟩,fun a e=>?_⟩
      cases e
      exact ⟨o,I.kIn _ o hk,hd⟩
    · have z:∃ o,s.heap.get? p=some o/\o.ExactDict:=by
        rcases hk with ⟨kvs,hk⟩ | ⟨kvs,hk⟩
        · obtain ⟨_,_,_,_,o,_,_,e,ex,_⟩:=I.hok p _ hk
          exact ⟨o,e,ex⟩
        · obtain ⟨_,_,_,_,o,_,_,e,ex,_⟩:=I.hok p _ hk
          exact ⟨o,e,ex⟩
      obtain ⟨o,e,ex⟩:=z
      refine ⟨⟨o,e,ex.1⟩,fun a e2=>?_⟩
      cases e2
      exact ⟨o,e,ex.2.1⟩
    · obtain ⟨o,_,_,_,e,ex,_⟩:=I.hok p _ hk
      refine ⟨⟨o,e,ex.1⟩,fun a e2=>?_⟩
      cases e2
      exact ⟨o,e,ex.2.1⟩
  | _=>exact False.elim ty
noncomputable def Dv (K:PySem.W.Frag) (T:String) (r:V->List V->Hp->VK->Prop) (to:TE):TE:=fun σ H Q=>to σ H fun x H1=>AA K T x H1/\r x [] H1 Q
noncomputable def AV (K:PySem.W.Frag) (T:String) (r:V->List V->Hp->VK->Prop) (to:TE) (t:TA):TE:=fun σ H Q=>to σ H fun x H1=>AA K T x H1/\t σ H1 fun xs H2=>r x xs H2 Q
variable {o e:Expr} {es:List Expr} {to:TE} {t:TA} {name:Str} {apos cpos:Pos} {T id:String} {r:V->List V->Hp->VK->Prop}
theorem wg (pa:PlainAttrs T) (slot:Slot T name id) (hty:typeOf (.builtin id)=pure (.type "method_descriptor")) (hm:yQ X id r) (ho:PE X o to)
    (hbase:attributeBase o name X.env (eval o X.env)=eval o X.env:=by rfl) (hline:(apos.endLine == cpos.line)=true:=by rfl):PE X (.Call (.Attribute o name apos) [] [] cpos) (Dv X.K T r to):=by
  intro pins s σ H Q I h
  refine wpAny_Call_method0_late hbase hline (aI (ho pins s σ H _ I h) fun v s1 ⟨x,H1,I1,r1,ty,q1⟩=>?_)
  obtain ⟨h1,h2⟩:=wJ I1 r1 ty
  exact ⟨T,id,pa,slot,hty,h1,h2,Calls.callWith_builtin rfl (PySem.evalArgs_none (hm pins s1 σ H1 x [] v [] Q I1 r1 .nil q1))⟩
theorem dq (pa:PlainAttrs T) (slot:Slot T name id) (hty:typeOf (.builtin id)=pure (.type "method_descriptor")) (hm:yQ X id r) (ho:PE X o to) (ha:PA X (e::es) t)
    (hbase:attributeBase o name X.env (eval o X.env)=eval o X.env:=by rfl)
    (hfew:((backTo cpos (starEach (e::es) X.env)).all (fun x=>!x.1)&&(backToKw cpos (keywordEach [] X.env)).all (fun x=>x.1.isSome)
      && decide ((e::es).length+([]:List Keyword).length+(if ([]:List Keyword).isEmpty then 0 else 1) < 30))=true:=by rfl)
    (hline:(apos.endLine == cpos.line)=true:=by rfl) (hs:starEach (e::es) X.env=(false,eval e X.env)::starEach es X.env:=by rfl) (hplain:(backTo cpos (starEach es X.env)).any (·.1)=false:=by rfl) :
    PE X (.Call (.Attribute o name apos) (e::es) [] cpos) (AV X.K T r to t):=by
  intro pins s σ H Q I h
  refine wpAny_Call_method_late hbase hfew hline rfl (aI (ho pins s σ H _ I h) fun v s1 ⟨x,H1,I1,r1,ty,q1⟩=>?_)
  obtain ⟨h1,h2⟩:=wJ I1 r1 ty
  refine ⟨T,id,pa,slot,hty,h1,h2,?_⟩
  have hA:=ha cpos pins s1 σ H1 _ I1 q1
  rw [hs] at hA |-
  refine Calls.callWith_builtin (by show (false || (backTo cpos (starEach es X.env)).any (·.1))=false; rw [hplain]<;>rfl) (Calls.evalArgs_plain ?_)
  exact aI hA fun us s2 ⟨vs,H2,I2,r2,q2⟩=>hm pins s2 σ H2 x vs v us Q I2 r1 r2 q2
end
end L2
namespace L2
open PySem PySem.Spec PyProof.Rows
def ou (X:Cx) (id:String) (r:V->List V->Hp->VK->Prop):Prop :=
  ∀ (pins:List (Addr × Obj)) (s:Shared) (σ:St) (H:Hp) (x:V) (xs:List V) (v:Value) (us:List Value) (Q:VK),Inv X pins σ H s->RelV x v->Vals xs us->r x xs H Q ->
    wpAny (model X.prog X.w) X.A (call (.builtin id) (v::us)) (EP X pins σ Q) X.xe s
theorem Vals.one:∀ {x:V} {us:List Value},Vals [x] us->∃ u,us=[u]/\RelV x u
  | _,_,.cons r .nil=>⟨_,rfl,r⟩
theorem Vals.zero:∀ {us:List Value},Vals [] us->us=[]
  | _,.nil=>rfl
theorem Vals.dropLast {xs:List V} {us:List Value} (h:Vals xs us):Vals xs.dropLast us.dropLast:=by
  induction h with
  | nil=>exact .nil
  | cons r t ih =>
    cases t with
    | nil=>exact .nil
    | cons q t'=>exact .cons r ih
theorem Vals.rep {xs:List V} {us:List Value} (h:Vals xs us):∀ k:Nat,Vals (List.replicate k xs).flatten (List.replicate k us).flatten
  | 0=>.nil
  | k+1=>by
    rw [List.replicate_succ,List.replicate_succ,List.flatten_cons,List.flatten_cons]
    exact Vals.append h (Vals.rep h k)
theorem vn {α:Type} (l:List α):l.eraseIdx (l.length - 1)=l.dropLast:=by
  induction l with
  | nil=>rfl
  | cons a r ih =>
    cases r with
    | nil=>rfl
    | cons b r =>
      have e:(a::b::r).length - 1=((b::r).length - 1)+1:=by
        have h1:(a::b::r).length=r.length+2:=rfl
        have h2:(b::r).length=r.length+1:=rfl
        omega
      rw [e,List.eraseIdx_cons_succ,ih]
      all_goals rfl
theorem foldl_rep (its:List Value):∀ (k:Nat) (acc:List Value),
    List.foldl (fun x1 x2=>x1++x2) acc.toArray (List.replicate k its.toArray)=(acc++(List.replicate k its).flatten).toArray
  | 0,acc=>by simp
  | k+1,acc=>by
    have e:acc.toArray++its.toArray=(acc++its).toArray:=by simp
    have e2:(acc++its)++(List.replicate k its).flatten=acc++(List.replicate (k+1) its).flatten:=by
      rw [List.replicate_succ,List.flatten_cons,List.append_assoc]
    rw [<- e2,<- foldl_rep its k (acc++its),<- e,List.replicate_succ,List.foldl_cons]
section
variable {X:Cx} {pins:List (Addr × Obj)} {σ:St} {H:Hp} {s:Shared} {l b:Addr} {xs ys zs:List V}
theorem Inv.lset {its its':List Value} {n:Nat} {f:Array Value->Array Value} {t':Nat} (I:Inv X pins σ H s) (hH:H l=some (.lst xs))
    (e:s.heap.get? l=some { cls:=.type "list",data:=.seq its.toArray n }) (hf:f its.toArray=its'.toArray) (hv:Vals ys its') (hz:ys.length<=sizeLine) :
    Inv X pins σ (upd H l (.lst ys)) { s with heap:=s.heap.update l (Obj.mapSeq f),toks:=t' }:=by
  have q:=PySem.IsL.update e f
  rw [hf] at q
  refine I.write (x:=l) (e:=l) (by rw [hH]; exact trivial) (.inl rfl) (fun b' u hb hu=>(Heap.get?_update_other s.heap (Obj.mapSeq f) (Ne.symm hb)).trans hu) ⟨_,q⟩ ?_
  exact ⟨hz,its',_,hv,q⟩
theorem Inv.lnew {its:List Value} {t':Nat} (I:Inv X pins σ H s) (hv:Vals ys its) (hz:ys.length<=sizeLine) :
    Inv X pins σ (upd H s.heap.objs.size (.lst ys)) { s with heap:=s.heap.push { cls:=.type "list",data:=.seq its.toArray },toks:=t' } :=
  I.laid (fun _ _ q=>Heap.get?_push_of_some _ q) (Nat.le_refl _) ⟨hz,its,0,hv,Heap.get?_push_size _ rfl⟩
theorem Inv.fresh (I:Inv X pins σ H s):H s.heap.objs.size=none:=I.hok.fresh (Nat.le_refl _)
theorem Inv.lstM (I:Inv X pins σ H s) (hH:H l=some (.lst xs)):xs.length<=sizeLine/\∃ (its:List Value) (n:Nat),Vals xs its/\xs.length=its.length/\s.heap.get? l=some { cls:=.type "list",data:=.seq its.toArray n }:=by
  obtain ⟨z,its,n,r,e⟩:=I.hok l _ hH
  exact ⟨z,its,n,r,r.length,e⟩
theorem lH {n:Nat} (h:n<=sizeLine):Builtin.List.listTooLong n=false:=by
  unfold Builtin.List.listTooLong
  exact decide_eq_false (by omega)
end
section
variable {X:Cx}
noncomputable def zK:V->List V->Hp->VK->Prop:=fun x vs H Q=>∃ l xs y,x = .ref l/\vs=[y]/\H l=some (.lst xs)/\xs.length < sizeLine/\Q .non (upd H l (.lst (xs++[y])))
theorem bR:ou X "list.append" zK:=by
  intro pins s σ H x vs v us Q I rx rv h
  obtain ⟨l,xs,y,rfl,rfl,hH,hz,q⟩:=h
  cases rx
  obtain ⟨u,rfl,ru⟩:=rv.one
  obtain ⟨z,its,n,r,hl,e⟩:=I.lstM hH
  refine call_meets F.slot_list_append ⟨_,e,rfl⟩ F.entry_list_append (F.args_list_append_2 _ _) (PySem.list_append l its.toArray n u (by rw [List.size_toArray]; omega)) ⟨e,?_⟩
  refine ⟨.non,_,I.lset (its':=its++[u]) hH e (by simp) (r.append (.cons ru .nil)) ?_,rfl,q⟩
  rw [List.length_append,List.length_singleton]
  omega
noncomputable def zi:V->List V->Hp->VK->Prop:=fun x vs H Q=>∃ l b xs zs,x = .ref l/\vs=[.ref b]/\H l=some (.lst xs)/\H b=some (.lst zs)/\xs.length+zs.length<=sizeLine/\Q .non (upd H l (.lst (xs++zs)))
theorem Dn:ou X "list.extend" zi:=by
  intro pins s σ H x vs v us Q I rx rv h
  obtain ⟨l,b,xs,zs,rfl,rfl,hH,hB,hz,q⟩:=h
  cases rx
  obtain ⟨u,rfl,ru⟩:=rv.one
  cases ru
  obtain ⟨z,its,n,r,hl,e⟩:=I.lstM hH
  obtain ⟨z2,its2,n2,r2,hl2,e2⟩:=I.lstM hB
  have hsz:its.toArray.size+its2.toArray.size<=sizeLine:=by rw [List.size_toArray,List.size_toArray]; omega
  have hlong:¬ (!its.toArray.isEmpty&&Builtin.List.listTooLong (its.toArray.size+its2.toArray.size))=true:=by
    rw [lH hsz,Bool.and_false]
    exact Bool.false_ne_true
  refine call_meets F.slot_list_extend ⟨_,e,rfl⟩ F.entry_list_extend (F.args_list_extend_2 _ _)
    (AutoSeq1.list_extend_list_list_0 l its.toArray n b its2.toArray n2 hlong (by rw [List.size_toArray]; omega) (by omega)) ⟨e,e2,?_⟩
  refine ⟨.non,_,I.lset (its':=its++its2) hH e (by simp) (r.append r2) ?_,rfl,q⟩
  rw [List.length_append]
  omega
noncomputable def DF:V->List V->Hp->VK->Prop:=fun x vs H Q=>∃ l xs y,x = .ref l/\vs=[]/\H l=some (.lst xs)/\xs[xs.length - 1]? = some y/\Q y (upd H l (.lst xs.dropLast))
theorem xa:ou X "list.pop" DF:=by
  intro pins s σ H x vs v us Q I rx rv h
  obtain ⟨l,xs,y,rfl,rfl,hH,hy,q⟩:=h
  cases rx
  have hus:=rv.zero
  subst hus
  obtain ⟨z,its,n,r,hl,e⟩:=I.lstM hH
  obtain ⟨u,hu,ru⟩:=r.get hy
  have hy':its.toArray[its.toArray.size - 1]? = some u:=by
    show its.toArray[its.length - 1]? = some u
    rw [<- Array.getElem?_toList,<- hl]
    exact hu
  refine call_meets F.slot_list_pop ⟨_,e,rfl⟩ F.entry_list_pop (F.args_list_pop_1 _) (MeetsSeq.list_pop_last l its.toArray n u hy' (by rw [List.size_toArray]; omega)) ⟨e,?_⟩
  refine ⟨y,_,I.lset (its':=its.dropLast) hH e ?_ r.dropLast ?_,ru,q⟩
  · show its.toArray.eraseIdxIfInBounds (its.toArray.size - 1)=its.dropLast.toArray
    rw [List.size_toArray,List.eraseIdxIfInBounds_toArray,vn]
  · rw [List.length_dropLast]
    omega
noncomputable def DC:R2:=fun x y H Q=>∃ l b xs zs,x = .ref l/\y = .ref b/\H l=some (.lst xs)/\H b=some (.lst zs)/\xs.length+zs.length<=sizeLine/\∀ p,H p=none->Q (.ref p) (upd H p (.lst (xs++zs)))
theorem Ci:cQ X (binaryOp .Add) DC:=by
  intro pins s σ H x y v u Q I rx ry h
  obtain ⟨l,b,xs,zs,rfl,rfl,hH,hB,hz,q⟩:=h
  cases rx
  cases ry
  obtain ⟨z,its,n,r,hl,e⟩:=I.lstM hH
  obtain ⟨z2,its2,n2,r2,hl2,e2⟩:=I.lstM hB
  refine PySem.P.add_list e e2 ?_ (by rw [List.size_toArray,List.size_toArray]; omega)
  have ea:its.toArray++its2.toArray=(its++its2).toArray:=by simp
  rw [ea]
  exact ⟨.ref _,_,I.lnew (t':=s.toks) (r.append r2) (by rw [List.length_append]; omega),rfl,q _ I.fresh⟩
noncomputable def Ds:R2:=fun x y H Q=>∃ l k xs,x = .ref l/\y = .int k/\H l=some (.lst xs)/\-(2 ^ 63)<=k/\k < 2 ^ 63/\xs.length*k.toNat<=sizeLine /\
  ∀ p,H p=none->Q (.ref p) (upd H p (.lst (List.replicate k.toNat xs).flatten))
theorem len_rep {α:Type} (xs:List α) (k:Nat):(List.replicate k xs).flatten.length=k*xs.length:=by
  induction k with
  | zero=>simp
  | succ k ih=>rw [List.replicate_succ,List.flatten_cons,List.length_append,ih,Nat.succ_mul,Nat.add_comm]
theorem Ba:cQ X (binaryOp .Mult) Ds:=by
  intro pins s σ H x y v u Q I rx ry h
  obtain ⟨l,k,xs,rfl,rfl,hH,h1,h2,hz,q⟩:=h
  cases rx
  obtain ⟨t,rfl⟩:=ry
  obtain ⟨z,its,n,r,hl,e⟩:=I.lstM hH
  have hlen:its.toArray.size*k.toNat<=sizeLine:=by rw [List.size_toArray,<- hl]; exact hz
  have hcap:¬ its.toArray.size*k.toNat > (2 ^ 63 - 1) / 8:=by
    have:(sizeLine:Nat)<=(2 ^ 63 - 1) / 8:=by decide
    omega
  have hfit:¬ (!Builtin.List.listFitsIndex k)=true:=by
    rw [fitsIndex_both h1 h2]
    exact Bool.false_ne_true
  have hlong:¬ Builtin.List.listTooLong (its.toArray.size*k.toNat)=true:=by
    rw [lH hlen]
    exact Bool.false_ne_true
  have hnew:List.foldl (fun x1 x2=>x1++x2) #[] (List.replicate (if its.toArray.isEmpty=true then 0 else k.toNat) its.toArray)=(List.replicate k.toNat its).flatten.toArray:=by
    have f0:∀ m:Nat,List.foldl (fun x1 x2=>x1++x2) #[] (List.replicate m its.toArray)=(List.replicate m its).flatten.toArray:=fun m=>by
      have:=foldl_rep its m []
      rw [List.nil_append] at this
      exact this
    rw [f0]
    cases its with
    | nil=>simp
    | cons a r'=>rw [if_neg (by simp)]
  refine wpAny_binaryOp_repeat_ref (T:="list") (U:="int") (by decide) ⟨_,e,rfl⟩ (fun s'=>typeIs_int s' k t) noFill_list_mul F.fills_int_mul F.slot_int_rmul repeat_list F.slot_int_index.lookup
    (call_meets F.slot_int_rmul (typeIs_int s k t) F.entry_int_rmul (F.args_int_rmul_2 _ _) (int___rmul___int_list k t l its.toArray n)
      ⟨e,rfl,⟨_,e,rfl⟩,call_meets F.slot_list_mul ⟨_,e,rfl⟩ F.entry_list_mul (F.args_list_mul_2 _ _) (AutoListH.list___mul___list_int_3 l its.toArray n k t hfit hcap hlong) ⟨e,?_⟩⟩)
  rw [hnew]
  exact ⟨.ref _,_,I.lnew (t':=s.toks) (r.rep k.toNat) (by rw [len_rep,Nat.mul_comm]; exact hz),rfl,q _ I.fresh⟩
end
section
variable {prog:Program} {w:World} {A:Around} {E:Value->Shared->Prop} {s:Shared}
set_option maxRecDepth 100000 in
end
section
variable {X:Cx}
end
end L2
namespace Att
open PySem PySem.W PySem.Calls PyProof.Rows
theorem mw {P:Params} {h:Heap}:∀ (ns:List Int) (vs:List Value),WellAll P h vs (ns.map WData.int)->IntsAre vs ns:=by
  intro ns
  induction ns with
  | nil =>
    intro vs w
    rw [List.map_nil] at w
    cases w
    exact .nil
  | cons n ns ih =>
    intro vs w
    rw [List.map_cons] at w
    cases w with
    | cons a b =>
      cases a
      exact .cons _ _ (ih _ b)
theorem xl {l:OpenLaw} {n:Nat} (hn:l.most=some n) {P:Params} {h:Heap} {args:List WData} {vals:List Value}
    (hpre:l.row.toRowW.claim.pre args=true) (hwl:WellAll P h vals args) :
    ∃ a vs ns,vals=[Value.ref a]/\args=[WData.list (ns.map WData.int)]/\h.get? a=some { cls:=.type "list",data:=.seq vs.toArray }/\IntsAre vs ns/\ns.length<=n:=by
  have hsh:WShape.hasAll [] args [.list .int]=true:=(pre_splitW hpre).1
  have hc:l.pre.holds [] { args:=args }=true:=(pre_splitW hpre).2
  obtain ⟨d,r,rfl,h1,h2⟩:=hasAllW_cons hsh
  obtain rfl:=hasAllW_nil h2
  obtain ⟨xs,rfl,h3⟩:=hasW_list h1
  obtain ⟨ns,rfl⟩:=items_int h3
  have hlen:ns.length<=n:=by
    unfold OpenLaw.pre at hc
    have h4:(WTm.not (.lt (.lit (.int (n:Int))) (.len (.arg 0)))).holds [] { args:=[.list (ns.map .int)] }=true:=by
      have h4:=(holds_andW hc).1
      rw [hn] at h4
      exact h4
    have h5:=condW_of h4 (w_not (w_lt w_lit (w_len_list (w_arg rfl))))
    rw [List.length_map] at h5
    refine Nat.le_of_not_lt fun q=>?_
    have q':(n:Int) < ((ns.length:Nat):Int):=by omega
    first
      | (rw [decide_eq_true q'] at h5; exact absurd h5 (by decide))
      | (simp at h5; omega)
  cases hwl with
  | cons w1 w2 =>
    cases w2
    cases w1 with
    | list ho hall=>exact ⟨_,_,ns,rfl,rfl,ho,mw ns _ hall,hlen⟩
theorem wC (l:OpenLaw) (args:List WData):l.row.toRowW.claim.post args (.bool true) args=true :=
  postW_of (r:=l.row.toRowW) (X:=(true == true))
    (show WShape.has [] (.bool true) .bool=true by first | rfl | decide | simp [WShape.has,WShape.arms,WShape.armsAll])
    (show (WTm.eq .res (.lit (.bool true))).value [] { args:=args,res:=some (.bool true),after:=args }=some (.bool (true == true)) from w_eq_bool (w_res rfl) w_lit) rfl
theorem attach_call {l:OpenLaw} {n:Nat} {q:Program} {loose:List Str} {XP:(Str->Option Value)->Heap->Prop} {YP:World->Heap->Prop} {d:DefRec}
    (hn:l.most=some n) (hdf:d.params.defaults=[])
    (call:∀ (w:World) (s₀ s₁:Shared) (mg mb:Str->Option Value) (fa:Addr) (o:Obj) (pm cd doc:Value) (a:Addr) (vs:List Value) (ns:List Int),
      Ground q loose [] XP w s₀ mg mb s₁.heap->YP w s₁.heap ->
      s₁.heap.get? fa=some o->o.data = .func (docDef d.name d.params d.body d.scope pm cd doc)->s₁.heap.CodeRec cd d.name->mg d.name=some (.ref fa) ->
      s₁.heap.get? a=some { cls:=.type "list",data:=.seq vs.toArray }->IntsAre vs ns->ns.length<=n->s₁.gens = #[] ->
      codeAny (model l.prog w) callerA (.call (.ref fa) ⟨[.ref a],[]⟩) (fun r s'=>r = .ok (.ret (.bool true))/\OldK s₁.heap s'.heap/\s'.os=s₁.os/\AllBare s'.gens) s₁) :
    WalkO q loose XP YP l.row.toRowW d [] (fun f vs=>PySem.call f vs):=by
  intro w s₀ s₁ mg mb G Y fa o pm cd doc dV kV ho hd hcd hD hmg hg args vals as hpre hlay hrd hwl hlo
  obtain rfl:dV = .none:=Dflts.none hD hdf
  obtain rfl:kV = .none:=Dflts.noKw hD
  obtain ⟨a,vs,ns,rfl,rfl,hobj,hints,hlen⟩:=xl hn hpre hwl
  refine enter_call (codeAny_mono (call w s₀ s₁ mg mb fa o pm cd doc a vs ns G Y ho (fd_plain hd) hcd hmg hobj hints hlen hg) fun r s' hq=>?_)
  obtain ⟨rfl,h2,h3,h4⟩:=hq
  exact ⟨.inl ⟨.bool true,.bool true,[],rfl,fun _=>rfl,.bool true,wC l _,fun _=>⟨List.Pairwise.nil,fun _ hm=>(nomatch hm)⟩⟩,h2,h3,h4⟩
section
variable {prog:Program} {w:World} {A:Around} {E:Value->Shared->Prop} {s:Shared} {K:Frag}
noncomputable def ledger (h:Heap) (L d:Addr):List (Addr × Obj):=(List.range h.objs.size).filterMap fun a=>if a=L\/a=d then none else (h.get? a).map fun o=>(a,o)
end
end Att
namespace L2
open PySem PySem.Spec PyProof.Rows
theorem oF:∀ {vs:List Value} {ns:List Int},IntsAre vs ns->Vals (ns.map V.int) vs
  | _,_,.nil=>.nil
  | _,_,.cons n t h=>.cons ⟨t,rfl⟩ (oF h)
def xM (H:Hp):Prop:=∀ b,H b=none\/∃ o xs,H b=some (.frz o (.lst xs))
theorem yg {P:Program} {w:World} {K:PySem.W.Frag} {mg mb:Str->Option Value} {CX:gi} {k:Nat} {fa a:Addr} {fd:FuncData} {x:Str} {sp:Sp} {s₁:Shared} {vs:List Value} {ns:List Int}
    (KX:K.In s₁.heap) (hns:s₁.heap.Ns mainGlobals mg) (hb:s₁.heap.Ns builtinsNs mb) (hbb:∀ x:Str,x≠"__name__"->mb x=bootBuiltins x) (hlim:s₁.heap.NoLimit) (hg:s₁.gens = #[])
    (ha:s₁.heap.get? a=some { cls:=.type "list",data:=.seq vs.toArray }) (hi:IntsAre vs ns) (hl:ns.length<=sizeLine) (hr:bP k callerA)
    (F:∀ base:Heap,K.In base->base.Ns mainGlobals mg->az P w K mg base CX k fa fd [x] sp) (hbind:∀ (s:Shared) (u:Value),BindsTo s fd ⟨[u],[]⟩ [(x,u)])
    (hsp:∀ H:Hp,xM H->ar K H a (ns.map V.int)->sp [.ref a] H (fun v _=>v = .bl true) fun _ _ _=>False)
    (hCX:∀ H e s',CX [] H s₁ (fun _ _ _=>False) e s'->False) :
    codeAny (model P w) callerA (.call (.ref fa) ⟨[.ref a],[]⟩) (fun r s'=>r = .ok (.ret (.bool true))/\OldK s₁.heap s'.heap/\s'.os=s₁.os/\AllBare s'.gens) s₁:=by
  have rv:=oF hi
  have lenV:=hi.length
  -- from an abstract heap in which nothing but the script may be tracked
  have core:∀ H:Hp,xM H->ar K H a (ns.map V.int)->dZ P w H s₁.heap->(∀ b,H b≠none->b=a)->(H a≠none->K.lookup a=none) ->
      codeAny (model P w) callerA (.call (.ref fa) ⟨[.ref a],[]⟩) (fun r s'=>r = .ok (.ret (.bool true))/\OldK s₁.heap s'.heap/\s'.os=s₁.os/\AllBare s'.gens) s₁:=by
    intro H hO hS hok hA hK
    have base_of:∀ {b:Addr} {o:Obj},s₁.heap.get? b=some o->H b=none->(iA s₁.heap H).get? b=some o:=fun e n=>yv e n
    have noA:∀ {b:Addr} {o:Obj} {es:Array DictEntry} {ep:Nat},s₁.heap.get? b=some o->o.data = .dict es ep->H b=none:=fun {b o es ep} e d=>by
      cases q:H b with
      | none=>rfl
      | some u =>
        have e':b=a:=hA b (by rw [q]; simp)
        subst e'
        rw [ha] at e; cases e
        have d':Data.seq vs.toArray _=Data.dict es ep:=d
        cases d'
    have nsK:∀ {b:Addr} {m:Str->Option Value},s₁.heap.Ns b m->(iA s₁.heap H).Ns b m:=fun {b m} ⟨o,es,ep,e,d,r⟩=>⟨o,es,ep,base_of e (noA e d),d,r⟩
    have hKb:K.In (iA s₁.heap H):=fun b o e=>base_of (KX b o e) (by
      cases q:H b with
      | none=>rfl
      | some u =>
        have e':b=a:=hA b (by rw [q]; simp)
        subst e'
        rw [hK (by rw [q]; simp)] at e; cases e)
    have hM:Mod K mg (iA s₁.heap H):=⟨hKb,nsK hns,⟨mb,nsK hb,hbb⟩,let ⟨mc,h1,h2⟩:=hlim; ⟨mc,nsK h1,h2⟩⟩
    have e0:lF P w K mg (iA s₁.heap H) callerA [] s₁ H:=⟨rfl,hM,fun b o e=>zc e,Nat.le_of_eq (xk _ _),trivial,fun b hb=>absurd (show b∈([]:List Addr) from hb) (by simp),hok,.of_eq hg⟩
    refine codeAny_mono ((F _ hKb (nsK hns)).run callerA [] s₁ H ⟨[.ref a],[]⟩ [.ref a] [.ref a] _ _ hr e0 (hbind s₁ (.ref a)) (.cons rfl .nil) (hsp H hO hS)) fun r s' h=>?_
    cases r with
    | error e=>exact (hCX H e s' h).elim
    | ok fl =>
      cases fl with
      | next=>exact False.elim h
      | brk=>exact False.elim h
      | cont=>exact False.elim h
      | ret u =>
        obtain ⟨v,H',os,bare,un,hok',r',q⟩:=h
        have q':v = .bl true:=q
        subst q'
        obtain rfl:u=Value.bool true:=r'
        refine ⟨rfl,OldK.of_keep fun b o e=>?_,os,bare⟩
        cases q:H b with
        | none=>exact un.keep b o e q (by intro z; exact absurd (show b∈([]:List Addr) from z) (by simp)) (by simp)
        | some u =>
          rcases hO b with z | ⟨ob,xs,z⟩
          · rw [q] at z; cases z
          · have z2:=un.frzs b ob _ z
            obtain ⟨e1,_⟩:=hok b _ z
            obtain ⟨e2,_⟩:=hok' b _ z2
            rw [e] at e1; cases e1
            exact e2
  cases hk:K.lookup a with
  | some o =>
    -- the script is one of the module's own objects
    have e:=KX a o hk
    rw [ha] at e
    cases e
    refine core (fun _=>none) (fun _=>.inl rfl) (.inr ⟨_,vs.toArray,_,hk,rfl,rfl,rfl,by rw [List.size_toArray,lenV]; exact hl,by simpa using rv⟩) (fun b u z=>by have z':(none:Option HO)=some u:=z; cases z') (fun b z=>absurd rfl z) fun z=>absurd rfl z
  | none =>
    refine core (fun b=>if b=a then some (.frz { cls:=.type "list",data:=.seq vs.toArray } (.lst (ns.map V.int))) else none) (fun b=>?_) (.inl (.inr ⟨{ cls:=.type "list",data:=.seq vs.toArray },if_pos rfl⟩)) (fun b u z=>?_) (fun b z=>?_) fun _=>hk
    · by_cases hb:b=a
      · exact .inr ⟨_,_,if_pos hb⟩
      · exact .inl (if_neg hb)
    · by_cases hb:b=a
      · have z':=(if_pos hb).symm.trans z
        cases z'
        subst hb
        exact ⟨ha,by rw [List.length_map]; exact hl,vs,_,rv,ha⟩
      · have z':=(if_neg hb).symm.trans z
        cases z'
    · by_cases hb:b=a
      · exact hb
      · exact absurd (if_neg hb) z
end L2
namespace L2
open PySem PySem.Spec PyProof.Rows
noncomputable abbrev D8 {K:PySem.W.Frag} {h:Heap} (_:K.In h):PySem.W.Frag:=K
theorem walk_of {l:PySem.W.OpenLaw} {n k:Nat} {q:Program} {loose:List Str} {XP:(Str->Option Value)->Heap->Prop} {YP:World->Heap->Prop} {d:DefRec} {K:Params->PySem.W.Frag} {CX:World->gi} {sp:World->Sp} {x:Str}
    (hn:l.most=some n) (hn2:n<=sizeLine) (hdf:d.params.defaults=[]) (hr:bP k callerA)
    (hY:∀ (w:World) (h:Heap),YP w h->(K w.params).In h)
    (F:∀ (w:World) (mg:Str->Option Value) (fa:Addr) (h:Heap),(K w.params).In h->h.Ns mainGlobals mg->mg d.name=some (.ref fa) ->
      ∃ fd:FuncData,(∀ (s:Shared) (u:Value),BindsTo s fd ⟨[u],[]⟩ [(x,u)]) /\
        ∀ base:Heap,(K w.params).In base->base.Ns mainGlobals mg->az l.prog w (K w.params) mg base (CX w) k fa fd [x] (sp w))
    (hsp:∀ (w:World) (H:Hp) (a:Addr) (ns:List Int),ns.length<=n->xM H->ar (K w.params) H a (ns.map V.int)->sp w [.ref a] H (fun v _=>v = .bl true) fun _ _ _=>False)
    (hCX:∀ (w:World) (H:Hp) (s:Shared) (e:Value) (s':Shared),CX w [] H s (fun _ _ _=>False) e s'->False) :
    PySem.W.WalkO q loose XP YP l.row.toRowW d [] (fun f vs=>PySem.call f vs):=by
  refine Att.attach_call hn hdf fun w s₀ s₁ mg mb fa o pm cd doc a vs ns G Y ho hd hcd hmg hobj hints hlen hg=>?_
  have KX:=hY w _ Y
  obtain ⟨fd,hb,hF⟩:=F w mg fa _ KX G.T.g hmg
  exact yg KX G.T.g G.T.b G.T.builtins G.T.nolimit hg hobj hints (Nat.le_trans hlen hn2) hr hF hb (fun H hO hS=>hsp w H a ns hlen hO hS) fun H e s'=>hCX w H s₁ e s'
end L2
namespace L2
open PySem PySem.Spec PyProof.Rows
noncomputable def inClass (s:Stmt) (j:Nat):Stmt:=match s with
  | .ClassDef _ _ _ body _ _ _ _ _ _ _=>body.getD j (.Pass ⟨0,0,0,0⟩)
  | _=>.Pass ⟨0,0,0,0⟩
noncomputable def ak (s:Stmt):Arguments:=match s with
  | .FunctionDef _ a _ _ _ _ _ _ _ _=>a
  | _=>{ posonlyargs:=[],args:=[],vararg:=none,kwonlyargs:=[],kw_defaults:=[],kwarg:=none,defaults:=[] }
noncomputable def aj (s:Stmt):List Stmt:=match s with
  | .FunctionDef _ _ b _ _ _ _ _ _ _=>b
  | _=>[]
noncomputable def ae (s:Stmt):Scope:=match s with
  | .FunctionDef _ _ _ _ _ _ sc _ _ _=>sc
  | _=>{ kind:=.function,names:=[],isGenerator:=false,isCoroutine:=false }
noncomputable abbrev aZ:gi:=fun _ _ _ _ _ _=>False
noncomputable abbrev E0:XK:=fun _ _ _=>False
structure aV (K:PySem.W.Frag) (x qual:Str) (st:Stmt) (f:Addr) (fd:FuncData):Prop where
  ex:∃ (oc:Value) (od:Option Addr) (kV doc pm:Value) (an:Option Addr) (cdv ct:Value) (osl:Array (Option Value)),
    fd=PySem.W.fnOf x qual (ak st) (aj st) (ae st) .none kV doc pm an cdv ct/\K.lookup f=some ⟨oc,od,.func fd,osl⟩/\PySem.W.codeIn K cdv qual=true
  kp:PySem.W.keepIn K (.ref f)=true
section
variable {P:Program} {w:World} {K:PySem.W.Frag} {mg:Str->Option Value} {base:Heap}
theorem aV.ok {x qual:Str} {st:Stmt} {f:Addr} {fd:FuncData} {N ps:List Str} {k:Nat} {sp:Sp} (F:aV K x qual st f fd) (S:aq N ps (ae st)) (len:∀ vs H Q E,sp vs H Q E->vs.length=ps.length)
    (hbody:∀ (cdv:Value) (A:Around) (outer:List Env) (s:Shared) (H:Hp) (vs:List V) (Q:VK) (E:XK),bP k (A.deeper (envOfC qual (ae st) s.heap.objs.size f cdv))->sp vs H Q E ->
      ∃ t,gE (m9 aZ P w K mg base N qual (ae st) f cdv A outer s H E).nox (aj st) t/\t { nx:=fun _ H'=>Q .non H',rt:=Q } (start N vs) H):az P w K mg base aZ (k+1) f fd ps sp:=by
  obtain ⟨oc,od,kV,doc,pm,an,cdv,ct,osl,rfl,lk,hcd⟩:=F.ex
  refine Dc lk hcd S len fun A outer s H vs Q E hr hsp=>?_
  obtain ⟨t,h,q⟩:=hbody cdv A outer s H vs Q E hr hsp
  exact ⟨t,h.nox,q⟩
theorem aV.binds {x qual:Str} {st:Stmt} {f:Addr} {fd:FuncData} {ps:List Str} (F:aV K x qual st f fd)
    (h:∀ (kV doc pm:Value) (an:Option Addr) (cdv ct:Value) (us:List Value),us.length=ps.length->bindArgs (PySem.W.fnOf x qual (ak st) (aj st) (ae st) .none kV doc pm an cdv ct) ⟨us,[]⟩=pure (ps.zip us)):Binds K fd ps []:=by
  obtain ⟨oc,od,kV,doc,pm,an,cdv,ct,osl,rfl,lk,hcd⟩:=F.ex
  exact .all (h kV doc pm an cdv ct)
theorem ay {x qual:Str} {st:Stmt} {f:Addr} {oc:Value} {od an:Option Addr} {osl:Array (Option Value)} {kV doc pm cdv ct:Value} (l:K.lookup f=some ⟨oc,od,.func (PySem.W.fnOf x qual (ak st) (aj st) (ae st) .none kV doc pm an cdv ct),osl⟩)
    (c:PySem.W.codeIn K cdv qual=true) (k:PySem.W.keepIn K (.ref f)=true):aV K x qual st f (PySem.W.fnOf x qual (ak st) (aj st) (ae st) .none kV doc pm an cdv ct):=⟨⟨oc,od,kV,doc,pm,an,cdv,ct,osl,rfl,l,c⟩,k⟩
end
theorem CY {A:Around} {k:Nat} (hr:bP k A):A.units+1 < cLine:=Nat.lt_of_le_of_lt (Nat.add_le_add_left (by decide:1<=64) _) hr.units
section
variable {X:Cx}
theorem pv (i:Nat) {x:Str} {pos:Pos} (hN:X.N[i]? = some x:=by rfl) (hv:mx X.env.scope x:=by first | exact Or.inl rfl | exact Or.inr (Or.inl rfl) | exact Or.inr (Or.inr rfl)) (hd:(x == ("__debug__" : Str))=false:=by decide)
    (hcd:(x == ("__classdict__" : Str))=false:=by decide):PE X (.Name x pos) (Ce i):=Ao hN hv hd hcd
end
theorem bh {A B:Prop} (h:B):if false=true then A else B:=by
  rw [if_neg Bool.false_ne_true]
  exact h
theorem dP {A B:Prop} (h:A):if true=true then A else B:=by
  rw [if_pos rfl]
  exact h
theorem iG {c A B:Prop} [Decidable c] (h1:c->A) (h2:¬ c->B):if c then A else B:=by
  by_cases h:c
  · rw [if_pos h]
    exact h1 h
  · rw [if_neg h]
    exact h2 h
theorem fQ {c A B:Prop} [Decidable c] (hc:c) (h:B):if (!decide c)=true then A else B:=by
  rw [decide_eq_true hc]
  exact bh h
def ah (H H':Hp):Prop:=∀ b o,H b=some o->H' b=some o
theorem ah.refl (H:Hp):ah H H:=fun _ _ h=>h
theorem ah.trans {H H1 H2:Hp} (a:ah H H1) (b:ah H1 H2):ah H H2:=fun c o h=>b c o (a c o h)
theorem ah.free {H H':Hp} (e:ah H H') {l:Addr} (h:H' l=Option.none):H l=Option.none:=by
  cases q:H l with
  | none=>rfl
  | some o =>
    rw [e l o q] at h
    cases h
theorem ah.seq {K:PySem.W.Frag} {H H':Hp} {a:Addr} {xs:List V} (e:ah H H') (h:ar K H a xs):ar K H' a xs:=by
  rcases h with (h | ⟨o,h⟩) | h
  · exact .inl (.inl (e _ _ h))
  · exact .inl (.inr ⟨o,e _ _ h⟩)
  · exact .inr h
end L2
set_option Elab.async false
set_option linter.all false
set_option maxRecDepth 100000
set_option maxHeartbeats 4000000
namespace L2
open PySem PySem.Spec PyProof.Rows
section
variable {X:Cx}
def Cu (i j:Int):Prop:=0 < j/\j.natAbs.log2 < 9000
theorem lK:cQ X (binaryOp .FloorDiv) (rI Cu fun i j=>.int (i / j)):=Bz fun i j _ _ _ _ _ hc q=>by
  have h1:(0:Int) < j:=hc.1
  exact floordiv_int (by omega) (by rw [Int.fdiv_eq_ediv_of_nonneg i (by omega)]; exact q) (.inl (PyProof.noPylong_of_log2 hc.2))
theorem cw:eN X (.builtin "isinstance") (fun xs H Q=>∃ x c cv t b,xs=[x,c]/\(∀ u,RelV c u->u=cv)/\fw X.K H x t/\PySem.W.kitOne X.K t cv=some b/\Q (.bl b) H):=by
  intro pins s σ H xs us Q I r h
  obtain ⟨x,c,cv,t,b,rfl,hcv,ty,e,q⟩:=h
  obtain ⟨u,w',rfl,r1,r2⟩:=vals2 r
  rw [hcv w' r2]
  exact vV I r1 ty e fun tk=>⟨.bl b,H,I.tok _,rfl,q⟩
theorem gq {n:String}:∀ u,RelV (.ty n) u->u=Value.type n:=fun _ h=>h
noncomputable def iQ (x:Str):It:=⟨fun i _=>i < x.cps.size,fun i H v H'=>H'=H/\∃ c,x.cps[i]? = some c/\v = .str ⟨#[c]⟩,fun i _=>i=x.cps.size⟩
theorem qH {P:Program} {w:World} {K:PySem.W.Frag} {tg:Expr} (it:Addr) (ty:String) (x:Str) (t:Tok)
    (W:∀ A:Around,A.handled=none->Walks P w A it [it] [it] x.cps.size (SignAt x) (fun i h=>h.IsStrIter it ty x t i))
    (hty:["enumerate","zip","dict_itemiterator","dict_reverseitemiterator","odict_iterator","itertools.zip_longest","itertools.pairwise"].contains ty=false)
    (hself:∀ (A:Around) (i:Nat) (s:Shared) (Q:Value->Shared->Prop) (E:Value->Shared->Prop),s.heap.IsStrIter it ty x t i->Q (.ref it) s->wpAny (model P w) A (pyIter (.ref it)) Q E s) :
    Turn P w K tg (iQ x) [it] it (fun i h=>h.IsStrIter it ty x t i) where
  mem:=by simp
  obj:=fun i h st b hb=>by
    have e:b=it:=by simpa using hb
    subst e
    obtain ⟨o,e,c,d⟩:=st
    exact ⟨o,e,fun v z=>by rw [d] at z; cases z⟩
  keep:=fun i h h' st k=>by
    obtain ⟨o,e,c,d⟩:=st
    exact ⟨o,k it (by simp) o e,c,d⟩
  item:=by
    intro X hP hw hK hc i pins s σ H E I hf st hg
    subst hP hw hK
    obtain ⟨f0,f1,f2,f3,f4,f5⟩:=hf it (by simp)
    refine (W X.A (I.ok.hd hc)).item i s _ _ hg st fun v h' tk hv st' kk=>?_
    obtain ⟨c,u,ec,rfl⟩:=hv
    have I1:Inv X pins σ H { s with heap:=h',toks:=tk }:=I.turned (fun b o hb e=>kk b o (by simpa using hb) e) f0 f1 f3 f4 f5
    obtain ⟨o,e,cl,d⟩:=id st'
    exact ⟨_,rfl,mU (s:={ s with heap:=h',toks:=tk }) e cl d hty ⟨.str ⟨#[c]⟩,H,I1,⟨_,rfl⟩,⟨rfl,c,ec,rfl⟩,st',fun b hb=>(hf b hb).1⟩⟩
  done:=by
    intro X hP hw hK hc i pins s σ H E I hf st hg
    subst hP hw hK
    obtain ⟨f0,f1,f2,f3,f4,f5⟩:=hf it (by simp)
    have hi:i=x.cps.size:=hg
    subst hi
    exact (W X.A (I.ok.hd hc)).done s _ _ st fun h' tk kk=>⟨rfl,I.turned (fun b o hb e=>kk b o (by simpa using hb) e) f0 f1 f3 f4 f5⟩
  self:=hself
noncomputable def Dw (tl:TE):TI:=fun σ H R=>tl σ H fun v H1=>∃ x,v = .str x/\R (iQ x) H1
theorem wa {tg l:Expr} {tl:TE} (hl:PE X l tl):PI X tg l (Dw tl):=by
  intro pins s σ H R I h
  refine aI (hl pins s σ H _ I h) fun v s1 ⟨y,H1,I1,r1,q1⟩=>?_
  obtain ⟨x,e,q⟩:=q1
  subst e
  obtain ⟨t,rfl⟩:=r1
  have fin:∀ (o:Obj) (ty:String),(s1.heap.push o).IsStrIter s1.heap.objs.size ty x t 0->Turn X.prog X.w X.K tg (iQ x) [s1.heap.objs.size] s1.heap.objs.size (fun i h=>h.IsStrIter s1.heap.objs.size ty x t i) ->
      y6 X pins σ tg R (.ref s1.heap.objs.size) { s1 with heap:=s1.heap.push o }:=fun o ty st T=>by
    refine ⟨s1.heap.objs.size,[s1.heap.objs.size],_,_,H1,rfl,I1.kept (t':=s1.toks) fun b o e=>Heap.get?_push_of_some _ e,T,st,fun b hb=>?_,q⟩
    have e:b=s1.heap.objs.size:=by simpa using hb
    subst e
    exact I1.fpOk (Nat.le_refl _) (I1.hok.fresh (Nat.le_refl _))
  cases ha:x.cps.all (· < 128)
  · exact wpAny_pyIter_wide ha (fin _ "str_iterator" ⟨_,Heap.get?_push_size _ rfl,rfl,rfl⟩ (qH _ _ x t (fun A' hA=>Walks.strWide hA _ x t) (by decide) fun _ _ _ _ _ st h=>wpAny_pyIter_striter_wide st h))
  · exact wpAny_pyIter_ascii ha (fin _ "str_ascii_iterator" ⟨_,Heap.get?_push_size _ rfl,rfl,rfl⟩ (qH _ _ x t (fun A' hA=>Walks.strAscii hA _ x t) (by decide) fun _ _ _ _ _ st h=>wpAny_pyIter_striter_ascii st h))
theorem tG {x:Str} {g:TG} {tb:TS} {D:Ends} {σ:St} {H:Hp} (Pv:Nat->St->Hp->Prop) (h0:Pv 0 σ H)
    (hs:∀ i c σ H,x.cps[i]? = some c->Pv i σ H->g (.str ⟨#[c]⟩) σ H fun σ2 H2=>tb { D with nx:=Pv (i+1),ct:=Pv (i+1),bk:=D.nx } σ2 H2) (hd:∀ σ H,Pv x.cps.size σ H->D.nx σ H) :
    ∃ W:Nat->Nat->St->Hp->Prop,(∃ m,W 0 m σ H)/\∀ i m σ H,W i m σ H ->
      ((iQ x).stop i H/\D.nx σ H)\/((iQ x).go i H/\∃ N:St->Hp->Prop,(∀ σ' H',N σ' H'->∃ m',m' < m/\W (i+1) m' σ' H')/\∀ v H',(iQ x).yld i H v H'->g v σ H' fun σ2 H2=>tb { D with nx:=N,ct:=N,bk:=D.nx } σ2 H2):=by
  refine ⟨fun i m σ H=>m=x.cps.size - i/\i<=x.cps.size/\Pv i σ H,⟨x.cps.size,by simp,Nat.zero_le _,h0⟩,?_⟩
  rintro i m σ H ⟨rfl,hi,p⟩
  by_cases hlt:i < x.cps.size
  · refine .inr ⟨hlt,Pv (i+1),fun σ' H' p'=>⟨x.cps.size - (i+1),by omega,rfl,hlt,p'⟩,fun v H' y=>?_⟩
    obtain ⟨e,c,ec,ev⟩:=y
    subst e ev
    exact hs i c σ _ ec p
  · have e:i=x.cps.size:=by omega
    subst e
    exact .inl ⟨rfl,hd σ H p⟩
noncomputable def DL:V->Option Int->Option Int->Hp->VK->Prop:=fun v lo hi H Q=>∃ x,v = .str x/\x.length<=sizeLine/\Q (.str (Txt.slice x lo hi)) H
theorem BI:AU X DL:=by
  intro pins s σ H v vv vl vu lo hi sl Q I rx hs pl pu h
  obtain ⟨x,rfl,hz,q⟩:=h
  obtain ⟨t,rfl⟩:=rx
  refine ⟨"str",_,F.slot_str_getitem.lookup,typeIs_str _ _ _,?_⟩
  have fin:∀ (l u:Option (Int × Tok)),s.heap.IsSlice sl l u none->l.map (·.1)=lo->u.map (·.1)=hi->wpAny (model X.prog X.w) X.A (getItem (.str x t) (.ref sl)) (EP X pins σ Q) X.xe s:=fun l u hsl el eu=>by
    refine wpAny_getItem_str_slice (l:=l) (u:=u) (st:=none) hsl rfl ?_
    subst el eu
    exact post_val_or_str ⟨Nat.le_trans (Txt.slice_le x _ _) hz,fun t' k=>⟨.str (Txt.slice x (l.map (·.1)) (u.map (·.1))),H,I.tok _,⟨t',rfl⟩,q⟩⟩
  cases pl with
  | none =>
    cases pu with
    | none=>exact fin none none hs rfl rfl
    | int j uj=>exact fin none (some (j,uj)) hs rfl rfl
  | int i ui =>
    cases pu with
    | none=>exact fin (some (i,ui)) none hs rfl rfl
    | int j uj=>exact fin (some (i,ui)) (some (j,uj)) hs rfl rfl
theorem vD {ys:List Str}:∀ {us:List Value},Vals (ys.map V.str) us->StrsAre us ys:=by
  induction ys with
  | nil=>intro us r; rw [List.map_nil] at r; cases r; exact .nil
  | cons n ns ih =>
    intro us r
    rw [List.map_cons] at r
    cases r with
    | cons h t =>
      obtain ⟨tk,rfl⟩:=h
      exact .cons n tk (ih t)
noncomputable def rJoin (K:PySem.W.Frag):V->List V->Hp->VK->Prop:=fun x vs H Q=>∃ sep p ys,x = .str sep/\vs=[.ref p]/\ar K H p (ys.map V.str)/\(ys.map (·.length)).sum+ys.length*sep.length<=16777216/\Q (.str (Txt.join sep ys)) H
theorem tP:ou X "str.join" (rJoin X.K):=by
  intro pins s σ H x xs v us Q I rx rs h
  obtain ⟨sep,p,ys,rfl,rfl,hl,hok,q⟩:=h
  obtain ⟨t,rfl⟩:=rx
  obtain ⟨u,rfl,ru⟩:=vals1 rs
  cases ru
  obtain ⟨its,r',pl,hz⟩:=I.list hl
  exact join_list pl.isList (vD r') hok fun t' k=>⟨.str (Txt.join sep ys),H,I.tok _,⟨_,rfl⟩,q⟩
end
theorem oV {α β:Type} {l:List α} {f:α->β->Sem (ForInStep β)} (g:β->α->β) (c:β) (h:∀ x∈l,∀ c,f x c=pure (.yield (g c x))) :
    forIn l c f=pure (l.foldl g c):=by
  induction l generalizing c with
  | nil=>rfl
  | cons x l ih =>
    rw [List.forIn_cons,h x List.mem_cons_self,pure_bind]
    exact ih _ fun y hy=>h y (List.mem_cons_of_mem _ hy)
noncomputable def qr (cells:List (Str × Addr)) (names:List (Str × NameKind)) (acc:List (Str × Addr)):List (Str × Addr) :=
  names.foldl (fun cs y=>if y.2 == .free then (y.1,(cells.lookup y.1).getD 0)::cs else cs) acc
theorem vo {scope:Scope} {env:Env} (h:∀ y∈scope.names,y.2 = .free->∃ c,env.cells.lookup y.1=some c):closureFor scope env=pure (qr env.cells scope.names []):=by
  simp only [closureFor]
  rw [oV (fun cs y=>if y.2 == .free then (y.1,(env.cells.lookup y.1).getD 0)::cs else cs) [] fun x hx c=>?_]
  · rfl
  · obtain ⟨n,k⟩:=x
    by_cases hk:k = .free
    · subst hk
      obtain ⟨a,ea⟩:=h (n,.free) hx rfl
      have ea':env.cells.lookup n=some a:=ea
      simp only [beq_self_eq_true,if_true,cellOf,ea',pure_bind,Option.getD_some]
    · have hb:(k == NameKind.free)=false:=by simpa using hk
      simp only [hb,Bool.false_eq_true,if_false]
theorem lookup_mem {α:Type}:∀ {l:List (Str × α)} {x:Str} {c:α},l.lookup x=some c->(x,c)∈l
  | [],_,_,h=>by simp at h
  | (y,d)::r,x,c,h=>by
    rw [List.lookup_cons] at h
    cases hx:x == y with
    | true =>
      rw [hx] at h
      have e:x=y:=by simpa using hx
      subst e
      cases h
      exact List.mem_cons_self
    | false =>
      rw [hx] at h
      exact List.mem_cons_of_mem _ (lookup_mem h)
theorem mem_lookup {α:Type}:∀ {l:List (Str × α)} {x:Str} {c:α},(x,c)∈l->∃ d,l.lookup x=some d
  | [],_,_,h=>by cases h
  | (y,d)::r,x,c,h=>by
    rw [List.lookup_cons]
    cases hx:x == y with
    | true=>exact ⟨d,rfl⟩
    | false =>
      rcases List.mem_cons.mp h with e | h
      · cases e; simp at hx
      · exact mem_lookup h
theorem lE {cells:List (Str × Addr)}:∀ {names:List (Str × NameKind)} {acc:List (Str × Addr)} {p:Str × Addr},p∈qr cells names acc↔p∈acc\/((p.1,NameKind.free)∈names/\p.2=(cells.lookup p.1).getD 0)
  | [],acc,p=>by simp [qr]
  | (n,k)::r,acc,p=>by
    show p∈qr cells r (if k == .free then (n,(cells.lookup n).getD 0)::acc else acc)↔_
    rw [lE (names:=r)]
    by_cases hk:k = .free
    · subst hk
      simp only [beq_self_eq_true,if_true,List.mem_cons]
      constructor
      · rintro ((rfl | h) | h)
        · exact .inr ⟨.inl rfl,rfl⟩
        · exact .inl h
        · exact .inr ⟨.inr h.1,h.2⟩
      · rintro (h | ⟨h | h,e⟩)
        · exact .inl (.inr h)
        · obtain ⟨a,b⟩:=p
          cases h
          exact .inl (.inl (by rw [show b=_ from e]))
        · exact .inr ⟨h,e⟩
    · have hb:(k == NameKind.free)=false:=by simpa using hk
      simp only [hb,Bool.false_eq_true,if_false,List.mem_cons]
      constructor
      · rintro (h | h)
        · exact .inl h
        · exact .inr ⟨.inr h.1,h.2⟩
      · rintro (h | ⟨h | h,e⟩)
        · exact .inl h
        · cases h; exact absurd rfl hk
        · exact .inr ⟨h,e⟩
theorem hU {scope:Scope} {env:Env} {x:Str} {k:NameKind} (h:(relabel scope env).names.lookup x=some k):∃ k',(x,k')∈scope.names/\(k'=k\/(k' = .free/\k = .cell)):=by
  have m:=lookup_mem h
  unfold relabel at m
  obtain ⟨⟨n,k'⟩,hm,e⟩:=List.mem_map.mp m
  dsimp only at e
  split at e
  · rename_i hc
    rw [Bool.and_eq_true,Bool.and_eq_true] at hc
    have e1:n=x:=congrArg Prod.fst e
    have e2:NameKind.cell=k:=congrArg Prod.snd e
    subst e1 e2
    exact ⟨k',hm,.inr ⟨by simpa using hc.1.1,rfl⟩⟩
  · have e1:n=x:=congrArg Prod.fst e
    have e2:k'=k:=congrArg Prod.snd e
    subst e1 e2
    exact ⟨k',hm,.inl rfl⟩
noncomputable def cL (X:Cx) (scope:Scope) (N:List Str) (cl:List (Str × Addr)) (C:Addr) (s:Shared) (H:Hp) (fp:List Addr) (xe:Value->Shared->Prop):Cx :=
  { X with N:=N,s₀:=s,H₀:=H,env:=compEnvC scope cl C X.env,outer:=X.stack,stack:=X.stack,ex:=fp,fn:=fun _=>false,pn:=[],xe:=xe }
inductive gc (X:Cx) (scope:Scope):List Str->List (Option Nat)->Prop where
  | nil:gc X scope [] []
  | own {x:Str} {N:List Str} {ix:List (Option Nat)} (r:gc X scope N ix):gc X scope (x::N) (none::ix)
  | cap {x:Str} {j:Nat} {N:List Str} {ix:List (Option Nat)} (h1:X.N[j]? = some x) (h2:X.env.kindOf x=some .cell) (h3:(relabel scope X.env).names.lookup x=some .cell) (r:gc X scope N ix):gc X scope (x::N) (some j::ix)
noncomputable def fC (ix:List (Option Nat)) (σ:St):St:=ix.map fun o=>match o with
  | none=>none
  | some j=>(σ[j]?).getD none
theorem gc.get {X:Cx} {scope:Scope} {σ:St}:∀ {N:List Str} {ix:List (Option Nat)},gc X scope N ix->∀ (i:Nat) (x:Str) (v:V),N[i]? = some x->(fC ix σ)[i]? = some (some v) ->
    ∃ j:Nat,X.N[j]? = some x/\σ[j]? = some (some v)/\X.env.kindOf x=some .cell/\(relabel scope X.env).names.lookup x=some .cell
  | _,_,.nil,i,x,v,h,_=>by simp at h
  | _,_,.own r,0,x,v,_,h=>by simp [fC] at h
  | _,_,.own r,i+1,x,v,h1,h2=>r.get i x v (by simpa using h1) (by simpa [fC] using h2)
  | _,_,.cap (j:=j) e1 e2 e3 r,0,x,v,h1,h2=>by
    simp at h1
    subst h1
    refine ⟨j,e1,?_,e2,e3⟩
    simp only [fC,List.map_cons,List.getElem?_cons_zero,Option.some.injEq] at h2
    cases q:σ[j]? with
    | none=>rw [q] at h2; cases h2
    | some o=>rw [q] at h2; simp only [Option.getD_some] at h2; rw [h2]
  | _,_,.cap e1 e2 e3 r,i+1,x,v,h1,h2=>r.get i x v (by simpa using h1) (by simpa [fC] using h2)
theorem gc.length {X:Cx} {scope:Scope} {N:List Str} {ix:List (Option Nat)} (h:gc X scope N ix):ix.length=N.length:=by
  induction h with
  | nil=>rfl
  | own _ ih=>simp [ih]
  | cap _ _ _ _ ih=>simp [ih]
def Ext (a b:St):Prop:=b.length=a.length/\∀ (i:Nat) v,a[i]? = some (some v)->b[i]? = some (some v)
theorem Ext.set {a:St} {i:Nat} {v:V} (h:a[i]? = some none):Ext a (a.set i (some v)):=by
  refine ⟨by simp,fun j w e=>?_⟩
  by_cases hj:j=i
  · subst hj; rw [h] at e; cases e
  · rw [List.getElem?_set_ne (Ne.symm hj)]; exact e
theorem Ext.trans {a b c:St} (h:Ext a b) (h':Ext b c):Ext a c:=⟨h'.1.trans h.1,fun i v e=>h'.2 i v (h.2 i v e)⟩
def xq (X:Cx) (ifs:List Expr) (t:TT):Prop :=
  ∀ (pins:List (Addr × Obj)) (s:Shared) (σ:St) (H:Hp) (Q:Bool->Hp->Prop),Inv X pins σ H s->t σ H Q ->
    wpAny (model X.prog X.w) X.A (forIn ifs true fun c r=>if r=true then do let ok <- isTrue c X.env (eval c X.env); pure (ForInStep.yield ok) else pure (ForInStep.yield r)) (TP X pins σ Q) X.xe s
noncomputable def y3:TT:=fun _ H Q=>Q true H
theorem eK {X:Cx}:xq X [] y3:=fun pins s σ H Q I h=>wpAny_tests_nil ⟨H,I,h⟩
theorem tN {X:Cx} {c:Expr} {t:TT} (h:PT X c t):xq X [c] t:=fun pins s σ H Q I q=>wpAny_tests_one (h pins s σ H Q I q)
def mT (J:It) (g:TG) (tt:TT) (te:TE) (σ0:St) (D:Addr) (Q:VK) (H1:Hp):Prop:=∃ W:Nat->Nat->List V->Hp->Prop,(∃ m,W 0 m [] (upd H1 D (.lst [])))/\∀ i m ys H,W i m ys H ->
  (J.stop i H/\Q (.ref D) H)\/(J.go i H/\∀ x H',J.yld i H x H'->g x σ0 H' fun σ2 H2=>Ext σ0 σ2/\tt σ2 H2 fun b H3 =>
    if b=true then te σ2 H3 fun v H4=>H4 D=some (.lst ys)/\ys.length < sizeLine/\∃ m',m' < m/\W (i+1) m' (ys++[v]) (upd H4 D (.lst (ys++[v]))) else ∃ m',m' < m/\W (i+1) m' ys H3)
noncomputable def vi (wi:TI) (g:TG) (tt:TT) (te:TE) (ix:List (Option Nat)):TE:=fun σ H Q=>wi σ H fun J H1=>∀ D,H1 D=none->mT J g tt te (fC ix σ) D Q H1
section
variable {prog:Program} {w:World} {A:Around} {R:Result->Shared->Prop} {s:Shared}
theorem xc {elt target iter:Expr} {ifs:List Expr} {scope:Scope} {pos:Pos} {it acc:Value} {env:Env} (I:Nat->Shared->Prop)
    (turn:∀ n s,I n s->wpAny (model prog w) A (pyNext it) (fun r s₁=>match r with
      | none=>R (.ok .next) s₁
      | some v=>wpAny (model prog w) A (letOwnedTupleGo target it v) (fun _ s₁'=>wpAny (model prog w) A (assign target env v) (fun _ s₂ =>
          wpAny (model prog w) A (forIn ifs true fun c r=>if r=true then do let ok <- isTrue c env (eval c env); pure (ForInStep.yield ok) else pure (ForInStep.yield r)) (fun ok s₃ =>
            if ok=true then wpAny (model prog w) A (eval elt env) (fun x s₄ =>
              wpAny (model prog w) A (call (.builtin "list.append") [acc,x]) (fun _ s₅=>∃ m,m < n/\I m s₅) (notedBy (model prog w) A env fun e s'=>R (.error e) s') s₄) (notedBy (model prog w) A env fun e s'=>R (.error e) s') s₃
            else ∃ m,m < n/\I m s₃) (notedBy (model prog w) A env fun e s'=>R (.error e) s') s₂) (notedBy (model prog w) A env fun e s'=>R (.error e) s') s₁') (notedBy (model prog w) A env fun e s'=>R (.error e) s') s₁) (notedBy (model prog w) A env fun e s'=>R (.error e) s') s)
    (n:Nat) (h:I n s):codeAny (model prog w) A (.compLoop (.ListComp elt [⟨target,iter,ifs,0⟩] scope pos) 0 it acc env) R s:=by
  refine codeAny_loop rfl I (fun n s hI=>?_) n h
  show wpAny _ A ((compTurn (.ListComp elt [⟨target,iter,ifs,0⟩] scope pos) 0 it acc env).onRaise (fun x=>do noteFrame x env; theTreesLotGoes x)) _ _ s
  refine wpAny_noted ?_
  rw [compTurn_list]
  refine wpAny_bind (wpAny_standAt (wpAny_bind (wpAny_mono (turn n s hI) (fun r s₁ h₁=>?_) fun _ _ h'=>h')))
  cases r with
  | none=>exact wpAny_pure h₁
  | some v =>
    refine wpAny_bind (wpAny_mono h₁ (fun _ s₁' h₁'=>?_) fun _ _ h'=>h')
    refine wpAny_bind (wpAny_mono h₁' (fun _ s₂ h₂=>wpAny_bind (wpAny_mono h₂ (fun ok s₃ h₃=>?_) fun _ _ h'=>h')) fun _ _ h'=>h')
    cases ok with
    | false=>exact wpAny_pure ⟨rfl,h₃⟩
    | true =>
      exact wpAny_bind (wpAny_bind (wpAny_mono h₃ (fun x s₄ h₄=>wpAny_bind (wpAny_mono h₄ (fun _ s₅ h₅=>wpAny_pure (wpAny_pure ⟨rfl,h₅⟩)) fun _ _ h'=>h')) fun _ _ h'=>h'))
end
section
variable {X:Cx}
noncomputable def rg (sc:Scope):Bool:=sc.names.all fun y=>y.2 != .cell
noncomputable def freeOk (sc:Scope) (env:Env):Bool:=sc.names.all fun y=>y.2 != .free || env.kindOf y.1 == some .cell
noncomputable def namesOk (sc:Scope):Bool:=sc.names.all fun y=>y.2 != .local || sc.names.lookup y.1 == some .local
structure iy (X:Cx) (pins:List (Addr × Obj)) (σ:St) (H:Hp) (C:Addr) (s:Shared):Prop where
  inv:Inv X pins σ H s
  ns:∃ m,s.heap.Ns C m
  free:H C=none
  loc:C≠X.env.locals
  young:X.s₀.heap.objs.size<=C
  cell:∀ x c,X.env.cells.lookup x=some c->c≠C
  pin:∀ p∈X.pn++pins,p.1≠C
theorem iy.gone {pins:List (Addr × Obj)} {σ:St} {H:Hp} {C:Addr} {s:Shared} (B:iy X pins σ H C s) {h':Heap} (hs:Heap.SameBut C s.heap h'):Inv X pins σ H { s with heap:=h' } :=
  B.inv.turned (t':=s.toks) (it:=C) (fun b o hb e=>hs.extBut b o hb e) B.free B.loc (.inr B.young) B.cell B.pin
theorem oM {elt tg iter:Expr} {ifs:List Expr} {scope:Scope} {pos pos':Pos} {N:List Str} {ix:List (Option Nat)} {wi:TI} {g:TG} {tt:TT} {te:TE} {use:Option (Value->Sem Unit)} {Qv:Value->Shared->Prop}
    (hc:X.calm=true) (hi:PI X tg iter wi) (hk:scope.kind = .function) (hcell0:rg scope=true) (hfree0:freeOk scope X.env=true) (hnames0:namesOk scope=true) (caps:gc X scope N ix)
    (hg:∀ cl C s H fp xe,PG (cL X scope N cl C s H fp xe) tg g) (ht:∀ cl C s H fp xe,xq (cL X scope N cl C s H fp xe) ifs tt) (he:∀ cl C s H fp xe,PE (cL X scope N cl C s H fp xe) elt te)
    (hs:∀ x,foldedSetIterable iter X.env x=pure x)
    {pins:List (Addr × Obj)} {s:Shared} {σ:St} {H:Hp} {Q:VK} (I:Inv X pins σ H s) (h:vi wi g tt te ix σ H Q)
    (fin:∀ (C D:Addr) (H6:Hp) (s6:Shared),iy X pins σ H6 C s6->Q (.ref D) H6->compPost (model X.prog X.w) X.A X.xe use Qv (.ref D) C (.ok .next) s6) :
    wpAny (model X.prog X.w) X.A (comprehension (.ListComp elt [⟨tg,iter,ifs,0⟩] scope pos) scope X.env pos' (newList []) false (eval iter X.env) use) Qv X.xe s:=by
  have hcell:∀ y∈scope.names,y.2≠.cell:=fun y hy e=>by
    have:=List.all_eq_true.mp hcell0 y hy
    rw [e] at this; exact absurd this (by decide)
  have hfree:∀ y∈scope.names,y.2 = .free->X.env.kindOf y.1=some .cell:=fun y hy e=>by
    have:=List.all_eq_true.mp hfree0 y hy
    rw [e] at this; simpa using this
  have hnames:∀ y∈scope.names,y.2 = .local->scope.names.lookup y.1=some .local:=fun y hy e=>by
    have:=List.all_eq_true.mp hnames0 y hy
    rw [e] at this; simpa using this
  have hcl:∀ y∈scope.names,y.2 = .free->∃ c,X.env.cells.lookup y.1=some c:=fun y hy e=>I.ok.has y.1 (.inl (hfree y hy e))
  refine wpAny_comprehension_free (use:=use) rfl hs (vo hcl) hk hnames ?_
  generalize ecl:qr X.env.cells scope.names []=cl
  -- the cells of the block are the def's
  have cl1:∀ x c,cl.lookup x=some c->X.env.cells.lookup x=some c:=fun x c e=>by
    have m:=lookup_mem e
    rw [<- ecl] at m
    rcases lE.mp m with z | ⟨z,z'⟩
    · cases z
    · obtain ⟨a,ea⟩:=hcl _ z rfl
      have ea':X.env.cells.lookup x=some a:=ea
      have z2:c=(X.env.cells.lookup x).getD 0:=z'
      rw [ea',Option.getD_some] at z2
      rw [ea',z2]
  have cl2:∀ x,(x,NameKind.free)∈scope.names->∃ c,cl.lookup x=some c:=fun x hx=>by
    have m:(x,(X.env.cells.lookup x).getD 0)∈cl:=by rw [<- ecl]; exact lE.mpr (.inr ⟨hx,rfl⟩)
    exact mem_lookup m
  refine aI (hi pins s σ H _ I h) fun v s1 h1=>aI h1 fun itv s2 h2=>?_
  obtain ⟨it,fp,tn,J,H2,e,I2,T,st2,f2,body⟩:=h2
  subst e
  refine wpAny_newObj_type (wpAny_newFunctionEnv hcell (by intro y hy; simp at hy) (fun h₁ hns₁ hsb₁=>?_) hk)
  dsimp only at hns₁ hsb₁ |-
  have hD:H2 s2.heap.objs.size=none:=I2.hok.fresh (Nat.le_refl _)
  obtain ⟨W,⟨m0,w0⟩,turn⟩:=body _ hD
  have I3:Inv X pins σ (upd H2 s2.heap.objs.size (.lst [])) { s2 with heap:=s2.heap.push { cls:=.type "list",dict:=none,data:=.seq ([]:List Value).toArray } } :=
    I2.laid (t':=s2.toks) (fun b o e=>Heap.get?_push_of_some _ e) (Nat.le_refl _) ⟨Nat.zero_le _,[],0,.nil,Heap.get?_push_size _ rfl⟩
  generalize hs3:({ s2 with heap:=s2.heap.push { cls:=.type "list",dict:=none,data:=.seq ([]:List Value).toArray } }:Shared)=s3 at I3
  have es3:s2.heap.push { cls:=.type "list",dict:=none,data:=.seq ([]:List Value).toArray }=s3.heap:=by rw [<- hs3]
  rw [es3] at hns₁ hsb₁ |-
  generalize hD':s2.heap.objs.size=D at *
  generalize hH3:upd H2 D (.lst [])=H3 at *
  have szC:s3.heap.objs.size=D+1:=by rw [<- es3,Heap.size_push,hD']
  -- what was,is
  have old:∀ b o,s3.heap.get? b=some o->h₁.get? b=some o:=fun b o e=>hsb₁.extBut b o (Nat.ne_of_lt (Heap.lt_size e)) (Heap.get?_push_of_some _ e)
  have fpl:∀ b∈fp,b < D:=fun b hb=>by
    obtain ⟨o,e,_⟩:=T.obj 0 _ st2 b hb
    rw [<- hD']; exact Heap.lt_size e
  have fpD:∀ b∈fp,H3 b=none:=fun b hb=>by
    rw [<- hH3,upd_ne (Nat.ne_of_lt (fpl b hb))]; exact (f2 b hb).1
  have fstk:∀ b∈fp,b∉ic X.stack:=fun b hb z=>by
    obtain ⟨_,f1,f3,_⟩:=f2 b hb
    rcases List.mem_cons.mp (I2.stkSub b z) with e | e
    · exact f1 e
    · exact f3 e
  let E':Value->Shared->Prop:=notedBy (model X.prog X.w) X.A (compEnvC scope cl s3.heap.objs.size X.env) fun e s'=>compPost (model X.prog X.w) X.A X.xe use Qv (.ref D) s3.heap.objs.size (.error e) s'
  have ok':(cL X scope N cl s3.heap.objs.size s3 H3 fp E').Ok:=by
    refine { mod:=I.ok.mod,kind:=?_,glob:=I.ok.glob,blt:=I.ok.blt,above:=Nat.le_refl _,inj:=?_,has:=?_,cab:=?_,hd:=I.ok.hd,frames:=I.ok.frames,stk:=.inl rfl,exf:=?_,bs:=I3.bs,bsz:=?_,noex:=?_,exfs:=fstk,funs:=I3.stack,frf:=I3.stkFree }
    · show (relabel scope X.env).kind = .function
      exact hk
    · exact fun x y c e1 e2=>I.ok.inj x y c (cl1 x c e1) (cl1 y c e2)
    · intro x hx
      have hx':(relabel scope X.env).names.lookup x=some .cell\/(relabel scope X.env).names.lookup x=some .free:=hx
      have:(x,NameKind.free)∈scope.names:=by
        rcases hx' with e | e
        · obtain ⟨k',hm,z | ⟨z,_⟩⟩:=hU e
          · subst z; exact absurd rfl (hcell _ hm)
          · subst z; exact hm
        · obtain ⟨k',hm,z | ⟨z,z'⟩⟩:=hU e
          · subst z; exact hm
          · cases z'
      exact cl2 x this
    · intro x c z; cases z
    · intro b hb
      refine ⟨fun z=>?_,fun x c e=>(f2 b hb).2.2.2.2.1 x c (cl1 x c e)⟩
      have lt:=fpl b hb
      have z':b=s3.heap.objs.size:=z
      rw [z',szC] at lt
      exact absurd lt (Nat.not_lt.mpr (Nat.le_succ D))
    · exact Nat.le_trans I3.ok.bsz I3.sz
    · intro b o e hb
      rcases (f2 b hb).2.2.2.1 with z | z
      · exact I.ok.noex b o e z
      · exact absurd (Nat.lt_of_lt_of_le (Heap.lt_size e) (Nat.le_trans I.ok.bsz z)) (Nat.lt_irrefl _)
  have I4:∀ tk,Inv (cL X scope N cl s3.heap.objs.size s3 H3 fp E') [] (fC ix σ) H3 { s3 with heap:=h₁,toks:=tk }:=fun tk=>by
    refine ⟨ok',rfl,I3.bare,Un.kept old,⟨_,hns₁,fun i x v e1 e2 e3=>?_⟩,fun x c e=>?_,?_,fun x c e=>I3.freeC x c (cl1 x c e),fun p hp=>(by cases hp),I3.hok.kept old,?_⟩
    · obtain ⟨j,j1,j2,j3,j4⟩:=caps.get i x v e1 e2
      obtain ⟨m,hn,hl⟩:=I3.loc
      obtain ⟨u,r,l⟩:=hl j x v j1 j2 (.inr (.inl j3))
      refine ⟨u,r,.inr ⟨.inl j4,?_⟩⟩
      rcases l with ⟨l,_⟩ | ⟨_,c,ec,hcell⟩
      · have l':X.env.kindOf x=some .local:=l
        rw [j3] at l'; cases l'
      · obtain ⟨k',hm,z | ⟨z,_⟩⟩:=hU j4
        · subst z; exact absurd rfl (‹∀ y∈scope.names,y.2≠.cell› _ hm)
        · subst z
          obtain ⟨c',ec'⟩:=cl2 x hm
          have:=cl1 x c' ec'
          rw [ec] at this; cases this
          obtain ⟨o,ho,hd⟩:=hcell
          exact ⟨c,ec',o,old _ _ ho,hd⟩
    · obtain ⟨v,o,ho,hd⟩:=I3.cell x c (cl1 x c e)
      exact ⟨v,o,old _ _ ho,hd⟩
    · exact I3.hok.fresh (Nat.le_refl _)
    · show (fC ix σ).length=N.length
      rw [<- caps.length]; simp [fC]
  have st4:tn 0 h₁:=T.keep 0 _ _ st2 fun b hb o e=>old b o (by rw [<- es3]; exact Heap.get?_push_of_some _ e)
  -- the block's end
  have fin6:∀ (s6:Shared) (H6:Hp),Inv (cL X scope N cl s3.heap.objs.size s3 H3 fp E') [] (fC ix σ) H6 s6->Q (.ref D) H6 ->
      compPost (model X.prog X.w) X.A X.xe use Qv (.ref D) s3.heap.objs.size (.ok .next) s6:=fun s6 H6 I6 q=>by
    obtain ⟨m,hn,_⟩:=I6.loc
    refine fin s3.heap.objs.size D H6 s6 ⟨I3.call' (s':=s6) (ch:=fp) I6.os I6.base I6.hok I6.bare ?_,⟨m,hn⟩,I6.free,?_,I3.sz,?_,?_⟩ q
    · intro b hb
      obtain ⟨_,f1,_,f3,f4,f5⟩:=f2 b hb
      exact ⟨f3,f1,f4,f5⟩
    · exact Nat.ne_of_gt I3.lt
    · intro x c e z
      obtain ⟨v,o,ho,_⟩:=I3.cell x c e
      exact absurd (Heap.lt_size ho) (by rw [z]; exact Nat.lt_irrefl _)
    · intro p hp z
      exact absurd (Heap.lt_size (I3.pin p hp).1) (by rw [z]; exact Nat.lt_irrefl _)
  -- the loop
  have loop:∀ s4:Shared,s4={ s3 with heap:=h₁,toks:=s2.toks+([]:List (Str × Value)).length } ->
      codeAny (model X.prog X.w) X.A (.compLoop (.ListComp elt [⟨tg,iter,ifs,0⟩] scope pos) 0 (.ref it) (.ref D) (compEnvC scope cl s3.heap.objs.size X.env)) (compPost (model X.prog X.w) X.A X.xe use Qv (.ref D) s3.heap.objs.size) s4:=by
    rintro s4 rfl
    refine xc (fun n s'=>∃ i ys H',Inv (cL X scope N cl s3.heap.objs.size s3 H3 fp E') [] (fC ix σ) H' s'/\tn i s'.heap/\(∀ b∈fp,H' b=none)/\W i n ys H') ?_ m0 ⟨0,[],H3,I4 _,st4,fpD,w0⟩
    rintro n s5 ⟨i,ys,H5,I5,st5,fr5,w5⟩
    have stat:∀ {H':Hp},(∀ b∈fp,H' b=none)->∀ b∈fp,gY (cL X scope N cl s3.heap.objs.size s3 H3 fp E') [] H' b:=fun hn b hb=>by
      refine ⟨hn b hb,fun z=>?_,fstk b hb,.inl hb,fun x c e=>(f2 b hb).2.2.2.2.1 x c (cl1 x c e),fun p hp=>(by cases hp)⟩
      have lt:=fpl b hb
      have z':b=s3.heap.objs.size:=z
      rw [z',szC] at lt
      exact absurd lt (Nat.not_lt.mpr (Nat.le_succ D))
    rcases turn i n ys H5 w5 with ⟨stop,q⟩ | ⟨go,step⟩
    · refine aI (T.done (cL X scope N cl s3.heap.objs.size s3 H3 fp E') rfl rfl rfl hc i [] s5 _ H5 E' I5 (stat fr5) st5 stop) fun r s6 ⟨hr,I6⟩=>?_
      subst hr
      exact fin6 s6 H5 I6 q
    · refine aI (T.item (cL X scope N cl s3.heap.objs.size s3 H3 fp E') rfl rfl rfl hc i [] s5 _ H5 E' I5 (stat fr5) st5 go) fun r s6 ⟨u,hr,h6⟩=>?_
      subst hr
      refine aI h6 fun _ s7 ⟨x,H7,I7,r7,y7,st7,fr7⟩=>?_
      have I7':=I7.pinned (stat fr7) (T.obj _ _ st7)
      refine aI (hg cl s3.heap.objs.size s3 H3 fp E' _ s7 _ H7 x u _ I7' r7 (step x H7 y7)) fun _ s8 ⟨σ8,H8,I8,ext,q8⟩=>?_
      have again:∀ {σ9:St} {H9:Hp} {s9:Shared} {m':Nat} {zs:List V},Ext (fC ix σ) σ9->Inv (cL X scope N cl s3.heap.objs.size s3 H3 fp E') ([]++i0 fp s7.heap) σ9 H9 s9->m' < n->W (i+1) m' zs H9 ->
          ∃ m,m < n/\∃ i ys H',Inv (cL X scope N cl s3.heap.objs.size s3 H3 fp E') [] (fC ix σ) H' s9/\tn i s9.heap/\(∀ b∈fp,H' b=none)/\W i m ys H':=fun {σ9 H9 s9 m' zs} ex I9 hm w9=>by
        refine ⟨m',hm,i+1,zs,H9,(I9.unpinned).weak ex.1.symm ex.2,T.keep _ _ _ st7 fun b hb o e=>(I9.pin (b,o) (List.mem_append_right _ (List.mem_append_right _ (gu hb e)))).1,fun b hb=>?_,w9⟩
        obtain ⟨o,e,d⟩:=T.obj _ _ st7 b hb
        exact (I9.pin (b,o) (List.mem_append_right _ (List.mem_append_right _ (gu hb e)))).2.1
      refine aI (ht cl s3.heap.objs.size s3 H3 fp E' _ s8 σ8 H8 _ I8 q8) fun ok s9 ⟨H9,I9,q9⟩=>?_
      cases ok with
      | false =>
        obtain ⟨m',hm,w9⟩:=q9
        exact again ext I9 hm w9
      | true =>
        refine aI (he cl s3.heap.objs.size s3 H3 fp E' _ s9 σ8 H9 _ I9 q9) fun u10 s10 ⟨v10,H10,I10,r10,hDl,hlt,m',hm,w10⟩=>?_
        refine aI (bR (X:=cL X scope N cl s3.heap.objs.size s3 H3 fp E') _ s10 σ8 H10 (.ref D) [v10] (.ref D) [u10] (fun _ H'=>H'=upd H10 D (.lst (ys++[v10]))) I10 rfl (.cons r10 .nil) ⟨D,ys,v10,rfl,rfl,hDl,hlt,rfl⟩) fun _ s11 ⟨_,H11,I11,_,e11⟩=>?_
        subst e11
        exact again ext I11 hm w10
  exact codeAny_compStart_list (loop _ (by rw [<- hs3])) (T.self _ 0 _ _ _ st4 (loop _ (by rw [<- hs3])))
theorem eM {elt tg iter:Expr} {ifs:List Expr} {scope:Scope} {pos:Pos} {N:List Str} {ix:List (Option Nat)} {wi:TI} {g:TG} {tt:TT} {te:TE}
    (hc:X.calm=true) (hi:PI X tg iter wi) (hk:scope.kind = .function) (hcell0:rg scope=true) (hfree0:freeOk scope X.env=true) (hnames0:namesOk scope=true) (caps:gc X scope N ix)
    (hg:∀ cl C s H fp xe,PG (cL X scope N cl C s H fp xe) tg g) (ht:∀ cl C s H fp xe,xq (cL X scope N cl C s H fp xe) ifs tt) (he:∀ cl C s H fp xe,PE (cL X scope N cl C s H fp xe) elt te)
    (hs:∀ x,foldedSetIterable iter X.env x=pure x:=by intro _; rfl) :
    PE X (.ListComp elt [⟨tg,iter,ifs,0⟩] scope pos) (vi wi g tt te ix):=by
  intro pins s σ H Q I h
  rw [eval_ListComp]
  refine oM (use:=none) hc hi hk hcell0 hfree0 hnames0 caps hg ht he hs I h fun C D H6 s6 B q=>?_
  obtain ⟨m,hn⟩:=B.ns
  exact ⟨m,hn,fun h' hsb=>⟨.ref D,H6,B.gone hsb,rfl,q⟩⟩
noncomputable def C8 (i:Nat) (te:TE):TS:=fun D σ H=>te σ H fun x H1=>D.nx (σ.set i (some x)) H1
theorem mH {i:Nat} {y:Str} {py:Pos} {spos:Pos} {elt tg iter:Expr} {ifs:List Expr} {scope:Scope} {pos:Pos} {N:List Str} {ix:List (Option Nat)} {wi:TI} {g:TG} {tt:TT} {te:TE}
    (hN:X.N.Nodup) (hi':X.N[i]? = some y) (hx:Loc X.env.scope y) (hsw:swapsWith (.ListComp elt [⟨tg,iter,ifs,0⟩] scope pos) (some (.Name y py)) spos.line X.env=pure true)
    (hc:X.calm=true) (hi:PI X tg iter wi) (hk:scope.kind = .function) (hcell0:rg scope=true) (hfree0:freeOk scope X.env=true) (hnames0:namesOk scope=true) (caps:gc X scope N ix)
    (hg:∀ cl C s H fp xe,PG (cL X scope N cl C s H fp xe) tg g) (ht:∀ cl C s H fp xe,xq (cL X scope N cl C s H fp xe) ifs tt) (he:∀ cl C s H fp xe,PE (cL X scope N cl C s H fp xe) elt te)
    (hs:∀ x,foldedSetIterable iter X.env x=pure x:=by intro _; rfl) (hf:X.fn y=true\/X.env.scope.names.lookup y=some .local:=by first | exact .inl rfl | exact .inr rfl | assumption) :
    PS X (.Assign [.Name y py] (.ListComp elt [⟨tg,iter,ifs,0⟩] scope pos) spos) (C8 i (vi wi g tt te ix)):=by
  intro pins s σ H D I h
  rw [exec_Assign_Name_used _ _ _ _ hsw]
  refine wpAny_bind (wpAny_standAt (wpAny_bind ?_))
  show wpAny _ X.A (do let _ <- comprehension (.ListComp elt [⟨tg,iter,ifs,0⟩] scope pos) scope X.env _ (newList []) false (eval iter X.env) (some (assign (.Name y py) X.env))) _ _ s
  refine wpAny_bind (wpAny_mono (oM (use:=some (assign (.Name y py) X.env)) (Qv:=fun _ s'=>SP X pins D .next s') hc hi hk hcell0 hfree0 hnames0 caps hg ht he hs I h fun C a H6 s6 B q=>?_) (fun _ s' hq=>wpAny_pure (wpAny_pure hq)) fun _ _ e=>e)
  obtain ⟨m,hn⟩:=B.ns
  show wpAny _ X.A (assign (.Name y py) X.env (.ref a)) _ _ s6
  refine wpAny_assign_Name (oO B.inv hN hi' hx (v:=.ref a) rfl (fun s7 I7 ⟨z,hz,hz'⟩=>?_) hf)
  have hzC:C≠z:=by
    rcases hz' with e | e
    · rw [e]; exact B.loc
    · exact fun w=>B.cell y z e w.symm
  refine ⟨m,hn.sameBut hz hzC,fun h' hsb=>?_⟩
  have B7:iy X pins (σ.set i (some (.ref a))) H6 C s7:=⟨I7,⟨m,hn.sameBut hz hzC⟩,B.free,B.loc,B.young,B.cell,B.pin⟩
  exact ⟨_,H6,B7.gone hsb,q⟩
theorem wm {K:PySem.W.Frag} {a:Addr} {xs:List V} {g:TG} {tt:TT} {te:TE} {σ0:St} {H:Hp} {D:Addr} {Q:VK} (f:V->V) (hz:xs.length<=sizeLine) (hx:ar K H a xs) (hD:H D=none)
    (hs:∀ (i:Nat) (x:V) (H':Hp) (R:VK) (R0:Hp->Prop),xs[i]? = some x->(∀ b,b≠D->H' b=H b)->R (f x) H'->g x σ0 H' fun σ2 H2=>Ext σ0 σ2/\tt σ2 H2 fun b H3=>if b=true then te σ2 H3 R else R0 H3)
    (hq:Q (.ref D) (upd H D (.lst (xs.map f)))) :
    mT (qW K a) g tt te σ0 D Q H:=by
  have stays:∀ ys:List V,ar K (upd H D (.lst ys)) a xs:=fun ys=>by
    have sm:ah H (upd H D (.lst ys)):=fun b u q=>by rw [upd_ne (ao q hD)]; exact q
    exact sm.seq hx
  refine ⟨fun i m ys H'=>m=xs.length - i/\i<=xs.length/\ys=(xs.take i).map f/\H'=upd H D (.lst ys),⟨xs.length,by simp,Nat.zero_le _,by simp,rfl⟩,?_⟩
  rintro i m ys H' ⟨rfl,hi,rfl,rfl⟩
  by_cases hlt:i < xs.length
  · refine .inr ⟨⟨xs,xs[i],stays _,by simp [hlt]⟩,fun x H'' y=>?_⟩
    obtain ⟨e,y⟩:=y
    subst e
    have ex:=y xs (stays _)
    refine hs i x _ _ _ ex (fun b hb=>upd_ne hb) ⟨upd_same,by simp; omega,xs.length - (i+1),by omega,rfl,hlt,?_,?_⟩
    · rw [List.take_add_one,ex,List.map_append]; rfl
    · rw [gz]
  · have e:i=xs.length:=by omega
    subst e
    refine .inl ⟨⟨xs,stays _,Nat.le_refl _⟩,?_⟩
    rw [List.take_length]
    exact hq
end
end L2
set_option Elab.async false
set_option linter.all false
set_option maxRecDepth 100000
set_option maxHeartbeats 4000000
namespace L2
open PySem PySem.Spec PyProof.Rows
section
variable {P:Program} {w:World} {H:Hp} {h h':Heap} {a:Addr} {o:HO}
end
def Tr (h:Heap) (e T:Addr) (cls:Value):Prop:=∃ oe vs oT ts a0,h.get? e=some oe/\oe.cls=cls/\vs[0]? = some a0/\oe.data = .fields vs/\vs[1]? = some (.ref T)/\T≠e/\h.get? T=some oT/\oT.data = .fields ts/\ts[3]? = some Value.none
section
variable {M:Model} {A:Around} {E:Value->Shared->Prop} {s:Shared} {Q:Unit->Shared->Prop} {base:Heap} {env:Env} {outer l:List Env} {L e T:Addr} {cls:Value}
end
section
variable {X:Cx} {pins:List (Addr × Obj)} {σ:St} {H:Hp} {s:Shared} {h':Heap} {ch:List Addr}
structure BS (X:Cx) (pins:List (Addr × Obj)) (H:Hp) (b:Addr):Prop where
  new:X.s₀.heap.get? b=none
  free:H b=none
  loc:b≠X.env.locals
  cell:∀ x c,X.env.cells.lookup x=some c->c≠b
  pin:∀ p∈X.pn++pins,p.1≠b
end
noncomputable def m7 (P:Program) (w:World):gi:=fun outer H s E e s'=>∃ (ea T:Addr) (cls:Value) (H':Hp),e = .ref ea/\s.heap.get? ea=none/\s.heap.get? T=none/\H' ea=none/\H' T=none/\Tr s'.heap ea T cls /\
  s'.os=s.os/\AllBare s'.gens/\Un (ic outer) [] H H' s.heap s'.heap/\dZ P w H' s'.heap/\E cls none H'
theorem pA {P:Program} {w:World} {X:Cx}:Passes (m7 P w) X E0:=fun _ _ _ _ _ _ _ ⟨_,_,_,_,_,_,_,_,_,_,_,_,_,_,q⟩=>q.elim
section
variable {P:Program} {w:World} {K:PySem.W.Frag} {mg:Str->Option Value} {base:Heap} {N:List Str} {qual:Str} {scope:Scope} {f:Addr} {cd:Value} {A:Around} {outer:List Env} {s:Shared} {H:Hp} {E:XK}
end
section
variable {P:Program} {w:World} {K:PySem.W.Frag} {mg:Str->Option Value} {base:Heap}
theorem az.up {CX:gi} {k:Nat} {f:Addr} {fd:FuncData} {ps:List Str} {sp:Sp} (F:az P w K mg base aZ k f fd ps sp):az P w K mg base CX k f fd ps sp :=
  ⟨F.len,fun A outer s H args us vs Q E hr he hb hv hs=>codeAny_mono (F.run A outer s H args us vs Q E hr he hb hv hs) fun r s' q=>by
    cases r with
    | error e=>exact False.elim q
    | ok fl=>cases fl<;>exact q⟩
end
section
variable {X:Cx} {pins:List (Addr × Obj)} {σ:St} {H:Hp} {s:Shared} {e:Addr}
end
end L2
set_option Elab.async false
set_option linter.all false
set_option maxRecDepth 100000
set_option maxHeartbeats 4000000
namespace L2
open PySem PySem.Spec PyProof.Rows
structure Def (P:Program) (w:World) (K:PySem.W.Frag) (mg:Str->Option Value) (base:Heap) (x:Str) (ps:List Str) (k:Nat) (sp:Sp) (f:Addr) (fd:FuncData):Prop where
  ok:az P w K mg base (m7 P w) k f fd ps sp
  b:Binds K fd ps []
  kp:PySem.W.keepIn K (.ref f)=true
  m:mg x=some (.ref f)
section
variable {X:Cx} {f:Addr} {fd:FuncData} {ps:List Str} {sp:Sp} {x:Str} {p pos:Pos} {e:Expr} {es:List Expr} {t:TA} {j k:Nat}
theorem aD (D:Def X.prog X.w X.K X.mg X.base x ps j sp f fd) (hr:bP k X.A) (ha:PA X (e::es) t) (hjk:j<=k:=by decide) (hg:Gl X x:=by rfl)
    (hdb:(x == ("__debug__" : Str))=false:=by decide) (he:starEach (e::es) X.env=(false,eval e X.env)::starEach es X.env:=by rfl) (hpl:(backTo pos (starEach es X.env)).any (·.1)=false:=by rfl) :
    PE X (.Call (.Name x p) (e::es) [] pos) (vB sp [] E0 t):=zl D.ok (hr.mono hjk) hg D.m D.kp D.b .nil pA ha hdb he hpl
end
theorem bL:bootBuiltins "isinstance" = some (.builtin "isinstance"):=by decide +kernel
theorem p6:bootBuiltins "int" = some (.type "int"):=by decide +kernel
theorem zT:bootBuiltins "bool" = some (.type "bool"):=by decide +kernel
theorem gC:bootBuiltins "list" = some (.type "list"):=by decide +kernel
theorem lC:bootBuiltins "tuple" = some (.type "tuple"):=by decide +kernel
theorem xf:bootBuiltins "str" = some (.type "str"):=by decide +kernel
theorem Av:bootBuiltins "min" = some (.builtin "min"):=by decide +kernel
theorem wb:bootBuiltins "max" = some (.builtin "max"):=by decide +kernel
theorem bt:bootBuiltins "len" = some (.builtin "len"):=by decide +kernel
theorem ah.upd {H H':Hp} (h:ah H H') {p:Addr} (n:H p=none) (o:HO):ah H (L2.upd H' p o):=fun b u q=>by
  rw [upd_ne (ao q n)]; exact h b u q
theorem ah.new {H H':Hp} (h:ah H H') {p:Addr} (n:H' p=none) (o:HO):ah H (L2.upd H' p o):=h.trans fun b u q=>by
  rw [upd_ne (ao q n)]; exact q
theorem sz {n:Nat} (h:n<=1000000):n<=sizeLine:=Nat.le_trans h (by decide)
theorem jd {n:Nat} (h:n<=1000000):n < sizeLine:=Nat.lt_of_le_of_lt h (by decide)
theorem sO {K:PySem.W.Frag}:PySem.W.kitOne K (.type "int") (.type "int")=some true:=by rfl
theorem iM {K:PySem.W.Frag}:PySem.W.kitOne K (.type "list") (.type "list")=some true:=by rfl
theorem kR {K:PySem.W.Frag}:PySem.W.kitOne K (.type "str") (.type "str")=some true:=by rfl
theorem qw {K:PySem.W.Frag}:PySem.W.kitOne K (.type "int") (.type "bool")=some false:=by rfl
theorem eL {ns:List Int} {i:Int} (h0:0<=i) (h1:i < (ns.length:Int)):fh (ns.map V.int) i=some (.int (ns.getD i.toNat 0)):=by
  have hk:i.toNat < ns.length:=by omega
  have ek:i=((i.toNat:Nat):Int):=by omega
  have q:fh (ns.map V.int) ((i.toNat:Nat):Int)=some (.int (ns.getD i.toNat 0)):=fE (by rw [List.getElem?_map,List.getD_eq_getElem?_getD,List.getElem?_eq_getElem hk]<;>rfl)
  rw [<- ek] at q
  exact q
end L2
namespace L2
open PySem PySem.Spec PyProof.Rows
theorem mP {σ:St} {H:Hp} {F:Bool->Hp->Prop} (h:F true H):y3 σ H F:=h
theorem pm {j:Int} (h:0 < j):0 < j:=h
noncomputable def fJ (ns:List Int) (lo hi:Option Int):List Int:=(ns.drop (HT.sIx ns.length 0 lo)).take (HT.sIx ns.length ns.length hi - HT.sIx ns.length 0 lo)
theorem lW (ns:List Int) (lo hi:Option Int):g5 (ns.map V.int) lo hi=(fJ ns lo hi).map V.int:=by
  unfold g5 fJ
  rw [List.length_map,List.map_take,List.map_drop]
theorem n6 {ns:List Int} {i:Nat} {x:V} (h:(ns.map V.int)[i]? = some x):∃ c,x = .int c:=by
  rw [List.getElem?_map] at h
  cases e:ns[i]? with
  | none=>rw [e] at h; cases h
  | some c=>rw [e] at h; cases h; exact ⟨c,rfl⟩
end L2
namespace L2
open PySem PySem.Spec PyProof.Rows
noncomputable def Dz (t u:TS):TS:=fun D σ H=>∃ P:St->Hp->Prop,t { D with nx:=P } σ H/\∀ σ' H',P σ' H'->u D σ' H'
theorem nz {X:Cx} {st:Stmt} {rest:List Stmt} {t u:TS} (h1:PS X st t) (h2:gE X rest u):gE X (st::rest) (Dz t u):=by
  intro pins s σ H D I h
  obtain ⟨P,ha,hb⟩:=h
  refine wpAny_execs_cons (aI (h1 pins s σ H { D with nx:=P } I ha) fun f s1 q=>?_)
  cases f with
  | next =>
    obtain ⟨σ',H',I',q⟩:=q
    exact h2 pins s1 σ' H' D I' (hb σ' H' q)
  | ret v=>exact q
  | brk=>exact q
  | cont=>exact q
theorem nG {b b':Bool} {A B:Prop} (e:b=b') (h:if b'=true then A else B):if b=true then A else B:=by rw [e]; exact h
theorem dF {c A B:Prop} [Decidable c] (hc:c) (h:A):if decide c=true then A else B:=by rw [decide_eq_true hc]; exact dP h
theorem eH {c A B:Prop} [Decidable c] (hc:¬ c) (h:B):if decide c=true then A else B:=by rw [decide_eq_false hc]; exact bh h
theorem tL {n:Nat} {i:Int} (h0:0<=i) (h1:i < n):mO n i=some i.toNat:=by unfold mO; rw [if_pos h0,if_pos h1]
noncomputable def sgn (c:Nat):V:=.str ⟨#[c]⟩
theorem Dl:(Str.ofString "(")=⟨#[40]⟩:=by decide +kernel
theorem D5:(Str.ofString ")")=⟨#[41]⟩:=by decide +kernel
theorem o8:V.str (Str.ofString "(")=sgn 40:=by rw [Dl]; rfl
theorem pJ:V.str (Str.ofString ")")=sgn 41:=by rw [D5]; rfl
theorem sT {c d:Nat} (h:sgn c=sgn d):c=d:=by
  unfold sgn at h
  injection h with h
  injection h with h
  have h2:=congrArg Array.toList h
  simpa using h2
theorem pI (c:Nat):decide (V.str ⟨#[c]⟩=V.str (Str.ofString "("))=decide (c=40):=by
  rw [o8]
  show decide (sgn c=sgn 40)=_
  by_cases h:c=40
  · subst h; rw [decide_eq_true rfl,decide_eq_true rfl]
  · rw [decide_eq_false h,decide_eq_false fun z=>h (sT z)]
theorem pD (c:Nat):decide (V.str ⟨#[c]⟩=V.str (Str.ofString ")"))=decide (c=41):=by
  rw [pJ]
  show decide (sgn c=sgn 41)=_
  by_cases h:c=41
  · subst h; rw [decide_eq_true rfl,decide_eq_true rfl]
  · rw [decide_eq_false h,decide_eq_false fun z=>h (sT z)]
theorem yh {x:Str} {i c:Nat} (h:x.cps[i]? = some c):x.cps.toList.drop i=c::x.cps.toList.drop (i+1):=by
  have h':x.cps.toList[i]? = some c:=by simpa using h
  obtain ⟨hi,e⟩:=List.getElem?_eq_some_iff.mp h'
  rw [List.drop_eq_getElem_cons hi,e]
theorem ye (x:Str):x.cps.toList.drop x.cps.size=[]:=List.drop_eq_nil_of_le (by simp)
theorem zz (x:Str):x.cps.toList.length=x.length:=by simp [Str.length]
theorem oj (sep:Str) (hs:sep.cps = #[]):∀ (ys:List Str) (acc:Array Nat),(ys.foldl (fun acc p=>acc++sep.cps++p.cps) acc).toList=acc.toList++(ys.map (·.cps.toList)).flatten
  | [],acc=>by simp
  | y::r,acc=>by
    rw [List.foldl_cons,oj sep hs r]
    simp [hs]
theorem uU (sep:Str) (hs:sep.cps = #[]) (ys:List Str):(Txt.join sep ys).cps.toList=(ys.map (·.cps.toList)).flatten:=by
  unfold Txt.join Builtin.Str.glued
  show ((ys.drop 1).foldl (fun acc p=>acc++sep.cps++p.cps) (ys.headD Str.empty).cps).toList=_
  rw [oj sep hs]
  cases ys with
  | nil=>rfl
  | cons y r=>simp
theorem oQ:(Str.ofString "").cps = #[]:=by decide +kernel
noncomputable def rY (c:Nat):Str:=⟨#[c]⟩
theorem zD (l:List Nat):l.map sgn=(l.map rY).map V.str:=by rw [List.map_map]; rfl
theorem rV:∀ l:List Nat,((l.map rY).map (·.cps.toList)).flatten=l
  | []=>rfl
  | c::r=>by rw [List.map_cons,List.map_cons,List.flatten_cons,rV r]; rfl
theorem lD (l:List Nat):(Txt.join (Str.ofString "") (l.map rY)).cps.toList=l:=by rw [uU _ oQ,rV]
theorem nR:∀ l:List Nat,((l.map rY).map (·.length)).sum=l.length
  | []=>rfl
  | c::r=>by
    rw [List.map_cons,List.map_cons,List.sum_cons,nR r,List.length_cons]
    show 1+r.length=r.length+1
    omega
theorem rb {x:Str} {l:List Nat} (h:x.cps.toList=l):x.length=l.length:=by rw [<- zz,h]
theorem sQ (ns:List Int) (lo hi:Option Int):(fJ ns lo hi).length<=ns.length:=by
  unfold fJ; rw [List.length_take,List.length_drop]; omega
theorem wL (ns:List Int) {t:Int} (h:0<=t):fJ ns (some t) none=ns.drop t.toNat:=by
  unfold fJ
  have e1:HT.sIx ns.length 0 (some t)=min t.toNat ns.length:=by
    show (if t < 0 then _ else _)=_
    rw [if_neg (by omega)]
  rw [e1,HT.sIx_none]
  by_cases hl:t.toNat<=ns.length
  · rw [Nat.min_eq_left hl]; exact List.take_of_length_le (by simp)
  · rw [Nat.min_eq_right (by omega),List.drop_eq_nil_of_le (Nat.le_refl _),List.drop_eq_nil_of_le (by omega)]; simp
end L2
namespace Ck
noncomputable def y9:Nat->List Int
  | 0=>[1]
  | k+1=>y9 k++[((List.range (k+1)).map fun j=>(y9 k).getD j 0*(y9 k).getD (k - j) 0).sum]
noncomputable def sh (k:Nat):Int:=(y9 k).getD k 0
end Ck
namespace Ck
noncomputable def r:Nat->Nat->Int
  | 0,_=>1
  | _+1,0=>0
  | u+1,d+1=>if d < u then 0 else r u (d+1)+r (u+1) d
noncomputable def row (n u:Nat):List Int:=(List.range (n+1 - u)).map fun i=>r u (u+i)
noncomputable def pw (a:Int):Nat->Int
  | 0=>1
  | k+1=>pw a k*a
end Ck
namespace Ck
noncomputable def clo:Nat->List Nat->Bool
  | k,[]=>k == 0
  | k,c::t=>if c=40 then clo (k+1) t else if c=41 then (match k with | 0=>false | k+1=>clo k t) else false
theorem eR (k:Nat) (t:List Nat):clo k (40::t)=clo (k+1) t:=by
  conv=>lhs; unfold clo
  rw [if_pos rfl]
theorem dU (k:Nat) (t:List Nat):clo (k+1) (41::t)=clo k t:=by
  conv=>lhs; unfold clo
  rw [if_neg (by decide),if_pos rfl]
theorem gR (t:List Nat):clo 0 (41::t)=false:=by
  unfold clo
  rw [if_neg (by decide),if_pos rfl]
theorem fY {k c:Nat} {t:List Nat} (h1:¬ c=40) (h2:¬ c=41):clo k (c::t)=false:=by
  unfold clo
  rw [if_neg h1,if_neg h2]
theorem ip (k:Nat):clo k []=(k == 0):=by unfold clo; rfl
inductive Good:Nat->Nat->List Nat->Prop
  | nil:Good 0 0 []
  | up {u d:Nat} {t:List Nat} (h:Good u d t) (le:u+1<=d):Good (u+1) d (40::t)
  | down {u d:Nat} {t:List Nat} (h:Good u d t) (le:u<=d):Good u (d+1) (41::t)
theorem Good.length {u d:Nat} {t:List Nat} (h:Good u d t):t.length=u+d:=by
  induction h with
  | nil=>rfl
  | up _ _ ih=>rw [List.length_cons,ih]; omega
  | down _ _ ih=>rw [List.length_cons,ih]; omega
theorem g0:∀ (t:List Nat) (k:Nat),clo k t=true->∃ u,Good u (u+k) t
  | [],k,h=>by
    have e:k=0:=by simpa [clo] using h
    subst e
    exact ⟨0,.nil⟩
  | c::t,k,h=>by
    unfold clo at h
    by_cases h1:c=40
    · rw [if_pos h1] at h
      obtain ⟨u,g⟩:=g0 t (k+1) h
      subst h1
      refine ⟨u+1,?_⟩
      rw [show u+1+k=u+(k+1) by omega]
      exact .up g (by omega)
    · rw [if_neg h1] at h
      by_cases h2:c=41
      · rw [if_pos h2] at h
        cases k with
        | zero=>cases h
        | succ k =>
          obtain ⟨u,g⟩:=g0 t k h
          subst h2
          exact ⟨u,Good.down g (Nat.le_add_right u k)⟩
      · rw [if_neg h2] at h; cases h
noncomputable def lt:List Nat->List Nat->Bool
  | c::s,e::t=>if c=e then lt s t else c == 40
  | _,_=>false
end Ck
set_option Elab.async false
set_option linter.all false
set_option maxRecDepth 100000
set_option maxHeartbeats 4000000
namespace Ck
open PySem
theorem bJ (x:Str):x.cps.toList.length=x.length:=by simp [Str.length]
noncomputable def ix (n d:Nat):Option Int->Nat
  | none=>d
  | some v=>if v < 0 then (v+(n:Int)).toNat else min v.toNat n
theorem mG (l:List Nat):∀ (k a:Nat),((List.range k).map fun j=>a+j).filterMap (fun j=>l[j]?)=(l.drop a).take k
  | 0,a=>by simp
  | k+1,a=>by
    rw [List.range_succ,List.map_append,List.filterMap_append,mG l k a,List.take_add_one]
    congr 1
    rw [List.getElem?_drop]
    cases h:l[a+k]?<;>simp [h]
theorem iN (lo hi:Option Int) (n:Nat):Builtin.Str.strSliceIndices lo hi 1 n=(List.range (ix n n hi - ix n 0 lo)).map fun j=>ix n 0 lo+j:=by
  have key:∀ (a b:Nat),sliceRange (a:Int) (b:Int) 1=(List.range (b - a)).map fun j=>a+j:=by
    intro a b
    unfold sliceRange
    simp only [show (1:Int) > 0 by decide,if_true,Int.ediv_one]
    have e:(if (a:Int) < (b:Int) then (b:Int) - (a:Int)+1 - 1 else 0).toNat=b - a:=by split<;>omega
    rw [e]
    refine List.map_congr_left fun j _=>?_
    omega
  unfold Builtin.Str.strSliceIndices
  have elo:(match lo with | none=>(0:Int) | some i=>max 0 (min (if i < 0 then i+(n:Int) else i) (n:Int)))=((ix n 0 lo:Nat):Int):=by
    cases lo with
    | none=>rfl
    | some i =>
      show max 0 (min (if i < 0 then i+(n:Int) else i) (n:Int))=(((if i < 0 then (i+(n:Int)).toNat else min i.toNat n):Nat):Int)
      split<;>omega
  have ehi:(match hi with | none=>(n:Int) | some i=>max 0 (min (if i < 0 then i+(n:Int) else i) (n:Int)))=((ix n n hi:Nat):Int):=by
    cases hi with
    | none=>rfl
    | some i =>
      show max 0 (min (if i < 0 then i+(n:Int) else i) (n:Int))=(((if i < 0 then (i+(n:Int)).toNat else min i.toNat n):Nat):Int)
      split<;>omega
  rw [<- key,<- elo,<- ehi]
  cases lo<;>cases hi<;>simp<;>rfl
theorem sG (x:Str) (lo hi:Option Int):(Txt.slice x lo hi).cps.toList=(x.cps.toList.drop (ix x.length 0 lo)).take (ix x.length x.length hi - ix x.length 0 lo):=by
  have e:((Builtin.Str.strSliceIndices lo hi 1 x.length).filterMap (x.cps[·]?))=(x.cps.toList.drop (ix x.length 0 lo)).take (ix x.length x.length hi - ix x.length 0 lo):=by
    rw [iN,<- mG]
    congr 1
    funext j
    simp
  unfold Txt.slice
  split
  · rename_i h
    have hl:(Builtin.Str.strSliceIndices lo hi 1 x.length).length=x.length:=by simpa using h
    rw [iN,List.length_map,List.length_range] at hl
    have h1:ix x.length x.length hi<=x.length:=by
      cases hi with
      | none=>exact Nat.le_refl _
      | some v=>show (if v < 0 then (v+(x.length:Int)).toNat else min v.toNat x.length)<=x.length; split<;>omega
    have h2:x.length=0\/ix x.length 0 lo=0:=by omega
    have h3:ix x.length x.length hi - ix x.length 0 lo=x.length:=hl
    rw [h3]
    rcases h2 with h2 | h2
    · have:x.cps.toList=[]:=List.eq_nil_of_length_eq_zero (by rw [bJ]; exact h2)
      rw [this]; simp
    · rw [h2,List.drop_zero,List.take_of_length_le (by rw [bJ]; exact Nat.le_refl _)]
  · show ((Builtin.Str.strSliceIndices lo hi 1 x.length).filterMap (x.cps[·]?)).toArray.toList=_
    rw [<- e]
theorem x8 {x:Str} {p:Int} (h0:0<=p):(Txt.slice x none (some p)).cps.toList=x.cps.toList.take p.toNat:=by
  rw [sG]
  have e:ix x.length x.length (some p)=min p.toNat x.length:=by show (if p < 0 then _ else _)=_; rw [if_neg (by omega)]
  rw [e]
  show (x.cps.toList.drop 0).take (min p.toNat x.length - 0)=_
  rw [List.drop_zero,Nat.sub_zero]
  by_cases h:p.toNat<=x.length
  · rw [Nat.min_eq_left h]
  · rw [Nat.min_eq_right (by omega),List.take_of_length_le (by rw [bJ]; exact Nat.le_refl _),List.take_of_length_le (by rw [bJ]; omega)]
theorem xw (x y:Str):(x++y).cps.toList=x.cps.toList++y.cps.toList:=by
  show (x.cps++y.cps).toList=_
  simp
theorem kZ (x:Str) (c:Nat):∀ (m i:Nat) (st:Array Nat × Nat),st.2<=i->st.1.size<=i->i+m<=x.length+1 ->
    (forIn (List.range' i m) st (StrLaws.occBody x ⟨#[c]⟩ x.length (x.length+1))).run.fst.size=st.1.size+((x.cps.toList.drop i).take m).count c
  | 0,i,st,_,_,_=>by
    show st.1.size=_
    simp
  | m+1,i,st,h1,h2,h3=>by
    rw [List.range'_succ,List.forIn_cons]
    unfold StrLaws.occBody
    have hone:=StrLaws.subAt_one x c i
    have step:(x.cps.toList.drop i).take (m+1)=(match x.cps.toList[i]? with | some a=>[a] | none=>[])++(x.cps.toList.drop (i+1)).take m:=by
      cases hx:x.cps.toList[i]? with
      | none =>
        have:=List.getElem?_eq_none_iff.mp hx
        rw [List.drop_eq_nil_of_le this,List.drop_eq_nil_of_le (by omega)]; simp
      | some a =>
        obtain ⟨hlt,e⟩:=List.getElem?_eq_some_iff.mp hx
        rw [List.drop_eq_getElem_cons hlt,e]; rfl
    by_cases hc:x.cps.toList[i]? = some c
    · have hs:=hone.mpr hc
      rw [if_pos ⟨⟨⟨by omega,h1⟩,hs.1⟩,hs.2⟩]
      show (forIn (List.range' (i+1) m) (st.1.push i,i+1) (StrLaws.occBody x ⟨#[c]⟩ x.length (x.length+1))).run.fst.size=_
      rw [kZ x c m (i+1) _ (Nat.le_refl _) (by simp; omega) (by omega),step,hc]
      simp
      omega
    · rw [if_neg fun h=>hc (hone.mp ⟨h.1.2,h.2⟩)]
      show (forIn (List.range' (i+1) m) (st.1,st.2) (StrLaws.occBody x ⟨#[c]⟩ x.length (x.length+1))).run.fst.size=_
      rw [kZ x c m (i+1) (st.1,st.2) (Nat.le_succ_of_le h1) (Nat.le_succ_of_le h2) (by omega),step]
      cases hx:x.cps.toList[i]? with
      | none=>simp
      | some a =>
        rw [hx] at hc
        have hne:a≠c:=fun e=>hc (by rw [e])
        simp [List.count_cons,hne]
theorem xh (x:Str) (c:Nat):Txt.count x ⟨#[c]⟩=((x.cps.toList.count c:Nat):Int):=by
  unfold Txt.count
  rw [StrLaws.occ_eq,Array.length_toList,Nat.sub_zero,kZ x c _ 0 _ (Nat.le_refl _) (by simp) (by omega)]
  rw [List.drop_zero,List.take_of_length_le (by rw [bJ]; omega)]
  simp
end Ck
set_option Elab.async false
set_option linter.all false
set_option maxRecDepth 100000
set_option maxHeartbeats 4000000
namespace Ck
open PySem L2
end Ck
namespace L2
open PySem
theorem zm (k:Nat) (v:V):(List.replicate k [v]).flatten=List.replicate k v:=by
  induction k with
  | zero=>rfl
  | succ k ih=>rw [List.replicate_succ,List.flatten_cons,ih,List.replicate_succ]; rfl
end L2
namespace Ck
open PySem L2
structure Tab (H:Hp) (p:Addr) (n m:Nat) (T:List Addr):Prop where
  at_:H p=some (.lst (T.map V.ref))
  len:T.length=m
  rows:∀ (u:Nat) (t:Addr),T[u]? = some t->H t=some (.lst ((row n u).map V.int))
end Ck
namespace L2
open PySem PySem.Spec PyProof.Rows
noncomputable def AF:V->List V->Hp->VK->Prop:=fun x vs H Q=>∃ z y,x = .str z/\vs=[.str y]/\Q (.int (Txt.count z y)) H
theorem yd {X:Cx}:ou X "str.count" AF:=by
  intro pins s σ H x xs v us Q I rx rs h
  obtain ⟨z,y,rfl,rfl,q⟩:=h
  obtain ⟨t,rfl⟩:=rx
  obtain ⟨u,rfl,t',rfl⟩:=vals1 rs
  exact SC.count ⟨.int (Txt.count z y),H,I.tok _,⟨_,rfl⟩,q⟩
theorem jv {x:Str} {i:Int} {c:Nat} (h0:0<=i) (h:x.cps.toList[i.toNat]? = some c):fh x.cps.toList i=some c:=by
  have q:=fE (xs:=x.cps.toList) (j:=i.toNat) h
  rw [show ((i.toNat:Nat):Int)=i by omega] at q
  exact q
theorem tY {x y:Str} (h:x.cps.toList=y.cps.toList):x=y:=by
  obtain ⟨a⟩:=x
  obtain ⟨b⟩:=y
  have:a=b:=by
    have h':a.toList=b.toList:=h
    rw [<- Array.toArray_toList (xs:=a),h',Array.toArray_toList]
  rw [this]
end L2
namespace Ck
open PySem L2
structure oB (n:Nat) (l:List Nat) (i u h:Nat):Prop where
  len:l.length=i
  bal:2*u=i+h
  le:u<=n
  clo:∀ t,Ck.clo 0 (l++t)=Ck.clo h t
theorem oB.up {n:Nat} {l:List Nat} {i u h:Nat} (b:oB n l i u h) (hu:u < n):oB n (l++[40]) (i+1) (u+1) (h+1) :=
  ⟨by rw [List.length_append,b.len]; rfl,by have:=b.bal; omega,hu,fun t=>by rw [List.append_assoc,b.clo]; exact eR h t⟩
theorem oB.down {n:Nat} {l:List Nat} {i u h:Nat} (b:oB n l i u (h+1)):oB n (l++[41]) (i+1) u h :=
  ⟨by rw [List.length_append,b.len]; rfl,by have:=b.bal; omega,b.le,fun t=>by rw [List.append_assoc,b.clo]; exact dU h t⟩
theorem mz {n:Nat} {c:List Nat} (g:Good n n c):∀ i,i<=c.length->∃ h u',oB n (c.take i) i ((c.take i).count 40) h/\Good u' (u'+h) (c.drop i)/\(c.take i).count 40+u'=n
  | 0,_=>⟨0,n,⟨rfl,rfl,by simp,fun t=>rfl⟩,g,by simp⟩
  | i+1,hi=>by
    obtain ⟨h,u',b,gd,e⟩:=mz g i (by omega)
    have hlt:i < c.length:=by omega
    rw [List.drop_eq_getElem_cons hlt] at gd
    have et:c.take (i+1)=c.take i++[c[i]]:=by rw [List.take_add_one,List.getElem?_eq_getElem hlt]; rfl
    generalize hc:c[i]=x at gd et
    generalize hd:u'+h=d at gd
    rw [et]
    cases gd with
    | @up v d t g' le =>
      refine ⟨h+1,v,?_,?_,?_⟩
      · have:=b.up (by omega)
        rw [List.count_append,show List.count 40 [40]=1 by rfl]
        exact this
      · rw [show v+(h+1)=d by omega]; exact g'
      · rw [List.count_append,show List.count 40 [40]=1 by rfl]; omega
    | @down v d' t g' le =>
      obtain ⟨h',rfl⟩:∃ h',h=h'+1:=⟨h - 1,by omega⟩
      refine ⟨h',u',?_,?_,?_⟩
      · have:=b.down
        rw [List.count_append,show List.count 40 [41]=0 by rfl]
        exact this
      · rw [show u'+h'=d' by omega]; exact g'
      · rw [List.count_append,show List.count 40 [41]=0 by rfl]; omega
end Ck
set_option Elab.async false
set_option linter.all false
set_option maxRecDepth 100000
set_option maxHeartbeats 4000000
namespace L2
open PySem PySem.Spec PyProof.Rows
noncomputable def tJ (lo:Int) (n:Nat):It:=⟨fun i _=>i < n,fun i H x H'=>H'=H/\x = .int (lo - i),fun i _=>n<=i⟩
theorem xj {P:Program} {w:World} {K:PySem.W.Frag} {tg:Expr} (it:Addr) (lo:Int) (n:Nat):Turn P w K tg (tJ lo n) [it] it (fun i h=>IsRangeIter h it (lo+(i:Nat)*(-1)) ((n:Int) - (i:Nat)) (-1)) where
  mem:=by simp
  obj:=fun i h st b hb=>by
    have e:b=it:=by simpa using hb
    subst e
    exact ⟨_,st,fun v z=>by
      have z':Data.fields _=Data.cell v:=z
      cases z'⟩
  keep:=fun i h h' st k=>k it (by simp) _ st
  item:=by
    intro X hP hw hK hc i pins s σ H E I hf st hg
    subst hP hw hK
    obtain ⟨f0,f1,f2,f3,f4,f5⟩:=hf it (by simp)
    refine (Walks.range (prog:=X.prog) (w:=X.w) (I.ok.hd hc) it lo (-1) n).item i s _ _ hg st fun v h' tk hv st' kk=>?_
    obtain ⟨t,rfl⟩:=hv
    have I1:Inv X pins σ H { s with heap:=h',toks:=tk }:=I.turned (fun b o hb e=>kk b o (by simpa using hb) e) f0 f1 f3 f4 f5
    refine ⟨_,rfl,mU (s:={ s with heap:=h',toks:=tk }) (n:="range_iterator") st' rfl rfl (by decide) ⟨.int (lo - i),H,I1,⟨t,?_⟩,⟨rfl,rfl⟩,st',fun b hb=>(hf b hb).1⟩⟩
    rw [show lo+(i:Int)*(-1)=lo - (i:Int) by omega]
  done:=by
    intro X hP hw hK hc i pins s σ H E I hf st hg
    subst hP hw hK
    obtain ⟨f0,f1,f2,f3,f4,f5⟩:=hf it (by simp)
    exact wpAny_pyNext_range_end (I.ok.hd hc) st (by have:n<=i:=hg; omega) fun h' eb=>⟨rfl,I.turned (t':=s.toks) (fun b o hb e=>eb b o hb e) f0 f1 f3 f4 f5⟩
  self:=fun _ _ _ _ _ st h=>wpAny_pyIter_rangeiter st h
section
variable {X:Cx} {tg:Expr}
theorem zP {pins:List (Addr × Obj)} {σ:St} {H:Hp} {s:Shared} {R:It->Hp->Prop} {E:Value->Shared->Prop} {lo hi:Int} {t u v:Tok} {tk:Nat} (I:Inv X pins σ H s) (h1 : -(2 ^ 62)<=lo) (h2:lo < 2 ^ 62) (h3 : -(2 ^ 62)<=hi) (h4:hi < 2 ^ 62)
    (q:R (tJ lo (lo - hi).toNat) H):wpAny (model X.prog X.w) X.A (pyIter (.ref s.heap.objs.size)) (y6 X pins σ tg R) E { s with heap:=s.heap.push { cls:=.type "range",data:=.fields #[.int lo t,.int hi u,.int (-1) v] },toks:=tk }:=by
  refine wpAny_pyIter_range (IsRange.new ..) (PySem.W.small_down h1 h2 h3 h4) ?_
  have I1:Inv X pins σ H { s with heap:=s.heap.push { cls:=.type "range",data:=.fields #[.int lo t,.int hi u,.int (-1) v] },toks:=tk }:=I.kept fun b o e=>Heap.get?_push_of_some _ e
  refine ⟨(s.heap.push { cls:=.type "range",data:=.fields #[.int lo t,.int hi u,.int (-1) v] }).objs.size,[(s.heap.push { cls:=.type "range",data:=.fields #[.int lo t,.int hi u,.int (-1) v] }).objs.size],_,_,H,rfl,
    I1.kept (t':=tk) fun b o e=>Heap.get?_push_of_some _ e,xj _ lo (lo - hi).toNat,?_,fun b hb=>?_,q⟩
  · have e1:lo+((0:Nat):Int)*(-1)=lo:=by simp
    have e2:(((lo - hi).toNat:Nat):Int) - ((0:Nat):Int)=Builtin.Range.rangeSize lo hi (-1):=by rw [PySem.W.rangeSize_downNat]; simp
    show IsRangeIter _ _ (lo+((0:Nat):Int)*(-1)) ((((lo - hi).toNat:Nat):Int) - ((0:Nat):Int)) (-1)
    rw [e1,e2]
    exact Heap.get?_push_size _ rfl
  · have e:b=(s.heap.push { cls:=.type "range",data:=.fields #[.int lo t,.int hi u,.int (-1) v] }).objs.size:=by simpa using hb
    subst e
    exact I1.fpOk (Nat.le_refl _) (I1.hok.fresh (Nat.le_refl _))
noncomputable def CL (ta:TA):TI:=fun σ H R=>ta σ H fun vs H1=>∃ i j:Int,vs=[.int i,.int j,.int (-1)]/\(-(2 ^ 62)<=i/\i < 2 ^ 62/\-(2 ^ 62)<=j/\j < 2 ^ 62)/\R (tJ i (i - j).toNat) H1
theorem zg {a b c:Expr} {ta:TA} {p pos:Pos} (hg:Gl X "range") (hm:X.mg "range" = none) (ha:PA X [a,b,c] ta) (hs:starEach [a,b,c] X.env=[(false,eval a X.env),(false,eval b X.env),(false,eval c X.env)]:=by rfl) (hs2:starEach [b,c] X.env=[(false,eval b X.env),(false,eval c X.env)]:=by rfl) :
    PI X tg (.Call (.Name "range" p) [a,b,c] [] pos) (CL ta):=by
  intro pins s σ H R I h
  refine Call_ (dY I hg hm boot_range (PyProof.Rows.callWith_type1 (aI (ha pos pins s σ H _ I h) fun us s1 ⟨vs,H1,I1,r1,q1⟩=>?_) (by rw [hs,hs2]) (by rw [hs2]; rfl)))
  obtain ⟨i,j,e,⟨q1,q2,q3,q4⟩,q⟩:=q1
  subst e
  obtain ⟨u1,u2,u3,rfl,⟨t,rfl⟩,⟨t',rfl⟩,t'',rfl⟩:∃ u1 u2 u3,us=[u1,u2,u3]/\RelV (.int i) u1/\RelV (.int j) u2/\RelV (.int (-1)) u3:=by
    cases r1 with
    | cons r rr=>cases rr with
      | cons r' rr=>cases rr with
        | cons r'' rr=>cases rr; exact ⟨_,_,_,rfl,r,r',r''⟩
  exact call_range_3 (by decide) (zP I1 q1 q2 q3 q4 q) (.inl (PyProof.noPylong_small (by decide)))
theorem ym {lo:Int} {n:Nat} {g:TG} {tb:TS} {D:Ends} {σ:St} {H:Hp} (Pv:Nat->St->Hp->Prop) (h0:Pv 0 σ H)
    (hs:∀ i σ H,i < n->Pv i σ H->g (.int (lo - i)) σ H fun σ2 H2=>tb { D with nx:=Pv (i+1),ct:=Pv (i+1),bk:=D.nx } σ2 H2) (hd:∀ σ H,Pv n σ H->D.nx σ H) :
    ∃ W:Nat->Nat->St->Hp->Prop,(∃ m,W 0 m σ H)/\∀ i m σ H,W i m σ H ->
      ((tJ lo n).stop i H/\D.nx σ H)\/((tJ lo n).go i H/\∃ N:St->Hp->Prop,(∀ σ' H',N σ' H'->∃ m',m' < m/\W (i+1) m' σ' H')/\∀ x H',(tJ lo n).yld i H x H'->g x σ H' fun σ2 H2=>tb { D with nx:=N,ct:=N,bk:=D.nx } σ2 H2):=by
  refine ⟨fun i m σ H=>m=n - i/\i<=n/\Pv i σ H,⟨n,by simp,Nat.zero_le _,h0⟩,?_⟩
  rintro i m σ H ⟨rfl,hi,p⟩
  by_cases hlt:i < n
  · refine .inr ⟨hlt,Pv (i+1),fun σ' H' p'=>⟨n - (i+1),by omega,rfl,hlt,p'⟩,fun x H' y=>?_⟩
    obtain ⟨rfl,rfl⟩:=y
    exact hs i σ _ hlt p
  · have e:i=n:=by omega
    subst e
    exact .inl ⟨Nat.le_refl _,hd σ H p⟩
end
noncomputable def kW:List V->List V->Bool
  | [],[]=>true
  | x::xs,y::ys=>mh x y&&kW xs ys
  | _,_=>false
theorem tH:∀ {xs ys:List V},xs.length≠ys.length->kW xs ys=false
  | [],[],h=>absurd rfl h
  | [],_::_,_=>rfl
  | _::_,[],_=>rfl
  | x::xs,y::ys,h=>by
    rw [kW,tH (xs:=xs) (ys:=ys) (by simpa using h),Bool.and_false]
theorem tT:∀ {xs ys:List V},xs.length=ys.length->(List.range xs.length).all (fun j=>mh (xs.getD j .non) (ys.getD j .non))=kW xs ys
  | [],[],_=>rfl
  | x::xs,y::ys,h=>by
    rw [kW,<- tT (xs:=xs) (ys:=ys) (by simpa using h),List.length_cons,List.range_succ_eq_map,List.all_cons,List.all_map]
    rfl
noncomputable def Dy (K:PySem.W.Frag) (neg:Bool):R2:=fun x y H Q=>∃ a b xs ys,x = .ref a/\y = .ref b/\ar K H a xs/\ar K H b ys/\xs.all gr=true/\ys.all gr=true/\Q (.bl (if neg then !kW xs ys else kW xs ys)) H
section
variable {X:Cx}
theorem items_eqAt {A:Around} {s:Shared} {xs ys:List V} {us vs:List Value} (r:Vals xs us) (r':Vals ys vs) (fx:xs.all gr=true) (fy:ys.all gr=true) :
    ∀ j (h1:j < us.toArray.size) (h2:j < vs.toArray.size),SeqAt.EqAt A s us.toArray[j] vs.toArray[j] (mh (xs.getD j .non) (ys.getD j .non)):=fun j h1 h2=>by
  have l1:=r.length
  have l2:=r'.length
  have h1':j < us.length:=by simpa using h1
  have h2':j < vs.length:=by simpa using h2
  obtain ⟨u,eu,ru⟩:=r.get (List.getElem?_eq_getElem (show j < xs.length by omega))
  obtain ⟨v,ev,rv⟩:=r'.get (List.getElem?_eq_getElem (show j < ys.length by omega))
  have e1:us.toArray[j]=u:=by
    rw [List.getElem?_eq_getElem h1'] at eu
    simpa using eu
  have e2:vs.toArray[j]=v:=by
    rw [List.getElem?_eq_getElem h2'] at ev
    simpa using ev
  rw [e1,e2]
  have g1:xs.getD j .non=xs[j]'(by omega):=by rw [List.getD_eq_getElem?_getD,List.getElem?_eq_getElem (show j < xs.length by omega)]; rfl
  have g2:ys.getD j .non=ys[j]'(by omega):=by rw [List.getD_eq_getElem?_getD,List.getElem?_eq_getElem (show j < ys.length by omega)]; rfl
  rw [g1,g2]
  exact wz ru rv (List.all_eq_true.mp fx _ (List.getElem_mem _)) (List.all_eq_true.mp fy _ (List.getElem_mem _))
theorem uy (hu:X.A.units < cLine):cQ X (compareOp .Eq) (Dy X.K false):=by
  intro pins s σ H x y v u Q I rx ry h
  obtain ⟨a,b,xs,ys,rfl,rfl,ha,hb,fx,fy,q⟩:=h
  cases rx
  cases ry
  obtain ⟨us,r,pl,hz⟩:=I.list ha
  obtain ⟨vs,r',pl',hz'⟩:=I.list hb
  have l1:=r.length
  have l2:=r'.length
  by_cases hl:xs.length=ys.length
  · refine SeqAt.eq_listAt (e:=fun j=>mh (xs.getD j .non) (ys.getD j .non)) pl.isList pl'.isList (by simp; omega) hu (items_eqAt r r' fx fy) ⟨.bl _,H,I,rfl,?_⟩
    rw [show us.toArray.size=xs.length by simp; omega,tT hl]
    exact q
  · refine SeqAt.eq_list_lengthsAt pl.isList pl'.isList (by simp; omega) hu ⟨.bl false,H,I,rfl,?_⟩
    rw [<- tH hl]
    exact q
end
end L2
set_option Elab.async false
set_option linter.all false
set_option maxRecDepth 100000
set_option maxHeartbeats 4000000
namespace L2
open PySem PySem.Spec PyProof.Rows PySem.W Builtin Builtin.ObjectAttr Builtin.Getset_descriptor
section
variable {K:Frag} {e C:Addr} {M:Model} {h:Heap} {prog:Program} {w:World} {A:Around} {E:Value->Shared->Prop} {s:Shared}
end
section
variable {K:Frag} {e C:Addr} {M:Model} {h:Heap} {prog:Program} {w:World} {A:Around} {E:Value->Shared->Prop} {s:Shared}
end
section
variable {X:Cx}
theorem DZ {A:Around} {k:Nat} (hr:bP k A):A.units < cLine:=Nat.lt_of_succ_lt (CY hr)
end
end L2
namespace Ck
open PySem L2
end Ck
set_option Elab.async false
set_option linter.all false
set_option maxRecDepth 100000
set_option maxHeartbeats 4000000
namespace L2
open PySem PySem.Spec PyProof.Rows
structure aS (P:Program) (w:World) (K:PySem.W.Frag) (mg:Str->Option Value) (base:Heap) (ps:List Str) (k:Nat) (sp:Sp) (f:Addr) (fd:FuncData):Prop where
  ok:az P w K mg base (m7 P w) k f fd ps sp
  b:Binds K fd ps []
section
variable {X:Cx} {C f:Addr} {fd:FuncData} {ps:List Str} {sp:Sp} {m:Str} {apos pos:Pos} {o e:Expr} {es:List Expr} {ta:TE} {t:TA} {j k:Nat}
theorem fO {pl:Sem Bool} (ho:PE X o ta) (c:gT X.K C) (hm:Meth X.K C m f) (D:aS X.prog X.w X.K X.mg X.base ps j sp f fd) (hr:bP k X.A) (ha:PA X (e::es) t) (hjk:j<=k:=by decide)
    (hst:starEach (e::es) X.env=(false,eval e X.env)::starEach es X.env:=by rfl) (hpl:(backTo pos (starEach es X.env)).any (·.1)=false:=by rfl)
    (ht:eval (.Call (.Attribute o m apos) (e::es) [] pos) X.env=(do
      let ov <- eval o X.env
      standAt apos.atName
      let (f,first) <- holding [ov] (getMethod ov m pl)
      callWith pos f first (backTo pos (starEach (e::es) X.env)) (backToKw pos (keywordEach [] X.env))):=by rfl) :
    PE X (.Call (.Attribute o m apos) (e::es) [] pos) (yP C m sp [] E0 ta t):=zd ho c hm D.ok (hr.mono hjk) D.b .nil pA ha hst hpl ht
end
structure gO (K:PySem.W.Frag) (C:Addr) (m:Str) (f:Addr):Prop where
  hg:PySem.W.specialIn K (.ref C) "__getattribute__" = some (some (.builtin "type.__getattribute__"))
  rd:PySem.W.readsIn K C (.type "type")=true
  at_:PySem.W.findCls K (.ref C) (.type "type") m=some (.val (.ref f))
  kp:PySem.W.keepIn K (.ref f)=true
section
variable {X:Cx} {C f:Addr} {fd:FuncData} {ps:List Str} {sp:Sp} {x m:Str} {p apos pos:Pos} {e:Expr} {es:List Expr} {t:TA} {j k:Nat}
theorem hJ {pl:Sem Bool} (hm:X.mg x=some (.ref C)) (M:gO X.K C m f) (D:aS X.prog X.w X.K X.mg X.base ps j sp f fd) (hr:bP k X.A) (ha:PA X (e::es) t) (hjk:j<=k:=by decide) (hg:Gl X x:=by rfl)
    (hdb:(x == ("__debug__" : Str))=false:=by decide) (hst:starEach (e::es) X.env=(false,eval e X.env)::starEach es X.env:=by rfl) (hpl:(backTo pos (starEach es X.env)).any (·.1)=false:=by rfl)
    (ht:eval (.Call (.Attribute (.Name x p) m apos) (e::es) [] pos) X.env=(do
      let ov <- eval (.Name x p) X.env
      standAt apos.atName
      let (f,first) <- holding [ov] (getMethod ov m pl)
      callWith pos f first (backTo pos (starEach (e::es) X.env)) (backToKw pos (keywordEach [] X.env))):=by rfl) :
    PE X (.Call (.Attribute (.Name x p) m apos) (e::es) [] pos) (vB sp [] E0 t):=by
  intro pins s σ H Q I h
  refine PySem.W.methodCall_KW (pl:=pl) (nO I hg hm ?_ hdb) ht
  refine PySem.W.method_cls I.kIn M.hg (PySem.W.cls_value I.kIn M.rd M.at_ rfl ?_)
  have I1:Inv X pins σ H { s with toks:=s.toks+1 }:=I.tok _
  refine PySem.W.callWith_K (first:=[]) (h₀:=X.base) I.ok.mod.kin M.kp (aI (ha pos pins _ σ H _ I1 h) fun us s2 ⟨vs,H2,I2,r,q2⟩=>⟨I2.kIn,?_⟩) hst hpl
  exact rP D.ok (hr.mono hjk) D.b .nil pA I2 r q2
end
section
variable {X:Cx} {C f:Addr} {fd:FuncData} {ps:List Str} {sp:Sp} {x:Str} {p pos:Pos} {j k:Nat}
theorem ji (M:Mk X.K C f) (hm:X.mg x=some (.ref C)) (D:aS X.prog X.w X.K X.mg X.base ps j sp f fd) (hr:bP k X.A) (hjk:j+1<=k:=by decide) (hg:Gl X x:=by rfl) (hdb:(x == ("__debug__" : Str))=false:=by decide) :
    PE X (.Call (.Name x p) [] [] pos) (y8 C sp [] E0 yL):=yj M D.ok (hr.mono hjk) hg hm D.b .nil pA hdb
end
end L2
namespace L2
open PySem
noncomputable def below (N:Nat) (sp:Nat->Sp):Sp:=fun vs H Q E=>∃ m,m < N/\sp m vs H Q E
theorem fG {P:Program} {w:World} {K:PySem.W.Frag} {mg:Str->Option Value} {base:Heap} {CX:gi} {L N:Nat} {f:Addr} {fd:FuncData} {ps:List Str} {sp:Nat->Sp} (h:∀ m,m < N->az P w K mg base CX (L+m+1) f fd ps (sp m)) :
    az P w K mg base CX (L+N) f fd ps (below N sp) :=
  ⟨fun vs H Q E ⟨m,hm,q⟩=>(h m hm).len vs H Q E q,fun A outer s H args us vs Q E hr he hb hv ⟨m,hm,q⟩=>(h m hm).run A outer s H args us vs Q E (hr.mono (by omega)) he hb hv q⟩
theorem rX {P:Program} {w:World} {K:PySem.W.Frag} {mg:Str->Option Value} {base:Heap} {CX:gi} {L:Nat} {f:Addr} {fd:FuncData} {ps:List Str} {sp:Nat->Sp}
    (h:∀ n,(∀ m,m < n->az P w K mg base CX (L+m+1) f fd ps (sp m))->az P w K mg base CX (L+n+1) f fd ps (sp n)):∀ n,az P w K mg base CX (L+n+1) f fd ps (sp n):=fun n =>
  Nat.strongRecOn n fun n ih=>h n ih
end L2
set_option Elab.async false
set_option linter.all false
set_option maxRecDepth 100000
set_option maxHeartbeats 4000000
namespace L2
open PySem PySem.Spec PyProof.Rows
inductive cT (K:PySem.W.Frag) (H:Hp):Nat->V->V->Bool->Prop
  | flat {n:Nat} {x y:V} (fx:gr x=true) (fy:gr y=true):cT K H n x y (mh x y)
  | same {n:Nat} {a:Addr}:cT K H n (.ref a) (.ref a) true
  | lst {n:Nat} {a b:Addr} {xs ys:List V} {e:Nat->Bool} (ne:a≠b) (ha:ar K H a xs) (hb:ar K H b ys) (hl:xs.length=ys.length)
      (hi:∀ j x y,xs[j]? = some x->ys[j]? = some y->cT K H n x y (e j)):cT K H (n+1) (.ref a) (.ref b) ((List.range xs.length).all e)
  | lstN {n:Nat} {a b:Addr} {xs ys:List V} (ne:a≠b) (ha:ar K H a xs) (hb:ar K H b ys) (hl:xs.length≠ys.length):cT K H (n+1) (.ref a) (.ref b) false
  | tup {n:Nat} {a b:Addr} {xs ys:List V} {e:Nat->Bool} (ne:a≠b) (ha:a9 K H a xs) (hb:a9 K H b ys)
      (hi:∀ j x y,xs[j]? = some x->ys[j]? = some y->cT K H n x y (e j)):cT K H (n+1) (.ref a) (.ref b) ((List.range (min xs.length ys.length)).all e&&xs.length == ys.length)
section
variable {X:Cx} {pins:List (Addr × Obj)} {σ:St} {H:Hp} {s:Shared}
theorem dD {xs:List V} {us:List Value} (r:Vals xs us) {j:Nat} (h:j < us.toArray.size):∃ x,xs[j]? = some x/\RelV x us.toArray[j]:=by
  have h':j < us.length:=by simpa using h
  have hx:j < xs.length:=by rw [r.length]; exact h'
  obtain ⟨u,eu,ru⟩:=r.get (List.getElem?_eq_getElem hx)
  rw [List.getElem?_eq_getElem h'] at eu
  exact ⟨_,List.getElem?_eq_getElem hx,by
    have:us.toArray[j]=u:=by simpa using eu
    rw [this]; exact ru⟩
theorem cT.at_ {n:Nat} {x y:V} {b:Bool} (d:cT X.K H n x y b):∀ {A:Around} {u v:Value},A.units+n < cLine->Inv X pins σ H s->RelV x u->RelV y v->SeqAt.EqAt A s u v b:=by
  induction d with
  | flat fx fy=>intro A u v _ I ru rv; exact wz ru rv fx fy
  | same =>
    intro A u v _ I ru rv
    cases (show u=Value.ref _ from ru)
    cases (show v=Value.ref _ from rv)
    exact SeqAt.EqAt.same _
  | @lst n a b xs ys e ne ha hb hl hi ih =>
    intro A u v hu I ru rv
    cases (show u=Value.ref _ from ru)
    cases (show v=Value.ref _ from rv)
    obtain ⟨us,r,pl,_⟩:=I.list ha
    obtain ⟨vs,r',pl',_⟩:=I.list hb
    have l1:=r.length
    have l2:=r'.length
    have z:=SeqAt.RcAt.lists (A:=A) (e:=e) pl.isList pl'.isList (by simp; omega) (by omega) fun j h1 h2=>by
      obtain ⟨x,ex,rx⟩:=dD r h1
      obtain ⟨y,ey,ry⟩:=dD r' h2
      exact ih j x y ex ey (A:=A.in1) (by show A.units+1+n < cLine; omega) I rx ry
    rw [show us.toArray.size=xs.length by simp; omega] at z
    exact .of_refs ne z
  | @lstN n a b xs ys ne ha hb hl =>
    intro A u v hu I ru rv
    cases (show u=Value.ref _ from ru)
    cases (show v=Value.ref _ from rv)
    obtain ⟨us,r,pl,_⟩:=I.list ha
    obtain ⟨vs,r',pl',_⟩:=I.list hb
    have l1:=r.length
    have l2:=r'.length
    exact .of_refs ne (SeqAt.RcAt.lists_lengths pl.isList pl'.isList (by simp; omega) (by omega))
  | @tup n a b xs ys e ne ha hb hi ih =>
    intro A u v hu I ru rv
    cases (show u=Value.ref _ from ru)
    cases (show v=Value.ref _ from rv)
    obtain ⟨us,r,pl,_⟩:=I.tuple ha
    obtain ⟨vs,r',pl',_⟩:=I.tuple hb
    have l1:=r.length
    have l2:=r'.length
    have z:=SeqAt.RcAt.tuples (A:=A) (e:=e) pl pl' (by omega) fun j h1 h2=>by
      obtain ⟨x,ex,rx⟩:=dD r h1
      obtain ⟨y,ey,ry⟩:=dD r' h2
      exact ih j x y ex ey (A:=A.in1) (by show A.units+1+n < cLine; omega) I rx ry
    rw [show us.toArray.size=xs.length by simp; omega,show vs.toArray.size=ys.length by simp; omega] at z
    exact .of_refs ne z
noncomputable def Am (K:PySem.W.Frag) (neg:Bool):R2:=fun x y H Q=>∃ n b,n<=100/\cT K H n x y b/\(∃ a c,x = .ref a/\y = .ref c/\a≠c)/\Q (.bl (if neg then !b else b)) H
theorem wc (hu:X.A.units+100 < cLine):cQ X (compareOp .Eq) (Am X.K false):=by
  intro pins s σ H x y u v Q I ru rv h
  obtain ⟨n,b,hn,d,⟨a,c,rfl,rfl,hne⟩,q⟩:=h
  cases (show u=Value.ref _ from ru)
  cases (show v=Value.ref _ from rv)
  cases d with
  | flat fx _=>cases fx
  | same=>exact absurd rfl hne
  | @lst n _ _ xs ys e ne ha hb hl hi =>
    obtain ⟨us,r,pl,_⟩:=I.list ha
    obtain ⟨vs,r',pl',_⟩:=I.list hb
    have l1:=r.length
    have l2:=r'.length
    refine SeqAt.eq_listAt (e:=e) pl.isList pl'.isList (by simp; omega) (by omega) (fun j h1 h2=>?_) ⟨.bl _,H,I,rfl,?_⟩
    · obtain ⟨x,ex,rx⟩:=dD r h1
      obtain ⟨y,ey,ry⟩:=dD r' h2
      exact (hi j x y ex ey).at_ (A:=X.A.in1) (by show X.A.units+1+n < cLine; omega) I rx ry
    · rw [show us.toArray.size=xs.length by simp; omega]; exact q
  | @lstN n _ _ xs ys ne ha hb hl =>
    obtain ⟨us,r,pl,_⟩:=I.list ha
    obtain ⟨vs,r',pl',_⟩:=I.list hb
    have l1:=r.length
    have l2:=r'.length
    exact SeqAt.eq_list_lengthsAt pl.isList pl'.isList (by simp; omega) (by omega) ⟨.bl false,H,I,rfl,q⟩
  | @tup n _ _ xs ys e ne ha hb hi =>
    obtain ⟨us,r,pl,_⟩:=I.tuple ha
    obtain ⟨vs,r',pl',_⟩:=I.tuple hb
    have l1:=r.length
    have l2:=r'.length
    refine SeqAt.eq_tupleAt (e:=e) pl pl' (by omega) (fun j h1 h2=>?_) ⟨.bl _,H,I,rfl,?_⟩
    · obtain ⟨x,ex,rx⟩:=dD r h1
      obtain ⟨y,ey,ry⟩:=dD r' h2
      exact (hi j x y ex ey).at_ (A:=X.A.in1) (by show X.A.units+1+n < cLine; omega) I rx ry
    · rw [show us.toArray.size=xs.length by simp; omega,show vs.toArray.size=ys.length by simp; omega]; exact q
theorem mI (hu:X.A.units+100 < cLine):cQ X (compareOp .NotEq) (Am X.K true):=by
  intro pins s σ H x y u v Q I ru rv h
  obtain ⟨n,b,hn,d,⟨a,c,rfl,rfl,hne⟩,q⟩:=h
  cases (show u=Value.ref _ from ru)
  cases (show v=Value.ref _ from rv)
  cases d with
  | flat fx _=>cases fx
  | same=>exact absurd rfl hne
  | @lst n _ _ xs ys e ne ha hb hl hi =>
    obtain ⟨us,r,pl,_⟩:=I.list ha
    obtain ⟨vs,r',pl',_⟩:=I.list hb
    have l1:=r.length
    have l2:=r'.length
    refine SeqAt.RcNeAt.lists (e:=e) pl.isList pl'.isList (by simp; omega) (by omega) (fun j h1 h2=>?_) _ _ _ _ ⟨.bl _,H,I,rfl,?_⟩
    · obtain ⟨x,ex,rx⟩:=dD r h1
      obtain ⟨y,ey,ry⟩:=dD r' h2
      exact (hi j x y ex ey).at_ (A:=X.A.in1) (by show X.A.units+1+n < cLine; omega) I rx ry
    · rw [show us.toArray.size=xs.length by simp; omega]; exact q
  | @lstN n _ _ xs ys ne ha hb hl =>
    obtain ⟨us,r,pl,_⟩:=I.list ha
    obtain ⟨vs,r',pl',_⟩:=I.list hb
    have l1:=r.length
    have l2:=r'.length
    exact SeqAt.RcNeAt.lists_lengths pl.isList pl'.isList (by simp; omega) (by omega) _ _ _ _ ⟨.bl true,H,I,rfl,q⟩
  | @tup n _ _ xs ys e ne ha hb hi =>
    obtain ⟨us,r,pl,_⟩:=I.tuple ha
    obtain ⟨vs,r',pl',_⟩:=I.tuple hb
    have l1:=r.length
    have l2:=r'.length
    refine SeqAt.RcNeAt.tuples (e:=e) pl pl' (by omega) (fun j h1 h2=>?_) _ _ _ _ ⟨.bl _,H,I,rfl,?_⟩
    · obtain ⟨x,ex,rx⟩:=dD r h1
      obtain ⟨y,ey,ry⟩:=dD r' h2
      exact (hi j x y ex ey).at_ (A:=X.A.in1) (by show X.A.units+1+n < cLine; omega) I rx ry
    · rw [show us.toArray.size=xs.length by simp; omega,show vs.toArray.size=ys.length by simp; omega]; exact q
theorem gW {A:Around} {k:Nat} (hr:bP k A):A.units+100 < cLine:=Nat.lt_of_le_of_lt (by omega) hr.un
end
end L2
set_option Elab.async false
set_option linter.all false
set_option maxRecDepth 100000
set_option maxHeartbeats 4000000
namespace L2
open PySem PySem.Spec PyProof.Rows
section
variable {X:Cx}
end
section
variable {X:Cx} {pins:List (Addr × Obj)} {σ:St} {H:Hp} {s:Shared} {h':Heap}
theorem Inv.trackO {e:Addr} {o':HO} (I:Inv X pins σ H s) (o:BS X pins H e) (new:cI X.prog X.w (upd H e o') s.heap e o'):Inv X pins σ (upd H e o') s:=by
  have ne:∀ b u,H b=some u->b≠e:=fun b u q z=>by rw [z,o.free] at q; cases q
  refine ⟨I.ok,I.os,I.bare,⟨I.base.keep,I.base.slot,fun b ob q n hx=>?_,I.base.there,fun b xs q=>?_,fun b ob u q=>?_,fun b ps q=>?_⟩,I.loc,I.cell,?_,fun x c q=>?_,fun p hp=>?_,fun b u q=>?_,I.len⟩
  · rw [upd_ne (fun z=>by rw [z,o.new] at q; cases q)]; exact I.base.free b ob q n hx
  · have:=I.base.tups b xs q
    rw [upd_ne (ne _ _ this)]; exact this
  · have:=I.base.frzs b ob u q
    rw [upd_ne (ne _ _ this)]; exact this
  · obtain ⟨m,z⟩:=I.base.tbls b ps q
    exact ⟨m,by rw [upd_ne (ne _ _ z)]; exact z⟩
  · rw [upd_ne (Ne.symm o.loc)]; exact I.free
  · rw [upd_ne (o.cell x c q)]; exact I.freeC x c q
  · obtain ⟨z,n,r⟩:=I.pin p hp
    exact ⟨z,by rw [upd_ne (o.pin p hp)]; exact n,r⟩
  · by_cases z:b=e
    · subst z; rw [upd_same] at q; cases q; exact new
    · rw [upd_ne z] at q
      exact (I.hok b u q).stay (fun _ _ _ x=>x) (fun c x=>by rw [upd_ne (ne _ _ x)]; exact x) fun c xs x=>by rw [upd_ne (ne _ _ x)]; exact x
theorem Inv.turned2 {t':Nat} {e it:Addr} (I:Inv X pins σ H s) (k:∀ b o,b≠e->b≠it->s.heap.get? b=some o->h'.get? b=some o) (he:∃ o,h'.get? e=some o) (hi:∃ o,h'.get? it=some o) (f1:gY X pins H e) (f2:gY X pins H it) :
    Inv X pins σ H { s with heap:=h',toks:=t' }:=by
  have nit:∀ b u,H b=some u->b≠e/\b≠it:=fun b u q=>⟨fun z=>(by rw [z,f1.1] at q; cases q),fun z=>(by rw [z,f2.1] at q; cases q)⟩
  have sp:∀ b,b∉[e,it]->b≠e/\b≠it:=fun b hb=>⟨fun z=>hb (by simp [z]),fun z=>hb (by simp [z])⟩
  refine I.step (g':=s.gens) (d':=s.drawn) (ch:=[e,it]) (fun b hb=>?_) (fun b o _ _ hc q _=>k b o (sp b hc).1 (sp b hc).2 q) (fun b o _ _ hc q _=>⟨o.slots,k b o (sp b hc).1 (sp b hc).2 q⟩) (fun _ _ _ _ n=>n)
    (fun b o hc q=>⟨o,k b o (sp b hc).1 (sp b hc).2 q⟩) (fun _ _ q=>q) (fun _ _ _ q=>q) (fun b ps q=>⟨#[],by rw [q]; simp⟩) (fun m hm=>?_) (fun b u q=>?_) I.bare
  · rcases List.mem_cons.mp hb with z | z
    · rw [z]; exact ⟨f1.2.2.2.1,f1.2.1,f1.2.2.2.2.1,f1.2.2.2.2.2⟩
    · rw [show b=it by simpa using z]; exact ⟨f2.2.2.2.1,f2.2.1,f2.2.2.2.2.1,f2.2.2.2.2.2⟩
  · obtain ⟨o,es,ep,ho,r⟩:=hm
    exact ⟨o,es,ep,k _ o (Ne.symm f1.2.1) (Ne.symm f2.2.1) ho,r⟩
  · refine (I.hok b u q).stay (fun c v hc q'=>?_) (fun _ q=>q) fun _ _ q=>q
    have:c≠e/\c≠it:=by
      rcases hc with z | z
      · rw [z]; exact nit b u q
      · exact nit c _ z
    exact k c v this.1 this.2 q'
end
noncomputable def wO (K:PySem.W.Frag) (l:Addr):It :=
  ⟨fun i H=>∃ xs x,ar K H l xs/\xs[i]? = some x,fun i H v H'=>∃ T x,H T=none/\(∀ xs,ar K H l xs->xs[i]? = some x)/\v = .ref T/\H'=upd H T (.tup [.int i,x]),fun i H=>∃ xs,ar K H l xs/\xs.length<=i⟩
theorem xo {P:Program} {w:World} {K:PySem.W.Frag} {elts:List Expr} {k0:Nat} {tp:Pos} (e it l:Addr) (hei:e≠it) :
    Turn P w K (.Tuple elts k0 tp) (wO K l) [e,it] e (fun i h=>(∃ old,IsEnum h e it i old)/\h.IsListIter it l i) where
  mem:=by simp
  obj:=fun i h st b hb=>by
    obtain ⟨⟨old,he⟩,o,ho,c,d⟩:=st
    rcases List.mem_cons.mp hb with z | z
    · rw [z]
      exact ⟨_,he,fun v z=>by
        have z':Data.fields _=Data.cell v:=z
        cases z'⟩
    · rw [show b=it by simpa using z]
      exact ⟨o,ho,fun v z=>by rw [d] at z; cases z⟩
  keep:=fun i h h' st k=>⟨let ⟨old,he⟩:=st.1; ⟨old,k e (by simp) _ he⟩,st.2.at fun o q=>k it (by simp) o q⟩
  item:=by
    intro X hP hw hK hc i pins s σ H E I hf st hg
    subst hP hw hK
    obtain ⟨xs,x,hq,hx⟩:=hg
    obtain ⟨its,rv,p,hz⟩:=I.list hq
    obtain ⟨u,hu,ru⟩:=rv.get hx
    obtain ⟨⟨old,he⟩,hit⟩:=st
    have fe:=hf e (by simp)
    have fi:=hf it (by simp)
    refine wpAny_pyNext_enum_item he hit p.isList (x:=u) (by simpa using hu) hei fun h1 ho hit1 hT hsz hk=>?_
    refine ⟨_,rfl,wpAny_letOwnedTupleGo_enum ho fun h2 he2 sb=>?_⟩
    have nT:s.heap.get? s.heap.objs.size=none:=Heap.get?_none_of_le (Nat.le_refl _)
    have elt:e < s.heap.objs.size:=Heap.lt_size he
    have ilt:it < s.heap.objs.size:=by obtain ⟨_,q,_⟩:=hit; exact Heap.lt_size q
    have hit2:h2.IsListIter it l (i+1):=hit1.at fun o q=>(sb.2 it (Ne.symm hei)).trans q
    have k2:∀ b o,b≠e->b≠it->s.heap.get? b=some o->h2.get? b=some o:=fun b o b1 b2 q=>(sb.2 b b1).trans (hk b o b1 b2 q)
    have I2:Inv X pins σ H { s with heap:=h2,toks:=s.toks+1 }:=I.turned2 k2 ⟨_,he2⟩ (by obtain ⟨o,q,_⟩:=hit2; exact ⟨o,q⟩) fe fi
    have oT:BS X pins H s.heap.objs.size:=by
      have fT:gY X pins H s.heap.objs.size:=I.fpOk (Nat.le_refl _) (I.hok.fresh (Nat.le_refl _))
      exact ⟨Heap.get?_none_of_le I.sz,fT.1,fT.2.1,fT.2.2.2.2.1,fT.2.2.2.2.2⟩
    have hT2:h2.get? s.heap.objs.size=some { cls:=.type "tuple",data:=.seq #[.int i s.toks,u] }:=(sb.2 _ (Nat.ne_of_gt elt)).trans hT
    have I3:=I2.trackO (o':=.tup [.int i,x]) oT ⟨sz (n:=2) (by decide),[.int i s.toks,u],.cons ⟨_,rfl⟩ (.cons ru .nil),_,hT2,rfl,_,rfl⟩
    refine ⟨.ref s.heap.objs.size,_,I3,rfl,⟨_,x,oT.free,fun ys hy=>by rw [I.list_inj hy hq]; exact hx,rfl,rfl⟩,⟨⟨_,by simpa using he2⟩,hit2⟩,fun b hb=>?_⟩
    rcases List.mem_cons.mp hb with z | z
    · rw [z,upd_ne (Nat.ne_of_lt elt)]; exact fe.1
    · rw [show b=it by simpa using z,upd_ne (Nat.ne_of_lt ilt)]; exact fi.1
  done:=by
    intro X hP hw hK hc i pins s σ H E I hf st hg
    subst hP hw hK
    obtain ⟨xs,hq,hx⟩:=hg
    obtain ⟨its,rv,p,hz⟩:=I.list hq
    obtain ⟨⟨old,he⟩,hit⟩:=st
    have hl:=rv.length
    obtain ⟨f0,f1,f2,f3,f4,f5⟩:=hf it (by simp)
    refine wpAny_pyNext_enum_end (I.ok.hd hc) he hit p.isList (Array.getElem?_eq_none (by simp; omega)) fun h2 eb=>⟨rfl,?_⟩
    exact I.turned (t':=s.toks) (fun b o hb q=>eb b o hb q) f0 f1 f3 f4 f5
  self:=fun _ _ _ _ _ st h=>by
    obtain ⟨⟨old,he⟩,_⟩:=st
    exact wpAny_pyIter_enum he h
noncomputable def Di (K:PySem.W.Frag) (ta:TA):TI:=fun σ H R=>ta σ H fun vs H1=>∃ l,vs=[.ref l]/\(∃ xs,ar K H1 l xs)/\R (wO K l) H1
section
variable {X:Cx}
theorem zb {elts:List Expr} {k0:Nat} {tp:Pos} {a:Expr} {ta:TA} {p pos:Pos} (hg:Gl X "enumerate") (hm:X.mg "enumerate" = none) (ha:PA X [a] ta) (hs:starEach [a] X.env=[(false,eval a X.env)]:=by rfl) :
    PI X (.Tuple elts k0 tp) (.Call (.Name "enumerate" p) [a] [] pos) (Di X.K ta):=by
  intro pins s σ H R I h
  refine Call_ (dY I hg hm boot_enumerate (PyProof.Rows.callWith_type1 (aI (ha pos pins s σ H _ I h) fun us s1 ⟨vs,H1,I1,r1,q1⟩=>?_) hs rfl))
  obtain ⟨l,rfl,⟨xs,hq⟩,q⟩:=q1
  obtain ⟨u,rfl,ru⟩:=vals1 r1
  cases ru
  obtain ⟨its,rv,pl,hz⟩:=I1.list hq
  refine call_enumerate_list pl.isList fun h2 he hit hsz hk=>?_
  have I2:Inv X pins σ H1 { s1 with heap:=h2 }:=I1.kept (t':=s1.toks) hk
  refine wpAny_pyIter_enum he ⟨_,[s1.heap.objs.size+1,s1.heap.objs.size],_,_,H1,rfl,I2,xo _ s1.heap.objs.size l (Nat.succ_ne_self _),⟨⟨_,he⟩,hit⟩,fun b hb=>?_,q⟩
  rcases List.mem_cons.mp hb with z | z
  · rw [z]; exact I1.fpOk (Nat.le_succ _) (I1.hok.fresh (Nat.le_succ _))
  · rw [show b=s1.heap.objs.size by simpa using z]; exact I1.fpOk (Nat.le_refl _) (I1.hok.fresh (Nat.le_refl _))
theorem xF {K:PySem.W.Frag} {l:Addr} {xs:List V} {g:TG} {tb:TS} {D:Ends} {σ:St} {H:Hp} (Pv:Nat->St->Hp->Prop) (h0:Pv 0 σ H) (hl:∀ i σ H,i<=xs.length->Pv i σ H->ar K H l xs)
    (hs:∀ i x σ H T,xs[i]? = some x->Pv i σ H->H T=none->g (.ref T) σ (upd H T (.tup [.int i,x])) fun σ2 H2=>tb { D with nx:=Pv (i+1),ct:=Pv (i+1),bk:=D.nx } σ2 H2) (hd:∀ σ H,Pv xs.length σ H->D.nx σ H) :
    ∃ W:Nat->Nat->St->Hp->Prop,(∃ m,W 0 m σ H)/\∀ i m σ H,W i m σ H ->
      ((wO K l).stop i H/\D.nx σ H)\/((wO K l).go i H/\∃ N:St->Hp->Prop,(∀ σ' H',N σ' H'->∃ m',m' < m/\W (i+1) m' σ' H')/\∀ x H',(wO K l).yld i H x H'->g x σ H' fun σ2 H2=>tb { D with nx:=N,ct:=N,bk:=D.nx } σ2 H2):=by
  refine ⟨fun i m σ H=>m=xs.length - i/\i<=xs.length/\Pv i σ H,⟨xs.length,by simp,Nat.zero_le _,h0⟩,?_⟩
  rintro i m σ H ⟨rfl,hi,p⟩
  have q:=hl i σ H hi p
  by_cases hlt:i < xs.length
  · refine .inr ⟨⟨xs,_,q,List.getElem?_eq_getElem hlt⟩,Pv (i+1),fun σ' H' p'=>⟨xs.length - (i+1),by omega,rfl,hlt,p'⟩,fun v H' y=>?_⟩
    obtain ⟨T,x,nT,hx,rfl,rfl⟩:=y
    exact hs i x σ H T (hx xs q) p nT
  · have e:i=xs.length:=by omega
    subst e
    exact .inl ⟨⟨xs,q,Nat.le_refl _⟩,hd σ H p⟩
end
end L2
set_option Elab.async false
set_option linter.all false
set_option maxRecDepth 100000
set_option maxHeartbeats 4000000
namespace Ck
open PySem L2
inductive Tree where
  | int (i:Int)
  | lst (l:List Tree)
  | tup (l:List Tree)
mutual
noncomputable def Rep (H:Hp):Tree->V->Prop
  | .int i,v=>v = .int i
  | .lst ts,v=>∃ a xs,v = .ref a/\H a=some (.lst xs)/\ts.length<=1000000/\gJ H ts xs
  | .tup ts,v=>∃ a xs,v = .ref a/\H a=some (.tup xs)/\ts.length<=1000000/\gJ H ts xs
noncomputable def gJ (H:Hp):List Tree->List V->Prop
  | [],xs=>xs=[]
  | t::ts,xs=>∃ v vs,xs=v::vs/\Rep H t v/\gJ H ts vs
end
mutual
noncomputable def dep:Tree->Nat
  | .int _=>0
  | .lst ts=>yf ts+1
  | .tup ts=>yf ts+1
noncomputable def yf:List Tree->Nat
  | []=>0
  | t::ts=>max (dep t) (yf ts)
end
mutual
theorem Rep.same {H H':Hp} (s:ah H H'):∀ (t:Tree) {v:V},Rep H t v->Rep H' t v
  | .int i,v,h=>by unfold Rep at h |-; exact h
  | .lst ts,v,h=>by
    unfold Rep at h |-
    obtain ⟨a,xs,e,ha,hl,r⟩:=h
    exact ⟨a,xs,e,s _ _ ha,hl,gJ.same s ts r⟩
  | .tup ts,v,h=>by
    unfold Rep at h |-
    obtain ⟨a,xs,e,ha,hl,r⟩:=h
    exact ⟨a,xs,e,s _ _ ha,hl,gJ.same s ts r⟩
theorem gJ.same {H H':Hp} (s:ah H H'):∀ (ts:List Tree) {xs:List V},gJ H ts xs->gJ H' ts xs
  | [],xs,h=>by unfold gJ at h |-; exact h
  | t::ts,xs,h=>by
    unfold gJ at h |-
    obtain ⟨v,vs,e,r,rs⟩:=h
    exact ⟨v,vs,e,Rep.same s t r,gJ.same s ts rs⟩
end
noncomputable abbrev Pair:=Int × Int
def cR (H:Hp) (xs:List V) (ps:List Pair):Prop:=Paired (fun (v:V) (p:Pair)=>∃ t,v = .ref t/\H t=some (.tup [.int p.1,.int p.2])) xs ps
theorem cR.same {H H':Hp} {xs:List V} {ps:List Pair} (h:cR H xs ps) (s:ah H H'):cR H' xs ps:=Paired.mapP h fun v p ⟨t,e,q⟩=>⟨t,e,s _ _ q⟩
theorem cR.length {H:Hp} {xs:List V} {ps:List Pair} (h:cR H xs ps):xs.length=ps.length:=Paired.length h
theorem cR.get {H:Hp}:∀ {xs:List V} {ps:List Pair},cR H xs ps->∀ {i:Nat} {x:V},xs[i]? = some x->∃ p t,ps[i]? = some p/\x = .ref t/\H t=some (.tup [.int p.1,.int p.2])
  | _,_,.nil,i,x,e=>by cases e
  | _,_,.cons r t,0,x,e=>by
    obtain ⟨a,e1,e2⟩:=r
    rw [List.getElem?_cons_zero] at e
    cases e
    exact ⟨_,a,rfl,e1,e2⟩
  | _,_,.cons r t,i+1,x,e=>by
    obtain ⟨p,a,h1,h2,h3⟩:=cR.get t (i:=i) (by simpa using e)
    exact ⟨p,a,by simpa using h1,h2,h3⟩
theorem cR.snoc {H:Hp}:∀ {xs:List V} {ps:List Pair} {t:Addr} {p:Pair},cR H xs ps->H t=some (.tup [.int p.1,.int p.2])->cR H (xs++[.ref t]) (ps++[p])
  | _,_,t,p,.nil,h=>.cons ⟨t,rfl,h⟩ .nil
  | _,_,t,p,.cons r s,h=>.cons r (cR.snoc s h)
theorem cR.updL {H:Hp} {xs:List V} {ps:List Pair} {a:Addr} {l:List V} (h:cR H xs ps) (ha:H a=some (.lst l)) (o:HO):cR (upd H a o) xs ps :=
  Paired.mapP h fun v p ⟨t,e,q⟩=>⟨t,e,(upd_ne (De q ha (by intro z; cases z))).trans q⟩
theorem cR.updN {H:Hp} {xs:List V} {ps:List Pair} {a:Addr} (h:cR H xs ps) (ha:H a=none) (o:HO):cR (upd H a o) xs ps :=
  Paired.mapP h fun v p ⟨t,e,q⟩=>⟨t,e,(upd_ne (ao q ha)).trans q⟩
def bz (H:Hp) (a:Addr) (ps:List Pair):Prop:=∃ xs,H a=some (.lst xs)/\cR H xs ps
theorem bz.same {H H':Hp} {a:Addr} {ps:List Pair} (h:bz H a ps) (s:ah H H'):bz H' a ps:=let ⟨xs,e,r⟩:=h; ⟨xs,s _ _ e,r.same s⟩
theorem bz.updL {H:Hp} {a b:Addr} {ps:List Pair} {l:List V} (h:bz H a ps) (hb:H b=some (.lst l)) (ne:a≠b) (o:HO):bz (upd H b o) a ps :=
  let ⟨xs,e,r⟩:=h
  ⟨xs,(upd_ne ne).trans e,r.updL hb o⟩
theorem bz.len {H:Hp} {a:Addr} {ps:List Pair} (h:bz H a ps):∃ xs,H a=some (.lst xs)/\xs.length=ps.length/\cR H xs ps:=let ⟨xs,e,r⟩:=h; ⟨xs,e,r.length,r⟩
end Ck
namespace L2
open PySem
theorem e6 {K:PySem.W.Frag}:PySem.W.kitOne K (.type "tuple") (.type "tuple")=some true:=by rfl
end L2
set_option Elab.async false
set_option linter.all false
set_option maxRecDepth 100000
set_option maxHeartbeats 4000000
namespace Ck
open PySem L2
theorem C5 {c A B:Prop} [Decidable c] (hc:¬ c) (h:A):if (!decide c)=true then A else B:=by
  rw [decide_eq_false hc]
  exact dP h
end Ck
set_option Elab.async false
set_option linter.all false
set_option maxRecDepth 100000
set_option maxHeartbeats 4000000
namespace L2
open PySem PySem.Spec PyProof.Rows PySem.SeqAt
section
variable {X:Cx}
noncomputable def xv (K:PySem.W.Frag):V->List V->Hp->VK->Prop:=fun x vs H Q=>∃ (l:Addr) (ns:List Int) (k:Int),x = .ref l/\vs=[.int k]/\ar K H l (ns.map V.int)/\k∈ns/\Q (.int (ns.idxOf k:Nat)) H
theorem yw:ou X "list.index" (xv X.K):=by
  intro pins s σ H x vs v us Q I rx rv h
  obtain ⟨l,ns,k,rfl,rfl,hl,hk,q⟩:=h
  cases rx
  obtain ⟨u,rfl,t,rfl⟩:=rv.one
  obtain ⟨its,r,pl,hz⟩:=I.list hl
  have hi:IntsAre its ns:=intsAre_of r
  obtain ⟨⟨cls,dd,data,sl⟩,ho,hc,n,hd⟩:=id pl.isList
  simp only at hc hd
  subst hc hd
  have hlen:=hi.length
  have hj:ns.idxOf k < ns.length:=List.idxOf_lt_length_iff.mpr hk
  have hb:its.length<=sizeLine:=by first | exact hz | (rw [hlen]; simpa using hz)
  have hb2:sizeLine < 2 ^ 63 - 1:=by decide
  refine call_meets PySem.F.slot_list_index ⟨_,ho,rfl⟩ PySem.F.entry_list_index (PySem.F.args_list_index_2 _ _)
    (list_indexAt l its.toArray n dd sl (.int k t) (isInt k) (ns.idxOf k) (by simpa [hlen] using hj) (by omega) ?_ ?_) ⟨ho,fun y hy=>(eq_isInt k t hi y (by simpa using hy)).at _ _,?_⟩
  · show isInt k its[ns.idxOf k]=true
    rw [isInt_at k hi _ (by omega) hj]
    simpa using List.getElem_idxOf hj
  · intro j hjs hlt
    show isInt k its[j]=false
    rw [isInt_at k hi j (by simpa using hjs) (by omega)]
    exact ne_of_lt_idxOf hlt _
  · exact ⟨.int _,H,I.tok _,⟨_,rfl⟩,q⟩
theorem jO {K:PySem.W.Frag} {es:List Expr} {k:Nat} {t:oI} {n:Nat} {pos:Pos} (hK:X.K=K) (hc:X.calm=true) (h:wZ X es t)
    (hn:(assignEach es X.env).length=n:=by rfl) (hst:(assignEach es X.env).findIdx? (·.1)=none:=by rfl):PG X (.Tuple es k pos) (Bq K n t):=by
  subst hK
  exact iY hc h hn hst
theorem eY {K:PySem.W.Frag} {a:Addr} {xs:List V} {g:TG} {tt:TT} {te:TE} {σ0:St} {H:Hp} {D:Addr} {Q:VK} (Pv:Nat->List V->Hp->Prop) (hz:xs.length<=sizeLine)
    (h0:Pv 0 [] (upd H D (.lst []))) (hl:∀ i ys H',i<=xs.length->Pv i ys H'->ar K H' a xs/\ys.length<=i)
    (hs:∀ (i:Nat) (x:V) (ys:List V) (H':Hp) (R:VK) (R0:Hp->Prop),xs[i]? = some x->Pv i ys H'->(∀ v H3,H3 D=some (.lst ys)->Pv (i+1) (ys++[v]) (upd H3 D (.lst (ys++[v])))->R v H3)->(∀ H3,Pv (i+1) ys H3->R0 H3) ->
      g x σ0 H' fun σ2 H2=>Ext σ0 σ2/\tt σ2 H2 fun b H3=>if b=true then te σ2 H3 R else R0 H3)
    (hq:∀ ys H',Pv xs.length ys H'->Q (.ref D) H') :
    mT (qW K a) g tt te σ0 D Q H:=by
  refine ⟨fun i m ys H'=>m=xs.length - i/\i<=xs.length/\Pv i ys H',⟨xs.length,by simp,Nat.zero_le _,h0⟩,?_⟩
  rintro i m ys H' ⟨rfl,hi,p⟩
  obtain ⟨sq,ly⟩:=hl i ys H' hi p
  by_cases hlt:i < xs.length
  · refine .inr ⟨⟨xs,xs[i],sq,by simp [hlt]⟩,fun x H'' y=>?_⟩
    obtain ⟨e,y⟩:=y
    subst e
    have ex:=y xs sq
    refine hs i x ys _ _ _ ex p (fun v H3 hD p'=>⟨hD,by omega,xs.length - (i+1),by omega,rfl,hlt,p'⟩) fun H3 p'=>⟨xs.length - (i+1),by omega,rfl,hlt,p'⟩
  · have e:i=xs.length:=by omega
    subst e
    exact .inl ⟨⟨xs,sq,Nat.le_refl _⟩,hq ys H' p⟩
end
end L2
namespace Ck
open PySem L2
end Ck
namespace Ck
open PySem L2
structure eG (fs:List (Str × V)) (w:Str) (l:Int):Prop where
  word:fs.lookup ("word" : Str)=some (.str w)
  least:fs.lookup ("least" : Str)=some (.int l)
  no:∀ m:Str,m≠("word" : Str)->m≠("least" : Str)->fs.lookup m=none
theorem iu (w:Str) (l:Int):eG (d9 ("least" : Str) (.int l) (d9 ("word" : Str) (.str w) [])) w l :=
  ⟨by rw [dB,if_neg (by decide),dB,if_pos rfl],by rw [dB,if_pos rfl],fun m a b=>by rw [dB,if_neg b,dB,if_neg a]; rfl⟩
noncomputable def up (d:Int) (p:Pair):Pair:=(p.1+d,p.2+d)
end Ck
namespace Ck
open PySem L2
theorem oH (ns:List Int):(ns.map V.int).all gr=true:=by
  rw [List.all_eq_true]
  intro x hx
  obtain ⟨n,_,rfl⟩:=List.mem_map.mp hx
  rfl
end Ck
namespace Ck
open PySem L2
end Ck
set_option Elab.async false
set_option linter.all false
set_option maxRecDepth 100000
set_option maxHeartbeats 4000000
namespace Ck
open PySem L2
inductive St:List Int->Int->Prop
  | nil:St [] 0
  | snoc {rs:List Int} {a n:Int}:St rs a->a<=n->n<=(rs.length:Int)->St (rs++[n]) n
noncomputable def CN (ps qs:List Int):List Int:=[0]++ps++qs.map (·+((ps.length:Int)+1))
end Ck
set_option Elab.async false
set_option linter.all false
set_option maxRecDepth 100000
set_option maxHeartbeats 4000000
namespace Ck
open PySem L2
theorem nK:∀ (a:List Nat) (j k:Nat) (b:List Nat),clo j a=true->clo (k+j) (a++b)=clo k b
  | [],j,k,b,h=>by
    rw [ip] at h
    have:j=0:=by simpa using h
    subst this
    rfl
  | c::a,j,k,b,h=>by
    by_cases h1:c=40
    · subst h1
      rw [eR] at h
      rw [List.cons_append,eR]
      exact nK a (j+1) k b h
    · by_cases h2:c=41
      · subst h2
        cases j with
        | zero=>rw [gR] at h; cases h
        | succ j =>
          rw [dU] at h
          rw [List.cons_append]
          show clo (k+j+1) (41::_)=_
          rw [dU]
          exact nK a j k b h
      · rw [fY h1 h2] at h; cases h
theorem yi {a b:List Nat} (ha:clo 0 a=true) (hb:clo 0 b=true):clo 0 (40::(a++41::b))=true:=by
  rw [eR,nK a 0 1 _ ha,dU]
  exact hb
theorem nC:∀ (t:List Nat) (d:Nat),clo (d+1) t=true->∃ a b,t=a++41::b/\clo d a=true/\clo 0 b=true
  | [],d,h=>by rw [ip] at h; cases h
  | c::t,d,h=>by
    by_cases h1:c=40
    · subst h1
      rw [eR] at h
      obtain ⟨a,b,e,ha,hb⟩:=nC t (d+1) h
      exact ⟨40::a,b,by rw [e]; rfl,by rw [eR]; exact ha,hb⟩
    · by_cases h2:c=41
      · subst h2
        rw [dU] at h
        cases d with
        | zero=>exact ⟨[],t,rfl,by rw [ip]; rfl,h⟩
        | succ d =>
          obtain ⟨a,b,e,ha,hb⟩:=nC t d h
          exact ⟨41::a,b,by rw [e]; rfl,by rw [dU]; exact ha,hb⟩
      · rw [fY h1 h2] at h; cases h
theorem vZ {t:List Nat} (h:clo 0 t=true) (hne:t≠[]):∃ a b,t=40::(a++41::b)/\clo 0 a=true/\clo 0 b=true:=by
  cases t with
  | nil=>exact absurd rfl hne
  | cons c t =>
    by_cases h1:c=40
    · subst h1
      rw [eR] at h
      obtain ⟨a,b,e,ha,hb⟩:=nC t 0 h
      exact ⟨a,b,by rw [e],ha,hb⟩
    · by_cases h2:c=41
      · subst h2; rw [gR] at h; cases h
      · rw [fY h1 h2] at h; cases h
theorem yF {t:List Nat} (h:clo 0 t=true):t.length=2*t.count 40:=by
  obtain ⟨u,g⟩:=g0 t 0 h
  have l:=g.length
  have c:t.count 40=u:=by
    obtain ⟨h',u',bg,_,e⟩:=mz (n:=u) (by simpa using g) t.length (Nat.le_refl _)
    have gd:Good u' (u'+h') (t.drop t.length):=by assumption
    rw [List.drop_length] at gd
    have:=gd.length
    rw [List.take_length] at e
    simp at this
    omega
  omega
end Ck
namespace Ck
open PySem L2
theorem Cq (c:Nat):(if decide (V.str ⟨#[c]⟩=V.str (Str.ofString ")"))=true then (1:Int) else 0)=if c=41 then 1 else 0:=by
  rw [pD]
  by_cases h:c=41<;>simp [h]
end Ck
set_option Elab.async false
set_option linter.all false
set_option maxRecDepth 100000
set_option maxHeartbeats 4000000
namespace L2
open PySem PySem.Spec PyProof.Rows
theorem eB:bootBuiltins "sorted" = some (.builtin "sorted"):=by decide +kernel
theorem vX:bootBuiltins "all" = some (.builtin "all"):=by decide +kernel
theorem iB:∀ {us:List Value} {ns:List Int},IntsAre us ns->Vals (ns.map V.int) us
  | _,_,.nil=>.nil
  | _,_,.cons n t h=>.cons ⟨t,rfl⟩ (iB h)
section
variable {X:Cx}
theorem sE:eN X (.builtin "sorted") (fun xs H Q=>∃ (p:Addr) (ns:List Int),xs=[.ref p]/\ar X.K H p (ns.map V.int)/\ns.length < 64/\∀ (q:Addr) (ms:List Int),H q=none->ms.Perm ns->ms.Pairwise (·<=·)->Q (.ref q) (upd H q (.lst (ms.map V.int)))):=by
  intro pins s σ H xs us Q I r h
  obtain ⟨p,ns,rfl,hl,h64,q⟩:=h
  obtain ⟨u,rfl,ru⟩:=vals1 r
  cases ru
  obtain ⟨its,r',pl,hz⟩:=I.list hl
  have hi:IntsAre its ns:=intsAre_of r'
  refine sorted_ints pl.isList hi (by rw [hi.length]; exact h64) fun out ms ho hp hs=>?_
  obtain ⟨e,he⟩:=sortedAll_at s.heap its out
  have lm:(ms.map V.int).length<=sizeLine:=by rw [List.length_map,hp.length_eq]; exact sz (by omega)
  exact ⟨.ref _,_,I.laid (t':=s.toks) (o:=.lst (ms.map V.int)) (fun b u e=>sortedAll_old e) (Nat.le_succ _) ⟨lm,out.toList,e,iB ho,by simpa [seqObj] using he⟩,rfl,q _ ms (I.hok.fresh (Nat.le_succ _)) hp hs⟩
theorem vf {bs:List Bool}:∀ {us:List Value},Vals (bs.map V.bl) us->us=bs.map Value.bool:=by
  induction bs with
  | nil=>intro us r; rw [List.map_nil] at r; cases r; rfl
  | cons b bs ih =>
    intro us r
    rw [List.map_cons] at r
    cases r with
    | cons h t=>rw [ih t,List.map_cons]; cases (show _=Value.bool b from h); rfl
theorem all_range (bs:List Bool):(List.range bs.length).all (fun i=>bs.getD i false)=bs.all id:=by
  induction bs with
  | nil=>rfl
  | cons b bs ih =>
    rw [List.length_cons,List.range_succ_eq_map,List.all_cons,List.all_map,List.all_cons]
    have:((fun i=>(b::bs).getD i false) ∘ Nat.succ)=fun i=>bs.getD i false:=by funext i; rfl
    rw [this,ih]
    rfl
theorem qF (hc:X.calm=true):eN X (.builtin "all") (fun xs H Q=>∃ (p:Addr) (bs:List Bool),xs=[.ref p]/\ar X.K H p (bs.map V.bl)/\Q (.bl (bs.all id)) H):=by
  intro pins s σ H xs us Q I r h
  obtain ⟨p,bs,rfl,hl,q⟩:=h
  obtain ⟨u,rfl,ru⟩:=vals1 r
  cases ru
  obtain ⟨its,r',pl,hz⟩:=I.list hl
  have ei:=vf r'
  have hlt:p < s.heap.objs.size:=by obtain ⟨_,e,_⟩:=pl.isList; exact Heap.lt_size e
  refine call_all_walk (wpAny_pyIter_list pl.isList ⟨_,_,_,_,_,_,fun i=>bs.getD i false,rfl,Walks.list (A:=X.A.in1) (I.ok.hd hc) _ p (Nat.ne_of_lt hlt) its.toArray,⟨⟨_,Heap.get?_push_size _ rfl,rfl,rfl⟩,pl.isList.push _⟩,?_,fun h' tk hk=>⟨.bl _,H,I.kept (old_kept hk),rfl,?_⟩⟩)
  · intro i v s' Q' E' hP hQ
    have hb:bs[i]? = some (bs.getD i false)/\v = .bool (bs.getD i false):=by
      have hP':its[i]? = some v:=by simpa using hP
      rw [ei,List.getElem?_map] at hP'
      cases hb:bs[i]? with
      | none=>rw [hb] at hP'; cases hP'
      | some b =>
        rw [hb] at hP'
        have e1:bs.getD i false=b:=by rw [List.getD_eq_getElem?_getD,hb]; rfl
        rw [e1]
        exact ⟨rfl,(Option.some.inj hP').symm⟩
    rw [hb.2]
    exact wpAny_truthy_bool hQ
  · have e1:its.toArray.size=bs.length:=by rw [ei]; simp
    rw [e1,all_range]
    exact q
end
end L2
namespace Ck
open PySem L2
end Ck
set_option Elab.async false
set_option linter.all false
set_option maxRecDepth 100000
set_option maxHeartbeats 4000000
namespace L2
open PySem PySem.Spec PyProof.Rows PySem.W
noncomputable def pw {α:Type} (n:Nat) (lt:Nat->Nat->Bool):KasT α->(α->Prop)->Prop
  | .ret a,Q=>Q a
  | .ask i j k,Q=>i < n/\j < n/\pw n lt (k (lt i j)) Q
theorem gB {α β:Type} {n:Nat} {lt:Nat->Nat->Bool} {f:α->KasT β} {Q:β->Prop}:∀ {t:KasT α},pw n lt t (fun a=>pw n lt (f a) Q)->pw n lt (t.bind f) Q
  | .ret _,h=>h
  | .ask _ _ _,h=>⟨h.1,h.2.1,gB h.2.2⟩
theorem fB {α:Type} {n:Nat} {lt:Nat->Nat->Bool} {Q Q':α->Prop} (m:∀ a,Q a->Q' a):∀ {t:KasT α},pw n lt t Q->pw n lt t Q'
  | .ret a,h=>m a h
  | .ask _ _ _,h=>⟨h.1,h.2.1,fB m h.2.2⟩
theorem yT {α:Type} {n:Nat} {lt:Nat->Nat->Bool} {Q:α->Prop} {s:Shared} {cmp:Nat->Nat->(Bool->Shared->Prop)->Shared->Prop}
    (hc:∀ (i j:Nat) (C:Bool->Shared->Prop),i < n->j < n->C (lt i j) s->cmp i j C s):∀ {t:KasT α},pw n lt t Q->t.kasWp cmp (fun a s'=>s'=s/\Q a) s
  | .ret _,h=>⟨rfl,h⟩
  | .ask i j k,h=>hc i j (fun b s'=>(k b).kasWp cmp (fun a s'=>s'=s/\Q a) s') h.1 h.2.1 (yT hc h.2.2)
structure i5 (lt:Nat->Nat->Bool):Prop where
  asym:∀ a b,lt a b=true->lt b a=false
  ntr:∀ a b c,lt b a=false->lt c b=false->lt c a=false
noncomputable abbrev gA (p:Array Nat) (k:Nat):Nat:=p.getD k 0
def dR (n:Nat) (p:Array Nat):Prop:=p.toList.Perm (List.range n)
theorem dR.size {n:Nat} {p:Array Nat} (h:dR n p):p.size=n:=by
  have:=h.length_eq
  rw [List.length_range] at this
  simpa using this
theorem dR.lt {n:Nat} {p:Array Nat} (h:dR n p) (hn:0 < n) (k:Nat):gA p k < n:=by
  unfold gA
  by_cases hk:k < p.size
  · have e:p.getD k 0=p[k]:=by simp [hk]
    rw [e]
    exact List.mem_range.mp (h.mem_iff.mp (Array.getElem_mem_toList hk))
  · have e:p.getD k 0=0:=by simp [hk]
    rw [e]; exact hn
theorem iT {p:Array Nat} {i j:Nat} (hj:j<=p.size) (k:Nat):gA (kas_rev p i j) k=if i<=k/\k < j then gA p (i+j - 1 - k) else gA p k:=by
  unfold gA kas_rev
  rw [Array.getD_eq_getD_getElem?,getElem?_mirror_all hj k]
  split
  · rw [<- Array.getD_eq_getD_getElem?]
  · rw [<- Array.getD_eq_getD_getElem?]
theorem AS {p:Array Nat} {src d:Nat} (hs:src < p.size) (hd:d<=src) (k:Nat):gA (bubble p src d) k=if k=src - d then gA p src else if src - d < k/\k<=src then gA p (k - 1) else gA p k:=by
  unfold gA
  rw [Array.getD_eq_getD_getElem?,getElem?_bubble hs d hd k]
  split
  · simp [hs]
  · split
    · rw [<- Array.getD_eq_getD_getElem?]
    · rw [<- Array.getD_eq_getD_getElem?]
theorem dR.rev {n:Nat} {p:Array Nat} (h:dR n p) (i j:Nat):dR n (kas_rev p i j):=(Array.perm_iff_toList_perm.mp (mirror_perm p i j _)).trans h
theorem dR.bub {n:Nat} {p:Array Nat} (h:dR n p) (i j:Nat):dR n (bubble p i j):=(Array.perm_iff_toList_perm.mp (bubble_perm p i j)).trans h
section
variable {n:Nat} {lt:Nat->Nat->Bool} (O:i5 lt)
def dm (lt:Nat->Nat->Bool) (p:Array Nat) (k:Nat):Prop:=∀ i j,i<=j->j < k->lt (gA p j) (gA p i)=false
def ik (lt:Nat->Nat->Bool) (p:Array Nat) (k:Nat):Prop:=∀ i j,i<=j->j < k->lt (gA p i) (gA p j)=false
def mK (lt:Nat->Nat->Bool) (a b:Nat):Prop:=lt a b=false/\lt b a=false
include O
theorem i5.irr (a:Nat):lt a a=false:=by
  cases h:lt a a with
  | false=>rfl
  | true=>exact h.symm.trans (O.asym a a h)
theorem i5.alk (a:Nat):mK lt a a:=⟨O.irr a,O.irr a⟩
theorem i5.alkT {a b c:Nat} (x:mK lt a b) (y:mK lt b c):mK lt a c:=⟨O.ntr c b a y.1 x.1,O.ntr a b c x.2 y.2⟩
theorem i5.up {a b c:Nat} (x:lt a b=true) (y:lt c b=false):lt a c=true:=by
  cases h:lt a c with
  | true=>rfl
  | false=>exact (x.symm.trans (O.ntr b c a y h)).symm▸rfl
theorem dm.one (p:Array Nat):dm lt p 1:=fun i j h1 h2=>by
  have e:i=j:=by omega
  subst e
  exact O.irr _
theorem ik.one (p:Array Nat):ik lt p 1:=fun i j h1 h2=>by
  have e:i=j:=by omega
  subst e
  exact O.irr _
theorem dm.snoc {p:Array Nat} {m:Nat} (h1:1<=m) (h:dm lt p m) (c:lt (gA p m) (gA p (m - 1))=false):dm lt p (m+1):=fun i j ij jm=>by
  by_cases hj:j < m
  · exact h i j ij hj
  · have e:j=m:=by omega
    subst e
    by_cases hi:i=j
    · subst hi; exact O.irr _
    · exact O.ntr _ _ _ (h i (j - 1) (by omega) (by omega)) c
theorem ik.snoc {p:Array Nat} {m:Nat} (h1:1<=m) (h:ik lt p m) (c:lt (gA p (m - 1)) (gA p m)=false):ik lt p (m+1):=fun i j ij jm=>by
  by_cases hj:j < m
  · exact h i j ij hj
  · have e:j=m:=by omega
    subst e
    by_cases hi:i=j
    · subst hi; exact O.irr _
    · exact O.ntr _ _ _ c (h i (j - 1) (by omega) (by omega))
theorem ik.alk {p p':Array Nat} {m:Nat} (h:ik lt p m) (e:∀ k,k < m->mK lt (gA p' k) (gA p k)):ik lt p' m:=fun i j ij jm =>
  O.ntr _ _ _ (e j jm).2 (O.ntr _ _ _ (h i j ij jm) (e i (by omega)).1)
theorem qG {p:Array Nat} (hp:dR n p) {N:Nat} (hN:N<=n):∀ (f m:Nat),1<=m->m+f=N->dm lt p m->pw n lt (kas_asc p f m) (fun r=>m<=r/\r<=N/\dm lt p r/\(r < N->lt (gA p r) (gA p (r - 1))=true))
  | 0,m,h1,h2,h=>⟨Nat.le_refl _,by omega,h,fun z=>absurd z (by omega)⟩
  | f+1,m,h1,h2,h=>by
    refine ⟨hp.lt (by omega) _,hp.lt (by omega) _,?_⟩
    show pw n lt (if lt (gA p m) (gA p (m - 1))=true then _ else _) _
    cases c:lt (gA p m) (gA p (m - 1)) with
    | true =>
      rw [if_pos rfl]
      exact ⟨Nat.le_refl _,by omega,h,fun _=>c⟩
    | false =>
      rw [if_neg (by decide)]
      exact fB (fun r hr=>⟨by omega,hr.2⟩) (qG hp hN f (m+1) (by omega) (by omega) (h.snoc O h1 c))
theorem jM {N:Nat} (hN:N<=n):∀ (f:Nat) (p:Array Nat) (m q:Nat),dR n p->q+1<=m->m+f=N->ik lt p m->(∀ i,m - 1 - q<=i->i < m->mK lt (gA p i) (gA p (m - 1))) ->
    pw n lt (kas_desc f p m q) (fun r=>dR n r.1/\r.2.2+1<=r.2.1/\r.2.1<=N/\ik lt r.1 r.2.1/\∀ i,r.2.1 - 1 - r.2.2<=i->i < r.2.1->mK lt (gA r.1 i) (gA r.1 (r.2.1 - 1)))
  | 0,p,m,q,hp,hq,h2,h,al=>⟨hp,hq,by show m<=N; omega,h,al⟩
  | f+1,p,m,q,hp,hq,h2,h,al=>by
    have hs:=hp.size
    refine ⟨hp.lt (by omega) _,hp.lt (by omega) _,?_⟩
    show pw n lt (if lt (gA p m) (gA p (m - 1))=true then _ else _) _
    cases c:lt (gA p m) (gA p (m - 1)) with
    | true =>
      rw [if_pos rfl]
      by_cases q0:q > 0
      · rw [if_pos q0]
        have e:∀ k,gA (kas_rev p (m - (q+1)) m) k=if m - (q+1)<=k/\k < m then gA p (m - (q+1)+m - 1 - k) else gA p k:=fun k=>iT (by omega) k
        have ek:∀ k,k < m->mK lt (gA (kas_rev p (m - (q+1)) m) k) (gA p k):=fun k hk=>by
          rw [e k]
          split
          · have z1:=al (m - (q+1)+m - 1 - k) (by omega) (by omega)
            have z2:=al k (by omega) hk
            exact O.alkT z1 ⟨z2.2,z2.1⟩
          · exact O.alk _
        have em:gA (kas_rev p (m - (q+1)) m) m=gA p m:=by rw [e m,if_neg (by omega)]
        refine jM hN f _ (m+1) 0 (hp.rev _ _) (by omega) (by omega) ((h.alk O ek).snoc O (by omega) ?_) (fun i i1 i2=>?_)
        · rw [em]
          have:=(ek (m - 1) (by omega)).1
          exact O.ntr _ _ _ (O.asym _ _ c) this
        · have:i=m:=by omega
          subst this
          exact O.alk _
      · rw [if_neg q0]
        refine jM hN f p (m+1) 0 hp (by omega) (by omega) (h.snoc O (by omega) (O.asym _ _ c)) (fun i i1 i2=>?_)
        have:i=m:=by omega
        subst this
        exact O.alk _
    | false =>
      rw [if_neg (by decide)]
      refine ⟨hp.lt (by omega) _,hp.lt (by omega) _,?_⟩
      show pw n lt (if lt (gA p (m - 1)) (gA p m)=true then _ else _) _
      cases d:lt (gA p (m - 1)) (gA p m) with
      | true =>
        rw [if_pos rfl]
        exact ⟨hp,hq,by show m<=N; omega,h,al⟩
      | false =>
        rw [if_neg (by decide)]
        refine jM hN f p (m+1) (q+1) hp (by omega) (by omega) (h.snoc O (by omega) d) (fun i i1 i2=>?_)
        by_cases hi:i < m
        · exact O.alkT (al i (by omega) hi) ⟨d,c⟩
        · have:i=m:=by omega
          subst this
          exact O.alk _
def Ag (n:Nat) (lt:Nat->Nat->Bool) (N:Nat) (r:Nat × Array Nat):Prop:=dR n r.2/\dm lt r.2 r.1/\1<=r.1/\r.1<=N
theorem qL {N:Nat} (hN:N<=n) {p:Array Nat} {m:Nat} (hp:dR n p) (h1:1<=m) (hm:m<=N) (h:ik lt p m):pw n lt (kas_tail3 m N p) (Ag n lt N):=by
  have hs:=hp.size
  have e:∀ k,k < m->gA (kas_rev p 0 m) k=gA p (m - 1 - k):=fun k hk=>by
    rw [iT (by omega),if_pos (by omega),Nat.zero_add]
  refine gB (fB (fun r hr=>?_) (qG O (hp.rev 0 m) hN (N - m) m h1 (by omega) (fun i j ij jm=>?_)))
  · exact ⟨hp.rev 0 m,hr.2.2.1,by show 1<=r; omega,hr.2.1⟩
  · rw [e i (by omega),e j jm]
    exact h _ _ (by omega) (by omega)
theorem kU {N:Nat} (hN:N<=n) {p:Array Nat} {m:Nat} (hp:dR n p) (h1:1<=m) (hm:m+1<=N) (h:ik lt p m) (c:lt (gA p m) (gA p (m - 1))=true):pw n lt (kas_descPart m N p) (Ag n lt N):=by
  refine gB (fB (fun r hr=>?_) (jM O hN (N - (m+1)) p (m+1) 0 hp (by omega) (by omega) (h.snoc O h1 (O.asym _ _ c)) (fun i i1 i2=>?_)))
  · obtain ⟨p',m',q'⟩:=r
    obtain ⟨ok,hq,hl,fa,al⟩:=hr
    have hs:=ok.size
    dsimp only at hs hq hl fa al |-
    by_cases q0:q' > 0
    · rw [if_pos q0]
      refine qL O hN (ok.rev _ _) (by omega) hl (fa.alk O fun k hk=>?_)
      rw [iT (by omega)]
      split
      · have z1:=al (m' - (q'+1)+m' - 1 - k) (by omega) (by omega)
        have z2:=al k (by omega) hk
        exact O.alkT z1 ⟨z2.2,z2.1⟩
      · exact O.alk _
    · rw [if_neg q0]
      exact qL O hN ok (by omega) hl fa
  · have:i=m:=by omega
    subst this
    exact O.alk _
theorem xY {N:Nat} (hN:N<=n) (hN1:1<=N) {p:Array Nat} (hp:dR n p):pw n lt (kas_count N p) (Ag n lt N):=by
  have hs:=hp.size
  refine gB (fB (fun m hm=>?_) (qG O hp hN (N - 1) 1 (Nat.le_refl _) (by omega) (dm.one O p)))
  obtain ⟨m1,mN,ri,st⟩:=hm
  by_cases e:m=N
  · subst e
    rw [if_pos (by simp)]
    exact ⟨hp,ri,m1,Nat.le_refl _⟩
  · rw [if_neg (by simpa using e)]
    have c:=st (by omega)
    by_cases m2:m > 1
    · rw [if_pos m2]
      refine ⟨hp.lt (by omega) _,hp.lt (by omega) _,?_⟩
      show pw n lt (if lt (gA p 0) (gA p (m - 1))=true then _ else _) _
      cases d:lt (gA p 0) (gA p (m - 1)) with
      | true =>
        rw [if_pos rfl]
        exact ⟨hp,ri,m1,mN⟩
      | false =>
        rw [if_neg (by decide)]
        have al:∀ i,i < m->mK lt (gA p i) (gA p 0):=fun i hi=>⟨ri 0 i (by omega) hi,O.ntr _ _ _ (ri i (m - 1) (by omega) (by omega)) d⟩
        have e:∀ k,k < m->gA (kas_rev p 0 m) k=gA p (m - 1 - k):=fun k hk=>by
          rw [iT (by omega),if_pos (by omega),Nat.zero_add]
        refine kU O hN (hp.rev _ _) m1 (by omega) (fun i j ij jm=>?_) ?_
        · rw [e i (by omega),e j jm]
          have z1:=al (m - 1 - i) (by omega)
          have z2:=al (m - 1 - j) (by omega)
          exact (O.alkT z1 ⟨z2.2,z2.1⟩).1
        · rw [iT (by omega),if_neg (by omega),e (m - 1) (by omega),show m - 1 - (m - 1)=0 by omega]
          exact O.up c d
    · rw [if_neg m2]
      have em:m=1:=by omega
      subst em
      exact kU O hN hp (Nat.le_refl _) (by omega) (ik.one O p) c
theorem lh {p:Array Nat} (hp:dR n p) {k:Nat} (hk:k < n) (h:dm lt p k):∀ (f l r:Nat),l<=r->r<=k->r - l<=f->(∀ i,i < l->lt (gA p k) (gA p i)=false)->(∀ i,r<=i->i < k->lt (gA p k) (gA p i)=true) ->
    pw n lt (kas_place p k f l r) (fun l'=>l'<=k/\(∀ i,i < l'->lt (gA p k) (gA p i)=false)/\∀ i,l'<=i->i < k->lt (gA p k) (gA p i)=true)
  | 0,l,r,h1,h2,h3,a,b=>⟨by omega,a,fun i i1 i2=>b i (by omega) i2⟩
  | f+1,l,r,h1,h2,h3,a,b=>by
    show pw n lt (if l ≥ r then _ else _) _
    by_cases e:l ≥ r
    · rw [if_pos e]
      exact ⟨by omega,a,fun i i1 i2=>b i (by omega) i2⟩
    · rw [if_neg e]
      refine ⟨hp.lt (by omega) _,hp.lt (by omega) _,?_⟩
      show pw n lt (if lt (gA p k) (gA p ((l+r) / 2))=true then _ else _) _
      cases c:lt (gA p k) (gA p ((l+r) / 2)) with
      | true =>
        rw [if_pos rfl]
        exact lh hp hk h f l ((l+r) / 2) (by omega) (by omega) (by omega) a fun i i1 i2=>O.up c (h _ i i1 i2)
      | false =>
        rw [if_neg (by decide)]
        exact lh hp hk h f ((l+r) / 2+1) r (by omega) h2 (by omega) (fun i hi=>O.ntr _ _ _ (h i ((l+r) / 2) (by omega) (by omega)) c) b
theorem vY:∀ (f:Nat) (p:Array Nat) (k:Nat),dR n p->k+f=n->dm lt p k->pw n lt (kas_bin f p k) (fun p'=>dR n p'/\dm lt p' n)
  | 0,p,k,hp,hk,h=>by
    have:k=n:=by omega
    subst this
    exact ⟨hp,h⟩
  | f+1,p,k,hp,hk,h=>by
    have hs:=hp.size
    refine gB (fB (fun l hl=>?_) (lh O hp (by omega) h k 0 k (by omega) (Nat.le_refl _) (by omega) (fun i hi=>absurd hi (by omega)) (fun i i1 i2=>absurd i1 (by omega))))
    obtain ⟨lk,lo,hi⟩:=hl
    refine vY f _ (k+1) (hp.bub _ _) (by omega) (fun i j ij jk=>?_)
    have e:=fun x=>AS (p:=p) (src:=k) (d:=k - l) (by omega) (by omega) x
    rw [e i,e j,show k - (k - l)=l by omega]
    by_cases j1:j=l
    · subst j1
      rw [if_pos rfl]
      by_cases i1:i=j
      · rw [if_pos i1]; exact O.irr _
      · rw [if_neg i1,if_neg (by omega)]
        exact lo i (by omega)
    · rw [if_neg j1]
      by_cases j2:l < j/\j<=k
      · rw [if_pos j2]
        by_cases i1:i=l
        · rw [if_pos i1]
          exact O.asym _ _ (hi (j - 1) (by omega) (by omega))
        · rw [if_neg i1]
          by_cases i2:l < i/\i<=k
          · rw [if_pos i2]
            exact h _ _ (by omega) (by omega)
          · rw [if_neg i2]
            exact h _ _ (by omega) (by omega)
      · rw [if_neg j2,if_neg (by omega),if_neg (by omega)]
        exact h _ _ ij (by omega)
theorem zf (h2:1<=n):pw n lt (kas_sort n) (fun p=>dR n p/\dm lt p n):=by
  refine gB (fB (fun r hr=>?_) (xY O (Nat.le_refl n) h2 (p:=List.toArray (List.range n)) (by unfold dR; simp)))
  obtain ⟨m,p⟩:=r
  obtain ⟨ok,ri,m1,mn⟩:=hr
  dsimp only at ok ri m1 mn |-
  by_cases e:m < n
  · rw [if_pos e,Nat.max_eq_left m1]
    exact vY O (n - m) p m ok (by omega) ri
  · rw [if_neg e]
    have:m=n:=by omega
    subst this
    exact ⟨ok,ri⟩
end
end L2
set_option Elab.async false
set_option linter.all false
set_option maxRecDepth 100000
set_option maxHeartbeats 4000000
namespace L2
open PySem PySem.Spec PyProof.Rows PySem.W Ck
section
variable {prog:Program} {w:World} {A:Around} {E:Value->Shared->Prop} {s:Shared}
def yn (prog:Program) (w:World) (A:Around) (vs:List Value) (lt:Nat->Nat->Bool) (s1:Shared):Prop :=
  ∀ (Q:SortKind->Shared->Prop),(∀ κ,(∀ (i j:Nat) (C:Bool->Shared->Prop),i < vs.length->j < vs.length->C (lt i j) s1->kas_ask prog w A κ vs i j C s1)->Q κ s1)->wpAny (model prog w) A (keyKind' vs.toArray) Q (fun _ _=>False) s1
noncomputable def fN (vs:List Value) (p:Array Nat):List Value:=p.toList.map fun i=>vs.getD i Value.none
theorem wK (vs:List Value):fN vs (List.toArray (List.range vs.length))=vs:=by
  unfold fN
  refine List.ext_getElem (by simp) fun i h1 h2=>?_
  simp [h2]
theorem zN (vs:List Value):(vs.toArray.zip vs.toArray).map (·.2)=vs.toArray:=by
  refine Array.ext (by simp) fun i h1 h2=>?_
  simp
theorem qf {a:Addr} {vs:List Value} {n:Nat} {P:PySem.Fin->Shared->Prop} {lt:Nat->Nat->Bool} (O:i5 lt) (ho:s.heap.get? a=some (seqObj "list" vs.toArray n)) (h64:vs.length < 64)
    (hk:∀ h6:Heap,(∀ b o,b≠a->s.heap.get? b=some o->h6.get? b=some o)->2<=vs.length->yn prog w A vs lt { s with heap:=h6 })
    (fin:∀ p:Array Nat,dR vs.length p->dm lt p vs.length->P (.done (.ret .none)) { s with heap:=sortedHeap s.heap a vs (fN vs p).toArray }):wpAny (model prog w) A (Builtin.«list.sort» ⟨[.ref a],[]⟩) P E s:=by
  have ha:a < s.heap.objs.size:=Heap.lt_size ho
  have hz:vs.length<=sizeLine:=by rw [sizeLine_eq]; omega
  obtain ⟨e1,ho1⟩:∃ e,(s.heap.update a (Obj.mapSeq fun _=>(#[]:Array Value))).get? a=some (seqObj "list" #[] e):=⟨_,get?_update_seq ho _⟩
  have keep:∀ b o,(s.heap.update a (Obj.mapSeq fun _=>(#[]:Array Value))).get? b=some o->(((s.heap.update a (Obj.mapSeq fun _=>(#[]:Array Value))).push (seqObj "tuple" vs.toArray 0)).push (seqObj "list" #[] 0)).get? b=some o:=fun b o e=>Heap.get?_push_of_some _ (Heap.get?_push_of_some _ e)
  have old:∀ b o,b≠a->s.heap.get? b=some o->(((s.heap.update a (Obj.mapSeq fun _=>(#[]:Array Value))).push (seqObj "tuple" vs.toArray 0)).push (seqObj "list" #[] 0)).get? b=some o:=fun b o hb e=>keep b o (by rw [Heap.get?_update_ne _ _ _ _ hb]; exact e)
  have ho6:=keep _ _ ho1
  rw [list_sort_plain]
  refine wpAny_bind (listItems_at ho rfl (wpAny_bind (listUpdate_at ho rfl (wpAny_bind (seqEpoch_at ho1 rfl (wpAny_bind (wpAny_newTuple (wpAny_bind (wpAny_newList (wpAny_holding ?_) (Nat.zero_le _))) hz)))) (by rw [List.size_toArray]; exact hz) (Nat.zero_le _))))
  show wpAny (model prog w) A _ P E { s with heap:=((s.heap.update a (Obj.mapSeq fun _=>(#[]:Array Value))).push (seqObj "tuple" vs.toArray 0)).push (seqObj "list" #[] 0) }
  dsimp only
  by_cases h2:vs.toArray.size < 2
  · rw [if_pos h2,if_pos h2]
    refine wpAny_bind (wpAny_pure ?_)
    rw [StateT.run_pure]
    refine wpAny_bind (wpAny_pure ?_)
    dsimp only
    have ez:(arrOf (SortSt.mk' general' (vs.toArray.zip vs.toArray) #[] 7 none)).map (·.2)=vs.toArray:=zN vs
    rw [ez]
    refine wpAny_bind (seqEpoch_at ho6 rfl (wpAny_bind (listUpdate_at ho6 rfl ?_ (Nat.zero_le _) (by rw [List.size_toArray]; omega))))
    simp only [bne_self_eq_false,Bool.false_eq_true,if_false]
    have f:=fin (List.toArray (List.range vs.length)) (by unfold dR; simp) (fun i j ij jl=>by
      rw [List.size_toArray] at h2
      have e:i=j:=by omega
      subst e
      exact O.irr _)
    rw [wK] at f
    exact wpAny_pure f
  · rw [if_neg h2,if_neg h2]
    rw [List.size_toArray] at h2
    refine wpAny_bind (wpAny_mono (hk _ old (by omega) _ fun κ ask=>?_) (fun _ _ q=>q) fun _ _ x=>x.elim)
    refine wpAny_bind (wpAny_mono (kat_run (ks:=vs) (Q:=fun st' s'=>∃ p:Array Nat,p.size=vs.length/\arrOf st'=p.map (kas_item (vs.toArray.zip vs.toArray))/\failedOf st'=none/\s'=_/\dR vs.length p/\dm lt p vs.length) rfl (by omega) h64
      (fun p' st' s' a1 a2 a3 a4=>⟨p',a1,a2,a3,a4⟩) (yT ask (zf O (by omega)))) ?_ fun _ _ e=>e)
    rintro ⟨⟨⟩,st'⟩ s' ⟨p,hp,har,hf,rfl,ok,ri⟩
    dsimp only
    rw [kat_snds rfl har]
    refine wpAny_bind (seqEpoch_at ho6 rfl (wpAny_bind (listUpdate_at ho6 rfl ?_ (Nat.zero_le _) (by rw [List.size_toArray,List.length_map,Array.length_toList,hp]; omega))))
    rw [hf]
    simp only [bne_self_eq_false,Bool.false_eq_true,if_false]
    exact wpAny_pure (fin p ok ri)
theorem uK {l:Addr} {vs:List Value} {Q:Value->Shared->Prop} {lt:Nat->Nat->Bool} (O:i5 lt) (hl:s.heap.IsList l vs.toArray) (h64:vs.length < 64)
    (hk:∀ h6:Heap,(∀ b o,s.heap.get? b=some o->h6.get? b=some o)->2<=vs.length->yn prog w A.in1.in1 vs lt { s with heap:=h6 })
    (fin:∀ p:Array Nat,dR vs.length p->dm lt p vs.length->Q (.ref (s.heap.objs.size+1)) { s with heap:=sortedAll s.heap vs (fN vs p).toArray }):wpAny (model prog w) A (call (.builtin "sorted") [.ref l]) Q E s:=by
  have hz:vs.length<=sizeLine:=by rw [sizeLine_eq]; omega
  have hsz:((s.heap.push (seqObj "list" #[] 0)).update s.heap.objs.size (Obj.mapSeq (·++vs.toArray))).objs.size=s.heap.objs.size+1:=by rw [Heap.size_update,size_push']
  have hoL:(((s.heap.push (seqObj "list" #[] 0)).update s.heap.objs.size (Obj.mapSeq (·++vs.toArray))).push (seqObj "list" vs.toArray 0)).get? (s.heap.objs.size+1)=some (seqObj "list" vs.toArray 0):=by rw [<- hsz]; exact Heap.get?_push_size _ rfl
  have keep:∀ b o,s.heap.get? b=some o->(((s.heap.push (seqObj "list" #[] 0)).update s.heap.objs.size (Obj.mapSeq (·++vs.toArray))).push (seqObj "list" vs.toArray 0)).get? b=some o:=fun b o q=>by
    have hlt:b < s.heap.objs.size:=Heap.lt_size q
    refine Heap.get?_push_of_some _ ?_
    rw [Heap.get?_update_ne _ _ _ _ (Nat.ne_of_lt hlt)]
    exact Heap.get?_push_of_some _ q
  refine Calls.call_function_entry kind_sorted plain_sorted entry_sorted (args_sorted1 _) ?_
  unfold Builtin.«sorted»
  refine wpAny_bind (m:=checkCount "sorted" 1 1 _) (wpAny_pure (wpAny_bind (collect_list hl (wpAny_bind (wpAny_newList ?_ hz)) hz)))
  show wpAny _ _ _ _ _ { s with heap:=((s.heap.push (seqObj "list" #[] 0)).update s.heap.objs.size (Obj.mapSeq (·++vs.toArray))).push (seqObj "list" vs.toArray 0) }
  rw [hsz]
  refine wpAny_bind (wpAny_holding (wpAny_call_entry slot_list_sort ⟨_,hoL,rfl⟩ entry_list_sort (qf (s:={ s with heap:=((s.heap.push (seqObj "list" #[] 0)).update s.heap.objs.size (Obj.mapSeq (·++vs.toArray))).push (seqObj "list" vs.toArray 0) }) O hoL h64 (fun h6 old=>hk h6 fun b o q=>old b o (Nat.ne_of_lt (Nat.lt_succ_of_lt (Heap.lt_size q))) (keep b o q)) fun p ok ri=>⟨_,rfl,?_⟩) (args_list_sort _)))
  exact wpAny_pure ⟨_,rfl,fin p ok ri⟩
noncomputable def pT (p q:Pair):Bool:=decide (p.1 < q.1) || (decide (p.1=q.1)&&decide (p.2 < q.2))
def cg (p q:Pair):Prop:=p.1 < q.1\/(p.1=q.1/\p.2<=q.2)
theorem jg {p q:Pair}:pT q p=false↔cg p q:=by
  unfold pT cg
  simp only [Bool.or_eq_false_iff,Bool.and_eq_false_iff,decide_eq_false_iff_not]
  omega
theorem zq {p q:Pair}:pT p q=true↔¬ cg q p:=by
  rw [<- jg]
  simp
theorem Aw (ps:List Pair):i5 fun i j=>pT (ps.getD i (0,0)) (ps.getD j (0,0)) where
  asym a b h:=by
    rw [zq] at h
    rw [jg]
    unfold cg at h |-
    omega
  ntr a b c h1 h2:=by
    rw [jg] at h1 h2 |-
    unfold cg at h1 h2 |-
    omega
def hZ (h:Heap) (vs:List Value) (ps:List Pair):Prop:=Paired (fun (v:Value) (p:Pair)=>∃ a t u,v = .ref a/\IsTup h a #[.int p.1 t,.int p.2 u]) vs ps
theorem hZ.get {h:Heap}:∀ {vs:List Value} {ps:List Pair},hZ h vs ps->∀ {i:Nat},i < vs.length->∃ a t u,vs.getD i Value.none = .ref a/\IsTup h a #[.int (ps.getD i (0,0)).1 t,.int (ps.getD i (0,0)).2 u]
  | _,_,.nil,i,e=>absurd e (by simp)
  | _,_,.cons r t,0,e=>r
  | _,_,.cons r t,i+1,e=>by
    have:=hZ.get t (i:=i) (by simpa using e)
    simpa using this
theorem hZ.tups {h:Heap}:∀ {vs:List Value} {ps:List Pair},hZ h vs ps->∃ fs:List Value,KatTups h vs fs/\fs.length=vs.length/\∀ v∈fs,∃ i t,v = .int i t
  | _,_,.nil=>⟨[],.nil,rfl,fun v hv=>by cases hv⟩
  | _,_,.cons (b:=p) r t=>by
    obtain ⟨fs,k,l,al⟩:=hZ.tups t
    obtain ⟨a,t',u,rfl,o,ho,hc,n,hd⟩:=r
    refine ⟨.int p.1 t'::fs,.cons ho hc hd rfl k,by simp [l],fun v hv=>?_⟩
    rcases List.mem_cons.mp hv with rfl | hv
    · exact ⟨_,_,rfl⟩
    · exact al v hv
theorem yW {vs:List Value} {ps:List Pair} {s1:Shared} (r:hZ s1.heap vs ps) (h2:2<=vs.length):yn prog w A vs (fun i j=>pT (ps.getD i (0,0)) (ps.getD j (0,0))) s1:=by
  intro Q q
  obtain ⟨fs,k,l,al⟩:=r.tups
  refine kat_kind (T:=.type "int") k (by omega) (fun v hv=>?_) (by decide) (q _ fun i j C hi hj hc=>?_)
  · obtain ⟨i,t,rfl⟩:=al v hv
    exact Looks.of_pure rfl
  · obtain ⟨a,t,u,e1,o1,g1,c1,n1,d1⟩:=r.get hi
    obtain ⟨b,t',u',e2,o2,g2,c2,n2,d2⟩:=r.get hj
    unfold kas_ask
    rw [e1,e2]
    have hc:C (pT (ps.getD i (0,0)) (ps.getD j (0,0))) s1:=hc
    generalize ps.getD i (0,0)=p at hc d1
    generalize ps.getD j (0,0)=q' at hc d2
    obtain ⟨x1,y1⟩:=p
    obtain ⟨x2,y2⟩:=q'
    unfold pT at hc
    dsimp only at hc d1 d2
    refine kat_lt g1 d1 g2 d2 (kat_cons (wpAny_eqBool_int ?_))
    by_cases ex:x1=x2
    · subst ex
      rw [show (x1 == x1)=true from by simp]
      refine kat_yes (kat_cons (wpAny_eqBool_int ?_))
      by_cases ey:y1=y2
      · subst ey
        rw [show (y1 == y1)=true from by simp]
        refine kat_yes (kat_nil ?_)
        have e:(decide (x1 < x1) || decide (x1=x1)&&decide (y1 < y1))=false:=by simp
        rw [e] at hc
        exact hc
      · rw [show (y1 == y2)=false from by simpa using ey]
        refine kat_no (kat_one _ _ (wpAny_lt_int ?_))
        have e:(decide (x1 < x1) || decide (x1=x1)&&decide (y1 < y2))=decide (y1 < y2):=by simp
        rw [e] at hc
        exact hc
    · rw [show (x1 == x2)=false from by simpa using ex]
      refine kat_no (oneLt_int ?_)
      have e:(decide (x1 < x2) || decide (x1=x2)&&decide (y1 < y2))=decide (x1 < x2):=by simp [ex]
      rw [e] at hc
      exact hc
end
section
variable {X:Cx}
theorem v3 {pins:List (Addr × Obj)} {σ:St} {H:Hp} {s:Shared} (I:Inv X pins σ H s):∀ {us:List V} {ps:List Pair} {vs:List Value},cR H us ps->Vals us vs->hZ s.heap vs ps
  | _,_,_,.nil,.nil=>.nil
  | _,_,_,.cons r t,.cons rv tv=>by
    obtain ⟨a,rfl,ha⟩:=r
    cases rv
    obtain ⟨its,r',tu,_⟩:=I.tuple (a9.of ha)
    refine .cons ⟨a,?_⟩ (v3 I t tv)
    cases r' with
    | cons x1 r2 =>
      cases r2 with
      | cons x2 r3 =>
        cases r3
        obtain ⟨t1,rfl⟩:=x1
        obtain ⟨t2,rfl⟩:=x2
        exact ⟨t1,t2,rfl,tu⟩
theorem hZ.mono {h h':Heap} (k:∀ b o,h.get? b=some o->h'.get? b=some o):∀ {vs:List Value} {ps:List Pair},hZ h vs ps->hZ h' vs ps
  | _,_,.nil=>.nil
  | _,_,.cons r t=>by
    obtain ⟨a,t1,t2,e,o,ho,hc,n,hd⟩:=r
    exact .cons ⟨a,t1,t2,e,o,k _ _ ho,hc,n,hd⟩ (hZ.mono k t)
theorem e8 {α β:Type} {R:α->β->Prop} {as:List α} {bs:List β} (h:Paired R as bs) (da:α) (db:β):∀ is:List Nat,(∀ i∈is,i < as.length)->Paired R (is.map fun i=>as.getD i da) (is.map fun i=>bs.getD i db)
  | [],_=>.nil
  | i::is,hi=>by
    refine .cons ?_ (e8 h da db is fun j hj=>hi j (List.mem_cons_of_mem _ hj))
    have hl:=hi i (List.mem_cons_self ..)
    have go:∀ {as:List α} {bs:List β},Paired R as bs->∀ i,i < as.length->R (as.getD i da) (bs.getD i db):=by
      intro as bs h
      induction h with
      | nil=>intro i hi; simp at hi
      | cons r t ih =>
        intro i hi
        cases i with
        | zero=>simpa using r
        | succ i=>simpa using ih i (by simpa using hi)
    exact go h i hl
theorem oy {α:Type} (d:α) (l:List α) {is:List Nat} (h:is.Perm (List.range l.length)):(is.map fun i=>l.getD i d).Perm l:=by
  refine (h.map _).trans ?_
  have e:(List.range l.length).map (fun i=>l.getD i d)=l:=List.ext_getElem (by simp) fun i h1 h2=>by simp [h2]
  rw [e]
theorem eF:eN X (.builtin "sorted") (fun xs H Q=>∃ (p:Addr) (ps:List Pair),xs=[.ref p]/\bz H p ps/\ps.length < 64/\∀ (q:Addr) (qs:List Pair) (H':Hp),ah H H'->H q=none->bz H' q qs->qs.Perm ps->qs.Pairwise cg->Q (.ref q) H'):=by
  intro pins s σ H xs us Q I r h
  obtain ⟨p,ps,rfl,⟨ws,hl,pr⟩,h64,q⟩:=h
  obtain ⟨u,rfl,ru⟩:=vals1 r
  cases ru
  obtain ⟨its,r',pl,hz⟩:=I.list (ar.of hl)
  have lw:=pr.length
  have li:ws.length=its.length:=r'.length
  have pv:=v3 I pr r'
  refine uK (Aw ps) pl.isList (by omega) (fun h6 old h2=>yW (s1:={ s with heap:=h6 }) (pv.mono old) h2) fun g ok ri=>?_
  obtain ⟨e,he⟩:=sortedAll_at s.heap its (fN its g).toArray
  have hb:∀ i∈g.toList,i < its.length:=fun i hi=>List.mem_range.mp (ok.mem_iff.mp hi)
  have lg:g.toList.length=its.length:=by rw [ok.length_eq,List.length_range]
  have hz2:(g.toList.map fun i=>ws.getD i V.non).length<=sizeLine:=by rw [List.length_map,lg]; exact sz (by omega)
  have vs2:Vals (g.toList.map fun i=>ws.getD i V.non) (fN its g):=e8 r' V.non Value.none g.toList (fun i hi=>by rw [li]; exact hb i hi)
  have pr2:cR H (g.toList.map fun i=>ws.getD i V.non) (g.toList.map fun i=>ps.getD i (0,0)):=e8 pr V.non (0,0) g.toList (fun i hi=>by rw [li]; exact hb i hi)
  have fr:H (s.heap.objs.size+1)=none:=I.hok.fresh (Nat.le_succ _)
  refine ⟨.ref _,_,I.laid (t':=s.toks) (o:=.lst (g.toList.map fun i=>ws.getD i V.non)) (fun b u e=>sortedAll_old e) (Nat.le_succ _) ⟨hz2,fN its g,e,vs2,by simpa [seqObj] using he⟩,rfl,?_⟩
  refine q _ _ _ (ah.new (ah.refl H) fr _) fr ⟨_,upd_same,pr2.updN fr _⟩ (oy (0,0) ps (by rw [<- lw,li]; exact ok)) ?_
  rw [List.pairwise_map]
  have gs:g.size=its.length:=by rw [<- lg]; simp
  refine List.pairwise_iff_getElem.mpr fun i j hi hj hij=>?_
  have:=ri i j (by omega) (by rw [<- gs]; simpa using hj)
  rw [jg] at this
  unfold gA at this
  simpa [show i < g.size by simpa using hi,show j < g.size by simpa using hj] using this
end
end L2
set_option Elab.async false
set_option linter.all false
set_option maxRecDepth 100000
set_option maxHeartbeats 4000000
namespace L2
open PySem PySem.Spec PyProof.Rows PySem.W
section
variable {prog:Program} {w:World} {A:Around} {E:Value->Shared->Prop} {s:Shared} {R:Result->Shared->Prop} {d:Value} {it:Addr} {fp wr:List Addr} {n:Nat} {P:Nat->Value->Prop} {St:Nat->Heap->Prop}
end
section
variable {X:Cx} {e:Expr} {es:List Expr} {kws:List Keyword} {p pos:Pos} {t tk:TA} {x:Str} {id:String} {ks:List Str} {r:List V->List V->Hp->VK->Prop}
end
end L2
set_option Elab.async false
set_option linter.all false
set_option maxRecDepth 100000
set_option maxHeartbeats 4000000
namespace L2
open PySem PySem.Spec PyProof.Rows
section
variable {X:Cx}
end
theorem cT.two {K:PySem.W.Frag} {H:Hp} {n:Nat} {a b:Addr} {x1 y1 x2 y2:Int} (ne:a≠b) (ha:H a=some (.tup [.int x1,.int y1])) (hb:H b=some (.tup [.int x2,.int y2])):cT K H (n+1) (.ref a) (.ref b) (decide (x1=x2)&&decide (y1=y2)):=by
  have h:=cT.tup (n:=n) (e:=fun j=>if j=0 then decide (x1=x2) else decide (y1=y2)) ne (a9.of (K:=K) ha) (a9.of (K:=K) hb) (fun j x y ex ey=>by
    match j,ex,ey with
    | 0,ex,ey =>
      have e1:V.int x1=x:=by simpa using ex
      have e2:V.int x2=y:=by simpa using ey
      rw [<- e1,<- e2,if_pos rfl]
      have z:=cT.flat (K:=K) (H:=H) (n:=n) (x:=V.int x1) (y:=V.int x2) rfl rfl
      exact z
    | 1,ex,ey =>
      have e1:V.int y1=x:=by simpa using ex
      have e2:V.int y2=y:=by simpa using ey
      rw [<- e1,<- e2,if_neg (by decide)]
      have z:=cT.flat (K:=K) (H:=H) (n:=n) (x:=V.int y1) (y:=V.int y2) rfl rfl
      exact z
    | j+2,ex,ey=>simp at ex)
  have e:((List.range (min [V.int x1,V.int y1].length [V.int x2,V.int y2].length)).all (fun j=>if j=0 then decide (x1=x2) else decide (y1=y2))&&decide ([V.int x1,V.int y1].length=[V.int x2,V.int y2].length))=(decide (x1=x2)&&decide (y1=y2)):=by
    simp [List.range_succ]
  first
    | (rw [e] at h; exact h)
    | (simp [List.range_succ] at h; exact h)
end L2
namespace Ck
open PySem L2
def Cut (n:Nat) (p:Pair):Prop:=0<=p.1/\p.1+1 < p.2/\p.2<=(n:Int)+1/\¬ (p.1=0/\p.2=(n:Int)+1)
structure Dk (n:Nat) (ps:List Pair):Prop where
  cut:∀ p∈ps,Cut n p
  ris:ps.Pairwise cg
  len:ps.length<=n
theorem yC {p q:Pair} (h:cg p q) (h':cg q p):p=q:=by
  unfold cg at h h'
  exact Prod.ext (by omega) (by omega)
theorem gL {ps qs:List Pair} (hp:ps.Pairwise cg) (hq:qs.Pairwise cg) (h:ps.Perm qs):ps=qs :=
  List.Perm.eq_of_pairwise (le:=cg) (fun _ _ _ _ h1 h2=>yC h1 h2) hp hq h
noncomputable def Cv (i j:Nat):List Pair:=(if i=0 then [] else [(0,(i:Int)+1)])++(if j=0 then [] else [((i:Int)+1,(i:Int)+(j:Int)+2)])
noncomputable def CD (i j:Nat) (ps qs:List Pair):List Pair:=ps++Cv i j++qs.map (up ((i:Int)+1))
section
variable {i j:Nat} {ps qs:List Pair} (hp:Dk i ps) (hq:Dk j qs)
include hp hq
variable {cs:List Pair} (hc:cs.Perm (CD i j ps qs)) (hs:cs.Pairwise cg)
include hc hs
end
noncomputable def dH (ps:List Pair):Nat:=(ps.map fun p=>(p.2 - p.1 - 1).toNat).sum
theorem gX (ps:List Pair) (p:Pair):dH (ps++[p])=dH ps+(p.2 - p.1 - 1).toNat:=by
  unfold dH; simp
theorem bz.put {H:Hp} {l t:Addr} {xs:List V} {ps:List Pair} {p:Pair} (hl:H l=some (.lst xs)) (pr:cR H xs ps) (ht:H t=some (.tup [.int p.1,.int p.2])):bz (L2.upd H l (.lst (xs++[.ref t]))) l (ps++[p]) :=
  ⟨_,L2.upd_same,(pr.snoc ht).updL hl _⟩
theorem bz.push {H:Hp} {l t:Addr} {xs:List V} {ps:List Pair} {a b:Int} (hl:H l=some (.lst xs)) (pr:cR H xs ps) (ht:H t=none):bz (L2.upd (L2.upd H t (.tup [.int a,.int b])) l (.lst (xs++[.ref t]))) l (ps++[(a,b)]) :=
  bz.put (p:=(a,b)) ((L2.upd_ne (ao hl ht)).trans hl) (pr.updN ht _) L2.upd_same
end Ck
set_option Elab.async false
set_option linter.all false
set_option maxRecDepth 100000
set_option maxHeartbeats 4000000
namespace Ck
open PySem L2
structure D1 (ns:List Int):Prop where
  pos:∀ x∈ns,0<=x
  few:∀ j:Nat,j < ns.length->j+1<=ns.countP (fun x=>decide (x<=(j:Int)))
end Ck
set_option Elab.async false
set_option linter.all false
set_option maxRecDepth 100000
set_option maxHeartbeats 4000000
namespace Ck
open PySem L2
end Ck
namespace Ck
open PySem L2
noncomputable def steps (ws:List Int):List Int:=(List.range (ws.length - 1)).map fun (i:Nat)=>(ws.getD (i+1) 0 - ws.getD i 0) % ((ws.length:Int)+1)
end Ck
set_option Elab.async false
set_option linter.all false
set_option maxRecDepth 100000
set_option maxHeartbeats 4000000
namespace L2
open PySem PySem.W
end L2
namespace Ck
open PySem L2
theorem ne_int {a b:Int} (h:a≠b):¬ V.int a=V.int b:=fun z=>h (by injection z)
end Ck
namespace Ck
end Ck
set_option Elab.async false
set_option linter.all false
set_option maxRecDepth 100000
set_option maxHeartbeats 4000000
namespace Ck
open PySem L2
noncomputable def rC (es:List Int) (r:Int):Int:=if 0 < r then es.getD (r - 1).toNat 0 else r
noncomputable def qD (es:List Int):Nat->Int->Int
  | 0,r=>r
  | m+1,r=>qD es m (rC es r)
noncomputable def inR (es:List Int):Bool:=es.all fun e=>decide (0<=e)&&decide (e<=(es.length:Int))
theorem zu (es:List Int):inR es=true↔∀ e∈es,0<=e/\e<=(es.length:Int):=by
  unfold inR
  rw [List.all_eq_true]
  constructor
  · intro h e he
    have:=h e he
    rw [Bool.and_eq_true] at this
    exact ⟨of_decide_eq_true this.1,of_decide_eq_true this.2⟩
  · intro h e he
    rw [Bool.and_eq_true]
    exact ⟨decide_eq_true (h e he).1,decide_eq_true (h e he).2⟩
theorem BG {es:List Int} (h:inR es=true) {r:Int} (h0:0<=r) (h1:r<=(es.length:Int)):0<=rC es r/\rC es r<=(es.length:Int):=by
  unfold rC
  split
  · rename_i hr
    have hk:(r - 1).toNat < es.length:=by omega
    rw [List.getD_eq_getElem?_getD,List.getElem?_eq_getElem hk]
    exact (zu es).mp h _ (List.getElem_mem hk)
  · exact ⟨h0,h1⟩
end Ck
namespace Ck
open PySem L2
theorem nF (a b:Int):decide (V.int a=V.int b)=decide (a=b):=by
  by_cases h:a=b
  · rw [decide_eq_true h,decide_eq_true (by rw [h])]
  · rw [decide_eq_false h,decide_eq_false (ne_int h)]
end Ck
namespace Ck
theorem ja {row:List Int} (nd:row.Nodup) {i j:Nat} {x:Int} (hi:row[i]? = some x) (hj:row[j]? = some x):i=j :=
  (List.getElem?_inj (List.getElem?_eq_some_iff.mp hi).1 nd).mp (hi.trans hj.symm)
end Ck
namespace Ck
open PySem L2
end Ck
set_option Elab.async false
set_option linter.all false
set_option maxRecDepth 100000
set_option maxHeartbeats 4000000
namespace L2
open PySem PySem.Spec PyProof.Rows
theorem p3:∀ {xs:List V} {us:List Value},us.length=xs.length->(∀ (j:Nat) v,us[j]? = some v->∃ x,xs[j]? = some x/\RelV x v)->Vals xs us
  | [],us,hl,_=>by
    have:us=[]:=List.eq_nil_of_length_eq_zero hl
    subst this
    exact .nil
  | x::xs,[],hl,_=>by simp at hl
  | x::xs,u::us,hl,k=>by
    obtain ⟨y,e1,r⟩:=k 0 u rfl
    have:x=y:=by simpa using e1
    subst this
    exact .cons r (p3 (by simpa using hl) fun j w e=>by
      obtain ⟨y,f1,f2⟩:=k (j+1) w (by simpa using e)
      exact ⟨y,by simpa using f1,f2⟩)
noncomputable def fF (i:Int) (n:Nat):List V:=((List.range n).map fun (k:Nat)=>i+(k:Int)).map V.int
section
variable {X:Cx}
theorem list_range {pins:List (Addr × Obj)} {σ:St} {H:Hp} {s:Shared} {Q:VK} {lo hi:Int} {t u v:Tok} {tk:Nat} (hc:X.calm=true) (I:Inv X pins σ H s) (h1 : -(2 ^ 62)<=lo) (h2:lo < 2 ^ 62) (h3 : -(2 ^ 62)<=hi) (h4:hi < 2 ^ 62) (hz:(hi - lo).toNat<=1000000)
    (q:∀ l,H l=none->Q (.ref l) (upd H l (.lst (fF lo (hi - lo).toNat)))):wpAny (model X.prog X.w) X.A (call (.type "list") [.ref s.heap.objs.size]) (EP X pins σ Q) X.xe { s with heap:=s.heap.push { cls:=.type "range",data:=.fields #[.int lo t,.int hi u,.int 1 v] },toks:=tk }:=by
  have I1:Inv X pins σ H { s with heap:=s.heap.push { cls:=.type "range",data:=.fields #[.int lo t,.int hi u,.int 1 v] },toks:=tk }:=I.kept fun b o e=>Heap.get?_push_of_some _ e
  refine call_list_range (n:=(hi - lo).toNat) (I.ok.hd hc) (IsRange.new ..) (small_one h1 h2 h3 h4) (by rw [rangeSize_one]; split<;>omega) (by omega) fun h' tk' acc' c' hk he hacc=>?_
  have hl:acc'.toList.length=(fF lo (hi - lo).toNat).length:=by unfold fF; simpa using hacc.1
  refine ⟨.ref _,_,I1.laid (t':=tk') (o:=.lst (fF lo (hi - lo).toNat)) hk (Nat.le_refl _) ⟨?_,acc'.toList,c',p3 hl fun j w e=>?_,he⟩,rfl,q _ (I1.hok.fresh (Nat.le_refl _))⟩
  · unfold fF
    rw [List.length_map,List.length_map,List.length_range]
    exact sz (by omega)
  · obtain ⟨t',e2⟩:=hacc.2 j w (by simpa using e)
    have hj:j < (hi - lo).toNat:=by
      have:=(List.getElem?_eq_some_iff.mp e).1
      rw [hl] at this
      unfold fF at this
      simpa using this
    refine ⟨.int (lo+(j:Int)),?_,t',by rw [e2,Int.mul_one]⟩
    unfold fF
    rw [List.getElem?_map,List.getElem?_map,List.getElem?_range hj]
    rfl
noncomputable def DI (ta:TA):TE:=fun σ H Q=>ta σ H fun vs H1=>∃ j:Int,vs=[.int j]/\-(2 ^ 62)<=j/\j < 2 ^ 62/\j.toNat<=1000000/\∀ l,H1 l=none->Q (.ref l) (upd H1 l (.lst (fF 0 j.toNat)))
theorem Bf {a:Expr} {ta:TA} {p p2 pos pos2:Pos} (hc:X.calm=true) (hgl:Gl X "list") (hml:X.mg "list" = none) (hg:Gl X "range") (hm:X.mg "range" = none) (ha:PA X [a] ta) (hs:starEach [a] X.env=[(false,eval a X.env)]:=by rfl)
    (he:starEach [.Call (.Name "range" p) [a] [] pos] X.env=[(false,eval (.Call (.Name "range" p) [a] [] pos) X.env)]:=by rfl) :
    PE X (.Call (.Name "list" p2) [.Call (.Name "range" p) [a] [] pos] [] pos2) (DI ta):=by
  intro pins s σ H Q I h
  refine wpAny_Call_Name_kw (dY I hgl hml gC ?_ (by decide) (by decide))
  refine PyProof.Rows.callWith_type1 ?_ he rfl
  rw [he]
  show wpAny _ _ (spliced ((false,eval (.Call (.Name "range" p) [a] [] pos) X.env)::backTo pos2 [])) _ _ s
  refine Calls.spliced_cons (Call_ (dY I hg hm boot_range (PyProof.Rows.callWith_type1 (aI (ha pos pins s σ H _ I h) fun us s1 ⟨vs,H1,I1,r1,q1⟩=>?_) hs rfl)))
  obtain ⟨j,e,b1,b2,b3,q⟩:=q1
  subst e
  cases r1 with
  | cons r rr =>
    cases rr
    obtain ⟨t,rfl⟩:=r
    exact call_range_1 (Calls.spliced_nil (list_range hc I1 (by omega) (by omega) b1 b2 (by simpa using b3) (by simpa using q)))
end
end L2
namespace L2
open PySem PySem.Spec PyProof.Rows
end L2
namespace L2
open PySem PySem.Spec PyProof.Rows
end L2
set_option Elab.async false
set_option linter.all false
set_option maxRecDepth 100000
set_option maxHeartbeats 4000000
namespace Ck
open PySem L2
noncomputable def cf (n:Nat):List Int:=(List.range n).map fun (k:Nat)=>(k:Int)
theorem lN (n:Nat):cf (n+1)=cf n++[(n:Int)]:=by unfold cf; rw [List.range_succ,List.map_append]; rfl
theorem nY (n:Nat):(cf n).length=n:=by unfold cf; simp
theorem eI {n:Nat} {m:Int}:m∈cf n↔0<=m/\m < (n:Int):=by
  unfold cf
  rw [List.mem_map]
  constructor
  · rintro ⟨k,hk,rfl⟩
    have:=List.mem_range.mp hk
    omega
  · intro h
    exact ⟨m.toNat,List.mem_range.mpr (by omega),by omega⟩
theorem mC (n:Nat):(cf n).Pairwise (· < ·):=by
  unfold cf
  rw [List.pairwise_map]
  exact List.pairwise_lt_range.imp fun h=>by omega
theorem zM {n k:Nat} (h:k < n):(cf n)[k]? = some (k:Int):=by
  unfold cf
  rw [List.getElem?_map,List.getElem?_range h]
  rfl
noncomputable def eh (ns:List Int):Bool:=ns.isPerm (cf ns.length)
theorem cS (ns:List Int):eh ns=true↔ns.Perm (cf ns.length):=List.isPerm_iff
theorem qO {ns ms:List Int} (hp:ms.Perm ns) (hs:ms.Pairwise (·<=·)):eh ns=decide (ms=cf ns.length):=by
  rw [Bool.eq_iff_iff,cS,decide_eq_true_iff]
  constructor
  · intro h
    exact List.Perm.eq_of_pairwise (le:=(·<=·)) (fun a b _ _ h1 h2=>Int.le_antisymm h1 h2) hs ((mC _).imp Int.le_of_lt) (hp.trans h)
  · intro h
    rw [<- h]
    exact hp.symm
noncomputable def gM (row:List Int) (k:Nat):Bool:=(List.range k).any fun i=>(List.range row.length).any fun j=>decide (k < j)&&(decide (row.getD k 0 < row.getD j 0)&&decide (row.getD j 0 < row.getD i 0))
theorem gH (row:List Int) (k:Nat):gM row k=true↔∃ i j:Nat,i < k/\k < j/\j < row.length/\row.getD k 0 < row.getD j 0/\row.getD j 0 < row.getD i 0:=by
  unfold gM
  rw [List.any_eq_true]
  constructor
  · rintro ⟨i,hi,h⟩
    rw [List.any_eq_true] at h
    obtain ⟨j,hj,h⟩:=h
    rw [Bool.and_eq_true,Bool.and_eq_true] at h
    exact ⟨i,j,List.mem_range.mp hi,of_decide_eq_true h.1,List.mem_range.mp hj,of_decide_eq_true h.2.1,of_decide_eq_true h.2.2⟩
  · rintro ⟨i,j,h1,h2,h3,h4,h5⟩
    refine ⟨i,List.mem_range.mpr h1,?_⟩
    rw [List.any_eq_true]
    refine ⟨j,List.mem_range.mpr h3,?_⟩
    rw [Bool.and_eq_true,Bool.and_eq_true]
    exact ⟨decide_eq_true h2,decide_eq_true h4,decide_eq_true h5⟩
noncomputable def lP (row:List Int):Bool:=(List.range row.length).all fun k=>!gM row k
noncomputable def dQ (row:List Int):Bool:=eh row&&lP row
theorem mZ {row:List Int} {k:Nat} (hk:k < row.length) (h:gM row k=true):lP row=false:=by
  cases e:lP row with
  | false=>rfl
  | true =>
    have:=List.all_eq_true.mp e k (List.mem_range.mpr hk)
    rw [h] at this
    cases this
theorem jb {row:List Int} (h:∀ k,k < row.length->gM row k=false):lP row=true:=by
  unfold lP
  rw [List.all_eq_true]
  intro k hk
  rw [h k (List.mem_range.mp hk)]
  rfl
noncomputable def stk (row:List Int) (k p:Nat):List Int:=(cf p).filter fun m=>!decide (m∈row.take k)
theorem ni {row:List Int} {k p:Nat} {m:Int}:m∈stk row k p↔(0<=m/\m < (p:Int))/\m∉row.take k:=by
  unfold stk
  rw [List.mem_filter,eI]
  simp
theorem BV (row:List Int) (k p:Nat):(stk row k p).Pairwise (· < ·):=(mC p).filter _
theorem yq {row:List Int} {k p:Nat} (h:(p:Int)∉row.take k):stk row k (p+1)=stk row k p++[(p:Int)]:=by
  unfold stk
  rw [lN,List.filter_append]
  simp [h]
theorem yt {row:List Int} {k p:Nat} {x:Int} (hx:row[k]? = some x):stk row (k+1) p=(stk row k p).filter fun m=>!decide (m=x):=by
  unfold stk
  rw [List.filter_filter]
  refine List.filter_congr fun m _=>?_
  rw [List.take_add_one,hx]
  by_cases h1:m=x<;>by_cases h2:m∈row.take k<;>simp [h1,h2]
theorem sD {l0:List Int} {x:Int} (h:(l0++[x]).Pairwise (· < ·)):(l0++[x]).filter (fun m=>!decide (m=x))=l0:=by
  rw [List.filter_append]
  have e1:l0.filter (fun m=>!decide (m=x))=l0:=by
    rw [List.filter_eq_self]
    intro m hm
    have:=(List.pairwise_append.mp h).2.2 m hm x (by simp)
    simp
    omega
  rw [e1]
  simp
structure Off (row:List Int) (k p:Nat):Prop where
  below:∀ x∈row.take k,x < (p:Int)
  from_:p=0\/∃ x∈row.take k,(p:Int)=x+1
  fine:∀ j,j < k->gM row j=false
theorem Off.start (row:List Int):Off row 0 0:=⟨fun x hx=>by simp at hx,.inl rfl,fun j hj=>absurd hj (Nat.not_lt_zero _)⟩
theorem gF {row:List Int} {k:Nat} {y:Int} (h:y∈row.take k):∃ i,i < k/\row[i]? = some y:=by
  obtain ⟨i,hi,e⟩:=List.getElem_of_mem h
  rw [List.length_take] at hi
  refine ⟨i,by omega,?_⟩
  rw [List.getElem_take] at e
  rw [List.getElem?_eq_getElem (show i < row.length by omega),e]
theorem ig {row:List Int} {k:Nat} {y:Int} (h:row[k]? = some y):row.getD k 0=y:=by rw [List.getD_eq_getElem?_getD,h]; rfl
theorem Off.step {row:List Int} {k p p':Nat} {x:Int} (o:Off row k p) (hp:row.Perm (cf row.length)) (hx:row[k]? = some x) (hp':(p':Int)=if (p:Int)<=x then x+1 else (p:Int)) :
    ∃ l0 t,stk row k p'=l0++[t]/\(t=x->l0=stk row (k+1) p'/\Off row (k+1) p')/\(t≠x->gM row k=true):=by
  have nd:row.Nodup:=hp.nodup_iff.mpr ((mC _).imp fun h=>Int.ne_of_lt h)
  have rng:∀ y∈row,0<=y/\y < (row.length:Int):=fun y hy=>eI.mp (hp.mem_iff.mp hy)
  have hk:k < row.length:=(List.getElem?_eq_some_iff.mp hx).1
  have xr:=rng x (List.mem_of_getElem? hx)
  have xn:x∉row.take k:=fun h=>by
    obtain ⟨i,hi,e⟩:=gF h
    have:=ja nd e hx
    omega
  have xp:x < (p':Int):=by rw [hp']; split<;>omega
  have pp:(p:Int)<=p':=by rw [hp']; split<;>omega
  have xs:x∈stk row k p':=ni.mpr ⟨⟨xr.1,xp⟩,xn⟩
  have hne:stk row k p'≠[]:=fun z=>by rw [z] at xs; cases xs
  have el:stk row k p'=(stk row k p').dropLast++[(stk row k p').getLast hne]:=(List.dropLast_concat_getLast hne).symm
  have pw:=BV row k p'
  generalize (stk row k p').dropLast=l0 at el
  generalize (stk row k p').getLast hne=t at el
  refine ⟨l0,t,el,fun e=>?_,fun e=>?_⟩
  · subst e
    have top:∀ m∈stk row k p',m<=t:=fun m hm=>by
      rw [el] at hm pw
      rcases List.mem_append.mp hm with z | z
      · have:=(List.pairwise_append.mp pw).2.2 m z t (by simp)
        omega
      · have:m=t:=by simpa using z
        omega
    refine ⟨?_,fun y hy=>?_,?_,fun j hj=>?_⟩
    · rw [yt hx,el,sD (by rw [<- el]; exact pw)]
    · rw [List.take_add_one,hx] at hy
      rcases List.mem_append.mp hy with z | z
      · have:=o.below y z
        omega
      · have:y=t:=by simpa using z
        omega
    · have hm:t∈row.take (k+1):=by rw [List.take_add_one,hx]; simp
      by_cases c:(p:Int)<=t
      · rw [if_pos c] at hp'
        exact .inr ⟨t,hm,hp'⟩
      · rw [if_neg c] at hp'
        rcases o.from_ with z | ⟨y,hy,z⟩
        · omega
        · exact .inr ⟨y,by rw [List.take_add_one]; exact List.mem_append_left _ hy,by omega⟩
    · by_cases c:j=k
      · subst c
        cases hb:gM row j with
        | false=>rfl
        | true =>
          obtain ⟨i,m,h1,h2,h3,h4,h5⟩:=(gH row j).mp hb
          rw [ig hx] at h4
          have em:row[m]? = some (row.getD m 0):=by rw [List.getD_eq_getElem?_getD,List.getElem?_eq_getElem h3]; rfl
          have ei:row[i]? = some (row.getD i 0):=by rw [List.getD_eq_getElem?_getD,List.getElem?_eq_getElem (show i < row.length by omega)]; rfl
          have mi:row.getD i 0∈row.take j:=List.mem_of_getElem? (i:=i) (by rw [List.getElem?_take_of_lt h1]; exact ei)
          have b1:=o.below _ mi
          have b2:=rng _ (List.mem_of_getElem? em)
          have nm:row.getD m 0∉row.take j:=fun h=>by
            obtain ⟨i',hi',e'⟩:=gF h
            have:=ja nd e' em
            omega
          have:=top _ (ni.mpr ⟨⟨b2.1,by omega⟩,nm⟩)
          omega
      · exact o.fine j (by omega)
  · have ht:t∈stk row k p':=by rw [el]; simp
    obtain ⟨⟨t0,t1⟩,tn⟩:=ni.mp ht
    have xt:x < t:=by
      rw [el] at xs pw
      rcases List.mem_append.mp xs with z | z
      · exact (List.pairwise_append.mp pw).2.2 x z t (by simp)
      · have:x=t:=by simpa using z
        exact absurd this.symm e
    have c:¬ (p:Int)<=x:=fun c=>by rw [if_pos c] at hp'; omega
    rw [if_neg c] at hp'
    rcases o.from_ with z | ⟨y,hy,z⟩
    · omega
    · obtain ⟨i,hi,ei⟩:=gF hy
      have yr:=rng y (List.mem_of_getElem? ei)
      have ty:t≠y:=fun w=>tn (by rw [w]; exact hy)
      have tr:t∈row:=hp.mem_iff.mpr (eI.mpr ⟨t0,by omega⟩)
      obtain ⟨j,hj,ej⟩:=List.getElem_of_mem tr
      have ej':row[j]? = some t:=by rw [List.getElem?_eq_getElem hj,ej]
      have jk:k < j:=by
        by_cases h:j < k
        · exact absurd (List.mem_of_getElem? (i:=j) (by rw [List.getElem?_take_of_lt h]; exact ej')) tn
        · by_cases h2:j=k
          · subst h2
            rw [hx] at ej'
            exact absurd (Option.some.inj ej').symm e
          · omega
      exact (gH row k).mpr ⟨i,j,hi,jk,hj,by rw [ig hx,ig ej']; exact xt,by rw [ig ej',ig ei]; omega⟩
end Ck
namespace Ck
open PySem L2
theorem ql:∀ as bs:List Int,kW (as.map V.int) (bs.map V.int)=decide (as=bs)
  | [],[]=>rfl
  | [],b::bs=>rfl
  | a::as,[]=>rfl
  | a::as,b::bs=>by
    rw [List.map_cons,List.map_cons]
    show (mh (.int a) (.int b)&&kW (as.map V.int) (bs.map V.int))=_
    rw [ql as bs]
    have e:mh (.int a) (.int b)=decide (a=b):=by
      show (a == b)=_
      by_cases h:a=b
      · subst h; simp
      · simp [h]
    rw [e]
    by_cases h1:a=b<;>by_cases h2:as=bs<;>simp [h1,h2]
theorem ot (n:Nat):fF 0 n=(cf n).map V.int:=by
  unfold fF cf
  refine congrArg (List.map V.int) (List.map_congr_left fun k _=>?_)
  show (0:Int)+(k:Int)=(k:Int)
  omega
end Ck
set_option Elab.async false
set_option linter.all false
set_option maxRecDepth 100000
set_option maxHeartbeats 4000000
namespace Ck
open PySem L2
noncomputable def kQ (es:List Int) (k:Int):Int:=es.getD (k - 1).toNat 0
noncomputable def fP (n:Nat):List Int:=(List.range n).map fun (k:Nat)=>1+(k:Int)
theorem oR {n:Nat} {k:Int}:k∈fP n↔1<=k/\k<=(n:Int):=by
  unfold fP
  rw [List.mem_map]
  constructor
  · rintro ⟨j,hj,rfl⟩
    have:=List.mem_range.mp hj
    omega
  · intro h
    exact ⟨(k - 1).toNat,List.mem_range.mpr (by omega),by omega⟩
theorem yz (n:Nat):(fP n).Pairwise (· < ·):=by
  unfold fP
  rw [List.pairwise_map]
  exact List.pairwise_lt_range.imp fun h=>by omega
theorem xO (n:Nat):(fP n).Nodup:=(yz n).imp fun h=>Int.ne_of_lt h
theorem wF (n:Nat):(fP n).length=n:=by unfold fP; simp
end Ck
namespace Ck
end Ck
namespace Ck
end Ck
set_option Elab.async false
set_option linter.all false
set_option maxRecDepth 100000
set_option maxHeartbeats 4000000
namespace L2
open PySem PySem.Spec PyProof.Rows PySem.SeqAt
section
variable {X:Cx}
end
end L2
namespace Ck
open PySem L2
end Ck
namespace L2
open PySem
theorem fX {A:Around} {k:Nat} (hr:bP k A):A.units+1 < cLine:=Nat.lt_of_le_of_lt (by omega) hr.un
end L2
namespace Ck
open PySem L2
end Ck
set_option Elab.async false
set_option linter.all false
set_option maxRecDepth 100000
set_option maxHeartbeats 4000000
namespace L2
open PySem PySem.Spec PyProof.Rows
section
variable {X:Cx}
end
end L2
namespace Ck
open PySem L2
end Ck
namespace L2
open PySem PySem.Spec PyProof.Rows PyProof
end L2
set_option Elab.async false
set_option linter.all false
set_option maxRecDepth 100000
set_option maxHeartbeats 4000000
namespace Ck
open PySem L2
inductive Bt where
  | leaf
  | node (l r:Bt)
noncomputable def Bt.size:Bt->Nat
  | .leaf=>0
  | .node l r=>l.size+r.size+1
noncomputable def brk:Bt->List Nat
  | .leaf=>[]
  | .node l r=>40::(brk l++41::brk r)
noncomputable def Bh:Bt->List Int
  | .leaf=>[]
  | .node l r=>CN (Bh l) (Bh r)
theorem eW:∀ t:Bt,(brk t).length=2*t.size
  | .leaf=>rfl
  | .node l r=>by
    show (40::(brk l++41::brk r)).length=2*(l.size+r.size+1)
    rw [List.length_cons,List.length_append,List.length_cons,eW l,eW r]
    omega
theorem kr:∀ t:Bt,clo 0 (brk t)=true
  | .leaf=>rfl
  | .node l r=>yi (kr l) (kr r)
theorem vT (t:Bt):(brk t).count 40=t.size:=by
  have:=yF (kr t)
  rw [eW] at this
  omega
theorem jF:∀ (n:Nat) (x:List Nat),x.length<=n->clo 0 x=true->∃ t,brk t=x
  | 0,x,hn,_=>⟨.leaf,(List.eq_nil_of_length_eq_zero (by omega)).symm⟩
  | n+1,x,hn,h=>by
    by_cases hx:x=[]
    · exact ⟨.leaf,hx.symm⟩
    · obtain ⟨a,b,rfl,ha,hb⟩:=vZ h hx
      rw [List.length_cons,List.length_append,List.length_cons] at hn
      obtain ⟨l,rfl⟩:=jF n a (by omega) ha
      obtain ⟨r,rfl⟩:=jF n b (by omega) hb
      exact ⟨.node l r,rfl⟩
noncomputable def pre (n j:Nat):Int:=((List.range j).map fun i=>sh i*sh (n - 1 - i)).sum
noncomputable def Tw (H:Hp):V->Bt->Prop
  | v,.leaf=>∃ p,v = .ref p/\H p=some (.tup [])
  | v,.node l r=>∃ p a b,v = .ref p/\H p=some (.tup [a,b])/\Tw H a l/\Tw H b r
theorem Tw.same {H H':Hp} (s:ah H H'):∀ {t:Bt} {v:V},Tw H v t->Tw H' v t
  | .leaf,_,⟨p,e,h⟩=>⟨p,e,s _ _ h⟩
  | .node l r,_,⟨p,a,b,e,h,hl,hr⟩=>⟨p,a,b,e,s _ _ h,hl.same s,hr.same s⟩
def Th (w:Nat) (H:Hp) (v:V) (t:Bt):Prop:=match w with
  | 0=>∃ x:Str,v = .str x/\x.cps.toList=brk t
  | 1=>∃ p,v = .ref p/\H p=some (.lst ((Bh t).map V.int))
  | _=>Tw H v t
end Ck
set_option Elab.async false
set_option linter.all false
set_option maxRecDepth 100000
set_option maxHeartbeats 4000000
namespace L2
open PySem PySem.Spec PyProof.Rows
theorem ub (l b:Addr) (us vs:Array Value) (n m:Nat) (d:Option Addr) (sl:Array (Option Value)) (h0:¬(!us.isEmpty&&Builtin.List.listTooLong (us.size+vs.size))=true) (h1:us.size<=sizeLine) (h2:us.size+vs.size<=sizeLine+1) :
    Meets (Builtin.«list.extend» ⟨[.ref l,.ref b],[]⟩) (fun _ R s=>s.heap.get? l=some { cls:=.type "list",dict:=none,data:=.seq us n,slots:=#[] } /\
      s.heap.get? b=some { cls:=.type "tuple",dict:=d,data:=.seq vs m,slots:=sl } /\
      R (.ok (.ret Value.none)) { s with heap:=s.heap.update l (Obj.mapSeq fun x=>x++vs),toks:=s.toks }) :=
  .of_wp fun prog w A R s h=>by
    obtain ⟨hp,g,dr,tk,os⟩:=s
    obtain ⟨hl,hb,h⟩:=h
    have f2:=AutoSeq1.sub_tuple_tuple
    have f3:=AutoSeq1.sub_list_list
    have f4:=AutoSeq1.sub_tuple_list
    have f5:=AutoSeq1.sub_list_tuple
    have h2':(us++vs).size<=sizeLine+1:=by rw [Array.size_append]; exact h2
    wp_walk using (wpAny_updateSeq hl rfl (hz:=h1) (_hz':=h2')),AutoSeq1.wpAny_loadPart' hl,AutoSeq1.wpAny_loadPart' hb
    exact ⟨_,rfl,h⟩
section
variable {X:Cx}
noncomputable def Cy (K:PySem.W.Frag):V->List V->Hp->VK->Prop:=fun x vs H Q=>∃ l b xs zs,x = .ref l/\vs=[.ref b]/\H l=some (.lst xs)/\a9 K H b zs/\xs.length+zs.length<=sizeLine/\Q .non (upd H l (.lst (xs++zs)))
theorem zJ:ou X "list.extend" (Cy X.K):=by
  intro pins s σ H x vs v us Q I rx rv h
  obtain ⟨l,b,xs,zs,rfl,rfl,hH,hB,hz,q⟩:=h
  cases rx
  obtain ⟨u,rfl,ru⟩:=rv.one
  cases ru
  obtain ⟨z,its,n,r,hl,e⟩:=I.lstM hH
  obtain ⟨its2,r2,⟨⟨oc,od,dt,os⟩,e2,c2,m2,d2⟩,z2⟩:=I.tuple hB
  dsimp only at c2 d2
  subst c2 d2
  have l1:=r.length
  have l2:=r2.length
  have hsz:its.toArray.size+its2.toArray.size<=sizeLine:=by rw [List.size_toArray,List.size_toArray]; omega
  have hlong:¬ (!its.toArray.isEmpty&&Builtin.List.listTooLong (its.toArray.size+its2.toArray.size))=true:=by
    rw [lH hsz,Bool.and_false]
    exact Bool.false_ne_true
  refine call_meets F.slot_list_extend ⟨_,e,rfl⟩ F.entry_list_extend (F.args_list_extend_2 _ _) (ub l b its.toArray its2.toArray n m2 od os hlong (by rw [List.size_toArray]; omega) (by omega)) ⟨e,e2,?_⟩
  refine ⟨.non,_,I.lset (its':=its++its2) hH e (by simp) (r.append r2) ?_,rfl,q⟩
  rw [List.length_append]
  omega
variable {X:Cx} {o e:Expr} {es:List Expr} {to:TE} {t:TA} {name:Str} {apos cpos:Pos} {T id:String} {r:V->List V->Hp->VK->Prop}
theorem z5 {K:PySem.W.Frag} (hK:X.K=K) (pa:PlainAttrs T) (slot:Slot T name id) (hty:typeOf (.builtin id)=pure (.type "method_descriptor")) (hm:yQ X id r) (ho:PE X o to) (ha:PA X (e::es) t)
    (hbase:attributeBase o name X.env (eval o X.env)=eval o X.env:=by rfl)
    (hfew:((backTo cpos (starEach (e::es) X.env)).all (fun x=>!x.1)&&(backToKw cpos (keywordEach [] X.env)).all (fun x=>x.1.isSome)
      && decide ((e::es).length+([]:List Keyword).length+(if ([]:List Keyword).isEmpty then 0 else 1) < 30))=true:=by rfl)
    (hline:(apos.endLine == cpos.line)=true:=by rfl) (hs:starEach (e::es) X.env=(false,eval e X.env)::starEach es X.env:=by rfl) (hplain:(backTo cpos (starEach es X.env)).any (·.1)=false:=by rfl) :
    PE X (.Call (.Attribute o name apos) (e::es) [] cpos) (AV K T r to t):=by
  subst hK
  exact dq pa slot hty hm ho ha hbase hfew hline hs hplain
end
section
variable {X:Cx}
end
theorem g6 {lo:Int} {n:Nat} {g:TG} {tt:TT} {te:TE} {σ0:St} {H:Hp} {D:Addr} {Q:VK} (Pv:Nat->List V->Hp->Prop) (hz:n<=sizeLine)
    (h0:Pv 0 [] (upd H D (.lst []))) (hl:∀ i ys H',i<=n->Pv i ys H'->ys.length<=i)
    (hs:∀ (i:Nat) (ys:List V) (H':Hp) (R:VK) (R0:Hp->Prop),i < n->Pv i ys H'->(∀ v H3,H3 D=some (.lst ys)->Pv (i+1) (ys++[v]) (upd H3 D (.lst (ys++[v])))->R v H3)->(∀ H3,Pv (i+1) ys H3->R0 H3) ->
      g (.int (lo+i)) σ0 H' fun σ2 H2=>Ext σ0 σ2/\tt σ2 H2 fun b H3=>if b=true then te σ2 H3 R else R0 H3)
    (hq:∀ ys H',Pv n ys H'->Q (.ref D) H') :
    mT (og lo n) g tt te σ0 D Q H:=by
  refine ⟨fun i m ys H'=>m=n - i/\i<=n/\Pv i ys H',⟨n,by simp,Nat.zero_le _,h0⟩,?_⟩
  rintro i m ys H' ⟨rfl,hi,p⟩
  have ly:=hl i ys H' hi p
  by_cases hlt:i < n
  · refine .inr ⟨hlt,fun x H'' y=>?_⟩
    obtain ⟨e,y⟩:=y
    subst e y
    refine hs i ys _ _ _ hlt p (fun v H3 hD p'=>⟨hD,by omega,n - (i+1),by omega,rfl,hlt,p'⟩) fun H3 p'=>⟨n - (i+1),by omega,rfl,hlt,p'⟩
  · have e:i=n:=by omega
    subst e
    exact .inl ⟨Nat.le_refl _,hq ys H' p⟩
end L2
namespace Ck
open PySem L2
theorem eqT {b:Bool} {A B:Prop} (h:b=true) (x:A):if (if false=true then !b else b)=true then A else B:=by subst h; exact x
theorem Dj {b:Bool} {A B:Prop} (h:b=false) (x:B):if (if false=true then !b else b)=true then A else B:=by subst h; exact x
theorem cT.unit {K:PySem.W.Frag} {H:Hp} {n:Nat} {a b:Addr} {xs:List V} (ne:a≠b) (ha:a9 K H a xs) (hb:a9 K H b []):cT K H (n+1) (.ref a) (.ref b) (decide (xs=[])):=by
  have h:=cT.tup (n:=n) (e:=fun _=>true) ne ha hb (fun j x y _ hy=>by cases hy)
  have e:((List.range (min xs.length ([]:List V).length)).all (fun _=>true)&&xs.length == ([]:List V).length)=decide (xs=[]):=by
    cases xs with
    | nil=>rfl
    | cons x xs=>simp
  rw [e] at h
  exact h
noncomputable abbrev eU (H:Hp):List V->List Bt->Prop:=Paired fun v t=>Tw H v t
noncomputable def D7 (ts:List Bt):Nat:=(ts.map Bt.size).sum
theorem eU.app {H:Hp}:∀ {xs ys:List V} {ts us:List Bt},eU H xs ts->eU H ys us->eU H (xs++ys) (ts++us)
  | _,_,_,_,.nil,h=>h
  | _,_,_,_,.cons r t,h=>.cons r (eU.app t h)
theorem eU.unsnoc {H:Hp}:∀ {xs:List V} {ts:List Bt},eU H xs ts->xs≠[]->∃ ys y us u,xs=ys++[y]/\ts=us++[u]/\eU H ys us/\Tw H y u
  | [_],[_],.cons r .nil,_=>⟨[],_,[],_,rfl,rfl,.nil,r⟩
  | _::b::xs,_,.cons r (.cons r' t),_=>by
    obtain ⟨ys,y,us,u,e1,e2,h1,h2⟩:=eU.unsnoc (.cons r' t) (by simp)
    exact ⟨_::ys,y,_::us,u,by rw [e1]; rfl,by rw [e2]; rfl,.cons r h1,h2⟩
theorem Tw.ref {H:Hp}:∀ {t:Bt} {v:V},Tw H v t->∃ p xs,v = .ref p/\H p=some (.tup xs)/\(xs=[]↔t = .leaf)
  | .leaf,_,⟨p,e,h⟩=>⟨p,[],e,h,by simp⟩
  | .node l r,_,⟨p,a,b,e,h,_⟩=>⟨p,[a,b],e,h,by simp⟩
theorem Tw.keep {H H':Hp} (s:∀ p xs,H p=some (.tup xs)->H' p=some (.tup xs)):∀ {t:Bt} {v:V},Tw H v t->Tw H' v t
  | .leaf,_,⟨p,e,h⟩=>⟨p,e,s _ _ h⟩
  | .node l r,_,⟨p,a,b,e,h,hl,hr⟩=>⟨p,a,b,e,s _ _ h,hl.keep s,hr.keep s⟩
theorem eU.keep {H H':Hp} (s:∀ p xs,H p=some (.tup xs)->H' p=some (.tup xs)):∀ {xs:List V} {ts:List Bt},eU H xs ts->eU H' xs ts
  | _,_,.nil=>.nil
  | _,_,.cons r t=>.cons (r.keep s) (eU.keep s t)
noncomputable def kids:Bt->List Bt
  | .leaf=>[]
  | .node l r=>[l,r]
theorem vS {t b:Bt} (h:b∈kids t):b.size < t.size:=by
  cases t with
  | leaf=>cases h
  | node l r =>
    have sn:(Bt.node l r).size=l.size+r.size+1:=rfl
    have h:b∈[l,r]:=h
    simp only [List.mem_cons,List.not_mem_nil,or_false] at h
    rcases h with rfl | rfl<;>omega
theorem Tw.kids {H:Hp}:∀ {t:Bt} {v:V},Tw H v t->∃ p xs,v = .ref p/\H p=some (.tup xs)/\eU H xs (kids t)
  | .leaf,_,⟨p,e,h⟩=>⟨p,[],e,h,.nil⟩
  | .node l r,_,⟨p,a,b,e,h,hl,hr⟩=>⟨p,[a,b],e,h,.cons hl (.cons hr .nil)⟩
theorem eU.len {H:Hp}:∀ {xs:List V} {ts:List Bt},eU H xs ts->xs.length=ts.length
  | _,_,.nil=>rfl
  | _,_,.cons _ t=>congrArg (·+1) (eU.len t)
theorem eU.at {H:Hp}:∀ {xs:List V} {ts:List Bt} {i:Nat} {b:Bt},eU H xs ts->ts[i]? = some b->∃ x,xs[i]? = some x/\Tw H x b
  | _,_,0,_,.cons r _,e=>⟨_,rfl,by simp at e; rw [<- e]; exact r⟩
  | _,_,i+1,_,.cons _ t,e=>eU.at (i:=i) t (by simpa using e)
  | _,_,_,_,.nil,e=>by simp at e
noncomputable def stepT (c:Nat):Bt × List Bt->Option (Bt × List Bt)
  | (h,ps)=>if c=41 then some (.leaf,h::ps) else match ps with
    | []=>none
    | p::ps=>some (.node h p,ps)
noncomputable def dc:List Nat->Bt × List Bt->Option (Bt × List Bt)
  | [],s=>some s
  | c::cs,s=>(dc cs s).bind (stepT c)
theorem su:∀ (a b:List Nat) (s:Bt × List Bt),dc (a++b) s=(dc b s).bind (dc a)
  | [],b,s=>by show dc b s=(dc b s).bind fun s=>some s; cases dc b s<;>rfl
  | c::a,b,s=>by
    show (dc (a++b) s).bind (stepT c)=_
    rw [su a b s]
    cases dc b s<;>rfl
theorem lI:∀ (t:Bt) (ps:List Bt),dc (brk t) (.leaf,ps)=some (t,ps)
  | .leaf,ps=>rfl
  | .node l r,ps=>by
    show (dc (brk l++41::brk r) (.leaf,ps)).bind (stepT 40)=_
    rw [su]
    show ((((dc (brk r) (.leaf,ps)).bind (stepT 41))).bind (dc (brk l))).bind (stepT 40)=_
    rw [lI r ps]
    show (dc (brk l) (.leaf,r::ps)).bind (stepT 40)=_
    rw [lI l (r::ps)]
    rfl
theorem sV:∀ {xs:List Nat} {s z:Bt × List Bt} {k c:Nat},dc xs s=some z->xs[k]? = some c->∃ y y',dc (xs.drop (k+1)) s=some y/\stepT c y=some y'/\dc (xs.drop k) s=some y'
  | c::cs,s,z,0,d,h,e=>by
    have h:(dc cs s).bind (stepT c)=some z:=h
    simp at e
    subst e
    cases hy:dc cs s with
    | none=>rw [hy] at h; cases h
    | some y=>rw [hy] at h; exact ⟨y,z,hy,h,by show (dc cs s).bind (stepT c)=_; rw [hy]; exact h⟩
  | c::cs,s,z,k+1,d,h,e=>by
    have h:(dc cs s).bind (stepT c)=some z:=h
    cases hy:dc cs s with
    | none=>rw [hy] at h; cases h
    | some y=>exact sV (k:=k) hy (by simpa using e)
theorem jh:∀ (t:Bt),∀ z∈brk t,z=40\/z=41
  | .leaf,z,h=>by cases h
  | .node l r,z,h=>by
    have h:z∈40::(brk l++41::brk r):=h
    simp only [List.mem_cons,List.mem_append] at h
    rcases h with h | h | h | h
    · exact .inl h
    · exact jh l z h
    · exact .inr h
    · exact jh r z h
end Ck
set_option Elab.async false
set_option linter.all false
set_option maxRecDepth 100000
set_option maxHeartbeats 4000000
namespace Lg
open PySem PyProof.Rows
noncomputable def tm:Bool->Keyed->Array Keyed->Nat->Nat->Nat->StateT SortSt Sem (Option Nat):=sortPriv% PySem.Builtin.gallop
noncomputable def nq (left:Bool) (key:Keyed) (arr:Array Keyed) (base i:Nat):StateT SortSt Sem (Option Bool):=elem' arr (base+i) >>= fun x=>if left then lt' x key else lt' key x >>= fun r=>pure (r.map (!·))
noncomputable def bS (left:Bool) (k a:Int):Bool:=if left then decide (a < k) else !decide (k < a)
section
variable {prog:Program} {w:World} {A:Around} {E:Value->Shared->Prop} {s:Shared}
theorem IntKeys.at {xs:Array Keyed} (h:IntKeys xs) {i:Nat} (hi:i < xs.size):∃ t q,xs[i]? = some (.int (K xs i) t,q):=by
  have hm:xs[i]∈xs.toList:=by simp
  obtain ⟨n,t,hn⟩:=h _ hm
  refine ⟨t,xs[i].2,?_⟩
  have e:xs[i]? = some xs[i]:=getElem?_pos _ i hi
  have e2:xs[i]=(.int n t,xs[i].2):=Prod.ext hn rfl
  unfold K
  rw [e,e2]
  rfl
theorem mF {st:SortSt} {a b:Int} {t u:Tok} {p q:Value} {Q:Option Bool->SortSt->Prop} (hk:kindOf st=oneType') (h:Q (some (decide (a < b))) st):wpS (model prog w) A E s (lt' (.int a t,p) (.int b u,q)) Q st:=by
  rw [lt'_eq]
  refine wpS_bind (wpS_get ?_)
  rw [hk,keyLt'_oneType]
  refine wpS_bind (wpS_lift (wpAny_attempt (oneLt_int ⟨rfl,?_⟩)))
  exact wpS_pure h
theorem av {st:SortSt} {xs:Array Keyed} {i:Nat} {p:Keyed} {Q:Keyed->SortSt->Prop} (e:xs[i]? = some p) (h:Q p st):wpS (model prog w) A E s (elem' xs i) Q st:=by
  rw [elem'_eq,e]
  exact wpS_pure h
theorem gj {st:SortSt} {left:Bool} {k:Int} {t:Tok} {p:Value} {arr:Array Keyed} {base i:Nat} {Q:Option Bool->SortSt->Prop} (hk:kindOf st=oneType') (hI:IntKeys arr) (hi:base+i < arr.size)
    (h:Q (some (bS left k (K arr (base+i)))) st):wpS (model prog w) A E s (nq left (.int k t,p) arr base i) Q st:=by
  obtain ⟨t',q',e⟩:=IntKeys.at hI hi
  unfold nq
  refine wpS_bind (av e ?_)
  cases left with
  | true=>exact mF hk h
  | false=>exact wpS_bind (mF hk (wpS_pure h))
theorem yu {left:Bool} {k a b:Int} (h:a<=b) (hb:bS left k b=true):bS left k a=true:=by
  cases left with
  | true=>have hb:=of_decide_eq_true hb; exact decide_eq_true (Int.lt_of_le_of_lt h hb)
  | false =>
    have hb:(!decide (k < b))=true:=hb
    show (!decide (k < a))=true
    simp at hb |-
    omega
theorem bD {st:SortSt} {left:Bool} {k:Int} {t:Tok} {p:Value} {arr:Array Keyed} {base n hint:Nat} {Q:Option Nat->SortSt->Prop} (hk:kindOf st=oneType') (hI:IntKeys arr) (hz:base+n<=arr.size) (hh:hint < n)
    (hs:∀ i j,i<=j->j < n->K arr (base+i)<=K arr (base+j))
    (h:∀ m,m<=n->(∀ i,i < m->bS left k (K arr (base+i))=true)->(∀ i,m<=i->i < n->bS left k (K arr (base+i))=false)->Q (some m) st) :
    wpS (model prog w) A E s (tm left (.int k t,p) arr base n hint) Q st:=by
  have dn:∀ i j,i<=j->j < n->bS left k (K arr (base+j))=true->bS left k (K arr (base+i))=true:=fun i j h1 h2 h3=>yu (hs i j h1 h2) h3
  have up:∀ i j,i<=j->j < n->bS left k (K arr (base+i))=false->bS left k (K arr (base+j))=false:=fun i j h1 h2 h3=>by
    cases e:bS left k (K arr (base+j)) with
    | false=>rfl
    | true=>rw [dn i j h1 h2 e] at h3; cases h3
  have fin:∀ lo hi:Nat,lo<=hi->hi<=n->(∀ i,i < lo->bS left k (K arr (base+i))=true)->(∀ i,hi<=i->i < n->bS left k (K arr (base+i))=false) ->
      ∀ (f:(Option (Option Nat) × Nat × Nat)->StateT SortSt Sem (Option Nat)),(∀ m,f (none,m,m)=pure (some m)) ->
      wpS (model prog w) A E s (forIn [0:n] ((none,lo,hi):Option (Option Nat) × Nat × Nat) (fun _ c=>do
        if c.2.1 ≥ c.2.2 then pure (ForInStep.done (none,c.2.1,c.2.2)) else do
          let x <- nq left (.int k t,p) arr base (c.2.1+(c.2.2 - c.2.1) / 2)
          match x with
          | some more=>if more=true then pure (ForInStep.yield (none,c.2.1+(c.2.2 - c.2.1) / 2+1,c.2.2)) else pure (ForInStep.yield (none,c.2.1,c.2.1+(c.2.2 - c.2.1) / 2))
          | _=>pure (ForInStep.done (some none,c.2.1,c.2.2))) >>= f) Q st:=by
    intro lo hi hlh hhn hlo hhi f hf
    refine wpS_bind (wpS_mono (wpS_forRange (I:=fun x c st'=>st'=st/\∃ l r,c=(none,l,r)/\l<=r/\r<=n/\r - l<=n - x/\(∀ i,i < l->bS left k (K arr (base+i))=true)/\(∀ i,r<=i->i < n->bS left k (K arr (base+i))=false))
      (Q:=fun c st'=>st'=st/\∃ m,c=(none,m,m)/\m<=n/\(∀ i,i < m->bS left k (K arr (base+i))=true)/\(∀ i,m<=i->i < n->bS left k (K arr (base+i))=false)) ?step ?fin ⟨rfl,lo,hi,rfl,hlh,hhn,by omega,hlo,hhi⟩) ?post)
    case post =>
      rintro c st' ⟨rfl,m,rfl,hm,a1,a2⟩
      rw [hf]
      exact wpS_pure (h m hm a1 a2)
    case fin =>
      rintro c st' ⟨rfl,l,r,rfl,h1,h2,h3,a1,a2⟩
      have:l=r:=by omega
      subst this
      exact ⟨rfl,l,rfl,h2,a1,a2⟩
    case step =>
      rintro x c st' _ hx ⟨rfl,l,r,rfl,h1,h2,h3,a1,a2⟩
      dsimp only
      by_cases hge:l ≥ r
      · rw [if_pos hge]
        have:l=r:=by omega
        subst this
        exact wpS_pure ⟨rfl,l,rfl,h2,a1,a2⟩
      · rw [if_neg hge]
        refine wpS_bind (gj hk hI (by omega) ?_)
        cases e:bS left k (K arr (base+(l+(r - l) / 2))) with
        | true =>
          dsimp only
          rw [if_pos rfl]
          exact wpS_pure ⟨rfl,_,_,rfl,by omega,h2,by omega,fun i hi=>dn i _ (by omega) (by omega) e,a2⟩
        | false =>
          dsimp only
          rw [if_neg (by decide)]
          exact wpS_pure ⟨rfl,_,_,rfl,by omega,by omega,by omega,a1,fun i h4 h5=>up _ i h4 h5 e⟩
  unfold tm
  change wpS _ _ _ _ (bind _ _) _ _
  dsimp only
  refine wpS_bind (gj hk hI (by omega) ?_)
  cases e:bS left k (K arr (base+hint)) with
  | true =>
    dsimp only
    rw [if_pos rfl]
    refine wpS_bind (wpS_mono (wpS_forRange (I:=fun x c st'=>st'=st/\∃ l o,c=(none,l,o)/\l < o/\l < n - hint/\x+1<=o/\bS left k (K arr (base+(hint+l)))=true)
      (Q:=fun c st'=>st'=st/\∃ l o,c=(none,l,o)/\l < o/\l < n - hint/\bS left k (K arr (base+(hint+l)))=true/\(n - hint<=o\/(o < n - hint/\bS left k (K arr (base+(hint+o)))=false))) ?step1 ?fin1 ⟨rfl,0,1,rfl,by omega,by omega,by omega,e⟩) ?post1)
    case post1 =>
      rintro c st' ⟨rfl,l,o,rfl,h1,h2,h3,h4⟩
      dsimp only
      refine fin (hint+l+1) (hint+min o (n - hint)) (by omega) (by omega) (fun i hi=>dn i (hint+l) (by omega) (by omega) h3) (fun i h5 h6=>?_) _ (fun m=>rfl)
      rcases h4 with h4 | ⟨h4,h7⟩
      · omega
      · exact up (hint+o) i (by omega) h6 h7
    case fin1 =>
      rintro c st' ⟨rfl,l,o,rfl,h1,h2,h3,h4⟩
      exact ⟨rfl,l,o,rfl,h1,h2,h4,.inl (by omega)⟩
    case step1 =>
      rintro x c st' _ hx ⟨rfl,l,o,rfl,h1,h2,h3,h4⟩
      dsimp only
      by_cases hge:o ≥ n - hint
      · rw [if_pos hge]
        exact wpS_pure ⟨rfl,l,o,rfl,h1,h2,h4,.inl hge⟩
      · rw [if_neg hge]
        refine wpS_bind (gj hk hI (by omega) ?_)
        cases e2:bS left k (K arr (base+(hint+o))) with
        | true =>
          dsimp only
          rw [if_neg (by decide)]
          exact wpS_pure ⟨rfl,o,2*o+1,rfl,by omega,by omega,by omega,e2⟩
        | false =>
          dsimp only
          rw [if_pos (by decide)]
          exact wpS_pure ⟨rfl,l,o,rfl,h1,h2,h4,.inr ⟨by omega,e2⟩⟩
  | false =>
    dsimp only
    rw [if_neg (by decide)]
    refine wpS_bind (wpS_mono (wpS_forRange (I:=fun x c st'=>st'=st/\∃ l o,c=(none,l,o)/\l < o/\l<=hint/\x+1<=o/\bS left k (K arr (base+(hint - l)))=false)
      (Q:=fun c st'=>st'=st/\∃ l o,c=(none,l,o)/\l < o/\l<=hint/\bS left k (K arr (base+(hint - l)))=false/\(hint+1<=o\/(o<=hint/\bS left k (K arr (base+(hint - o)))=true))) ?step2 ?fin2 ⟨rfl,0,1,rfl,by omega,by omega,by omega,e⟩) ?post2)
    case post2 =>
      rintro c st' ⟨rfl,l,o,rfl,h1,h2,h3,h4⟩
      dsimp only
      refine fin (hint+1 - min o (hint+1)) (hint - l) (by omega) (by omega) (fun i hi=>?_) (fun i h5 h6=>up (hint - l) i h5 h6 h3) _ (fun m=>rfl)
      rcases h4 with h4 | ⟨h4,h7⟩
      · omega
      · exact dn i (hint - o) (by omega) (by omega) h7
    case fin2 =>
      rintro c st' ⟨rfl,l,o,rfl,h1,h2,h3,h4⟩
      exact ⟨rfl,l,o,rfl,h1,h2,h4,.inl (by omega)⟩
    case step2 =>
      rintro x c st' _ hx ⟨rfl,l,o,rfl,h1,h2,h3,h4⟩
      dsimp only
      by_cases hge:o ≥ hint+1
      · rw [if_pos hge]
        exact wpS_pure ⟨rfl,l,o,rfl,h1,h2,h4,.inl hge⟩
      · rw [if_neg hge]
        refine wpS_bind (gj hk hI (by omega) ?_)
        cases e2:bS left k (K arr (base+(hint - o))) with
        | true =>
          dsimp only
          rw [if_pos rfl]
          exact wpS_pure ⟨rfl,l,o,rfl,h1,h2,h4,.inr ⟨by omega,e2⟩⟩
        | false =>
          dsimp only
          rw [if_neg (by decide)]
          exact wpS_pure ⟨rfl,o,2*o+1,rfl,by omega,by omega,by omega,e2⟩
end
noncomputable abbrev key (p:Keyed):Int:=numOf p.1
theorem jj {xs:Array Keyed} {i:Nat} {p:Keyed} (h:xs[i]? = some p):K xs i=key p:=by unfold K; rw [h]
def cm (xs:Array Keyed):Prop:=∀ i j,i<=j->j < xs.size->K xs i<=K xs j
structure Mg (a b out:Array Keyed) (ia ib:Nat):Prop where
  ha:ia<=a.size
  hb:ib<=b.size
  perm:(out.toList++(a.toList.drop ia++b.toList.drop ib)).Perm (a.toList++b.toList)
  srt:(out.toList.map key).Pairwise (·<=·)
  lea:∀ x∈out.toList,∀ i,ia<=i->i < a.size->key x<=K a i
  leb:∀ x∈out.toList,∀ j,ib<=j->j < b.size->key x<=K b j
def Fin (a b R:Array Keyed):Prop:=R.toList.Perm (a.toList++b.toList)/\(R.toList.map key).Pairwise (·<=·)
variable {a b out:Array Keyed} {ia ib:Nat}
theorem tQ {xs:Array Keyed} {i:Nat} {p:Keyed} (h:xs[i]? = some p):xs.toList.drop i=p::xs.toList.drop (i+1):=by
  have hi:i < xs.size:=by
    rcases Nat.lt_or_ge i xs.size with z | z
    · exact z
    · rw [Array.getElem?_eq_none z] at h; cases h
  have hi':i < xs.toList.length:=by simpa using hi
  rw [List.drop_eq_getElem_cons hi']
  congr 1
  rw [Array.getElem?_eq_getElem hi] at h
  simpa using h
theorem Mg.pushA (m:Mg a b out ia ib) (sa:cm a) (sb:cm b) {p:Keyed} (e:a[ia]? = some p) (hi:ia < a.size) (le:ib < b.size->K a ia<=K b ib):Mg a b (out.push p) (ia+1) ib:=by
  have kp:=jj e
  refine ⟨hi,m.hb,?_,?_,?_,?_⟩
  · have h:=m.perm
    rw [tQ e] at h
    rw [Array.toList_push,List.append_assoc]
    exact h
  · rw [Array.toList_push,List.map_append,List.pairwise_append]
    refine ⟨m.srt,List.pairwise_singleton _ _,fun x hx y hy=>?_⟩
    obtain ⟨z,hz,rfl⟩:=List.mem_map.mp hx
    have hy:y=key p:=by simpa using hy
    rw [hy,<- kp]
    exact m.lea z hz ia (Nat.le_refl _) hi
  · intro x hx i h1 h2
    rw [Array.toList_push,List.mem_append] at hx
    rcases hx with hx | hx
    · exact m.lea x hx i (by omega) h2
    · have:x=p:=by simpa using hx
      rw [this,<- kp]
      exact sa ia i (by omega) h2
  · intro x hx j h1 h2
    rw [Array.toList_push,List.mem_append] at hx
    rcases hx with hx | hx
    · exact m.leb x hx j h1 h2
    · have:x=p:=by simpa using hx
      rw [this,<- kp]
      exact Int.le_trans (le (by omega)) (sb ib j h1 h2)
theorem wY (o:List Keyed) (x:Keyed) (r u:List Keyed):(o++[x]++(r++u)).Perm (o++(r++x::u)):=by
  rw [List.append_assoc]
  refine List.Perm.append_left o ?_
  show (x::(r++u)).Perm (r++x::u)
  exact List.perm_middle.symm
theorem Mg.pushB (m:Mg a b out ia ib) (sa:cm a) (sb:cm b) {p:Keyed} (e:b[ib]? = some p) (hi:ib < b.size) (le:ia < a.size->K b ib<=K a ia):Mg a b (out.push p) ia (ib+1):=by
  have kp:=jj e
  refine ⟨m.ha,hi,?_,?_,?_,?_⟩
  · have h:=m.perm
    rw [tQ e] at h
    rw [Array.toList_push]
    exact (wY _ _ _ _).trans h
  · rw [Array.toList_push,List.map_append,List.pairwise_append]
    refine ⟨m.srt,List.pairwise_singleton _ _,fun x hx y hy=>?_⟩
    obtain ⟨z,hz,rfl⟩:=List.mem_map.mp hx
    have hy:y=key p:=by simpa using hy
    rw [hy,<- kp]
    exact m.leb z hz ib (Nat.le_refl _) hi
  · intro x hx i h1 h2
    rw [Array.toList_push,List.mem_append] at hx
    rcases hx with hx | hx
    · exact m.lea x hx i h1 h2
    · have:x=p:=by simpa using hx
      rw [this,<- kp]
      exact Int.le_trans (le (by omega)) (sa ia i h1 h2)
  · intro x hx j h1 h2
    rw [Array.toList_push,List.mem_append] at hx
    rcases hx with hx | hx
    · exact m.leb x hx j (by omega) h2
    · have:x=p:=by simpa using hx
      rw [this,<- kp]
      exact sb ib j (by omega) h2
theorem qY {xs:Array Keyed} {i k:Nat} {p:Keyed} (e:xs[i+k]? = some p):xs.extract i (i+k+1)=(xs.extract i (i+k)).push p:=by
  have hi:i+k < xs.size:=by
    rcases Nat.lt_or_ge (i+k) xs.size with z | z
    · exact z
    · rw [Array.getElem?_eq_none z] at e; cases e
  rw [Array.getElem?_eq_getElem hi] at e
  apply Array.ext'
  rw [Array.toList_push,Array.toList_extract,Array.toList_extract]
  simp only [List.extract_eq_take_drop]
  rw [show i+k+1 - i=k+1 by omega,show i+k - i=k by omega]
  have hl:k < (xs.toList.drop i).length:=by simp; omega
  rw [List.take_succ_eq_append_getElem hl]
  congr 2
  simp
  simpa using e
theorem Mg.takeA (m:Mg a b out ia ib) (sa:cm a) (sb:cm b):∀ k,ia+k<=a.size->(∀ i,i < k->ib < b.size->K a (ia+i)<=K b ib)->Mg a b (out++a.extract ia (ia+k)) (ia+k) ib
  | 0,_,_=>by
    have e:a.extract ia (ia+0) = #[]:=by simp; omega
    rw [e,Array.append_empty]
    exact m
  | k+1,h1,h2=>by
    have ih:=Mg.takeA m sa sb k (by omega) (fun i hi=>h2 i (by omega))
    have e:a[ia+k]? = some a[ia+k]:=Array.getElem?_eq_getElem (by omega)
    have e2:=qY e
    rw [show ia+(k+1)=ia+k+1 by omega,e2,Array.append_push]
    exact ih.pushA sa sb e (by omega) (h2 k (by omega))
theorem Mg.takeB (m:Mg a b out ia ib) (sa:cm a) (sb:cm b):∀ k,ib+k<=b.size->(∀ i,i < k->ia < a.size->K b (ib+i)<=K a ia)->Mg a b (out++b.extract ib (ib+k)) ia (ib+k)
  | 0,_,_=>by
    have e:b.extract ib (ib+0) = #[]:=by simp; omega
    rw [e,Array.append_empty]
    exact m
  | k+1,h1,h2=>by
    have ih:=Mg.takeB m sa sb k (by omega) (fun i hi=>h2 i (by omega))
    have e:b[ib+k]? = some b[ib+k]:=Array.getElem?_eq_getElem (by omega)
    have e2:=qY e
    rw [show ib+(k+1)=ib+k+1 by omega,e2,Array.append_push]
    exact ih.pushB sa sb e (by omega) (h2 k (by omega))
theorem Mg.fin (m:Mg a b out a.size b.size):Fin a b out:=by
  refine ⟨?_,m.srt⟩
  have h:=m.perm
  rw [List.drop_eq_nil_of_le (by simp),List.drop_eq_nil_of_le (by simp),List.append_nil,List.append_nil] at h
  exact h
theorem Mg.doneB (m:Mg a b out ia ib) (sa:cm a) (sb:cm b) (h:ib=b.size):Fin a b (out++a.extract ia a.size++b.extract ib b.size):=by
  subst h
  have h1:=m.takeA sa sb (a.size - ia) (by have:=m.ha; omega) (fun i _ z=>by omega)
  rw [show ia+(a.size - ia)=a.size by have:=m.ha; omega] at h1
  have e:b.extract b.size b.size = #[]:=by simp
  rw [e,Array.append_empty]
  exact h1.fin
theorem Mg.doneA (m:Mg a b out ia ib) (sa:cm a) (sb:cm b) (h:ia=a.size):Fin a b (out++a.extract ia a.size++b.extract ib b.size):=by
  subst h
  have e:a.extract a.size a.size = #[]:=by simp
  rw [e,Array.append_empty]
  have h1:=m.takeB sa sb (b.size - ib) (by have:=m.hb; omega) (fun i _ z=>by omega)
  rw [show ib+(b.size - ib)=b.size by have:=m.hb; omega] at h1
  exact h1.fin
theorem Mg.last (m:Mg a b out ia ib) (sa:cm a) (sb:cm b) (h:ia+1=a.size) (top:∀ j,j < b.size->K b j<=K a ia):Fin a b (out++b.extract ib b.size++a.extract ia a.size):=by
  have h1:=m.takeB sa sb (b.size - ib) (by have:=m.hb; omega) (fun i _ z=>top _ (by omega))
  rw [show ib+(b.size - ib)=b.size by have:=m.hb; omega] at h1
  have h2:=h1.takeA sa sb (a.size - ia) (by omega) (fun i _ z=>by omega)
  rw [show ia+(a.size - ia)=a.size by omega] at h2
  exact h2.fin
section
variable {prog:Program} {w:World} {A:Around} {E:Value->Shared->Prop} {s:Shared}
noncomputable def setG (st:SortSt) (g:Nat):SortSt:=SortSt.mk' (kindOf st) (arrOf st) (pendingOf st) g (failedOf st)
noncomputable def iK:Nat->StateT SortSt Sem Unit:=sortPriv% PySem.Builtin.setMinGallop
theorem lO (g:Nat):iK g=modify fun s=>setG s g:=rfl
noncomputable def rM:Array Keyed->Array Keyed->StateT SortSt Sem (Array Keyed):=sortPriv% PySem.Builtin.mergeLo
theorem fv {st:SortSt} {g:Nat} {Q:Unit->SortSt->Prop} (h:Q () (setG st g)):wpS (model prog w) A E s (iK g) Q st:=by
  rw [lO]
  exact wpS_modify h
theorem sC {st:SortSt} {a b:Array Keyed} {Q:Array Keyed->SortSt->Prop} (hk:kindOf st=oneType') (hA:IntKeys a) (hB:IntKeys b) (sa:cm a) (sb:cm b) (na:1<=a.size) (nb:1<=b.size) (first:K b 0<=K a 0) (top:∀ j,j < b.size->K b j<=K a (a.size - 1))
    (h:∀ R g,Fin a b R->Q R (setG st g)):wpS (model prog w) A E s (rM a b) Q st:=by
  have top':∀ i,i+1=a.size->∀ j,j < b.size->K b j<=K a i:=fun i hi j hj=>by
    have:=top j hj
    rw [show a.size - 1=i by omega] at this
    exact this
  have m0:Mg a b #[] 0 0:=⟨Nat.zero_le _,Nat.zero_le _,List.Perm.refl _,.nil,(fun x hx=>by simp at hx),(fun x hx=>by simp at hx)⟩
  obtain ⟨t0,q0,e0⟩:=IntKeys.at hB (show 0 < b.size by omega)
  have m1:=m0.pushB sa sb e0 (by omega) (fun _=>first)
  unfold rM
  change wpS _ _ _ _ (bind _ _) _ _
  dsimp only
  refine wpS_bind (wpS_lift (wpAny_rule ⟨rfl,?_⟩))
  refine wpS_bind (av e0 ?_)
  by_cases hb1:1=b.size
  · rw [if_pos (by simpa using hb1)]
    exact wpS_pure (h _ (gallopOf st) (m1.doneB sa sb hb1))
  rw [if_neg (by simpa using hb1)]
  by_cases ha1:0+1=a.size
  · rw [if_pos (by simpa using ha1)]
    exact wpS_pure (h _ (gallopOf st) (m1.last sa sb ha1 (top' _ ha1)))
  rw [if_neg (by simpa using ha1)]
  refine wpS_bind (wpS_get ?_)
  refine wpS_bind (wpS_mono (wpS_forRange (I:=fun x c st'=>∃ g out ia ib mg,st'=setG st g/\c=(none,out,ia,ib,mg)/\Mg a b out ia ib/\ia+1 < a.size/\ib < b.size/\x+1<=ia+ib)
    (Q:=fun c st'=>∃ R g r,c=(some R,r)/\st'=setG st g/\Fin a b R) ?step ?fin ⟨gallopOf st,_,0,1,_,rfl,rfl,m1,by omega,by omega,by omega⟩) ?post)
  case post =>
    rintro c st' ⟨R,g,r,rfl,rfl,f⟩
    exact wpS_pure (h R g f)
  case fin =>
    rintro c st' ⟨g,out,ia,ib,mg,rfl,rfl,m,h1,h2,h3⟩
    omega
  case step =>
    rintro x c st' _ hx ⟨g,out,ia,ib,mg,rfl,rfl,m,h1,h2,h3⟩
    dsimp only
    refine wpS_bind (wpS_mono (wpS_forRange (I:=fun y c st'=>st'=setG st g/\∃ out ia ib ac bc,c=(none,out,ia,ib,ac,bc)/\Mg a b out ia ib/\ia+1 < a.size/\ib < b.size/\x+1+y<=ia+ib)
      (Q:=fun c st'=>st'=setG st g/\((∃ R r,c=(some R,r)/\Fin a b R)\/∃ out ia ib ac bc,c=(none,out,ia,ib,ac,bc)/\Mg a b out ia ib/\ia+1 < a.size/\ib < b.size/\x+2<=ia+ib)) ?st1 ?fin1 ⟨rfl,out,ia,ib,0,0,rfl,m,h1,h2,by omega⟩) ?post1)
    case fin1 =>
      rintro c st' ⟨rfl,out,ia,ib,ac,bc,rfl,m,h1,h2,h3⟩
      exact ⟨rfl,.inr ⟨out,ia,ib,ac,bc,rfl,m,h1,h2,by omega⟩⟩
    case st1 =>
      rintro y c st' _ hy ⟨rfl,out,ia,ib,ac,bc,rfl,m,h1,h2,h3⟩
      dsimp only
      obtain ⟨tb,qb,eb⟩:=IntKeys.at hB h2
      obtain ⟨ta,qa,ea⟩:=IntKeys.at hA (show ia < a.size by omega)
      refine wpS_bind (av eb ?_)
      refine wpS_bind (av ea ?_)
      refine wpS_bind (mF (st:=setG st g) hk ?_)
      by_cases hw:K b ib < K a ia
      · simp only [hw,decide_true,if_true]
        have m2:=m.pushB sa sb eb h2 (fun _=>Int.le_of_lt hw)
        refine wpS_bind (av eb ?_)
        by_cases h4:ib+1=b.size
        · rw [if_pos (by simpa using h4)]
          exact wpS_pure ⟨rfl,.inl ⟨_,_,rfl,m2.doneB sa sb h4⟩⟩
        · rw [if_neg (by simpa using h4)]
          split
          · exact wpS_pure ⟨rfl,.inr ⟨_,_,_,_,_,rfl,m2,by omega,by omega,by omega⟩⟩
          · exact wpS_pure ⟨rfl,_,_,_,_,_,rfl,m2,by omega,by omega,by omega⟩
      · simp only [hw,decide_false,Bool.false_eq_true,if_false]
        have m2:=m.pushA sa sb ea (by omega) (fun _=>Int.not_lt.mp hw)
        refine wpS_bind (av ea ?_)
        by_cases h4:ia+1+1=a.size
        · rw [if_pos (by simpa using h4)]
          exact wpS_pure ⟨rfl,.inl ⟨_,_,rfl,m2.last sa sb h4 (top' _ h4)⟩⟩
        · rw [if_neg (by simpa using h4)]
          split
          · exact wpS_pure ⟨rfl,.inr ⟨_,_,_,_,_,rfl,m2,by omega,by omega,by omega⟩⟩
          · exact wpS_pure ⟨rfl,_,_,_,_,_,rfl,m2,by omega,by omega,by omega⟩
    case post1 =>
      rintro c st' ⟨rfl,⟨R,r,rfl,f⟩ | ⟨out,ia,ib,ac,bc,rfl,m,h1,h2,h3⟩⟩
      · exact wpS_pure ⟨R,g,_,rfl,rfl,f⟩
      dsimp only
      refine wpS_bind (wpS_lift (wpAny_rule ⟨rfl,?_⟩))
      refine wpS_bind (wpS_mono (wpS_forRange (I:=fun y c st'=>∃ g out ia ib mg ac bc,st'=setG st g/\c=(none,out,ia,ib,mg,ac,bc)/\Mg a b out ia ib/\ia+1 < a.size/\ib < b.size/\x+2<=ia+ib)
        (Q:=fun c st'=>(∃ R g r,c=(some R,r)/\st'=setG st g/\Fin a b R)\/∃ g out ia ib mg ac bc,st'=setG st g/\c=(none,out,ia,ib,mg,ac,bc)/\Mg a b out ia ib/\ia+1 < a.size/\ib < b.size/\x+2<=ia+ib) ?st2 ?fin2 ⟨g,out,ia,ib,_,ac,bc,rfl,rfl,m,h1,h2,h3⟩) ?post2)
      case fin2 =>
        rintro c st' ⟨g,out,ia,ib,mg,ac,bc,rfl,rfl,m,h1,h2,h3⟩
        exact .inr ⟨g,out,ia,ib,mg,ac,bc,rfl,rfl,m,h1,h2,h3⟩
      case post2 =>
        rintro c st' (⟨R,g,r,rfl,rfl,f⟩ | ⟨g,out,ia,ib,mg,ac,bc,rfl,rfl,m,h1,h2,h3⟩)
        · exact wpS_pure ⟨R,g,_,rfl,rfl,f⟩
        · dsimp only
          refine wpS_bind (fv ?_)
          exact wpS_pure ⟨mg+1,out,ia,ib,mg+1,rfl,rfl,m,h1,h2,by omega⟩
      case st2 =>
        rintro y c st' _ hy ⟨g,out,ia,ib,mg,ac,bc,rfl,rfl,m,h1,hib,h3⟩
        dsimp only
        by_cases hmg:mg > 1
        · rw [if_pos hmg]
          obtain ⟨tb,qb,eb⟩:=IntKeys.at hB hib
          refine wpS_bind (fv ?_)
          show wpS _ _ _ _ _ _ (setG st (mg - 1))
          obtain ⟨gg,egg⟩:∃ gg,(mg - 1)=gg:=⟨_,rfl⟩
          rw [egg]
          refine wpS_bind (av eb ?_)
          refine wpS_bind (bD (st:=setG st gg) hk hA (by omega) (by omega) (fun i j h6 h7=>sa _ _ (by omega) (by omega)) fun k kn low high=>?_)
          dsimp only
          by_cases hk1:k > 0
          · rw [if_pos hk1]
            have m1:=m.takeA sa sb k (by omega) (fun i hi _=>by have:=low i hi; unfold bS at this; simp at this; omega)
            by_cases h2:ia+k+1=a.size
            · rw [if_pos (by simpa using h2)]
              exact wpS_pure (.inl ⟨_,_,_,rfl,rfl,m1.last sa sb h2 (top' _ h2)⟩)
            · rw [if_neg (by simpa using h2)]
              by_cases h3:ia+k=a.size
              · rw [if_pos (by simpa using h3)]
                exact wpS_pure (.inl ⟨_,_,_,rfl,rfl,m1.doneA sa sb h3⟩)
              · rw [if_neg (by simpa using h3)]
                have leb:ia+k < a.size->K b ib<=K a (ia+k):=fun z=>by have:=high k (Nat.le_refl _) (by omega); unfold bS at this; simp at this; omega
                have m2:=m1.pushB sa sb eb hib leb
                obtain ⟨ta,qa,ea2⟩:=IntKeys.at hA (show ia+k < a.size by omega)
                refine wpS_bind (av eb ?_)
                by_cases h4:ib+1=b.size
                · rw [if_pos (by simpa using h4)]
                  exact wpS_pure (.inl ⟨_,_,_,rfl,rfl,m2.doneB sa sb h4⟩)
                · rw [if_neg (by simpa using h4)]
                  refine wpS_bind (av ea2 ?_)
                  refine wpS_bind (bD (st:=setG st gg) hk hB (by omega) (by omega) (fun i j h6 h7=>sb _ _ (by omega) (by omega)) fun k2 k2n low2 high2=>?_)
                  dsimp only
                  by_cases hk2:k2 > 0
                  · rw [if_pos hk2]
                    have m2':=m2.takeB sa sb k2 (by omega) (fun i hi _=>Int.le_of_lt (of_decide_eq_true (low2 i hi)))
                    by_cases h8:ib+1+k2=b.size
                    · rw [if_pos (by simpa using h8)]
                      exact wpS_pure (.inl ⟨_,_,_,rfl,rfl,m2'.doneB sa sb h8⟩)
                    · rw [if_neg (by simpa using h8)]
                      have le3:ib+1+k2 < b.size->K a (ia+k)<=K b (ib+1+k2):=fun z=>Int.not_lt.mp (of_decide_eq_false (high2 k2 (Nat.le_refl _) (by omega)))
                      have m3:=m2'.pushA sa sb ea2 (by omega) le3
                      refine wpS_bind (av ea2 ?_)
                      by_cases h5:ia+k+1+1=a.size
                      · rw [if_pos (by simpa using h5)]
                        exact wpS_pure (.inl ⟨_,_,_,rfl,rfl,m3.last sa sb h5 (top' _ h5)⟩)
                      · rw [if_neg (by simpa using h5)]
                        split
                        · exact wpS_pure (.inr ⟨_,_,_,_,_,_,_,rfl,rfl,m3,by omega,by omega,by omega⟩)
                        · exact wpS_pure ⟨_,_,_,_,_,_,_,rfl,rfl,m3,by omega,by omega,by omega⟩
                  · rw [if_neg hk2]
                    have k20:k2=0:=by omega
                    subst k20
                    have le3:ib+1 < b.size->K a (ia+k)<=K b (ib+1):=fun z=>Int.not_lt.mp (of_decide_eq_false (high2 0 (Nat.le_refl _) (by omega)))
                    have m3:=m2.pushA sa sb ea2 (by omega) le3
                    refine wpS_bind (av ea2 ?_)
                    by_cases h5:ia+k+1+1=a.size
                    · rw [if_pos (by simpa using h5)]
                      exact wpS_pure (.inl ⟨_,_,_,rfl,rfl,m3.last sa sb h5 (top' _ h5)⟩)
                    · rw [if_neg (by simpa using h5)]
                      split
                      · exact wpS_pure (.inr ⟨_,_,_,_,_,_,_,rfl,rfl,m3,by omega,by omega,by omega⟩)
                      · exact wpS_pure ⟨_,_,_,_,_,_,_,rfl,rfl,m3,by omega,by omega,by omega⟩
          · rw [if_neg hk1]
            have k0:k=0:=by omega
            subst k0
            have leb:ia < a.size->K b ib<=K a (ia):=fun z=>by have:=high 0 (Nat.le_refl _) (by omega); unfold bS at this; simp at this; omega
            have m2:=m.pushB sa sb eb hib leb
            obtain ⟨ta,qa,ea2⟩:=IntKeys.at hA (show ia < a.size by omega)
            refine wpS_bind (av eb ?_)
            by_cases h4:ib+1=b.size
            · rw [if_pos (by simpa using h4)]
              exact wpS_pure (.inl ⟨_,_,_,rfl,rfl,m2.doneB sa sb h4⟩)
            · rw [if_neg (by simpa using h4)]
              refine wpS_bind (av ea2 ?_)
              refine wpS_bind (bD (st:=setG st gg) hk hB (by omega) (by omega) (fun i j h6 h7=>sb _ _ (by omega) (by omega)) fun k2 k2n low2 high2=>?_)
              dsimp only
              by_cases hk2:k2 > 0
              · rw [if_pos hk2]
                have m2':=m2.takeB sa sb k2 (by omega) (fun i hi _=>Int.le_of_lt (of_decide_eq_true (low2 i hi)))
                by_cases h8:ib+1+k2=b.size
                · rw [if_pos (by simpa using h8)]
                  exact wpS_pure (.inl ⟨_,_,_,rfl,rfl,m2'.doneB sa sb h8⟩)
                · rw [if_neg (by simpa using h8)]
                  have le3:ib+1+k2 < b.size->K a ia<=K b (ib+1+k2):=fun z=>Int.not_lt.mp (of_decide_eq_false (high2 k2 (Nat.le_refl _) (by omega)))
                  have m3:=m2'.pushA sa sb ea2 (by omega) le3
                  refine wpS_bind (av ea2 ?_)
                  by_cases h5:ia+1+1=a.size
                  · rw [if_pos (by simpa using h5)]
                    exact wpS_pure (.inl ⟨_,_,_,rfl,rfl,m3.last sa sb h5 (top' _ h5)⟩)
                  · rw [if_neg (by simpa using h5)]
                    split
                    · exact wpS_pure (.inr ⟨_,_,_,_,_,_,_,rfl,rfl,m3,by omega,by omega,by omega⟩)
                    · exact wpS_pure ⟨_,_,_,_,_,_,_,rfl,rfl,m3,by omega,by omega,by omega⟩
              · rw [if_neg hk2]
                have k20:k2=0:=by omega
                subst k20
                have le3:ib+1 < b.size->K a ia<=K b (ib+1):=fun z=>Int.not_lt.mp (of_decide_eq_false (high2 0 (Nat.le_refl _) (by omega)))
                have m3:=m2.pushA sa sb ea2 (by omega) le3
                refine wpS_bind (av ea2 ?_)
                by_cases h5:ia+1+1=a.size
                · rw [if_pos (by simpa using h5)]
                  exact wpS_pure (.inl ⟨_,_,_,rfl,rfl,m3.last sa sb h5 (top' _ h5)⟩)
                · rw [if_neg (by simpa using h5)]
                  split
                  · exact wpS_pure (.inr ⟨_,_,_,_,_,_,_,rfl,rfl,m3,by omega,by omega,by omega⟩)
                  · exact wpS_pure ⟨_,_,_,_,_,_,_,rfl,rfl,m3,by omega,by omega,by omega⟩
        · rw [if_neg hmg]
          obtain ⟨tb,qb,eb⟩:=IntKeys.at hB hib
          refine wpS_bind (fv ?_)
          show wpS _ _ _ _ _ _ (setG st mg)
          obtain ⟨gg,egg⟩:∃ gg,mg=gg:=⟨_,rfl⟩
          rw [egg]
          refine wpS_bind (av eb ?_)
          refine wpS_bind (bD (st:=setG st gg) hk hA (by omega) (by omega) (fun i j h6 h7=>sa _ _ (by omega) (by omega)) fun k kn low high=>?_)
          dsimp only
          by_cases hk1:k > 0
          · rw [if_pos hk1]
            have m1:=m.takeA sa sb k (by omega) (fun i hi _=>by have:=low i hi; unfold bS at this; simp at this; omega)
            by_cases h2:ia+k+1=a.size
            · rw [if_pos (by simpa using h2)]
              exact wpS_pure (.inl ⟨_,_,_,rfl,rfl,m1.last sa sb h2 (top' _ h2)⟩)
            · rw [if_neg (by simpa using h2)]
              by_cases h3:ia+k=a.size
              · rw [if_pos (by simpa using h3)]
                exact wpS_pure (.inl ⟨_,_,_,rfl,rfl,m1.doneA sa sb h3⟩)
              · rw [if_neg (by simpa using h3)]
                have leb:ia+k < a.size->K b ib<=K a (ia+k):=fun z=>by have:=high k (Nat.le_refl _) (by omega); unfold bS at this; simp at this; omega
                have m2:=m1.pushB sa sb eb hib leb
                obtain ⟨ta,qa,ea2⟩:=IntKeys.at hA (show ia+k < a.size by omega)
                refine wpS_bind (av eb ?_)
                by_cases h4:ib+1=b.size
                · rw [if_pos (by simpa using h4)]
                  exact wpS_pure (.inl ⟨_,_,_,rfl,rfl,m2.doneB sa sb h4⟩)
                · rw [if_neg (by simpa using h4)]
                  refine wpS_bind (av ea2 ?_)
                  refine wpS_bind (bD (st:=setG st gg) hk hB (by omega) (by omega) (fun i j h6 h7=>sb _ _ (by omega) (by omega)) fun k2 k2n low2 high2=>?_)
                  dsimp only
                  by_cases hk2:k2 > 0
                  · rw [if_pos hk2]
                    have m2':=m2.takeB sa sb k2 (by omega) (fun i hi _=>Int.le_of_lt (of_decide_eq_true (low2 i hi)))
                    by_cases h8:ib+1+k2=b.size
                    · rw [if_pos (by simpa using h8)]
                      exact wpS_pure (.inl ⟨_,_,_,rfl,rfl,m2'.doneB sa sb h8⟩)
                    · rw [if_neg (by simpa using h8)]
                      have le3:ib+1+k2 < b.size->K a (ia+k)<=K b (ib+1+k2):=fun z=>Int.not_lt.mp (of_decide_eq_false (high2 k2 (Nat.le_refl _) (by omega)))
                      have m3:=m2'.pushA sa sb ea2 (by omega) le3
                      refine wpS_bind (av ea2 ?_)
                      by_cases h5:ia+k+1+1=a.size
                      · rw [if_pos (by simpa using h5)]
                        exact wpS_pure (.inl ⟨_,_,_,rfl,rfl,m3.last sa sb h5 (top' _ h5)⟩)
                      · rw [if_neg (by simpa using h5)]
                        split
                        · exact wpS_pure (.inr ⟨_,_,_,_,_,_,_,rfl,rfl,m3,by omega,by omega,by omega⟩)
                        · exact wpS_pure ⟨_,_,_,_,_,_,_,rfl,rfl,m3,by omega,by omega,by omega⟩
                  · rw [if_neg hk2]
                    have k20:k2=0:=by omega
                    subst k20
                    have le3:ib+1 < b.size->K a (ia+k)<=K b (ib+1):=fun z=>Int.not_lt.mp (of_decide_eq_false (high2 0 (Nat.le_refl _) (by omega)))
                    have m3:=m2.pushA sa sb ea2 (by omega) le3
                    refine wpS_bind (av ea2 ?_)
                    by_cases h5:ia+k+1+1=a.size
                    · rw [if_pos (by simpa using h5)]
                      exact wpS_pure (.inl ⟨_,_,_,rfl,rfl,m3.last sa sb h5 (top' _ h5)⟩)
                    · rw [if_neg (by simpa using h5)]
                      split
                      · exact wpS_pure (.inr ⟨_,_,_,_,_,_,_,rfl,rfl,m3,by omega,by omega,by omega⟩)
                      · exact wpS_pure ⟨_,_,_,_,_,_,_,rfl,rfl,m3,by omega,by omega,by omega⟩
          · rw [if_neg hk1]
            have k0:k=0:=by omega
            subst k0
            have leb:ia < a.size->K b ib<=K a (ia):=fun z=>by have:=high 0 (Nat.le_refl _) (by omega); unfold bS at this; simp at this; omega
            have m2:=m.pushB sa sb eb hib leb
            obtain ⟨ta,qa,ea2⟩:=IntKeys.at hA (show ia < a.size by omega)
            refine wpS_bind (av eb ?_)
            by_cases h4:ib+1=b.size
            · rw [if_pos (by simpa using h4)]
              exact wpS_pure (.inl ⟨_,_,_,rfl,rfl,m2.doneB sa sb h4⟩)
            · rw [if_neg (by simpa using h4)]
              refine wpS_bind (av ea2 ?_)
              refine wpS_bind (bD (st:=setG st gg) hk hB (by omega) (by omega) (fun i j h6 h7=>sb _ _ (by omega) (by omega)) fun k2 k2n low2 high2=>?_)
              dsimp only
              by_cases hk2:k2 > 0
              · rw [if_pos hk2]
                have m2':=m2.takeB sa sb k2 (by omega) (fun i hi _=>Int.le_of_lt (of_decide_eq_true (low2 i hi)))
                by_cases h8:ib+1+k2=b.size
                · rw [if_pos (by simpa using h8)]
                  exact wpS_pure (.inl ⟨_,_,_,rfl,rfl,m2'.doneB sa sb h8⟩)
                · rw [if_neg (by simpa using h8)]
                  have le3:ib+1+k2 < b.size->K a ia<=K b (ib+1+k2):=fun z=>Int.not_lt.mp (of_decide_eq_false (high2 k2 (Nat.le_refl _) (by omega)))
                  have m3:=m2'.pushA sa sb ea2 (by omega) le3
                  refine wpS_bind (av ea2 ?_)
                  by_cases h5:ia+1+1=a.size
                  · rw [if_pos (by simpa using h5)]
                    exact wpS_pure (.inl ⟨_,_,_,rfl,rfl,m3.last sa sb h5 (top' _ h5)⟩)
                  · rw [if_neg (by simpa using h5)]
                    split
                    · exact wpS_pure (.inr ⟨_,_,_,_,_,_,_,rfl,rfl,m3,by omega,by omega,by omega⟩)
                    · exact wpS_pure ⟨_,_,_,_,_,_,_,rfl,rfl,m3,by omega,by omega,by omega⟩
              · rw [if_neg hk2]
                have k20:k2=0:=by omega
                subst k20
                have le3:ib+1 < b.size->K a ia<=K b (ib+1):=fun z=>Int.not_lt.mp (of_decide_eq_false (high2 0 (Nat.le_refl _) (by omega)))
                have m3:=m2.pushA sa sb ea2 (by omega) le3
                refine wpS_bind (av ea2 ?_)
                by_cases h5:ia+1+1=a.size
                · rw [if_pos (by simpa using h5)]
                  exact wpS_pure (.inl ⟨_,_,_,rfl,rfl,m3.last sa sb h5 (top' _ h5)⟩)
                · rw [if_neg (by simpa using h5)]
                  split
                  · exact wpS_pure (.inr ⟨_,_,_,_,_,_,_,rfl,rfl,m3,by omega,by omega,by omega⟩)
                  · exact wpS_pure ⟨_,_,_,_,_,_,_,rfl,rfl,m3,by omega,by omega,by omega⟩
end
structure Mh (a b out:Array Keyed) (na nb:Nat):Prop where
  ha:na<=a.size
  hb:nb<=b.size
  perm:(a.toList.take na++(b.toList.take nb++out.toList.reverse)).Perm (a.toList++b.toList)
  srt:(out.toList.map key).Pairwise (fun x y=>y<=x)
  lea:∀ x∈out.toList,∀ i,i < na->K a i<=key x
  leb:∀ x∈out.toList,∀ j,j < nb->K b j<=key x
theorem tx {xs:Array Keyed} {n:Nat} {p:Keyed} (h:xs[n]? = some p):xs.toList.take (n+1)=xs.toList.take n++[p]:=by
  have hi:n < xs.size:=by
    rcases Nat.lt_or_ge n xs.size with z | z
    · exact z
    · rw [Array.getElem?_eq_none z] at h; cases h
  have hi':n < xs.toList.length:=by simpa using hi
  rw [List.take_succ_eq_append_getElem hi']
  congr 2
  rw [Array.getElem?_eq_getElem hi] at h
  simpa using h
variable {na nb:Nat}
theorem Mh.pushA (m:Mh a b out (na+1) nb) (sa:cm a) (sb:cm b) {p:Keyed} (e:a[na]? = some p) (le:0 < nb->K b (nb - 1)<=K a na):Mh a b (out.push p) na nb:=by
  have kp:=jj e
  have ha:=m.ha
  refine ⟨by omega,m.hb,?_,?_,?_,?_⟩
  · have h:=m.perm
    rw [tx e] at h
    rw [Array.toList_push,List.reverse_append]
    refine List.Perm.trans ?_ h
    rw [List.append_assoc]
    refine List.Perm.append_left _ ?_
    show (b.toList.take nb++p::out.toList.reverse).Perm (p::(b.toList.take nb++out.toList.reverse))
    exact List.perm_middle
  · rw [Array.toList_push,List.map_append,List.pairwise_append]
    refine ⟨m.srt,List.pairwise_singleton _ _,fun x hx y hy=>?_⟩
    obtain ⟨z,hz,rfl⟩:=List.mem_map.mp hx
    have hy:y=key p:=by simpa using hy
    rw [hy,<- kp]
    exact m.lea z hz na (by omega)
  · intro x hx i h1
    rw [Array.toList_push,List.mem_append] at hx
    rcases hx with hx | hx
    · exact m.lea x hx i (by omega)
    · have:x=p:=by simpa using hx
      rw [this,<- kp]
      exact sa i na (by omega) (by omega)
  · intro x hx j h1
    rw [Array.toList_push,List.mem_append] at hx
    rcases hx with hx | hx
    · exact m.leb x hx j h1
    · have:x=p:=by simpa using hx
      rw [this,<- kp]
      exact Int.le_trans (sb j (nb - 1) (by omega) (by have:=m.hb; omega)) (le (by omega))
theorem Mh.pushB (m:Mh a b out na (nb+1)) (sa:cm a) (sb:cm b) {p:Keyed} (e:b[nb]? = some p) (le:0 < na->K a (na - 1)<=K b nb):Mh a b (out.push p) na nb:=by
  have kp:=jj e
  have hb:=m.hb
  refine ⟨m.ha,by omega,?_,?_,?_,?_⟩
  · have h:=m.perm
    rw [tx e] at h
    rw [Array.toList_push,List.reverse_append]
    refine List.Perm.trans ?_ h
    rw [List.append_assoc]
    exact List.Perm.refl _
  · rw [Array.toList_push,List.map_append,List.pairwise_append]
    refine ⟨m.srt,List.pairwise_singleton _ _,fun x hx y hy=>?_⟩
    obtain ⟨z,hz,rfl⟩:=List.mem_map.mp hx
    have hy:y=key p:=by simpa using hy
    rw [hy,<- kp]
    exact m.leb z hz nb (by omega)
  · intro x hx i h1
    rw [Array.toList_push,List.mem_append] at hx
    rcases hx with hx | hx
    · exact m.lea x hx i h1
    · have:x=p:=by simpa using hx
      rw [this,<- kp]
      exact Int.le_trans (sa i (na - 1) (by omega) (by have:=m.ha; omega)) (le (by omega))
  · intro x hx j h1
    rw [Array.toList_push,List.mem_append] at hx
    rcases hx with hx | hx
    · exact m.leb x hx j (by omega)
    · have:x=p:=by simpa using hx
      rw [this,<- kp]
      exact sb j nb (by omega) (by omega)
theorem qR {xs:Array Keyed} {i n:Nat} {p:Keyed} (hi:i<=n) (e:xs[i]? = some p) (hn:n<=xs.size) (hlt:i < n):(xs.extract i n).reverse=(xs.extract (i+1) n).reverse.push p:=by
  have hz:i < xs.size:=by omega
  rw [Array.getElem?_eq_getElem hz] at e
  apply Array.ext'
  rw [Array.toList_push,Array.toList_reverse,Array.toList_reverse,Array.toList_extract,Array.toList_extract]
  simp only [List.extract_eq_take_drop]
  have hl:i < xs.toList.length:=by simpa using hz
  rw [List.drop_eq_getElem_cons hl,show n - i=(n - (i+1))+1 by omega,List.take_succ_cons,List.reverse_cons]
  congr 2
  simpa using e
theorem Mh.takeA (sa:cm a) (sb:cm b):∀ (k:Nat) {na:Nat} {out:Array Keyed},Mh a b out na nb->∀ lo,lo+k=na->(∀ i,lo<=i->i < na->0 < nb->K b (nb - 1)<=K a i)->Mh a b (out++(a.extract lo na).reverse) lo nb
  | 0,na,out,m,lo,h,_=>by
    have:lo=na:=by omega
    subst this
    have e:a.extract lo lo = #[]:=by simp; omega
    rw [e]
    simpa using m
  | k+1,na,out,m,lo,h,h2=>by
    have ih:=Mh.takeA sa sb k m (lo+1) (by omega) (fun i hi=>h2 i (by omega))
    have ha:=m.ha
    have e:a[lo]? = some a[lo]:=Array.getElem?_eq_getElem (by omega)
    rw [qR (by omega) e ha (by omega),Array.append_push]
    exact ih.pushA sa sb e (h2 lo (Nat.le_refl _) (by omega))
theorem Mh.takeB (sa:cm a) (sb:cm b):∀ (k:Nat) {nb:Nat} {out:Array Keyed},Mh a b out na nb->∀ lo,lo+k=nb->(∀ i,lo<=i->i < nb->0 < na->K a (na - 1)<=K b i)->Mh a b (out++(b.extract lo nb).reverse) na lo
  | 0,nb,out,m,lo,h,_=>by
    have:lo=nb:=by omega
    subst this
    have e:b.extract lo lo = #[]:=by simp; omega
    rw [e]
    simpa using m
  | k+1,nb,out,m,lo,h,h2=>by
    have ih:=Mh.takeB sa sb k m (lo+1) (by omega) (fun i hi=>h2 i (by omega))
    have hb:=m.hb
    have e:b[lo]? = some b[lo]:=Array.getElem?_eq_getElem (by omega)
    rw [qR (by omega) e hb (by omega),Array.append_push]
    exact ih.pushB sa sb e (h2 lo (Nat.le_refl _) (by omega))
theorem Mh.fin (m:Mh a b out 0 0):Fin a b out.reverse:=by
  have h:=m.perm
  refine ⟨?_,?_⟩
  · rw [Array.toList_reverse]; exact h
  · rw [Array.toList_reverse,List.map_reverse,List.pairwise_reverse]
    exact m.srt
theorem Mh.doneA (m:Mh a b out na nb) (sa:cm a) (sb:cm b) (h:na=0):Fin a b (a.extract 0 na++b.extract 0 nb++out.reverse):=by
  subst h
  have h1:=Mh.takeB sa sb nb m 0 (by omega) (fun i _ _ z=>by omega)
  have h2:=h1.fin
  have e:a.extract 0 0 = #[]:=by simp
  rw [e]
  simpa using h2
theorem Mh.doneB (m:Mh a b out na nb) (sa:cm a) (sb:cm b) (h:nb=0):Fin a b (a.extract 0 na++b.extract 0 nb++out.reverse):=by
  subst h
  have h1:=Mh.takeA sa sb na m 0 (by omega) (fun i _ _ z=>by omega)
  have h2:=h1.fin
  have e:b.extract 0 0 = #[]:=by simp
  rw [e]
  simpa using h2
theorem Mh.firstB (m:Mh a b out na nb) (sa:cm a) (sb:cm b) (h:nb=1) (first:∀ i,i < a.size->K b 0<=K a i):Fin a b (b.extract 0 nb++a.extract 0 na++out.reverse):=by
  subst h
  have h1:=Mh.takeA sa sb na m 0 (by omega) (fun i _ z _=>first i (by have:=m.ha; omega))
  have h2:=Mh.takeB sa sb 1 h1 0 rfl (fun i _ _ z=>by omega)
  have h3:=h2.fin
  simpa using h3
section
variable {prog:Program} {w:World} {A:Around} {E:Value->Shared->Prop} {s:Shared}
noncomputable def rJ:Array Keyed->Array Keyed->StateT SortSt Sem (Array Keyed):=sortPriv% PySem.Builtin.mergeHi
theorem sP {st:SortSt} {a b:Array Keyed} {Q:Array Keyed->SortSt->Prop} (hk:kindOf st=oneType') (hA:IntKeys a) (hB:IntKeys b) (sa:cm a) (sb:cm b) (na0:1<=a.size) (nb0:1<=b.size) (first:K b 0<=K a 0) (top:∀ j,j < b.size->K b j<=K a (a.size - 1))
    (h:∀ R g,Fin a b R->Q R (setG st g)):wpS (model prog w) A E s (rJ a b) Q st:=by
  have first':∀ i,i < a.size->K b 0<=K a i:=fun i hi=>Int.le_trans first (sa 0 i (Nat.zero_le _) hi)
  have m0:Mh a b #[] (a.size - 1+1) b.size:=⟨by omega,Nat.le_refl _,by rw [List.take_of_length_le (by simp; omega),List.take_of_length_le (by simp)]; simp,.nil,(fun x hx=>by simp at hx),(fun x hx=>by simp at hx)⟩
  obtain ⟨t0,q0,e0⟩:=IntKeys.at hA (show a.size - 1 < a.size by omega)
  have m1:=m0.pushA sa sb e0 (fun _=>top _ (by omega))
  unfold rJ
  change wpS _ _ _ _ (bind _ _) _ _
  dsimp only
  refine wpS_bind (wpS_lift (wpAny_rule ⟨rfl,?_⟩))
  refine wpS_bind (av e0 ?_)
  by_cases ha1:a.size - 1=0
  · rw [if_pos (by simpa using ha1)]
    exact wpS_pure (h _ (gallopOf st) (m1.doneA sa sb ha1))
  rw [if_neg (by simpa using ha1)]
  by_cases hb1:b.size=1
  · rw [if_pos (by simpa using hb1)]
    exact wpS_pure (h _ (gallopOf st) (m1.firstB sa sb hb1 first'))
  rw [if_neg (by simpa using hb1)]
  refine wpS_bind (wpS_get ?_)
  refine wpS_bind (wpS_mono (wpS_forRange (I:=fun x c st'=>∃ g na nb out mg,st'=setG st g/\c=(none,na,nb,out,mg)/\Mh a b out na nb/\1<=na/\2<=nb/\x+1+na+nb<=a.size+b.size)
    (Q:=fun c st'=>∃ R g r,c=(some R,r)/\st'=setG st g/\Fin a b R) ?step ?fin ⟨gallopOf st,a.size - 1,b.size,_,_,rfl,rfl,m1,by omega,by omega,by omega⟩) ?post)
  case post =>
    rintro c st' ⟨R,g,r,rfl,rfl,f⟩
    exact wpS_pure (h R g f)
  case fin =>
    rintro c st' ⟨g,na,nb,out,mg,rfl,rfl,m,h1,h2,h3⟩
    omega
  case step =>
    rintro x c st' _ hx ⟨g,na,nb,out,mg,rfl,rfl,m,h1,h2,h3⟩
    dsimp only
    refine wpS_bind (wpS_mono (wpS_forRange (I:=fun y c st'=>st'=setG st g/\∃ na nb out ac bc,c=(none,na,nb,out,ac,bc)/\Mh a b out na nb/\1<=na/\2<=nb/\x+1+y+na+nb<=a.size+b.size)
      (Q:=fun c st'=>st'=setG st g/\((∃ R r,c=(some R,r)/\Fin a b R)\/∃ na nb out ac bc,c=(none,na,nb,out,ac,bc)/\Mh a b out na nb/\1<=na/\2<=nb/\x+2+na+nb<=a.size+b.size)) ?st1 ?fin1 ⟨rfl,na,nb,out,0,0,rfl,m,h1,h2,by omega⟩) ?post1)
    case fin1 =>
      rintro c st' ⟨rfl,na,nb,out,ac,bc,rfl,m,h1,h2,h3⟩
      exact ⟨rfl,.inr ⟨na,nb,out,ac,bc,rfl,m,h1,h2,by omega⟩⟩
    case st1 =>
      rintro y c st' _ hy ⟨rfl,na,nb,out,ac,bc,rfl,m,h1,h2,h3⟩
      dsimp only
      have haz:=m.ha
      have hbz:=m.hb
      obtain ⟨tb,qb,eb⟩:=IntKeys.at hB (show nb - 1 < b.size by omega)
      obtain ⟨ta,qa,ea⟩:=IntKeys.at hA (show na - 1 < a.size by omega)
      refine wpS_bind (av eb ?_)
      refine wpS_bind (av ea ?_)
      refine wpS_bind (mF (st:=setG st g) hk ?_)
      by_cases hw:K b (nb - 1) < K a (na - 1)
      · simp only [hw,decide_true,if_true]
        have m2:Mh a b _ (na - 1) nb:=Mh.pushA (na:=na - 1) (by rw [show na - 1+1=na by omega]; exact m) sa sb ea (fun _=>Int.le_of_lt hw)
        refine wpS_bind (av ea ?_)
        by_cases h4:na - 1=0
        · rw [if_pos (by simpa using h4)]
          exact wpS_pure ⟨rfl,.inl ⟨_,_,rfl,m2.doneA sa sb h4⟩⟩
        · rw [if_neg (by simpa using h4)]
          split
          · exact wpS_pure ⟨rfl,.inr ⟨_,_,_,_,_,rfl,m2,by omega,by omega,by omega⟩⟩
          · exact wpS_pure ⟨rfl,_,_,_,_,_,rfl,m2,by omega,by omega,by omega⟩
      · simp only [hw,decide_false,Bool.false_eq_true,if_false]
        have m2:Mh a b _ na (nb - 1):=Mh.pushB (nb:=nb - 1) (by rw [show nb - 1+1=nb by omega]; exact m) sa sb eb (fun _=>Int.not_lt.mp hw)
        refine wpS_bind (av eb ?_)
        by_cases h4:nb - 1=1
        · rw [if_pos (by simpa using h4)]
          exact wpS_pure ⟨rfl,.inl ⟨_,_,rfl,m2.firstB sa sb h4 first'⟩⟩
        · rw [if_neg (by simpa using h4)]
          split
          · exact wpS_pure ⟨rfl,.inr ⟨_,_,_,_,_,rfl,m2,by omega,by omega,by omega⟩⟩
          · exact wpS_pure ⟨rfl,_,_,_,_,_,rfl,m2,by omega,by omega,by omega⟩
    case post1 =>
      rintro c st' ⟨rfl,⟨R,r,rfl,f⟩ | ⟨na,nb,out,ac,bc,rfl,m,h1,h2,h3⟩⟩
      · exact wpS_pure ⟨R,g,_,rfl,rfl,f⟩
      dsimp only
      refine wpS_bind (wpS_lift (wpAny_rule ⟨rfl,?_⟩))
      refine wpS_bind (wpS_mono (wpS_forRange (I:=fun y c st'=>∃ g na nb out mg ac bc,st'=setG st g/\c=(none,na,nb,out,mg,ac,bc)/\Mh a b out na nb/\1<=na/\2<=nb/\x+2+na+nb<=a.size+b.size)
        (Q:=fun c st'=>(∃ R g r,c=(some R,r)/\st'=setG st g/\Fin a b R)\/∃ g na nb out mg ac bc,st'=setG st g/\c=(none,na,nb,out,mg,ac,bc)/\Mh a b out na nb/\1<=na/\2<=nb/\x+2+na+nb<=a.size+b.size) ?st2 ?fin2 ⟨g,na,nb,out,_,ac,bc,rfl,rfl,m,h1,h2,h3⟩) ?post2)
      case fin2 =>
        rintro c st' ⟨g,na,nb,out,mg,ac,bc,rfl,rfl,m,h1,h2,h3⟩
        exact .inr ⟨g,na,nb,out,mg,ac,bc,rfl,rfl,m,h1,h2,h3⟩
      case post2 =>
        rintro c st' (⟨R,g,r,rfl,rfl,f⟩ | ⟨g,na,nb,out,mg,ac,bc,rfl,rfl,m,h1,h2,h3⟩)
        · exact wpS_pure ⟨R,g,_,rfl,rfl,f⟩
        · dsimp only
          refine wpS_bind (fv ?_)
          exact wpS_pure ⟨mg+1,na,nb,out,mg+1,rfl,rfl,m,h1,h2,by omega⟩
      case st2 =>
        rintro y c st' _ hy ⟨g,na,nb,out,mg,ac,bc,rfl,rfl,m,h1,hib,h3⟩
        dsimp only
        by_cases hmg:mg > 1
        · rw [if_pos hmg]
          have hbz:nb<=b.size:=m.hb
          have haz:na<=a.size:=m.ha
          obtain ⟨tb,qb,eb⟩:=IntKeys.at hB (show nb - 1 < b.size by omega)
          refine wpS_bind (fv ?_)
          show wpS _ _ _ _ _ _ (setG st (mg - 1))
          obtain ⟨gg,egg⟩:∃ gg,(mg - 1)=gg:=⟨_,rfl⟩
          rw [egg]
          refine wpS_bind (av eb ?_)
          refine wpS_bind (bD (st:=setG st gg) hk hA (by omega) (by omega) (fun i j h6 h7=>sa _ _ (by omega) (by omega)) fun k kn low high=>?_)
          simp only [Nat.zero_add] at low high
          dsimp only
          by_cases hk1:na - k > 0
          · rw [if_pos hk1]
            have m1:=Mh.takeA sa sb (na - k) m k (by omega) (fun i hi hj _=>by have:=high i hi hj; unfold bS at this; simp at this; omega)
            by_cases h2:k=0
            · rw [if_pos (by simpa using h2)]
              exact wpS_pure (.inl ⟨_,_,_,rfl,rfl,m1.doneA sa sb h2⟩)
            · rw [if_neg (by simpa using h2)]
              have m2:Mh a b _ (k) (nb - 1):=Mh.pushB (nb:=nb - 1) (by rw [show nb - 1+1=nb by omega]; exact m1) sa sb eb (fun z=>by have:=low (k - 1) (by omega); unfold bS at this; simp at this; omega)
              have la:k<=a.size:=m2.ha
              obtain ⟨ta,qa,ea2⟩:=IntKeys.at hA (show k - 1 < a.size by omega)
              refine wpS_bind (av eb ?_)
              by_cases h4:nb - 1=1
              · rw [if_pos (by simpa using h4)]
                exact wpS_pure (.inl ⟨_,_,_,rfl,rfl,m2.firstB sa sb h4 first'⟩)
              · rw [if_neg (by simpa using h4)]
                refine wpS_bind (av ea2 ?_)
                refine wpS_bind (bD (st:=setG st gg) hk hB (by omega) (by omega) (fun i j h6 h7=>sb _ _ (by omega) (by omega)) fun k2 k2n low2 high2=>?_)
                simp only [Nat.zero_add] at low2 high2
                dsimp only
                by_cases hk2:nb - 1 - k2 > 0
                · rw [if_pos hk2]
                  have m2':=Mh.takeB sa sb (nb - 1 - k2) m2 k2 (by omega) (fun i hi hj _=>Int.not_lt.mp (of_decide_eq_false (high2 i hi hj)))
                  by_cases h8:k2=1
                  · rw [if_pos (by simpa using h8)]
                    exact wpS_pure (.inl ⟨_,_,_,rfl,rfl,m2'.firstB sa sb h8 first'⟩)
                  · rw [if_neg (by simpa using h8)]
                    by_cases h9:k2=0
                    · rw [if_pos (by simpa using h9)]
                      exact wpS_pure (.inl ⟨_,_,_,rfl,rfl,m2'.doneB sa sb h9⟩)
                    · rw [if_neg (by simpa using h9)]
                      have m3:Mh a b _ (k - 1) (k2):=Mh.pushA (na:=k - 1) (by rw [show k - 1+1=k by omega]; exact m2') sa sb ea2 (fun z=>Int.le_of_lt (of_decide_eq_true (low2 (k2 - 1) (by omega))))
                      refine wpS_bind (av ea2 ?_)
                      by_cases h5:k - 1=0
                      · rw [if_pos (by simpa using h5)]
                        exact wpS_pure (.inl ⟨_,_,_,rfl,rfl,m3.doneA sa sb h5⟩)
                      · rw [if_neg (by simpa using h5)]
                        split
                        · exact wpS_pure (.inr ⟨_,_,_,_,_,_,_,rfl,rfl,m3,by omega,by omega,by omega⟩)
                        · exact wpS_pure ⟨_,_,_,_,_,_,_,rfl,rfl,m3,by omega,by omega,by omega⟩
                · rw [if_neg hk2]
                  have m3:Mh a b _ (k - 1) (nb - 1):=Mh.pushA (na:=k - 1) (by rw [show k - 1+1=k by omega]; exact m2) sa sb ea2 (fun z=>Int.le_of_lt (of_decide_eq_true (low2 (nb - 1 - 1) (by omega))))
                  refine wpS_bind (av ea2 ?_)
                  by_cases h5:k - 1=0
                  · rw [if_pos (by simpa using h5)]
                    exact wpS_pure (.inl ⟨_,_,_,rfl,rfl,m3.doneA sa sb h5⟩)
                  · rw [if_neg (by simpa using h5)]
                    split
                    · exact wpS_pure (.inr ⟨_,_,_,_,_,_,_,rfl,rfl,m3,by omega,by omega,by omega⟩)
                    · exact wpS_pure ⟨_,_,_,_,_,_,_,rfl,rfl,m3,by omega,by omega,by omega⟩
          · rw [if_neg hk1]
            have m2:Mh a b _ (na) (nb - 1):=Mh.pushB (nb:=nb - 1) (by rw [show nb - 1+1=nb by omega]; exact m) sa sb eb (fun z=>by have:=low (na - 1) (by omega); unfold bS at this; simp at this; omega)
            have la:na<=a.size:=m2.ha
            obtain ⟨ta,qa,ea2⟩:=IntKeys.at hA (show na - 1 < a.size by omega)
            refine wpS_bind (av eb ?_)
            by_cases h4:nb - 1=1
            · rw [if_pos (by simpa using h4)]
              exact wpS_pure (.inl ⟨_,_,_,rfl,rfl,m2.firstB sa sb h4 first'⟩)
            · rw [if_neg (by simpa using h4)]
              refine wpS_bind (av ea2 ?_)
              refine wpS_bind (bD (st:=setG st gg) hk hB (by omega) (by omega) (fun i j h6 h7=>sb _ _ (by omega) (by omega)) fun k2 k2n low2 high2=>?_)
              simp only [Nat.zero_add] at low2 high2
              dsimp only
              by_cases hk2:nb - 1 - k2 > 0
              · rw [if_pos hk2]
                have m2':=Mh.takeB sa sb (nb - 1 - k2) m2 k2 (by omega) (fun i hi hj _=>Int.not_lt.mp (of_decide_eq_false (high2 i hi hj)))
                by_cases h8:k2=1
                · rw [if_pos (by simpa using h8)]
                  exact wpS_pure (.inl ⟨_,_,_,rfl,rfl,m2'.firstB sa sb h8 first'⟩)
                · rw [if_neg (by simpa using h8)]
                  by_cases h9:k2=0
                  · rw [if_pos (by simpa using h9)]
                    exact wpS_pure (.inl ⟨_,_,_,rfl,rfl,m2'.doneB sa sb h9⟩)
                  · rw [if_neg (by simpa using h9)]
                    have m3:Mh a b _ (na - 1) (k2):=Mh.pushA (na:=na - 1) (by rw [show na - 1+1=na by omega]; exact m2') sa sb ea2 (fun z=>Int.le_of_lt (of_decide_eq_true (low2 (k2 - 1) (by omega))))
                    refine wpS_bind (av ea2 ?_)
                    by_cases h5:na - 1=0
                    · rw [if_pos (by simpa using h5)]
                      exact wpS_pure (.inl ⟨_,_,_,rfl,rfl,m3.doneA sa sb h5⟩)
                    · rw [if_neg (by simpa using h5)]
                      split
                      · exact wpS_pure (.inr ⟨_,_,_,_,_,_,_,rfl,rfl,m3,by omega,by omega,by omega⟩)
                      · exact wpS_pure ⟨_,_,_,_,_,_,_,rfl,rfl,m3,by omega,by omega,by omega⟩
              · rw [if_neg hk2]
                have m3:Mh a b _ (na - 1) (nb - 1):=Mh.pushA (na:=na - 1) (by rw [show na - 1+1=na by omega]; exact m2) sa sb ea2 (fun z=>Int.le_of_lt (of_decide_eq_true (low2 (nb - 1 - 1) (by omega))))
                refine wpS_bind (av ea2 ?_)
                by_cases h5:na - 1=0
                · rw [if_pos (by simpa using h5)]
                  exact wpS_pure (.inl ⟨_,_,_,rfl,rfl,m3.doneA sa sb h5⟩)
                · rw [if_neg (by simpa using h5)]
                  split
                  · exact wpS_pure (.inr ⟨_,_,_,_,_,_,_,rfl,rfl,m3,by omega,by omega,by omega⟩)
                  · exact wpS_pure ⟨_,_,_,_,_,_,_,rfl,rfl,m3,by omega,by omega,by omega⟩
        · rw [if_neg hmg]
          have hbz:nb<=b.size:=m.hb
          have haz:na<=a.size:=m.ha
          obtain ⟨tb,qb,eb⟩:=IntKeys.at hB (show nb - 1 < b.size by omega)
          refine wpS_bind (fv ?_)
          show wpS _ _ _ _ _ _ (setG st mg)
          obtain ⟨gg,egg⟩:∃ gg,mg=gg:=⟨_,rfl⟩
          rw [egg]
          refine wpS_bind (av eb ?_)
          refine wpS_bind (bD (st:=setG st gg) hk hA (by omega) (by omega) (fun i j h6 h7=>sa _ _ (by omega) (by omega)) fun k kn low high=>?_)
          simp only [Nat.zero_add] at low high
          dsimp only
          by_cases hk1:na - k > 0
          · rw [if_pos hk1]
            have m1:=Mh.takeA sa sb (na - k) m k (by omega) (fun i hi hj _=>by have:=high i hi hj; unfold bS at this; simp at this; omega)
            by_cases h2:k=0
            · rw [if_pos (by simpa using h2)]
              exact wpS_pure (.inl ⟨_,_,_,rfl,rfl,m1.doneA sa sb h2⟩)
            · rw [if_neg (by simpa using h2)]
              have m2:Mh a b _ (k) (nb - 1):=Mh.pushB (nb:=nb - 1) (by rw [show nb - 1+1=nb by omega]; exact m1) sa sb eb (fun z=>by have:=low (k - 1) (by omega); unfold bS at this; simp at this; omega)
              have la:k<=a.size:=m2.ha
              obtain ⟨ta,qa,ea2⟩:=IntKeys.at hA (show k - 1 < a.size by omega)
              refine wpS_bind (av eb ?_)
              by_cases h4:nb - 1=1
              · rw [if_pos (by simpa using h4)]
                exact wpS_pure (.inl ⟨_,_,_,rfl,rfl,m2.firstB sa sb h4 first'⟩)
              · rw [if_neg (by simpa using h4)]
                refine wpS_bind (av ea2 ?_)
                refine wpS_bind (bD (st:=setG st gg) hk hB (by omega) (by omega) (fun i j h6 h7=>sb _ _ (by omega) (by omega)) fun k2 k2n low2 high2=>?_)
                simp only [Nat.zero_add] at low2 high2
                dsimp only
                by_cases hk2:nb - 1 - k2 > 0
                · rw [if_pos hk2]
                  have m2':=Mh.takeB sa sb (nb - 1 - k2) m2 k2 (by omega) (fun i hi hj _=>Int.not_lt.mp (of_decide_eq_false (high2 i hi hj)))
                  by_cases h8:k2=1
                  · rw [if_pos (by simpa using h8)]
                    exact wpS_pure (.inl ⟨_,_,_,rfl,rfl,m2'.firstB sa sb h8 first'⟩)
                  · rw [if_neg (by simpa using h8)]
                    by_cases h9:k2=0
                    · rw [if_pos (by simpa using h9)]
                      exact wpS_pure (.inl ⟨_,_,_,rfl,rfl,m2'.doneB sa sb h9⟩)
                    · rw [if_neg (by simpa using h9)]
                      have m3:Mh a b _ (k - 1) (k2):=Mh.pushA (na:=k - 1) (by rw [show k - 1+1=k by omega]; exact m2') sa sb ea2 (fun z=>Int.le_of_lt (of_decide_eq_true (low2 (k2 - 1) (by omega))))
                      refine wpS_bind (av ea2 ?_)
                      by_cases h5:k - 1=0
                      · rw [if_pos (by simpa using h5)]
                        exact wpS_pure (.inl ⟨_,_,_,rfl,rfl,m3.doneA sa sb h5⟩)
                      · rw [if_neg (by simpa using h5)]
                        split
                        · exact wpS_pure (.inr ⟨_,_,_,_,_,_,_,rfl,rfl,m3,by omega,by omega,by omega⟩)
                        · exact wpS_pure ⟨_,_,_,_,_,_,_,rfl,rfl,m3,by omega,by omega,by omega⟩
                · rw [if_neg hk2]
                  have m3:Mh a b _ (k - 1) (nb - 1):=Mh.pushA (na:=k - 1) (by rw [show k - 1+1=k by omega]; exact m2) sa sb ea2 (fun z=>Int.le_of_lt (of_decide_eq_true (low2 (nb - 1 - 1) (by omega))))
                  refine wpS_bind (av ea2 ?_)
                  by_cases h5:k - 1=0
                  · rw [if_pos (by simpa using h5)]
                    exact wpS_pure (.inl ⟨_,_,_,rfl,rfl,m3.doneA sa sb h5⟩)
                  · rw [if_neg (by simpa using h5)]
                    split
                    · exact wpS_pure (.inr ⟨_,_,_,_,_,_,_,rfl,rfl,m3,by omega,by omega,by omega⟩)
                    · exact wpS_pure ⟨_,_,_,_,_,_,_,rfl,rfl,m3,by omega,by omega,by omega⟩
          · rw [if_neg hk1]
            have m2:Mh a b _ (na) (nb - 1):=Mh.pushB (nb:=nb - 1) (by rw [show nb - 1+1=nb by omega]; exact m) sa sb eb (fun z=>by have:=low (na - 1) (by omega); unfold bS at this; simp at this; omega)
            have la:na<=a.size:=m2.ha
            obtain ⟨ta,qa,ea2⟩:=IntKeys.at hA (show na - 1 < a.size by omega)
            refine wpS_bind (av eb ?_)
            by_cases h4:nb - 1=1
            · rw [if_pos (by simpa using h4)]
              exact wpS_pure (.inl ⟨_,_,_,rfl,rfl,m2.firstB sa sb h4 first'⟩)
            · rw [if_neg (by simpa using h4)]
              refine wpS_bind (av ea2 ?_)
              refine wpS_bind (bD (st:=setG st gg) hk hB (by omega) (by omega) (fun i j h6 h7=>sb _ _ (by omega) (by omega)) fun k2 k2n low2 high2=>?_)
              simp only [Nat.zero_add] at low2 high2
              dsimp only
              by_cases hk2:nb - 1 - k2 > 0
              · rw [if_pos hk2]
                have m2':=Mh.takeB sa sb (nb - 1 - k2) m2 k2 (by omega) (fun i hi hj _=>Int.not_lt.mp (of_decide_eq_false (high2 i hi hj)))
                by_cases h8:k2=1
                · rw [if_pos (by simpa using h8)]
                  exact wpS_pure (.inl ⟨_,_,_,rfl,rfl,m2'.firstB sa sb h8 first'⟩)
                · rw [if_neg (by simpa using h8)]
                  by_cases h9:k2=0
                  · rw [if_pos (by simpa using h9)]
                    exact wpS_pure (.inl ⟨_,_,_,rfl,rfl,m2'.doneB sa sb h9⟩)
                  · rw [if_neg (by simpa using h9)]
                    have m3:Mh a b _ (na - 1) (k2):=Mh.pushA (na:=na - 1) (by rw [show na - 1+1=na by omega]; exact m2') sa sb ea2 (fun z=>Int.le_of_lt (of_decide_eq_true (low2 (k2 - 1) (by omega))))
                    refine wpS_bind (av ea2 ?_)
                    by_cases h5:na - 1=0
                    · rw [if_pos (by simpa using h5)]
                      exact wpS_pure (.inl ⟨_,_,_,rfl,rfl,m3.doneA sa sb h5⟩)
                    · rw [if_neg (by simpa using h5)]
                      split
                      · exact wpS_pure (.inr ⟨_,_,_,_,_,_,_,rfl,rfl,m3,by omega,by omega,by omega⟩)
                      · exact wpS_pure ⟨_,_,_,_,_,_,_,rfl,rfl,m3,by omega,by omega,by omega⟩
              · rw [if_neg hk2]
                have m3:Mh a b _ (na - 1) (nb - 1):=Mh.pushA (na:=na - 1) (by rw [show na - 1+1=na by omega]; exact m2) sa sb ea2 (fun z=>Int.le_of_lt (of_decide_eq_true (low2 (nb - 1 - 1) (by omega))))
                refine wpS_bind (av ea2 ?_)
                by_cases h5:na - 1=0
                · rw [if_pos (by simpa using h5)]
                  exact wpS_pure (.inl ⟨_,_,_,rfl,rfl,m3.doneA sa sb h5⟩)
                · rw [if_neg (by simpa using h5)]
                  split
                  · exact wpS_pure (.inr ⟨_,_,_,_,_,_,_,rfl,rfl,m3,by omega,by omega,by omega⟩)
                  · exact wpS_pure ⟨_,_,_,_,_,_,_,rfl,rfl,m3,by omega,by omega,by omega⟩
end
theorem rz:∀ (l:List Keyed) (n:Nat) (xs:Array Keyed) (pos:Nat),pos+n+l.length<=xs.size->((l.zipIdx n).foldl (fun a x=>a.setIfInBounds (pos+x.2) x.1) xs).toList=xs.toList.take (pos+n)++(l++xs.toList.drop (pos+n+l.length))
  | [],n,xs,pos,h=>by simp
  | p::l,n,xs,pos,h=>by
    have hl:(p::l).length=l.length+1:=rfl
    rw [hl] at h |-
    rw [List.zipIdx_cons,List.foldl_cons]
    have ih:=rz l (n+1) (xs.setIfInBounds (pos+n) p) pos (by rw [Array.size_setIfInBounds]; omega)
    rw [ih,Array.toList_setIfInBounds]
    have hlen:xs.toList.length=xs.size:=by simp
    rw [show pos+(n+1)=pos+n+1 by omega,List.take_set,List.drop_set_of_lt (by omega)]
    rw [List.take_succ_eq_append_getElem (by omega),List.set_append_right _ _ (by rw [List.length_take]; omega)]
    rw [show pos+n - (xs.toList.take (pos+n)).length=0 by rw [List.length_take]; omega]
    show (xs.toList.take (pos+n)++[p])++(l++_)=_
    rw [List.append_assoc,show pos+n+1+l.length=pos+n+(l.length+1) by omega]
    rfl
theorem iE {xs:Array Keyed} {lo m:Nat} {z:Keyed} (h:z∈(xs.toList.drop lo).take m):∃ i,lo<=i/\i < lo+m/\i < xs.size/\key z=K xs i:=by
  obtain ⟨j,hj⟩:=List.getElem?_of_mem h
  have hjl:=(List.getElem?_eq_some_iff.mp hj).1
  rw [List.length_take,List.length_drop] at hjl
  have hlen:xs.toList.length=xs.size:=by simp
  rw [List.getElem?_take_of_lt (by omega),List.getElem?_drop] at hj
  refine ⟨lo+j,by omega,by omega,by omega,?_⟩
  rw [jj (p:=z) (by rw [<- Array.getElem?_toList]; exact hj)]
theorem sS {xs:Array Keyed} {lo m:Nat} (h:∀ i j,lo<=i->i<=j->j < lo+m->j < xs.size->K xs i<=K xs j):(((xs.toList.drop lo).take m).map key).Pairwise (·<=·):=by
  rw [List.pairwise_iff_getElem]
  intro p q hp hq hpq
  have hlen:xs.toList.length=xs.size:=by simp
  have hq':=hq
  rw [List.length_map,List.length_take,List.length_drop] at hq'
  have e:∀ r (hr:r < (((xs.toList.drop lo).take m).map key).length),(((xs.toList.drop lo).take m).map key)[r]=K xs (lo+r):=by
    intro r hr
    have hr':=hr
    rw [List.length_map,List.length_take,List.length_drop] at hr'
    rw [List.getElem_map,List.getElem_take,List.getElem_drop]
    have hz:lo+r < xs.size:=by omega
    rw [jj (p:=xs[lo+r]) (Array.getElem?_eq_getElem hz)]
    rfl
  rw [e p hp,e q hq]
  exact h _ _ (by omega) (by omega) (by omega) (by omega)
theorem Ar {xs:Array Keyed} (h:(xs.toList.map key).Pairwise (·<=·)):cm xs:=by
  intro i j hij hj
  by_cases e:i=j
  · subst e; exact Int.le_refl _
  · rw [List.pairwise_iff_getElem] at h
    have hj':j < (xs.toList.map key).length:=by simpa using hj
    have h3:=h i j (by omega) hj' (by omega)
    rw [List.getElem_map,List.getElem_map] at h3
    rw [jj (p:=xs[i]'(by omega)) (Array.getElem?_eq_getElem _),jj (p:=xs[j]) (Array.getElem?_eq_getElem _)]
    simpa using h3
theorem lG (xs:Array Keyed) (lo hi:Nat):(xs.extract lo hi).toList=(xs.toList.drop lo).take (hi - lo):=by
  rw [Array.toList_extract,List.extract_eq_take_drop]
theorem y4 {xs:Array Keyed} {lo hi i:Nat} (h:lo+i < hi) (hz:hi<=xs.size):K (xs.extract lo hi) i=K xs (lo+i):=by
  refine K_congr ?_
  rw [Array.getElem?_extract_of_lt (by omega)]
  exact (Array.getElem?_eq_getElem (by omega)).symm
theorem r8 {xs:Array Keyed} (h:IntKeys xs) (lo hi:Nat):IntKeys (xs.extract lo hi):=fun p hp=>by
  rw [lG] at hp
  exact h p (List.mem_of_mem_drop (List.mem_of_mem_take hp))
section
variable {prog:Program} {w:World} {A:Around} {E:Value->Shared->Prop} {s:Shared}
theorem zp {σ:Type} {M:Model} {st st':σ} {Q:PUnit->σ->Prop} (h:Q ⟨⟩ st'):wpS M A E s (set st':StateT σ Sem PUnit) Q st:=by
  unfold wpS; rw [StateT.run_set]; exact wpAny_pure ⟨rfl,h⟩
theorem sM {st:SortSt} {Q:Bool->SortSt->Prop} {n1 n2 pw:Nat} (hk:kindOf st=oneType') (hI:IntKeys (arrOf st)) (hf:failedOf st=none) (hp:pendingOf st = #[(0,n1,pw),(n1,n2,0)]) (hz:(arrOf st).size=n1+n2) (h1:1<=n1) (h2:1<=n2)
    (s1:∀ i j,i<=j->j < n1->K (arrOf st) i<=K (arrOf st) j) (s2:∀ i j,n1<=i->i<=j->j < n1+n2->K (arrOf st) i<=K (arrOf st) j)
    (h:∀ st',failedOf st'=none->pendingOf st' = #[(0,n1+n2,pw)]->(arrOf st').Perm (arrOf st)->cm (arrOf st')->Q true st'):wpS (model prog w) A E s (mergeAt' 0) Q st:=by
  have both:∀ c:Nat,c < n1->(∀ i,i < n1->K (arrOf st) i<=K (arrOf st) n1)->cm (arrOf st):=fun c _ hc i j hij hj=>by
    rw [hz] at hj
    by_cases z1:j < n1
    · exact s1 i j hij z1
    · by_cases z2:n1<=i
      · exact s2 i j z2 hij hj
      · exact Int.le_trans (hc i (by omega)) (s2 n1 j (Nat.le_refl _) (by omega) hj)
  unfold mergeAt'
  change wpS _ _ _ _ (bind _ _) _ _
  refine wpS_bind (wpS_get ?_)
  dsimp only
  have hp':(sortPriv% PySem.Builtin.SortState.pending) st = #[(0,n1,pw),(n1,n2,0)]:=hp
  rw [hp']
  have ha':∀ z:SortSt,(sortPriv% PySem.Builtin.SortState.a) z=arrOf z:=fun _=>rfl
  simp only [ha']
  have ep:((#[(0,n1,pw),(n1,n2,0)]:Array (Nat × Nat × Nat)).setIfInBounds 0 (0,n1+n2,pw)).eraseIdxIfInBounds (0+1) = #[(0,n1+n2,pw)]:=by simp [Array.eraseIdxIfInBounds]
  show wpS _ _ _ _ (do
    set (setPending st (((#[(0,n1,pw),(n1,n2,0)]:Array (Nat × Nat × Nat)).setIfInBounds 0 (0,n1+n2,pw)).eraseIdxIfInBounds (0+1)))
    _) _ _
  rw [ep]
  refine wpS_bind (zp ?_)
  obtain ⟨tb,qb,eb⟩:=IntKeys.at hI (show n1 < (arrOf st).size by omega)
  refine wpS_bind (av eb ?_)
  refine wpS_bind (bD (st:=setPending st #[(0,n1+n2,pw)]) hk hI (by omega) (by omega) (fun i j h6 h7=>by rw [Nat.zero_add,Nat.zero_add]; exact s1 _ _ h6 h7) fun k kn low high=>?_)
  simp only [Nat.zero_add] at low high
  dsimp only
  have lowK:∀ i,i < k->K (arrOf st) i<=K (arrOf st) n1:=fun i hi=>by have:=low i hi; unfold bS at this; simp at this; omega
  by_cases hk0:n1 - k=0
  · rw [if_pos (by simpa using hk0)]
    exact wpS_pure (h _ hf rfl (Array.Perm.refl _) (both 0 (by omega) fun i hi=>lowK i (by omega)))
  rw [if_neg (by simpa using hk0)]
  have highK:K (arrOf st) n1 < K (arrOf st) k:=by have:=high k (Nat.le_refl _) (by omega); unfold bS at this; simp at this; omega
  obtain ⟨ta,qa,ea⟩:=IntKeys.at hI (show n1 - 1 < (arrOf st).size by omega)
  rw [show 0+k+(n1 - k) - 1=n1 - 1 by omega]
  refine wpS_bind (av ea ?_)
  refine wpS_bind (bD (st:=setPending st #[(0,n1+n2,pw)]) hk hI (by omega) (by omega) (fun i j h6 h7=>s2 _ _ (by omega) (by omega) (by omega)) fun nb nbn low2 high2=>?_)
  dsimp only
  by_cases hb0:nb=0
  · rw [if_pos (by simpa using hb0)]
    subst hb0
    have hh:K (arrOf st) (n1 - 1)<=K (arrOf st) n1:=Int.not_lt.mp (of_decide_eq_false (high2 0 (Nat.le_refl _) (by omega)))
    exact wpS_pure (h _ hf rfl (Array.Perm.refl _) (both 0 (by omega) fun i hi=>Int.le_trans (s1 i (n1 - 1) (by omega) (by omega)) hh))
  rw [if_neg (by simpa using hb0)]
  have lowB:∀ j,j < nb->K (arrOf st) (n1+j) < K (arrOf st) (n1 - 1):=fun j hj=>of_decide_eq_true (low2 j hj)
  have hX:=r8 hI (0+k) n1
  have hY:=r8 hI n1 (n1+nb)
  have zx:((arrOf st).extract (0+k) n1).size=n1 - k:=by rw [Array.size_extract]; omega
  have zy:((arrOf st).extract n1 (n1+nb)).size=nb:=by rw [Array.size_extract]; omega
  have kx:∀ i,i < n1 - k->K ((arrOf st).extract (0+k) n1) i=K (arrOf st) (k+i):=fun i hi=>by rw [y4 (by omega) (by omega),Nat.zero_add]
  have ky:∀ j,j < nb->K ((arrOf st).extract n1 (n1+nb)) j=K (arrOf st) (n1+j):=fun j hj=>y4 (by omega) (by omega)
  have sx:cm ((arrOf st).extract (0+k) n1):=fun i j hij hj=>by
    rw [zx] at hj
    rw [kx i (by omega),kx j hj]
    exact s1 _ _ (by omega) (by omega)
  have sy:cm ((arrOf st).extract n1 (n1+nb)):=fun i j hij hj=>by
    rw [zy] at hj
    rw [ky i (by omega),ky j hj]
    exact s2 _ _ (by omega) (by omega) (by omega)
  have fst':K ((arrOf st).extract n1 (n1+nb)) 0<=K ((arrOf st).extract (0+k) n1) 0:=by
    rw [ky 0 (by omega),kx 0 (by omega)]
    exact Int.le_of_lt highK
  have top':∀ j,j < ((arrOf st).extract n1 (n1+nb)).size->K ((arrOf st).extract n1 (n1+nb)) j<=K ((arrOf st).extract (0+k) n1) (((arrOf st).extract (0+k) n1).size - 1):=fun j hj=>by
    rw [zy] at hj
    rw [zx,ky j hj,kx _ (by omega),show k+(n1 - k - 1)=n1 - 1 by omega]
    exact Int.le_of_lt (lowB j hj)
  have done:∀ R g,Fin ((arrOf st).extract (0+k) n1) ((arrOf st).extract n1 (n1+nb)) R->Q true (setArr (setG (setPending st #[(0,n1+n2,pw)]) g) (R.toList.zipIdx.foldl (fun a x=>a.setIfInBounds (0+k+x.2) x.1) (arrOf st))):=by
    intro R g f
    have lx:((arrOf st).extract (0+k) n1).toList.length=n1 - k:=by rw [Array.length_toList]; exact zx
    have lyy:((arrOf st).extract n1 (n1+nb)).toList.length=nb:=by rw [Array.length_toList]; exact zy
    have lR:R.toList.length=n1 - k+nb:=by rw [f.1.length_eq,List.length_append,lx,lyy]
    have e1:=rz R.toList 0 (arrOf st) (0+k) (by rw [lR]; omega)
    rw [lR,show 0+k+0=k by omega,show k+(n1 - k+nb)=n1+nb by omega] at e1
    have ex:=lG (arrOf st) (0+k) n1
    have ey:=lG (arrOf st) n1 (n1+nb)
    rw [show n1+nb - n1=nb by omega] at ey
    rw [Nat.zero_add] at ex
    have e2:(arrOf st).toList=(arrOf st).toList.take k++((((arrOf st).toList.drop k).take (n1 - k)++((arrOf st).toList.drop n1).take nb)++(arrOf st).toList.drop (n1+nb)):=by
      rw [List.append_assoc]
      conv=>lhs; rw [<- List.take_append_drop k (arrOf st).toList]
      congr 1
      conv=>lhs; rw [<- List.take_append_drop (n1 - k) ((arrOf st).toList.drop k)]
      rw [List.drop_drop,show k+(n1 - k)=n1 by omega]
      congr 1
      conv=>lhs; rw [<- List.take_append_drop nb ((arrOf st).toList.drop n1)]
      rw [List.drop_drop]
    have fp:=f.1
    rw [Nat.zero_add,ex,ey] at fp
    refine h _ hf rfl ?_ (Ar ?_)
    · refine Array.perm_iff_toList_perm.mpr ?_
      show (R.toList.zipIdx.foldl (fun a x=>a.setIfInBounds (0+k+x.2) x.1) (arrOf st)).toList.Perm _
      rw [e1]
      conv=>rhs; rw [e2]
      exact List.Perm.append_left _ (List.Perm.append_right _ fp)
    · show ((R.toList.zipIdx.foldl (fun a x=>a.setIfInBounds (0+k+x.2) x.1) (arrOf st)).toList.map key).Pairwise _
      rw [e1,List.map_append,List.map_append,List.pairwise_append,List.pairwise_append]
      have pP:(((arrOf st).toList.take k).map key).Pairwise (·<=·):=by
        have:=sS (xs:=arrOf st) (lo:=0) (m:=k) (fun i j _ hij hj _=>s1 i j hij (by omega))
        rw [List.drop_zero] at this
        exact this
      have hlen:(arrOf st).toList.length=n1+n2:=by simpa using hz
      have eS:(arrOf st).toList.drop (n1+nb)=((arrOf st).toList.drop (n1+nb)).take (n1+n2):=by rw [List.take_of_length_le (by rw [List.length_drop]; omega)]
      have pS:(((arrOf st).toList.drop (n1+nb)).map key).Pairwise (·<=·):=by
        rw [eS]
        exact sS (fun i j hi hij _ hj=>s2 i j (by omega) hij (by omega))
      have inR:∀ z∈R.toList,(∃ i,k<=i/\i < n1/\key z=K (arrOf st) i)\/∃ j,n1<=j/\j < n1+nb/\key z=K (arrOf st) j:=fun z hz'=>by
        have:=fp.mem_iff.mp hz'
        rw [List.mem_append] at this
        rcases this with this | this
        · obtain ⟨i,a1,a2,_,a4⟩:=iE this
          exact .inl ⟨i,a1,by omega,a4⟩
        · obtain ⟨i,a1,a2,_,a4⟩:=iE this
          exact .inr ⟨i,a1,a2,a4⟩
      have inP:∀ z∈(arrOf st).toList.take k,∃ i,i < k/\key z=K (arrOf st) i:=fun z hz'=>by
        obtain ⟨i,_,a2,_,a4⟩:=iE (lo:=0) (m:=k) (by rw [List.drop_zero]; exact hz')
        exact ⟨i,by omega,a4⟩
      have inS:∀ z∈(arrOf st).toList.drop (n1+nb),∃ i,n1+nb<=i/\i < n1+n2/\key z=K (arrOf st) i:=fun z hz'=>by
        rw [eS] at hz'
        obtain ⟨i,a1,_,a3,a4⟩:=iE hz'
        exact ⟨i,a1,by omega,a4⟩
      have RS:∀ x∈R.toList.map key,∀ y∈((arrOf st).toList.drop (n1+nb)).map key,x<=y:=by
        intro x hx y hy
        obtain ⟨p,hp',rfl⟩:=List.mem_map.mp hx
        obtain ⟨q,hq',rfl⟩:=List.mem_map.mp hy
        obtain ⟨j,j1,j2,ej⟩:=inS q hq'
        rw [ej]
        have hh:K (arrOf st) (n1 - 1)<=K (arrOf st) (n1+nb):=by
          exact Int.not_lt.mp (of_decide_eq_false (high2 nb (Nat.le_refl _) (by omega)))
        rcases inR p hp' with ⟨i,i1,i2,ei⟩ | ⟨i,i1,i2,ei⟩
        · rw [ei]
          exact Int.le_trans (s1 i (n1 - 1) (by omega) (by omega)) (Int.le_trans hh (s2 _ _ (by omega) j1 j2))
        · rw [ei]
          exact s2 _ _ i1 (by omega) j2
      refine ⟨pP,⟨f.2,pS,RS⟩,fun x hx y hy=>?_⟩
      obtain ⟨p,hp',rfl⟩:=List.mem_map.mp hx
      obtain ⟨i,i1,ei⟩:=inP p hp'
      rw [ei]
      rw [List.mem_append] at hy
      rcases hy with hy | hy
      · obtain ⟨q,hq',rfl⟩:=List.mem_map.mp hy
        rcases inR q hq' with ⟨j,j1,j2,ej⟩ | ⟨j,j1,j2,ej⟩
        · rw [ej]; exact s1 _ _ (by omega) j2
        · rw [ej]; exact Int.le_trans (lowK i i1) (s2 _ _ (Nat.le_refl _) j1 (by omega))
      · obtain ⟨q,hq',rfl⟩:=List.mem_map.mp hy
        obtain ⟨j,j1,j2,ej⟩:=inS q hq'
        rw [ej]
        exact Int.le_trans (lowK i i1) (s2 _ _ (Nat.le_refl _) (by omega) j2)
  by_cases hle:n1 - k<=nb
  · rw [if_pos hle]
    refine wpS_bind (sC (st:=setPending st #[(0,n1+n2,pw)]) hk hX hY sx sy (by omega) (by omega) fst' top' fun R g f=>?_)
    refine wpS_bind (wpS_modify ?_)
    refine wpS_bind (wpS_get ?_)
    refine wpS_pure ?_
    have ef:(failedOf (setArr (setG (setPending st #[(0,n1+n2,pw)]) g) (R.toList.zipIdx.foldl (fun a x=>a.setIfInBounds (0+k+x.2) x.1) (arrOf st)))).isNone=true:=by
      show (failedOf st).isNone=true
      rw [hf]; rfl
    show Q (failedOf (setArr (setG (setPending st #[(0,n1+n2,pw)]) g) (R.toList.zipIdx.foldl (fun a x=>a.setIfInBounds (0+k+x.2) x.1) (arrOf st)))).isNone _
    rw [ef]
    exact done R g f
  · rw [if_neg hle]
    refine wpS_bind (sP (st:=setPending st #[(0,n1+n2,pw)]) hk hX hY sx sy (by omega) (by omega) fst' top' fun R g f=>?_)
    refine wpS_bind (wpS_modify ?_)
    refine wpS_bind (wpS_get ?_)
    refine wpS_pure ?_
    have ef:(failedOf (setArr (setG (setPending st #[(0,n1+n2,pw)]) g) (R.toList.zipIdx.foldl (fun a x=>a.setIfInBounds (0+k+x.2) x.1) (arrOf st)))).isNone=true:=by
      show (failedOf st).isNone=true
      rw [hf]; rfl
    show Q (failedOf (setArr (setG (setPending st #[(0,n1+n2,pw)]) g) (R.toList.zipIdx.foldl (fun a x=>a.setIfInBounds (0+k+x.2) x.1) (arrOf st)))).isNone _
    rw [ef]
    exact done R g f
end
structure SB (a₀:Array Keyed) (P:Array (Nat × Nat × Nat)) (st:SortSt):Prop where
  perm:(arrOf st).Perm a₀
  kind:kindOf st=oneType'
  failed:failedOf st=none
  pend:pendingOf st=P
theorem SB.size {a₀:Array Keyed} {P:Array (Nat × Nat × Nat)} {st:SortSt} (h:SB a₀ P st):(arrOf st).size=a₀.size:=h.perm.size_eq
theorem SB.keys {a₀:Array Keyed} {P:Array (Nat × Nat × Nat)} {st:SortSt} (h:SB a₀ P st) (h0:IntKeys a₀):IntKeys (arrOf st):=fun p hp=>h0 p ((Array.perm_iff_toList_perm.mp h.perm).mem_iff.mp hp)
theorem SB.put {a₀:Array Keyed} {P:Array (Nat × Nat × Nat)} {st:SortSt} (h:SB a₀ P st) {xs:Array Keyed} (hp:xs.Perm (arrOf st)):SB a₀ P (setArr st xs):=⟨hp.trans h.perm,h.kind,h.failed,h.pend⟩
def SF (xs:Array Keyed) (lo k:Nat):Prop:=∀ i j,lo<=i->i<=j->j < lo+k->K xs i<=K xs j
section
variable {prog:Program} {w:World} {A:Around} {E:Value->Shared->Prop} {s:Shared} {a₀:Array Keyed} {P:Array (Nat × Nat × Nat)}
theorem dM {st:SortSt} {i j:Nat} {Q:Option Bool->SortSt->Prop} (hB:SB a₀ P st) (h0:IntKeys a₀) (hi:i < a₀.size) (hj:j < a₀.size)
    (h:Q (some (decide (K (arrOf st) i < K (arrOf st) j))) st):wpS (model prog w) A E s (ltAt' i j) Q st:=by
  have hz:=hB.size
  obtain ⟨t,p,e1⟩:=IntKeys.at (hB.keys h0) (show i < (arrOf st).size by omega)
  obtain ⟨u,q,e2⟩:=IntKeys.at (hB.keys h0) (show j < (arrOf st).size by omega)
  exact wpS_ltAt hB.kind e1 e2 h
theorem rp {st:SortSt} {lo n ok:Nat} {Q:Bool->SortSt->Prop} (h0:IntKeys a₀) (hn:lo+n<=a₀.size) (hok:ok<=n) (hB:SB a₀ P st) (hs:SF (arrOf st) lo ok)
    (h:∀ st',SB a₀ P st'->SF (arrOf st') lo n->(∀ i,i < lo->K (arrOf st') i=K (arrOf st) i)->Q true st'):wpS (model prog w) A E s (binarySort' lo n ok) Q st:=by
  rw [binarySort'_eq]
  refine wpS_bind (wpS_mono (wpS_forRange (I:=fun k c st'=>c=(none,())/\SB a₀ P st'/\SF (arrOf st') lo (min k n)/\∀ i,i < lo->K (arrOf st') i=K (arrOf st) i)
    (Q:=fun c st'=>c=(none,())/\SB a₀ P st'/\SF (arrOf st') lo n/\∀ i,i < lo->K (arrOf st') i=K (arrOf st) i) ?step ?fin ?init) ?post)
  case post =>
    rintro c st' ⟨rfl,b1,b2,b3⟩
    exact wpS_pure (h st' b1 b2 b3)
  case init =>
    refine ⟨rfl,hB,fun i j hi hij hj=>?_,fun _ _=>rfl⟩
    by_cases h1:ok=0
    · have:i=j:=by omega
      subst this; exact Int.le_refl _
    · exact hs i j hi hij (by omega)
  case fin =>
    rintro c st' ⟨b0,b1,b2,b3⟩
    refine ⟨b0,b1,?_,b3⟩
    rwa [show min (max (max ok 1) n) n=n by omega] at b2
  case step =>
    rintro k c st' hak hkn ⟨rfl,b1,b2,b3⟩
    rw [show min k n=k by omega] at b2
    refine wpS_bind (wpS_mono (wpS_forRange (I:=fun x c st''=>st''=st'/\∃ l r,c=(none,l,r)/\l<=r/\r<=k/\r - l<=k - x /\
        (∀ i,i < l->K (arrOf st') (lo+i)<=K (arrOf st') (lo+k))/\(∀ i,r<=i->i < k->K (arrOf st') (lo+k) < K (arrOf st') (lo+i)))
      (Q:=fun c st''=>st''=st'/\∃ l r,c=(none,l,r)/\l<=k /\
        (∀ i,i < l->K (arrOf st') (lo+i)<=K (arrOf st') (lo+k))/\(∀ i,l<=i->i < k->K (arrOf st') (lo+k) < K (arrOf st') (lo+i))) ?istep ?ifin ?iinit) ?ipost)
    case iinit=>exact ⟨rfl,0,k,rfl,by omega,by omega,by omega,fun i hi=>by omega,fun i h1 h2=>by omega⟩
    case ifin =>
      rintro c st'' ⟨rfl,l,r,rfl,h1,h2,h3,h4,h5⟩
      have:l=r:=by omega
      subst this
      exact ⟨rfl,l,l,rfl,h2,h4,h5⟩
    case istep =>
      rintro x c st'' _ hxk ⟨rfl,l,r,rfl,h1,h2,h3,h4,h5⟩
      dsimp only
      by_cases hge:l ≥ r
      · rw [if_pos hge]
        have:l=r:=by omega
        subst this
        exact wpS_pure ⟨rfl,l,l,rfl,h2,h4,h5⟩
      · rw [if_neg hge]
        refine wpS_bind (dM b1 h0 (by omega) (by omega) ?_)
        by_cases hl:K (arrOf st'') (lo+k) < K (arrOf st'') (lo+(l+r) / 2)
        · simp only [hl,decide_true,if_true]
          refine wpS_pure ⟨rfl,l,(l+r) / 2,rfl,by omega,by omega,by omega,h4,fun i h6 h7=>?_⟩
          exact Int.lt_of_lt_of_le hl (b2 _ _ (by omega) (by omega) (by omega))
        · simp only [hl,decide_false,Bool.false_eq_true,if_false]
          refine wpS_pure ⟨rfl,(l+r) / 2+1,r,rfl,by omega,by omega,by omega,fun i h6=>?_,h5⟩
          exact Int.le_trans (b2 (lo+i) (lo+(l+r) / 2) (by omega) (by omega) (by omega)) (Int.not_lt.mp hl)
    case ipost =>
      rintro c st'' ⟨rfl,l,r,rfl,hlk,h4,h5⟩
      show wpS _ _ _ _ (do moveDown' (lo+k) (lo+l); pure (ForInStep.yield (none,()))) _ _
      rw [moveDown'_eq]
      have hks:lo+k < (arrOf st'').size:=by rw [b1.size]; omega
      have kb:∀ i,K (bubble (arrOf st'') (lo+k) (lo+k - (lo+l))) i=if i=lo+l then K (arrOf st'') (lo+k) else if lo+l < i/\i<=lo+k then K (arrOf st'') (i - 1) else K (arrOf st'') i:=fun i=>by
        rw [K_bubble hks (by omega),show lo+k - (lo+k - (lo+l))=lo+l by omega]
      refine wpS_bind (wpS_modify (wpS_pure ⟨rfl,b1.put (bubble_perm _ _ _),?_,fun i hi=>?_⟩))
      · rw [show min (k+1) n=k+1 by omega]
        intro i j hi hij hj
        show K (bubble (arrOf st'') (lo+k) (lo+k - (lo+l))) i<=K (bubble (arrOf st'') (lo+k) (lo+k - (lo+l))) j
        have h4':∀ i,lo<=i->i < lo+l->K (arrOf st'') i<=K (arrOf st'') (lo+k):=fun i z1 z2=>by
          have:=h4 (i - lo) (by omega)
          rwa [show lo+(i - lo)=i by omega] at this
        have h5':∀ i,lo+l<=i->i < lo+k->K (arrOf st'') (lo+k) < K (arrOf st'') i:=fun i z1 z2=>by
          have:=h5 (i - lo) (by omega) (by omega)
          rwa [show lo+(i - lo)=i by omega] at this
        rw [kb,kb]
        repeat' split
        all_goals first
          | (exfalso; omega)
          | exact Int.le_refl _
          | exact h4' _ (by omega) (by omega)
          | exact Int.le_of_lt (h5' _ (by omega) (by omega))
          | exact b2 _ _ (by omega) (by omega) (by omega)
      · show K (bubble (arrOf st'') (lo+k) (lo+k - (lo+l))) i=_
        rw [kb,if_neg (by omega),if_neg (by omega)]
        exact b3 i hi
end
def ND (xs:Array Keyed) (lo k:Nat):Prop:=∀ i j,lo<=i->i<=j->j < lo+k->K xs j<=K xs i
theorem SF.more {xs:Array Keyed} {lo k:Nat} (h:SF xs lo k) (hk:1<=k) (e:K xs (lo+k - 1)<=K xs (lo+k)):SF xs lo (k+1):=fun i j hi hij hj=>by
  by_cases z:j < lo+k
  · exact h i j hi hij z
  · have:j=lo+k:=by omega
    subst this
    by_cases z2:i=lo+k
    · subst z2; exact Int.le_refl _
    · exact Int.le_trans (h i (lo+k - 1) hi (by omega) (by omega)) e
theorem ND.more {xs:Array Keyed} {lo k:Nat} (h:ND xs lo k) (hk:1<=k) (e:K xs (lo+k)<=K xs (lo+k - 1)):ND xs lo (k+1):=fun i j hi hij hj=>by
  by_cases z:j < lo+k
  · exact h i j hi hij z
  · have:j=lo+k:=by omega
    subst this
    by_cases z2:i=lo+k
    · subst z2; exact Int.le_refl _
    · exact Int.le_trans e (h i (lo+k - 1) hi (by omega) (by omega))
section
variable {prog:Program} {w:World} {A:Around} {E:Value->Shared->Prop} {s:Shared} {a₀:Array Keyed} {P:Array (Nat × Nat × Nat)}
theorem rh {st:SortSt} {lo nrem:Nat} {Q:Option Nat->SortSt->Prop} (h0:IntKeys a₀) (hn:lo+nrem<=a₀.size) (h1:1<=nrem) (hB:SB a₀ P st)
    (h:∀ m st',SB a₀ P st'->1<=m->m<=nrem->SF (arrOf st') lo m->(∀ i,i < lo->K (arrOf st') i=K (arrOf st) i)->Q (some m) st'):wpS (model prog w) A E s (countRun' lo nrem) Q st:=by
  have one:SF (arrOf st) lo 1:=fun i j hi hij hj=>by
    have:i=j:=by omega
    subst this; exact Int.le_refl _
  rw [countRun'_eq]
  dsimp only
  refine wpS_bind (wpS_mono (wpS_forRange (I:=fun x c st'=>st=st'/\c=(none,x)/\SF (arrOf st) lo x)
    (Q:=fun c st'=>st=st'/\∃ mm,c=(none,mm)/\1<=mm/\mm<=nrem/\SF (arrOf st) lo mm/\(mm=nrem\/K (arrOf st) (lo+mm) < K (arrOf st) (lo+mm - 1))) ?_ ?_ ⟨rfl,rfl,one⟩) ?_)
  · rintro x c st9 hax hxn ⟨rfl,rfl,hs⟩
    dsimp only
    refine wpS_bind (dM hB h0 (by omega) (by omega) ?_)
    by_cases hl:K (arrOf st) (lo+x) < K (arrOf st) (lo+x - 1)
    · simp only [hl,decide_true,if_true]
      exact wpS_pure ⟨rfl,x,rfl,hax,by omega,hs,.inr hl⟩
    · simp only [hl,decide_false,Bool.false_eq_true,if_false]
      exact wpS_pure ⟨rfl,rfl,SF.more hs (by omega) (Int.not_lt.mp hl)⟩
  · rintro c st9 ⟨rfl,rfl,hs⟩
    rw [show max 1 nrem=nrem by omega] at hs |-
    exact ⟨rfl,nrem,rfl,by omega,Nat.le_refl _,hs,.inl rfl⟩
  rintro c st7 ⟨rfl,n,rfl,n1,n2,sn,hor⟩
  dsimp only
  by_cases hnn:n=nrem
  · rw [if_pos (by simpa using hnn)]
    exact wpS_pure (h n _ hB n1 n2 sn fun _ _=>rfl)
  rw [if_neg (by simpa using hnn)]
  have hlt:K (arrOf st) (lo+n) < K (arrOf st) (lo+n - 1):=hor.resolve_left hnn
  by_cases hgt:n > 1
  · rw [if_pos hgt]
    refine wpS_bind (dM hB h0 (by omega) (by omega) ?_)
    by_cases hr:K (arrOf st) lo < K (arrOf st) (lo+n - 1)
    · simp only [hr,decide_true,if_true]
      exact wpS_pure (h n _ hB n1 n2 sn fun _ _=>rfl)
    · simp only [hr,decide_false,Bool.false_eq_true,if_false]
      have hsz:lo+n<=(arrOf st).size:=by rw [hB.size]; omega
      have hall:∀ k,lo<=k->k < lo+n->K (arrOf st) k=K (arrOf st) (lo+n - 1):=fun k k1 k2=>by
        have a1:=sn lo k (Nat.le_refl _) k1 k2
        have a2:=sn k (lo+n - 1) k1 (by omega) (by omega)
        omega
      have ke:=K_mirror_equal (i:=lo) hsz hall
      refine wpS_bind (wpS_reverse ?_)
      have d1:SB a₀ P (setArr st (mirror (arrOf st) lo (lo+n) ((lo+n - lo) / 2))):=hB.put (mirror_perm _ _ _ _)
      have d2:ND (arrOf (setArr st (mirror (arrOf st) lo (lo+n) ((lo+n - lo) / 2)))) lo (n+1):=fun i j hi hij hj=>by
        show K (mirror (arrOf st) _ _ _) j<=K (mirror (arrOf st) _ _ _) i
        rw [ke,ke]
        by_cases hjn:j < lo+n
        · rw [hall i hi (by omega),hall j (by omega) hjn]; exact Int.le_refl _
        · have:j=lo+n:=by omega
          subst this
          by_cases z2:i=lo+n
          · subst z2; exact Int.le_refl _
          · rw [hall i hi (by omega)]; exact Int.le_of_lt hlt
      have d3:∀ i,i < lo->K (arrOf (setArr st (mirror (arrOf st) lo (lo+n) ((lo+n - lo) / 2)))) i=K (arrOf st) i:=fun i hi=>ke i
      generalize setArr st (mirror (arrOf st) lo (lo+n) ((lo+n - lo) / 2))=st3 at d1 d2 d3 |-
      refine wpS_bind (wpS_lift (wpAny_rule ⟨rfl,?_⟩))
      refine wpS_bind (wpS_mono (wpS_forRange (I:=fun x c st'=>∃ neq,c=(none,x,neq)/\SB a₀ P st'/\ND (arrOf st') lo x/\neq+1<=x/\(∀ i,lo+x - (neq+1)<=i->i < lo+x->K (arrOf st') i=K (arrOf st') (lo+x - 1))/\∀ i,i < lo->K (arrOf st') i=K (arrOf st) i)
        (Q:=fun c st'=>∃ m neq,c=(none,m,neq)/\n+1<=m/\m<=nrem/\SB a₀ P st'/\ND (arrOf st') lo m/\neq+1<=m/\(∀ i,lo+m - (neq+1)<=i->i < lo+m->K (arrOf st') i=K (arrOf st') (lo+m - 1))/\∀ i,i < lo->K (arrOf st') i=K (arrOf st) i) ?_ ?_ ⟨0,rfl,d1,d2,by omega,(fun i h1 h2=>by congr 1; omega),d3⟩) ?_)
      · rintro x c st8 hax hxn ⟨neq,rfl,c1,c2,c3,c4,c5⟩
        dsimp only
        have hsz:lo+x<=(arrOf st8).size:=by rw [c1.size]; omega
        refine wpS_bind (dM c1 h0 (by omega) (by omega) ?_)
        by_cases hl:K (arrOf st8) (lo+x) < K (arrOf st8) (lo+x - 1)
        · simp only [hl,decide_true,if_true]
          by_cases hq:neq > 0
          · rw [if_pos hq]
            have ke:=K_mirror_equal (i:=lo+x - (neq+1)) hsz c4
            refine wpS_bind (wpS_reverse (wpS_pure ⟨0,rfl,c1.put (mirror_perm _ _ _ _),?_,by omega,(fun i h1 h2=>by congr 1; omega),fun i hi=>?_⟩))
            · intro i j hi hij hj
              show K (mirror (arrOf st8) _ _ _) j<=K (mirror (arrOf st8) _ _ _) i
              rw [ke,ke]
              exact ND.more c2 (by omega) (Int.le_of_lt hl) i j hi hij hj
            · show K (mirror (arrOf st8) _ _ _) i=_
              rw [ke]
              exact c5 i hi
          · rw [if_neg hq]
            exact wpS_pure ⟨0,rfl,c1,ND.more c2 (by omega) (Int.le_of_lt hl),by omega,(fun i h1 h2=>by congr 1; omega),c5⟩
        · simp only [hl,decide_false,Bool.false_eq_true,if_false]
          refine wpS_bind (dM c1 h0 (by omega) (by omega) ?_)
          by_cases hg:K (arrOf st8) (lo+x - 1) < K (arrOf st8) (lo+x)
          · simp only [hg,decide_true,if_true]
            exact wpS_pure ⟨x,neq,rfl,hax,by omega,c1,c2,c3,c4,c5⟩
          · simp only [hg,decide_false,Bool.false_eq_true,if_false]
            have he:K (arrOf st8) (lo+x)=K (arrOf st8) (lo+x - 1):=by omega
            refine wpS_pure ⟨neq+1,rfl,c1,ND.more c2 (by omega) (Int.le_of_eq he),by omega,(fun i h1 h2=>?_),c5⟩
            rw [show lo+(x+1) - 1=lo+x by omega]
            by_cases hix:i=lo+x
            · rw [hix]
            · rw [he]; exact c4 i (by omega) (by omega)
      · rintro c st8 ⟨neq,rfl,c1,c2,c3,c4,c5⟩
        rw [show max (n+1) nrem=nrem by omega] at c2 c3 c4 |-
        exact ⟨nrem,neq,rfl,by omega,Nat.le_refl _,c1,c2,c3,c4,c5⟩
      rintro c st4 ⟨m,neq,rfl,hm1,hm2,c1,c2,c3,c4,c5⟩
      dsimp only
      by_cases hq:neq > 0
      · rw [if_pos hq]
        have hsz4:lo+m<=(arrOf st4).size:=by rw [c1.size]; omega
        have ke:=K_mirror_equal (i:=lo+m - (neq+1)) hsz4 c4
        refine wpS_bind (wpS_reverse ?_)
        have d1:SB a₀ P (setArr st4 (mirror (arrOf st4) (lo+m - (neq+1)) (lo+m) ((lo+m - (lo+m - (neq+1))) / 2))):=c1.put (mirror_perm _ _ _ _)
        have d2:ND (arrOf (setArr st4 (mirror (arrOf st4) (lo+m - (neq+1)) (lo+m) ((lo+m - (lo+m - (neq+1))) / 2)))) lo m:=fun i j hi hij hj=>by
          show K (mirror (arrOf st4) _ _ _) j<=K (mirror (arrOf st4) _ _ _) i
          rw [ke,ke]
          exact c2 i j hi hij hj
        have d3:∀ i,i < lo->K (arrOf (setArr st4 (mirror (arrOf st4) (lo+m - (neq+1)) (lo+m) ((lo+m - (lo+m - (neq+1))) / 2)))) i=K (arrOf st) i:=fun i hi=>by
          show K (mirror (arrOf st4) _ _ _) i=_
          rw [ke]
          exact c5 i hi
        generalize setArr st4 (mirror (arrOf st4) (lo+m - (neq+1)) (lo+m) ((lo+m - (lo+m - (neq+1))) / 2))=st6 at d1 d2 d3 |-
        have hsz:lo+m<=(arrOf st6).size:=by rw [d1.size]; omega
        refine wpS_bind (wpS_reverse ?_)
        have q1:SB a₀ P (setArr st6 (mirror (arrOf st6) lo (lo+m) ((lo+m - lo) / 2))):=d1.put (mirror_perm _ _ _ _)
        have q2:SF (arrOf (setArr st6 (mirror (arrOf st6) lo (lo+m) ((lo+m - lo) / 2)))) lo m:=fun i j hi hij hj=>by
          show K (mirror (arrOf st6) lo (lo+m) ((lo+m - lo) / 2)) i<=K (mirror (arrOf st6) lo (lo+m) ((lo+m - lo) / 2)) j
          rw [K_mirror hsz,K_mirror hsz,if_pos (by omega),if_pos (by omega)]
          exact d2 _ _ (by omega) (by omega) (by omega)
        have q3:∀ i,i < lo->K (arrOf (setArr st6 (mirror (arrOf st6) lo (lo+m) ((lo+m - lo) / 2)))) i=K (arrOf st) i:=fun i hi=>by
          show K (mirror (arrOf st6) lo (lo+m) ((lo+m - lo) / 2)) i=_
          rw [K_mirror hsz,if_neg (by omega)]
          exact d3 i hi
        generalize setArr st6 (mirror (arrOf st6) lo (lo+m) ((lo+m - lo) / 2))=st5 at q1 q2 q3 |-
        refine wpS_bind (wpS_mono (wpS_forRange (I:=fun x c st'=>st5=st'/\c=(none,x)/\SF (arrOf st5) lo x)
          (Q:=fun c st'=>st5=st'/\∃ mm,c=(none,mm)/\m<=mm/\mm<=nrem/\SF (arrOf st5) lo mm/\(mm=nrem\/K (arrOf st5) (lo+mm) < K (arrOf st5) (lo+mm - 1))) ?_ ?_ ⟨rfl,rfl,q2⟩) ?_)
        · rintro x c st8 hax hxn ⟨rfl,rfl,hs⟩
          dsimp only
          refine wpS_bind (dM q1 h0 (by omega) (by omega) ?_)
          by_cases hl:K (arrOf st5) (lo+x) < K (arrOf st5) (lo+x - 1)
          · simp only [hl,decide_true,if_true]
            exact wpS_pure ⟨rfl,x,rfl,hax,by omega,hs,.inr hl⟩
          · simp only [hl,decide_false,Bool.false_eq_true,if_false]
            exact wpS_pure ⟨rfl,rfl,SF.more hs (by omega) (Int.not_lt.mp hl)⟩
        · rintro c st9 ⟨rfl,rfl,hs⟩
          rw [show max m nrem=nrem by omega] at hs |-
          exact ⟨rfl,nrem,rfl,by omega,Nat.le_refl _,hs,.inl rfl⟩
        rintro c st9 ⟨rfl,m',rfl,g1,g2,g3,_⟩
        exact wpS_pure (h m' _ q1 (by omega) g2 g3 q3)
      · rw [if_neg hq]
        have hsz:lo+m<=(arrOf st4).size:=by rw [c1.size]; omega
        refine wpS_bind (wpS_reverse ?_)
        have q1:SB a₀ P (setArr st4 (mirror (arrOf st4) lo (lo+m) ((lo+m - lo) / 2))):=c1.put (mirror_perm _ _ _ _)
        have q2:SF (arrOf (setArr st4 (mirror (arrOf st4) lo (lo+m) ((lo+m - lo) / 2)))) lo m:=fun i j hi hij hj=>by
          show K (mirror (arrOf st4) lo (lo+m) ((lo+m - lo) / 2)) i<=K (mirror (arrOf st4) lo (lo+m) ((lo+m - lo) / 2)) j
          rw [K_mirror hsz,K_mirror hsz,if_pos (by omega),if_pos (by omega)]
          exact c2 _ _ (by omega) (by omega) (by omega)
        have q3:∀ i,i < lo->K (arrOf (setArr st4 (mirror (arrOf st4) lo (lo+m) ((lo+m - lo) / 2)))) i=K (arrOf st) i:=fun i hi=>by
          show K (mirror (arrOf st4) lo (lo+m) ((lo+m - lo) / 2)) i=_
          rw [K_mirror hsz,if_neg (by omega)]
          exact c5 i hi
        generalize setArr st4 (mirror (arrOf st4) lo (lo+m) ((lo+m - lo) / 2))=st5 at q1 q2 q3 |-
        refine wpS_bind (wpS_mono (wpS_forRange (I:=fun x c st'=>st5=st'/\c=(none,x)/\SF (arrOf st5) lo x)
          (Q:=fun c st'=>st5=st'/\∃ mm,c=(none,mm)/\m<=mm/\mm<=nrem/\SF (arrOf st5) lo mm/\(mm=nrem\/K (arrOf st5) (lo+mm) < K (arrOf st5) (lo+mm - 1))) ?_ ?_ ⟨rfl,rfl,q2⟩) ?_)
        · rintro x c st8 hax hxn ⟨rfl,rfl,hs⟩
          dsimp only
          refine wpS_bind (dM q1 h0 (by omega) (by omega) ?_)
          by_cases hl:K (arrOf st5) (lo+x) < K (arrOf st5) (lo+x - 1)
          · simp only [hl,decide_true,if_true]
            exact wpS_pure ⟨rfl,x,rfl,hax,by omega,hs,.inr hl⟩
          · simp only [hl,decide_false,Bool.false_eq_true,if_false]
            exact wpS_pure ⟨rfl,rfl,SF.more hs (by omega) (Int.not_lt.mp hl)⟩
        · rintro c st9 ⟨rfl,rfl,hs⟩
          rw [show max m nrem=nrem by omega] at hs |-
          exact ⟨rfl,nrem,rfl,by omega,Nat.le_refl _,hs,.inl rfl⟩
        rintro c st9 ⟨rfl,m',rfl,g1,g2,g3,_⟩
        exact wpS_pure (h m' _ q1 (by omega) g2 g3 q3)
  · rw [if_neg hgt]
    have e1:n=1:=by omega
    subst e1
    have nd1:ND (arrOf st) lo 1:=fun i j hi hij hj=>by
      have e9:i=j:=by omega
      subst e9
      exact Int.le_refl _
    have nd:ND (arrOf st) lo (1+1):=ND.more nd1 (by omega) (Int.le_of_lt hlt)
    refine wpS_bind (wpS_lift (wpAny_rule ⟨rfl,?_⟩))
    refine wpS_bind (wpS_mono (wpS_forRange (I:=fun x c st'=>∃ neq,c=(none,x,neq)/\SB a₀ P st'/\ND (arrOf st') lo x/\neq+1<=x/\(∀ i,lo+x - (neq+1)<=i->i < lo+x->K (arrOf st') i=K (arrOf st') (lo+x - 1))/\∀ i,i < lo->K (arrOf st') i=K (arrOf st) i)
      (Q:=fun c st'=>∃ m neq,c=(none,m,neq)/\1+1<=m/\m<=nrem/\SB a₀ P st'/\ND (arrOf st') lo m/\neq+1<=m/\(∀ i,lo+m - (neq+1)<=i->i < lo+m->K (arrOf st') i=K (arrOf st') (lo+m - 1))/\∀ i,i < lo->K (arrOf st') i=K (arrOf st) i) ?_ ?_ ⟨0,rfl,hB,nd,by omega,(fun i h1 h2=>by congr 1; omega),(fun _ _=>rfl)⟩) ?_)
    · rintro x c st8 hax hxn ⟨neq,rfl,c1,c2,c3,c4,c5⟩
      dsimp only
      have hsz:lo+x<=(arrOf st8).size:=by rw [c1.size]; omega
      refine wpS_bind (dM c1 h0 (by omega) (by omega) ?_)
      by_cases hl:K (arrOf st8) (lo+x) < K (arrOf st8) (lo+x - 1)
      · simp only [hl,decide_true,if_true]
        by_cases hq:neq > 0
        · rw [if_pos hq]
          have ke:=K_mirror_equal (i:=lo+x - (neq+1)) hsz c4
          refine wpS_bind (wpS_reverse (wpS_pure ⟨0,rfl,c1.put (mirror_perm _ _ _ _),?_,by omega,(fun i h1 h2=>by congr 1; omega),fun i hi=>?_⟩))
          · intro i j hi hij hj
            show K (mirror (arrOf st8) _ _ _) j<=K (mirror (arrOf st8) _ _ _) i
            rw [ke,ke]
            exact ND.more c2 (by omega) (Int.le_of_lt hl) i j hi hij hj
          · show K (mirror (arrOf st8) _ _ _) i=_
            rw [ke]
            exact c5 i hi
        · rw [if_neg hq]
          exact wpS_pure ⟨0,rfl,c1,ND.more c2 (by omega) (Int.le_of_lt hl),by omega,(fun i h1 h2=>by congr 1; omega),c5⟩
      · simp only [hl,decide_false,Bool.false_eq_true,if_false]
        refine wpS_bind (dM c1 h0 (by omega) (by omega) ?_)
        by_cases hg:K (arrOf st8) (lo+x - 1) < K (arrOf st8) (lo+x)
        · simp only [hg,decide_true,if_true]
          exact wpS_pure ⟨x,neq,rfl,hax,by omega,c1,c2,c3,c4,c5⟩
        · simp only [hg,decide_false,Bool.false_eq_true,if_false]
          have he:K (arrOf st8) (lo+x)=K (arrOf st8) (lo+x - 1):=by omega
          refine wpS_pure ⟨neq+1,rfl,c1,ND.more c2 (by omega) (Int.le_of_eq he),by omega,(fun i h1 h2=>?_),c5⟩
          rw [show lo+(x+1) - 1=lo+x by omega]
          by_cases hix:i=lo+x
          · rw [hix]
          · rw [he]; exact c4 i (by omega) (by omega)
    · rintro c st8 ⟨neq,rfl,c1,c2,c3,c4,c5⟩
      rw [show max (1+1) nrem=nrem by omega] at c2 c3 c4 |-
      exact ⟨nrem,neq,rfl,by omega,Nat.le_refl _,c1,c2,c3,c4,c5⟩
    rintro c st4 ⟨m,neq,rfl,hm1,hm2,c1,c2,c3,c4,c5⟩
    dsimp only
    by_cases hq:neq > 0
    · rw [if_pos hq]
      have hsz4:lo+m<=(arrOf st4).size:=by rw [c1.size]; omega
      have ke:=K_mirror_equal (i:=lo+m - (neq+1)) hsz4 c4
      refine wpS_bind (wpS_reverse ?_)
      have d1:SB a₀ P (setArr st4 (mirror (arrOf st4) (lo+m - (neq+1)) (lo+m) ((lo+m - (lo+m - (neq+1))) / 2))):=c1.put (mirror_perm _ _ _ _)
      have d2:ND (arrOf (setArr st4 (mirror (arrOf st4) (lo+m - (neq+1)) (lo+m) ((lo+m - (lo+m - (neq+1))) / 2)))) lo m:=fun i j hi hij hj=>by
        show K (mirror (arrOf st4) _ _ _) j<=K (mirror (arrOf st4) _ _ _) i
        rw [ke,ke]
        exact c2 i j hi hij hj
      have d3:∀ i,i < lo->K (arrOf (setArr st4 (mirror (arrOf st4) (lo+m - (neq+1)) (lo+m) ((lo+m - (lo+m - (neq+1))) / 2)))) i=K (arrOf st) i:=fun i hi=>by
        show K (mirror (arrOf st4) _ _ _) i=_
        rw [ke]
        exact c5 i hi
      generalize setArr st4 (mirror (arrOf st4) (lo+m - (neq+1)) (lo+m) ((lo+m - (lo+m - (neq+1))) / 2))=st6 at d1 d2 d3 |-
      have hsz:lo+m<=(arrOf st6).size:=by rw [d1.size]; omega
      refine wpS_bind (wpS_reverse ?_)
      have q1:SB a₀ P (setArr st6 (mirror (arrOf st6) lo (lo+m) ((lo+m - lo) / 2))):=d1.put (mirror_perm _ _ _ _)
      have q2:SF (arrOf (setArr st6 (mirror (arrOf st6) lo (lo+m) ((lo+m - lo) / 2)))) lo m:=fun i j hi hij hj=>by
        show K (mirror (arrOf st6) lo (lo+m) ((lo+m - lo) / 2)) i<=K (mirror (arrOf st6) lo (lo+m) ((lo+m - lo) / 2)) j
        rw [K_mirror hsz,K_mirror hsz,if_pos (by omega),if_pos (by omega)]
        exact d2 _ _ (by omega) (by omega) (by omega)
      have q3:∀ i,i < lo->K (arrOf (setArr st6 (mirror (arrOf st6) lo (lo+m) ((lo+m - lo) / 2)))) i=K (arrOf st) i:=fun i hi=>by
        show K (mirror (arrOf st6) lo (lo+m) ((lo+m - lo) / 2)) i=_
        rw [K_mirror hsz,if_neg (by omega)]
        exact d3 i hi
      generalize setArr st6 (mirror (arrOf st6) lo (lo+m) ((lo+m - lo) / 2))=st5 at q1 q2 q3 |-
      refine wpS_bind (wpS_mono (wpS_forRange (I:=fun x c st'=>st5=st'/\c=(none,x)/\SF (arrOf st5) lo x)
        (Q:=fun c st'=>st5=st'/\∃ mm,c=(none,mm)/\m<=mm/\mm<=nrem/\SF (arrOf st5) lo mm/\(mm=nrem\/K (arrOf st5) (lo+mm) < K (arrOf st5) (lo+mm - 1))) ?_ ?_ ⟨rfl,rfl,q2⟩) ?_)
      · rintro x c st8 hax hxn ⟨rfl,rfl,hs⟩
        dsimp only
        refine wpS_bind (dM q1 h0 (by omega) (by omega) ?_)
        by_cases hl:K (arrOf st5) (lo+x) < K (arrOf st5) (lo+x - 1)
        · simp only [hl,decide_true,if_true]
          exact wpS_pure ⟨rfl,x,rfl,hax,by omega,hs,.inr hl⟩
        · simp only [hl,decide_false,Bool.false_eq_true,if_false]
          exact wpS_pure ⟨rfl,rfl,SF.more hs (by omega) (Int.not_lt.mp hl)⟩
      · rintro c st9 ⟨rfl,rfl,hs⟩
        rw [show max m nrem=nrem by omega] at hs |-
        exact ⟨rfl,nrem,rfl,by omega,Nat.le_refl _,hs,.inl rfl⟩
      rintro c st9 ⟨rfl,m',rfl,g1,g2,g3,_⟩
      exact wpS_pure (h m' _ q1 (by omega) g2 g3 q3)
    · rw [if_neg hq]
      have hsz:lo+m<=(arrOf st4).size:=by rw [c1.size]; omega
      refine wpS_bind (wpS_reverse ?_)
      have q1:SB a₀ P (setArr st4 (mirror (arrOf st4) lo (lo+m) ((lo+m - lo) / 2))):=c1.put (mirror_perm _ _ _ _)
      have q2:SF (arrOf (setArr st4 (mirror (arrOf st4) lo (lo+m) ((lo+m - lo) / 2)))) lo m:=fun i j hi hij hj=>by
        show K (mirror (arrOf st4) lo (lo+m) ((lo+m - lo) / 2)) i<=K (mirror (arrOf st4) lo (lo+m) ((lo+m - lo) / 2)) j
        rw [K_mirror hsz,K_mirror hsz,if_pos (by omega),if_pos (by omega)]
        exact c2 _ _ (by omega) (by omega) (by omega)
      have q3:∀ i,i < lo->K (arrOf (setArr st4 (mirror (arrOf st4) lo (lo+m) ((lo+m - lo) / 2)))) i=K (arrOf st) i:=fun i hi=>by
        show K (mirror (arrOf st4) lo (lo+m) ((lo+m - lo) / 2)) i=_
        rw [K_mirror hsz,if_neg (by omega)]
        exact c5 i hi
      generalize setArr st4 (mirror (arrOf st4) lo (lo+m) ((lo+m - lo) / 2))=st5 at q1 q2 q3 |-
      refine wpS_bind (wpS_mono (wpS_forRange (I:=fun x c st'=>st5=st'/\c=(none,x)/\SF (arrOf st5) lo x)
        (Q:=fun c st'=>st5=st'/\∃ mm,c=(none,mm)/\m<=mm/\mm<=nrem/\SF (arrOf st5) lo mm/\(mm=nrem\/K (arrOf st5) (lo+mm) < K (arrOf st5) (lo+mm - 1))) ?_ ?_ ⟨rfl,rfl,q2⟩) ?_)
      · rintro x c st8 hax hxn ⟨rfl,rfl,hs⟩
        dsimp only
        refine wpS_bind (dM q1 h0 (by omega) (by omega) ?_)
        by_cases hl:K (arrOf st5) (lo+x) < K (arrOf st5) (lo+x - 1)
        · simp only [hl,decide_true,if_true]
          exact wpS_pure ⟨rfl,x,rfl,hax,by omega,hs,.inr hl⟩
        · simp only [hl,decide_false,Bool.false_eq_true,if_false]
          exact wpS_pure ⟨rfl,rfl,SF.more hs (by omega) (Int.not_lt.mp hl)⟩
      · rintro c st9 ⟨rfl,rfl,hs⟩
        rw [show max m nrem=nrem by omega] at hs |-
        exact ⟨rfl,nrem,rfl,by omega,Nat.le_refl _,hs,.inl rfl⟩
      rintro c st9 ⟨rfl,m',rfl,g1,g2,g3,_⟩
      exact wpS_pure (h m' _ q1 (by omega) g2 g3 q3)
end
section
variable {prog:Program} {w:World} {A:Around} {E:Value->Shared->Prop} {s:Shared} {a₀:Array Keyed}
theorem SB.pending {P P':Array (Nat × Nat × Nat)} {st:SortSt} (h:SB a₀ P st):SB a₀ P' (setPending st P'):=⟨h.perm,h.kind,h.failed,rfl⟩
def yZ (a₀:Array Keyed) (st:SortSt):Prop:=(SB a₀ #[(0,a₀.size,0)] st/\SF (arrOf st) 0 a₀.size)\/∃ n1 n2 pw,SB a₀ #[(0,n1,pw),(n1,n2,0)] st/\n1+n2=a₀.size/\1<=n1/\1<=n2/\SF (arrOf st) 0 n1/\SF (arrOf st) n1 n2
theorem xW {st:SortSt} {Q:Unit->SortSt->Prop} (h0:IntKeys a₀) (hB:SB a₀ #[] st) (h64:64<=a₀.size) (h128:a₀.size < 128)
    (h:∀ st',(arrOf st').Perm a₀->failedOf st'=none->SortedTo (arrOf st') a₀.size->Q () st'):wpS (model prog w) A E s sortRuns' Q st:=by
  rw [sortRuns'_eq]
  refine wpS_bind (wpS_get ?_)
  dsimp only
  have hmr:minRun' a₀.size a₀.size 0=a₀.size / 2+a₀.size % 2:=by
    obtain ⟨f,hf⟩:∃ f,a₀.size=f+1+1:=⟨a₀.size - 2,by omega⟩
    have:minRun' (f+1+1) a₀.size 0=a₀.size / 2+a₀.size % 2:=by
      rw [minRun'_succ,if_neg (by omega),minRun'_succ,if_pos (by omega),Nat.max_eq_right (Nat.zero_le _)]
    rwa [<- hf] at this
  simp only [hB.size,hmr]
  refine wpS_bind (wpS_mono (wpS_forRange
    (I:=fun x c st'=>(x=0/\c=(none,0)/\SB a₀ #[] st')\/(x=1/\∃ n,c=(none,n)/\a₀.size / 2+a₀.size % 2<=n/\n < a₀.size/\SB a₀ #[(0,n,0)] st'/\SF (arrOf st') 0 n)\/(1<=x/\c=(none,a₀.size)/\yZ a₀ st'))
    (Q:=fun c st'=>c=(none,a₀.size)/\yZ a₀ st') ?step ?fin (.inl ⟨rfl,rfl,hB⟩)) ?post)
  case fin =>
    rintro c st' (⟨hx,_⟩ | ⟨hx,_⟩ | ⟨_,hc,hD⟩)
    · omega
    · omega
    · exact ⟨hc,hD⟩
  case step =>
    rintro x c st' _ hx (⟨rfl,rfl,b⟩ | ⟨rfl,n,rfl,n1,n2,b,sf⟩ | ⟨hx1,rfl,hD⟩)
    · dsimp only
      rw [if_neg (by omega)]
      simp only [Nat.sub_zero,Nat.zero_add]
      refine wpS_bind (rh h0 (by omega) (by omega) b fun m st2 b2 m1 m2 sf2 _=>?_)
      dsimp only
      have go:∀ (n:Nat) (st3:SortSt),a₀.size / 2+a₀.size % 2<=n->n<=a₀.size->SB a₀ #[] st3->SF (arrOf st3) 0 n ->
          ((1=0/\((none:Option Unit),n)=(none,0)/\SB a₀ #[] (setPending st3 ((pendingOf st3).push (0,n,0))))\/(True/\∃ n',((none:Option Unit),n)=(none,n')/\a₀.size / 2+a₀.size % 2<=n'/\n' < a₀.size/\SB a₀ #[(0,n',0)] (setPending st3 ((pendingOf st3).push (0,n,0)))/\SF (arrOf (setPending st3 ((pendingOf st3).push (0,n,0)))) 0 n')\/(1<=1/\((none:Option Unit),n)=(none,a₀.size)/\yZ a₀ (setPending st3 ((pendingOf st3).push (0,n,0))))):=by
        intro n st3 g1 g2 g3 g4
        have ep:(pendingOf st3).push (0,n,0) = #[(0,n,0)]:=by rw [g3.pend]; rfl
        rw [ep]
        by_cases z:n=a₀.size
        · exact .inr (.inr ⟨Nat.le_refl _,by rw [z],.inl ⟨by rw [<- z]; exact g3.pending,by rw [<- z]; exact g4⟩⟩)
        · exact .inr (.inl ⟨trivial,n,rfl,g1,by omega,g3.pending,g4⟩)
      by_cases hlt:m < a₀.size / 2+a₀.size % 2
      · rw [if_pos hlt]
        refine wpS_bind (wpS_lift (wpAny_rule ⟨rfl,?_⟩))
        refine wpS_bind (rp h0 (by omega) (by omega) b2 sf2 fun st3 b3 sf3 _=>?_)
        simp only [Bool.not_true,Bool.false_eq_true,if_false]
        refine wpS_bind (wpS_get ?_)
        have hb:(pendingOf st3).back? = none:=by rw [b3.pend]; rfl
        rw [hb]
        dsimp only
        exact wpS_bind (wpS_modify (wpS_pure (go _ st3 (by omega) (by omega) b3 sf3)))
      · rw [if_neg hlt]
        refine wpS_bind (wpS_get ?_)
        have hb:(pendingOf st2).back? = none:=by rw [b2.pend]; rfl
        rw [hb]
        dsimp only
        exact wpS_bind (wpS_modify (wpS_pure (go _ st2 (by omega) m2 b2 sf2)))
    · dsimp only
      rw [if_neg (by omega)]
      refine wpS_bind (rh h0 (by omega) (by omega) b fun m st2 b2 m1 m2 sf2 pre2=>?_)
      dsimp only
      have keep:∀ st3:SortSt,(∀ i,i < n->K (arrOf st3) i=K (arrOf st') i)->SF (arrOf st3) 0 n:=fun st3 hp i j hi hij hj=>by
        rw [hp i (by omega),hp j (by omega)]
        exact sf i j hi hij hj
      by_cases hlt:m < a₀.size / 2+a₀.size % 2
      · rw [if_pos hlt]
        refine wpS_bind (wpS_lift (wpAny_rule ⟨rfl,?_⟩))
        rw [show min (a₀.size - n) (a₀.size / 2+a₀.size % 2)=a₀.size - n by omega]
        refine wpS_bind (rp h0 (by omega) (by omega) b2 sf2 fun st3 b3 sf3 pre3=>?_)
        simp only [Bool.not_true,Bool.false_eq_true,if_false]
        refine wpS_bind (wpS_get ?_)
        have hb:(pendingOf st3).back? = some (0,n,0):=by rw [b3.pend]; rfl
        rw [hb]
        dsimp only
        refine wpS_bind (wpS_mono (wpS_forRange (I:=fun _ c st''=>st3=st''/\c=(none,())) (Q:=fun c st''=>st3=st''/\c=(none,())) ?_ (fun _ _ hh=>hh) ⟨rfl,rfl⟩) ?_)
        · rintro y c st'' _ _ ⟨rfl,rfl⟩
          refine wpS_bind (wpS_get ?_)
          skip
          rw [b3.pend]
          exact wpS_pure ⟨rfl,rfl⟩
        · rintro c st'' ⟨rfl,rfl⟩
          dsimp only
          refine wpS_bind (wpS_modify ?_)
          refine wpS_bind (wpS_modify ?_)
          refine wpS_pure (.inr (.inr ⟨by omega,(by congr 1; omega),.inr ⟨n,a₀.size - n,power' a₀.size (2*0+n) (2*0+n+n+(a₀.size - n)) a₀.size,⟨b3.perm,b3.kind,b3.failed,?_⟩,by omega,by omega,by omega,keep st3 (fun i hi=>(pre3 i hi).trans (pre2 i hi)),sf3⟩⟩))
          show ((pendingOf st3).modify ((pendingOf st3).size - 1) _).push (n,_,0)=_
          rw [b3.pend]
          first | rfl | simp [Array.modify] | (apply Array.ext'; simp [Array.modify])
      · rw [if_neg hlt]
        have em:m=a₀.size - n:=by omega
        subst em
        refine wpS_bind (wpS_get ?_)
        have hb:(pendingOf st2).back? = some (0,n,0):=by rw [b2.pend]; rfl
        rw [hb]
        dsimp only
        refine wpS_bind (wpS_mono (wpS_forRange (I:=fun _ c st''=>st2=st''/\c=(none,())) (Q:=fun c st''=>st2=st''/\c=(none,())) ?_ (fun _ _ hh=>hh) ⟨rfl,rfl⟩) ?_)
        · rintro y c st'' _ _ ⟨rfl,rfl⟩
          refine wpS_bind (wpS_get ?_)
          skip
          rw [b2.pend]
          exact wpS_pure ⟨rfl,rfl⟩
        · rintro c st'' ⟨rfl,rfl⟩
          dsimp only
          refine wpS_bind (wpS_modify ?_)
          refine wpS_bind (wpS_modify ?_)
          refine wpS_pure (.inr (.inr ⟨by omega,(by congr 1; omega),.inr ⟨n,a₀.size - n,power' a₀.size (2*0+n) (2*0+n+n+(a₀.size - n)) a₀.size,⟨b2.perm,b2.kind,b2.failed,?_⟩,by omega,by omega,by omega,keep st2 pre2,sf2⟩⟩))
          show ((pendingOf st2).modify ((pendingOf st2).size - 1) _).push (n,_,0)=_
          rw [b2.pend]
          first | rfl | simp [Array.modify] | (apply Array.ext'; simp [Array.modify])
    · dsimp only
      rw [if_pos (Nat.le_refl _)]
      exact wpS_pure ⟨rfl,hD⟩
  case post =>
    rintro c st' ⟨rfl,hD⟩
    dsimp only
    refine wpS_bind (wpS_mono (wpS_forRange (I:=fun y c st''=>c=(none,())/\((y=0/\yZ a₀ st'')\/((arrOf st'').Perm a₀/\failedOf st''=none/\(pendingOf st'').size<=1/\SortedTo (arrOf st'') a₀.size)))
      (Q:=fun c st''=>c=(none,())/\(arrOf st'').Perm a₀/\failedOf st''=none/\SortedTo (arrOf st'') a₀.size) ?_ ?_ ⟨rfl,.inl ⟨rfl,hD⟩⟩) ?_)
    · rintro y c st'' _ _ ⟨rfl,⟨rfl,hD⟩ | ⟨q1,q2,q3,q4⟩⟩
      · refine wpS_bind (wpS_get ?_)
        skip
        rcases hD with ⟨b,sf⟩ | ⟨n1,n2,pw,b,e,g1,g2,s1,s2⟩
        · rw [if_pos (by rw [b.pend]; exact Nat.le_refl 1)]
          exact wpS_pure ⟨rfl,b.perm,b.failed,fun i j hij hj=>sf i j (Nat.zero_le _) hij (by omega)⟩
        · rw [if_neg (by rw [b.pend]; simp)]
          rw [b.pend]
          refine wpS_bind (sM b.kind (b.keys h0) b.failed b.pend (by rw [b.size]; omega) g1 g2 (fun i j hij hj=>s1 i j (Nat.zero_le _) hij (by omega)) (fun i j hi hij hj=>s2 i j hi hij hj) fun st5 f5 p5 pm5 so5=>?_)
          refine wpS_pure ⟨rfl,.inr ⟨pm5.trans b.perm,f5,by rw [p5]; exact Nat.le_refl 1,fun i j hij hj=>so5 i j hij (by rw [pm5.size_eq,b.size]; exact hj)⟩⟩
      · refine wpS_bind (wpS_get ?_)
        skip
        rw [if_pos q3]
        exact wpS_pure ⟨rfl,q1,q2,q4⟩
    · rintro c st'' ⟨rfl,⟨hy,_⟩ | ⟨q1,q2,q3,q4⟩⟩
      · omega
      · exact ⟨rfl,q1,q2,q4⟩
    · rintro c st'' ⟨rfl,q1,q2,q4⟩
      exact wpS_pure (h _ q1 q2 q4)
end
section
variable {prog:Program} {w:World} {A:Around} {E:Value->Shared->Prop} {s:Shared}
theorem yN {c:Addr} {us:List Value} {ks:List Int} {m:Nat} {P:PySem.Fin->Shared->Prop} (hc:s.heap.get? c=some (seqObj "list" us.toArray m)) (hu:IntsAre us ks) (l1:64<=us.length) (l2:us.length < 128)
    (q:∀ (out:Array Value) (js:List Int),IntsAre out.toList js->js.Perm ks->js.Pairwise (·<=·)->P (.done (.ret .none)) { s with heap:=sortedHeap s.heap c us out }):wpAny (model prog w) A (Builtin.«list.sort» ⟨[.ref c],[]⟩) P E s:=by
  have hlt:c < s.heap.objs.size:=Heap.lt_size hc
  have hn:us.toArray.size=us.length:=by simp
  obtain ⟨e,h1⟩:∃ e,(s.heap.update c (Obj.mapSeq fun _=>#[])).get? c=some (seqObj "list" #[] e):=⟨_,get?_update_seq hc _⟩
  have h2:(((s.heap.update c (Obj.mapSeq fun _=>#[])).push (seqObj "tuple" us.toArray 0)).push (seqObj "list" #[] 0)).get? c=some (seqObj "list" #[] e):=Heap.get?_push_of_some _ (Heap.get?_push_of_some _ h1)
  have hz1:us.length<=sizeLine:=by rw [sizeLine_eq]; omega
  rw [list_sort_plain]
  refine wpAny_bind (listItems_at hc rfl (wpAny_bind (listUpdate_at hc rfl (wpAny_bind (seqEpoch_at h1 rfl (wpAny_bind (wpAny_newTuple (wpAny_bind (wpAny_newList (wpAny_holding ?_) (Nat.zero_le _))) hz1)))) (by rw [List.size_toArray]; exact hz1) (Nat.zero_le _))))
  show wpAny (model prog w) A _ P E { s with heap:=((s.heap.update c (Obj.mapSeq fun _=>#[])).push (seqObj "tuple" us.toArray 0)).push (seqObj "list" #[] 0) }
  have b2:¬ us.toArray.size < 2:=by omega
  dsimp only
  rw [if_neg b2,if_neg b2]
  obtain ⟨u1,u2,ut,rfl⟩:∃ u1 u2 ut,us=u1::u2::ut:=by
    match us,l1 with
    | u1::u2::ut,_=>exact ⟨u1,u2,ut,rfl⟩
  rw [keyKind_ints hu]
  refine wpAny_bind (wpAny_pure (wpAny_bind (wpAny_mono (xW (a₀:=pairsOf (u1::u2::ut)) (Q:=fun _ z=>(arrOf z).Perm (pairsOf (u1::u2::ut))/\failedOf z=none/\SortedTo (arrOf z) (pairsOf (u1::u2::ut)).size)
    hu.intKeys ⟨Array.Perm.refl _,rfl,rfl,rfl⟩ (by rw [pairsOf_size]; exact l1) (by rw [pairsOf_size]; exact l2) fun z z1 z2 z3=>⟨z1,z2,z3⟩) ?_ fun _ _ x=>x)))
  rintro ⟨⟨⟩,z⟩ s' ⟨rfl,z1,z2,z3⟩
  obtain ⟨js,j1,j2,j3⟩:=sorted_out hu z1 z3
  have hz:((arrOf z).map (·.2)).size<=sizeLine+1:=by
    rw [Array.size_map,z1.size_eq,pairsOf_size,sizeLine_eq]
    omega
  dsimp only
  refine wpAny_bind (seqEpoch_at h2 rfl (wpAny_bind (listUpdate_at h2 rfl ?_ (hsz2:=hz))))
  rw [z2]
  simp only [bne_self_eq_false,Bool.false_eq_true,if_false]
  exact wpAny_pure (q _ js j1 j2 j3)
theorem sorted_far {c:Addr} {us:List Value} {ks:List Int} {Q:Value->Shared->Prop} (hc:s.heap.IsList c us.toArray) (hu:IntsAre us ks) (l1:64<=us.length) (l2:us.length < 128)
    (q:∀ (out:Array Value) (js:List Int),IntsAre out.toList js->js.Perm ks->js.Pairwise (·<=·)->Q (.ref (s.heap.objs.size+1)) { s with heap:=sortedAll s.heap us out }):wpAny (model prog w) A (call (.builtin "sorted") [.ref c]) Q E s:=by
  have hn:((s.heap.push (seqObj "list" #[] 0)).update s.heap.objs.size (Obj.mapSeq (·++us.toArray))).objs.size=s.heap.objs.size+1:=(Heap.size_update _ _ _).trans (size_push' _ _)
  have hL:=hn▸Heap.get?_push_size ((s.heap.push (seqObj "list" #[] 0)).update s.heap.objs.size (Obj.mapSeq (·++us.toArray))) (o:=seqObj "list" us.toArray 0) rfl
  refine Calls.call_function_entry kind_sorted plain_sorted entry_sorted (args_sorted1 _) ?_
  unfold Builtin.«sorted»
  have hz1:us.length<=sizeLine:=by rw [sizeLine_eq]; omega
  refine wpAny_bind (m:=checkCount "sorted" 1 1 _) (wpAny_pure (wpAny_bind (collect_list hc (wpAny_bind (wpAny_newList ?_ hz1)) hz1)))
  show wpAny _ _ _ _ _ { s with heap:=((s.heap.push (seqObj "list" #[] 0)).update s.heap.objs.size (Obj.mapSeq (·++us.toArray))).push (seqObj "list" us.toArray 0) }
  rw [hn]
  exact wpAny_bind (wpAny_holding (wpAny_call_entry slot_list_sort ⟨_,hL,rfl⟩ entry_list_sort (yN hL hu l1 l2 fun out js a1 a2 a3=>⟨_,rfl,wpAny_pure ⟨_,rfl,q out js a1 a2 a3⟩⟩) (args_list_sort _)))
end
end Lg
namespace L2
open PySem PySem.Spec PyProof.Rows
theorem r9 {X:Cx}:eN X (.builtin "sorted") (fun xs H Q=>∃ (p:Addr) (ns:List Int),xs=[.ref p]/\ar X.K H p (ns.map V.int)/\ns.length < 128/\∀ (q:Addr) (ms:List Int),H q=none->ms.Perm ns->ms.Pairwise (·<=·)->Q (.ref q) (upd H q (.lst (ms.map V.int)))):=by
  intro pins s σ H xs us Q I r h
  obtain ⟨p,ns,rfl,hl,h2,q⟩:=h
  by_cases h64:ns.length < 64
  · exact sE pins s σ H _ us Q I r ⟨p,ns,rfl,hl,h64,q⟩
  obtain ⟨u,rfl,ru⟩:=vals1 r
  cases ru
  obtain ⟨its,r',pl,hz⟩:=I.list hl
  have hi:IntsAre its ns:=intsAre_of r'
  refine Lg.sorted_far pl.isList hi (by rw [hi.length]; omega) (by rw [hi.length]; exact h2) fun out ms ho hp hs=>?_
  obtain ⟨e,he⟩:=sortedAll_at s.heap its out
  have lm:(ms.map V.int).length<=sizeLine:=by rw [List.length_map,hp.length_eq]; exact sz (by omega)
  exact ⟨.ref _,_,I.laid (t':=s.toks) (o:=.lst (ms.map V.int)) (fun b u e=>sortedAll_old e) (Nat.le_succ _) ⟨lm,out.toList,e,iB ho,by simpa [seqObj] using he⟩,rfl,q _ ms (I.hok.fresh (Nat.le_succ _)) hp hs⟩
end L2
set_option Elab.async false
set_option linter.all false
set_option maxRecDepth 100000
set_option maxHeartbeats 4000000
namespace L2
open PySem PySem.Spec PyProof.Rows
section
variable {X:Cx} {tg:Expr}
end
section
variable {X:Cx} {a b c d:Expr} {ta tb tc td:TE} {pos:Pos}
noncomputable def DS (r1 r2 r3:R2) (ta tb tc td:TE):TE:=fun σ H Q=>ta σ H fun x H1=>tb σ H1 fun y H2=>r1 x y H2 fun z H3=>∃ k,z = .bl k /\
  (if k=true then tc σ H3 fun w' H4=>r2 y w' H4 fun z' H5=>∃ k',z' = .bl k'/\(if k'=true then td σ H5 fun v' H6=>r3 w' v' H6 Q else Q (.bl false) H5) else Q (.bl false) H3)
theorem Bp {o1 o2 o3:CmpOp} {r1 r2 r3:R2} (h1:cQ X (compareOp o1) r1) (h2:cQ X (compareOp o2) r2) (h3:cQ X (compareOp o3) r3) (ha:PE X a ta) (hb:PE X b tb) (hc:PE X c tc) (hd:PE X d td)
    (hm:lastMarks [o1,o2,o3] [b,c,d]=false:=by with_unfolding_all rfl):PT X (.Compare a [o1,o2,o3] [b,c,d] pos) (yO (DS r1 r2 r3 ta tb tc td)):=by
  intro pins s σ H Q I h
  refine isTrue_chain (aI (ha pins s σ H _ I h) fun v s1 ⟨x,H1,I1,x1,q1⟩=>test_link (aI (hb pins s1 σ H1 _ I1 q1) fun u s2 ⟨y,H2,I2,x2,q2⟩ =>
    aI (h1 pins s2 σ H2 x y v u _ I2 x1 x2 q2) fun e s3 ⟨z,H3,I3,x3,k,ek,q3⟩=>?_)) hm
  subst ek
  cases x3
  refine wpAny_truthy_bool ?_
  cases k with
  | false =>
    obtain ⟨k',e',q'⟩:=q3
    cases e'
    exact ite_ff ⟨H3,I3,q'⟩
  | true =>
    refine ite_tt (test_link (aI (hc pins s3 σ H3 _ I3 q3) fun w' s4 ⟨z',H4,I4,x4,q4⟩=>aI (h2 pins s4 σ H4 y z' u w' _ I4 x2 x4 q4) fun d' s5 ⟨z2,H5,I5,x5,k2,e2,q5⟩=>?_))
    subst e2
    cases x5
    refine wpAny_truthy_bool ?_
    cases k2 with
    | false =>
      obtain ⟨k',e',q'⟩:=q5
      cases e'
      exact ite_ff ⟨H5,I5,q'⟩
    | true =>
      refine ite_tt (test_last (aI (hd pins s5 σ H5 _ I5 q5) fun w2 s6 ⟨z3,H6,I6,x6,q6⟩=>aI (h3 pins s6 σ H6 z' z3 w' w2 _ I6 x4 x6 q6) fun d2 s7 ⟨z4,H7,I7,x7,k3,e3,q7⟩=>?_))
      subst e3
      cases x7
      exact wpAny_truthy_bool ⟨H7,I7,q7⟩
end
end L2
namespace Ck
open PySem L2
theorem cT.prs {K:PySem.W.Frag} {H:Hp} {a b:Addr} {ps qs:List Pair} (ne:a≠b) (ha:bz H a ps) (hb:bz H b qs):cT K H 2 (.ref a) (.ref b) (decide (ps=qs)):=by
  obtain ⟨xs,ea,lx,px⟩:=ha.len
  obtain ⟨ys,eb,ly,py⟩:=hb.len
  by_cases hl:ps.length=qs.length
  · have h:=cT.lst (K:=K) (n:=1) (e:=fun j=>decide (ps.getD j (0,0)=qs.getD j (0,0))) ne (ar.of ea) (ar.of eb) (by omega) (fun j x y hx hy=>by
      obtain ⟨p,t,hp,rfl,ht⟩:=px.get hx
      obtain ⟨r,u,hr,rfl,hu⟩:=py.get hy
      rw [List.getD_eq_getElem?_getD,List.getD_eq_getElem?_getD,hp,hr]
      show cT K H 1 _ _ (decide (p=r))
      by_cases e:t=u
      · subst e
        have:p=r:=by
          rw [ht] at hu
          injection hu with hu; injection hu with hu
          injection hu with h1 h2; injection h2 with h2 _
          injection h1 with h1; injection h2 with h2
          exact Prod.ext h1 h2
        rw [decide_eq_true this]
        exact cT.same
      · have:=cT.two (K:=K) (n:=0) e ht hu
        have e2:decide (p=r)=(decide (p.1=r.1)&&decide (p.2=r.2)):=by
          rw [Bool.eq_iff_iff,Bool.and_eq_true,decide_eq_true_iff,decide_eq_true_iff,decide_eq_true_iff]
          exact ⟨fun z=>by rw [z]; exact ⟨rfl,rfl⟩,fun z=>Prod.ext z.1 z.2⟩
        rw [e2]
        exact this)
    have e:(List.range xs.length).all (fun j=>decide (ps.getD j (0,0)=qs.getD j (0,0)))=decide (ps=qs):=by
      rw [Bool.eq_iff_iff,List.all_eq_true,decide_eq_true_iff]
      constructor
      · intro h
        refine List.ext_getElem hl fun k h1 h2=>?_
        have:=of_decide_eq_true (h k (List.mem_range.mpr (by omega)))
        rw [List.getD_eq_getElem?_getD,List.getD_eq_getElem?_getD,List.getElem?_eq_getElem h1,List.getElem?_eq_getElem h2] at this
        exact this
      · intro h k _
        rw [h]
        exact decide_eq_true rfl
    rw [e] at h
    exact h
  · have:decide (ps=qs)=false:=decide_eq_false fun z=>hl (by rw [z])
    rw [this]
    exact cT.lstN ne (ar.of ea) (ar.of eb) (by omega)
end Ck
namespace Ck
open PySem L2
noncomputable def aP:List Pair->List Int
  | []=>[]
  | p::ps=>p.1::p.2::aP ps
theorem fZ:∀ ps:List Pair,(aP ps).length=2*ps.length
  | []=>rfl
  | p::ps=>by
    show (aP ps).length+1+1=2*(ps.length+1)
    have:=fZ ps
    omega
theorem i4:∀ ps qs:List Pair,aP (ps++qs)=aP ps++aP qs
  | [],qs=>rfl
  | p::ps,qs=>by
    show p.1::p.2::aP (ps++qs)=_
    rw [i4 ps qs]
    rfl
theorem eX {x:Int}:∀ {ps:List Pair},x∈aP ps↔∃ p∈ps,x=p.1\/x=p.2
  | []=>by simp [aP]
  | p::ps=>by
    show x∈p.1::p.2::aP ps↔_
    rw [List.mem_cons,List.mem_cons,eX (ps:=ps)]
    constructor
    · rintro (h | h | ⟨r,hr,h⟩)
      · exact ⟨p,List.mem_cons_self ..,.inl h⟩
      · exact ⟨p,List.mem_cons_self ..,.inr h⟩
      · exact ⟨r,List.mem_cons_of_mem _ hr,h⟩
    · rintro ⟨r,hr,h⟩
      rcases List.mem_cons.mp hr with rfl | hr
      · rcases h with h | h
        · exact .inl h
        · exact .inr (.inl h)
      · exact .inr (.inr ⟨r,hr,h⟩)
noncomputable abbrev dC (ps:List Pair) (k:Nat):Int:=(ps.getD k (0,0)).1
noncomputable abbrev qA (ps:List Pair) (k:Nat):Int:=(ps.getD k (0,0)).2
noncomputable def wj (ps:List Pair) (k:Nat):Bool:=decide (dC ps k < qA ps k)&&(decide (k=0) || decide (dC ps (k - 1) < dC ps k))
noncomputable def g9 (p r:Pair):Bool:=decide (p.1 < r.1)&&(decide (r.1 < p.2)&&decide (p.2 < r.2))
noncomputable def d7 (ps:List Pair):Bool:=ps.any fun p=>ps.any (g9 p)
noncomputable def cJ (ps:List Pair):Bool:=(List.range ps.length).all (wj ps)&&(eh (aP ps)&&!d7 ps)
theorem hV {ps:List Pair}:(List.range ps.length).all (wj ps)=true↔∀ k,k < ps.length->dC ps k < qA ps k/\(k=0\/dC ps (k - 1) < dC ps k):=by
  rw [List.all_eq_true]
  constructor
  · intro h k hk
    have:=h k (List.mem_range.mpr hk)
    unfold wj at this
    simpa using this
  · intro h k hk
    have:=h k (List.mem_range.mp hk)
    unfold wj
    simpa using this
theorem wN {ps:List Pair} (h:∀ k,k < ps.length->k=0\/dC ps (k - 1) < dC ps k):∀ (j i:Nat),i < j->j < ps.length->dC ps i < dC ps j
  | 0,i,hi,_=>absurd hi (Nat.not_lt_zero _)
  | j+1,i,hi,hj=>by
    have h1:=(h (j+1) hj).resolve_left (by omega)
    rw [Nat.add_sub_cancel] at h1
    by_cases e:i=j
    · subst e; exact h1
    · exact Int.lt_trans (wN h j i (by omega) (by omega)) h1
theorem oP {ps:List Pair} {k:Nat} (h:k < ps.length):ps.getD k (0,0)∈ps:=by
  rw [List.getD_eq_getElem?_getD,List.getElem?_eq_getElem h]
  exact List.getElem_mem h
theorem wo {ps:List Pair} {p:Pair} (h:p∈ps):∃ k,k < ps.length/\ps.getD k (0,0)=p:=by
  obtain ⟨k,hk,e⟩:=List.getElem_of_mem h
  exact ⟨k,hk,by rw [List.getD_eq_getElem?_getD,List.getElem?_eq_getElem hk]; exact e⟩
theorem oa {ps:List Pair} (h:(aP ps).Nodup):ps.Pairwise fun p q=>p.1≠q.1:=by
  induction ps with
  | nil=>exact .nil
  | cons p ps ih =>
    have h':(p.1::p.2::aP ps).Nodup:=h
    rw [List.nodup_cons,List.nodup_cons] at h'
    refine .cons (fun q hq e=>h'.1 ?_) (ih h'.2.2)
    rw [e]
    exact List.mem_cons_of_mem _ (eX.mpr ⟨q,hq,.inl rfl⟩)
theorem gK (n:Nat):(cf n).Nodup:=(mC n).imp fun h=>Int.ne_of_lt h
theorem iO {ps qs:List Pair} (hp:qs.Perm ps) (hs:qs.Pairwise cg) (hE:eh (aP ps)=true):decide (ps=qs)=true↔∀ k,k < ps.length->k=0\/dC ps (k - 1) < dC ps k:=by
  have nd:(aP ps).Nodup:=((cS _).mp hE).nodup_iff.mpr (gK _)
  have ne:=oa nd
  rw [decide_eq_true_iff]
  constructor
  · intro e k hk
    rw [<- e] at hs
    by_cases h0:k=0
    · exact .inl h0
    refine .inr ?_
    have h1:=List.pairwise_iff_getElem.mp hs (k - 1) k (by omega) hk (by omega)
    have h2:=List.pairwise_iff_getElem.mp ne (k - 1) k (by omega) hk (by omega)
    have e1:ps.getD (k - 1) (0,0)=ps[k - 1]:=by rw [List.getD_eq_getElem?_getD,List.getElem?_eq_getElem (by omega)]; rfl
    have e2:ps.getD k (0,0)=ps[k]:=by rw [List.getD_eq_getElem?_getD,List.getElem?_eq_getElem hk]; rfl
    unfold dC
    rw [e1,e2]
    unfold cg at h1
    omega
  · intro h
    refine List.Perm.eq_of_pairwise (le:=cg) (fun a b _ _ h1 h2=>?_) ?_ hs hp.symm
    · unfold cg at h1 h2
      exact Prod.ext (by omega) (by omega)
    · refine List.pairwise_iff_getElem.mpr fun i j hi hj hij=>?_
      have:=wN h j i hij hj
      unfold dC at this
      rw [List.getD_eq_getElem?_getD,List.getD_eq_getElem?_getD,List.getElem?_eq_getElem hi,List.getElem?_eq_getElem hj] at this
      exact .inl this
theorem Ai {ps:List Pair}:(ps.all fun p=>decide (p.1 < p.2))=true↔∀ k,k < ps.length->dC ps k < qA ps k:=by
  rw [List.all_eq_true]
  constructor
  · intro h k hk
    exact of_decide_eq_true (h _ (oP hk))
  · intro h p hp
    obtain ⟨k,hk,rfl⟩:=wo hp
    exact decide_eq_true (h k hk)
theorem wH {ps:List Pair} (h:eh (aP ps)=false):cJ ps=false:=by unfold cJ; rw [h]; simp
theorem ug {ps qs:List Pair} (hp:qs.Perm ps) (hs:qs.Pairwise cg) (hE:eh (aP ps)=true) (h:ps≠qs):cJ ps=false:=by
  cases e:cJ ps with
  | false=>rfl
  | true =>
    unfold cJ at e
    rw [Bool.and_eq_true] at e
    exact absurd (of_decide_eq_true ((iO hp hs hE).mpr fun k hk=>(hV.mp e.1 k hk).2)) h
theorem sH {ps qs:List Pair} (hp:qs.Perm ps) (hs:qs.Pairwise cg) (hE:eh (aP ps)=true) (h:ps=qs):cJ ps=((ps.all fun p=>decide (p.1 < p.2))&&!d7 ps):=by
  have a:=(iO hp hs hE).mp (decide_eq_true h)
  have b:(List.range ps.length).all (wj ps)=ps.all fun p=>decide (p.1 < p.2):=by
    rw [Bool.eq_iff_iff,hV,Ai]
    exact ⟨fun h k hk=>(h k hk).1,fun h k hk=>⟨h k hk,a k hk⟩⟩
  unfold cJ
  rw [b,hE,Bool.true_and]
theorem gv {ps:List Pair}:d7 ps=true↔∃ p∈ps,∃ r∈ps,p.1 < r.1/\r.1 < p.2/\p.2 < r.2:=by
  unfold d7
  rw [List.any_eq_true]
  constructor
  · rintro ⟨p,hp,h⟩
    obtain ⟨r,hr,h⟩:=List.any_eq_true.mp h
    unfold g9 at h
    exact ⟨p,hp,r,hr,by simpa using h⟩
  · rintro ⟨p,hp,r,hr,h⟩
    exact ⟨p,hp,List.any_eq_true.mpr ⟨r,hr,by unfold g9; simpa using h⟩⟩
end Ck
set_option Elab.async false
set_option linter.all false
set_option maxRecDepth 100000
set_option maxHeartbeats 4000000
namespace L2
open PySem PySem.Spec PyProof.Rows
section
variable {X:Cx}
end
section
variable {X:Cx}
noncomputable def DQ:R2:=fun x y H Q=>∃ a i j,x = .ref a/\y = .ref a/\H a=some (.tup [.int i,.int j])/\Q (.bl false) H
theorem AG (hu:X.A.units+100 < cLine):cQ X (compareOp .NotEq) DQ:=by
  intro pins s σ H x y u v Q I ru rv h
  obtain ⟨a,i,j,rfl,rfl,ha,q⟩:=h
  cases (show u=Value.ref _ from ru)
  cases (show v=Value.ref _ from rv)
  obtain ⟨us,r,pl,_⟩:=I.tuple (a9.of ha)
  refine SeqAt.RcNeAt.tuples (e:=fun _=>true) pl pl (by omega) (fun j h1 h2=>?_) _ _ _ _ ⟨.bl _,H,I,rfl,?_⟩
  · obtain ⟨x,ex,rx⟩:=dD r h1
    obtain ⟨k,rfl⟩:∃ k,x = .int k:=by
      rcases List.mem_cons.mp (List.mem_of_getElem? ex) with z | z
      · exact ⟨_,z⟩
      · exact ⟨_,by simpa using z⟩
    have z:=cT.flat (K:=X.K) (H:=H) (n:=0) (x:=V.int k) (y:=V.int k) rfl rfl
    rw [show mh (V.int k) (V.int k)=true from decide_eq_true rfl] at z
    exact z.at_ (A:=X.A.in1) (by show X.A.units+1+0 < cLine; omega) I rx rx
  · have e (k:Nat):(List.range k).all (fun _=>true)=true:=List.all_eq_true.mpr fun _ _=>rfl
    rw [e]
    simpa using q
end
end L2
namespace Ck
open PySem L2
noncomputable def Dp (c:List Nat) (j:Nat):Int:=(j:Int) - 2*((c.take j).count 41:Nat)
theorem zG (c:List Nat):Dp c 0=0:=by unfold Dp; simp
theorem nX {c:List Nat} {j:Nat} (h:j < c.length):Dp c (j+1)=Dp c j+1 - 2*(if c.getD j 0=41 then 1 else 0):=by
  unfold Dp
  have e:c.getD j 0=c[j]:=by rw [List.getD_eq_getElem?_getD,List.getElem?_eq_getElem h]; rfl
  rw [List.take_add_one,List.getElem?_eq_getElem h,List.count_append,e]
  have:((some c[j]).toList).count 41=if c[j]=41 then 1 else 0:=by
    show [c[j]].count 41=_
    rw [List.count_singleton]
    by_cases z:c[j]=41<;>simp [z]
  rw [this]
  split<;>omega
noncomputable def bC (c:List Nat) (k:Nat):Int:=match (List.range c.length).find? (fun j=>decide (k<=j)&&decide (Dp c (j+1)=Dp c k)) with
  | some j=>(j:Int)
  | none=>-1
theorem tS {c:List Nat} {k j:Nat} (hk:k<=j) (hj:j < c.length) (h:Dp c (j+1)=Dp c k) (before:∀ m,k<=m->m < j->Dp c (m+1)≠Dp c k):bC c k=(j:Int):=by
  have:(List.range c.length).find? (fun j=>decide (k<=j)&&decide (Dp c (j+1)=Dp c k))=some j:=by
    rw [List.find?_range_eq_some]
    refine ⟨by simp [hk,h],List.mem_range.mpr hj,fun m hm=>?_⟩
    by_cases z:k<=m
    · have:=before m z hm
      simp [this]
    · simp [z]
  unfold bC
  rw [this]
theorem zA {c:List Nat} {k:Nat} (h:∀ m,k<=m->m < c.length->Dp c (m+1)≠Dp c k):bC c k = -1:=by
  have:(List.range c.length).find? (fun j=>decide (k<=j)&&decide (Dp c (j+1)=Dp c k))=none:=by
    rw [List.find?_eq_none]
    intro m hm
    by_cases z:k<=m
    · have:=h m z (List.mem_range.mp hm)
      simp [this]
    · simp [z]
  unfold bC
  rw [this]
noncomputable def cF (c:List Nat) (i:Nat):List Pair:=(List.range i).filterMap fun k=>if c.getD k 0=40 then some ((k:Int),bC c k) else none
theorem eV (c:List Nat) (i:Nat):cF c (i+1)=cF c i++(if c.getD i 0=40 then [((i:Int),bC c i)] else []):=by
  unfold cF
  rw [List.range_succ,List.filterMap_append]
  congr 1
  by_cases h:c.getD i 0=40
  · rw [if_pos h,List.filterMap_cons_some (by rw [if_pos h]),List.filterMap_nil]
  · rw [if_neg h,List.filterMap_cons_none (by rw [if_neg h]),List.filterMap_nil]
theorem wM (c:List Nat) (i:Nat):(cF c i).Pairwise fun p q=>p.1 < q.1:=by
  unfold cF
  refine List.Pairwise.filterMap _ ?_ List.pairwise_lt_range
  intro a b hab p hp q hq
  by_cases ha:c.getD a 0=40
  · by_cases hb:c.getD b 0=40
    · rw [if_pos ha] at hp
      rw [if_pos hb] at hq
      injection hp with hp
      injection hq with hq
      subst hp; subst hq
      show (a:Int) < (b:Int)
      omega
    · rw [if_neg hb] at hq
      cases hq
  · rw [if_neg ha] at hp
    cases hp
theorem sW {c:List Nat} {i:Nat} {p:Pair}:p∈cF c i↔∃ k,k < i/\c.getD k 0=40/\p=((k:Int),bC c k):=by
  unfold cF
  rw [List.mem_filterMap]
  constructor
  · rintro ⟨k,hk,h⟩
    by_cases ha:c.getD k 0=40
    · rw [if_pos ha] at h
      injection h with h
      exact ⟨k,List.mem_range.mp hk,ha,h.symm⟩
    · rw [if_neg ha] at h
      cases h
  · rintro ⟨k,hk,ha,rfl⟩
    exact ⟨k,List.mem_range.mpr hk,by rw [if_pos ha]⟩
structure Wk (c:List Nat) (i:Nat) (fd:List Pair) (sk:List Int):Prop where
  prm:(fd++sk.map fun k=>(k,bC c k.toNat)).Perm (cF c i)
  flt:(aP fd++sk).Perm (cf i)
  dep:(sk.length:Int)=Dp c i
  stk:∀ (s:Nat) (k:Int),sk[s]? = some k->0<=k/\k < (i:Int)/\Dp c k.toNat=(s:Int)/\∀ j,k.toNat<=j->j < i->(s:Int) < Dp c (j+1)
  prs:∀ p∈fd,0<=p.1/\p.1 < p.2/\p.2 < (i:Int)/\Dp c (p.2.toNat+1)=Dp c p.1.toNat/\∀ j:Nat,p.1.toNat<=j->(j:Int) < p.2->Dp c p.1.toNat < Dp c (j+1)
theorem Wk.nil (c:List Nat):Wk c 0 [] []:=⟨.nil,.nil,by rw [zG]; rfl,fun s k h=>by simp at h,fun p hp=>by cases hp⟩
theorem Wk.up {c:List Nat} {i:Nat} {fd:List Pair} {sk:List Int} (w:Wk c i fd sk) (hi:i < c.length) (h:c.getD i 0=40):Wk c (i+1) fd (sk++[(i:Int)]):=by
  have hD:=nX hi
  rw [h] at hD
  simp at hD
  refine ⟨?_,?_,?_,?_,?_⟩
  · rw [eV,if_pos h,List.map_append,<- List.append_assoc]
    have:[(i:Int)].map (fun k=>(k,bC c k.toNat))=[((i:Int),bC c i)]:=by simp
    rw [this]
    exact w.prm.append_right _
  · rw [lN,<- List.append_assoc]
    exact w.flt.append_right _
  · rw [List.length_append,hD,<- w.dep]
    simp
  · intro s k hk
    by_cases e:s < sk.length
    · rw [List.getElem?_append_left e] at hk
      obtain ⟨h1,h2,h3,h4⟩:=w.stk s k hk
      refine ⟨h1,by omega,h3,fun j hj hji=>?_⟩
      by_cases ej:j=i
      · subst ej
        have:=w.dep
        omega
      · exact h4 j hj (by omega)
    · rw [List.getElem?_append_right (by omega)] at hk
      have es:s=sk.length:=by
        have:=(List.getElem?_eq_some_iff.mp hk).1
        simp at this
        omega
      subst es
      have ek:(i:Int)=k:=by simpa using hk
      subst ek
      refine ⟨by omega,by omega,?_,fun j hj hji=>?_⟩
      · rw [show ((i:Nat):Int).toNat=i by omega,w.dep]
      · have:j=i:=by omega
        subst this
        have:=w.dep
        omega
  · intro p hp
    obtain ⟨h1,h2,h3,h4,h5⟩:=w.prs p hp
    exact ⟨h1,h2,by omega,h4,h5⟩
theorem Wk.down {c:List Nat} {i:Nat} {fd:List Pair} {sk:List Int} {m:Int} (w:Wk c i fd (sk++[m])) (hi:i < c.length) (h:c.getD i 0=41):Wk c (i+1) (fd++[(m,(i:Int))]) sk:=by
  have hD:=nX hi
  rw [if_pos h] at hD
  obtain ⟨m0,m1,m2,m3⟩:=w.stk sk.length m (by simp)
  have dep:=w.dep
  rw [List.length_append] at dep
  have dep':(sk.length:Int)+1=Dp c i:=by simpa using dep
  have hm:bC c m.toNat=(i:Int):=tS (by omega) hi (by omega) (fun j hj hji=>by have:=m3 j hj hji; omega)
  refine ⟨?_,?_,by omega,?_,?_⟩
  · rw [eV,if_neg (by rw [h]; decide),List.append_nil]
    have p:=w.prm
    rw [List.map_append] at p
    have e:[m].map (fun k=>(k,bC c k.toNat))=[(m,(i:Int))]:=by simp [hm]
    rw [e] at p
    refine List.Perm.trans ?_ p
    rw [List.append_assoc]
    exact List.Perm.append_left _ List.perm_append_comm
  · rw [lN,i4]
    have p:=w.flt
    have e:aP [(m,(i:Int))]=[m]++[(i:Int)]:=rfl
    rw [e]
    refine List.Perm.trans ?_ (p.append_right _)
    rw [List.append_assoc,List.append_assoc,List.append_assoc]
    refine List.Perm.append_left _ ?_
    rw [<- List.append_assoc]
    exact List.perm_append_comm.trans (by rw [List.append_assoc])
  · intro s k hk
    have hs:=(List.getElem?_eq_some_iff.mp hk).1
    obtain ⟨h1,h2,h3,h4⟩:=w.stk s k (by rw [List.getElem?_append_left hs]; exact hk)
    refine ⟨h1,by omega,h3,fun j hj hji=>?_⟩
    by_cases ej:j=i
    · subst ej; omega
    · exact h4 j hj (by omega)
  · intro p hp
    rcases List.mem_append.mp hp with z | z
    · obtain ⟨h1,h2,h3,h4,h5⟩:=w.prs p z
      exact ⟨h1,h2,by omega,h4,h5⟩
    · have e:p=(m,(i:Int)):=by simpa using z
      subst e
      refine ⟨m0,m1,by show (i:Int) < ((i+1:Nat):Int); omega,?_,fun j hj hji=>?_⟩
      · show Dp c ((i:Int).toNat+1)=Dp c m.toNat
        rw [show ((i:Nat):Int).toNat=i by omega]
        omega
      · show Dp c m.toNat < _
        have hji:(j:Int) < (i:Int):=hji
        have:=m3 j hj (by omega)
        omega
theorem Wk.bows {c:List Nat} {n:Nat} {fd:List Pair} (w:Wk c n fd []):cJ (cF c n)=true:=by
  have p:=w.prm
  rw [List.map_nil,List.append_nil] at p
  have f:=w.flt
  rw [List.append_nil] at f
  have fp:(aP (cF c n)).Perm (aP fd):=by
    have go:∀ {as bs:List Pair},as.Perm bs->(aP as).Perm (aP bs):=by
      intro as bs h
      induction h with
      | nil=>exact .nil
      | cons x _ ih=>exact (ih.cons _).cons _
      | swap x y l =>
        show (y.1::y.2::x.1::x.2::aP l).Perm (x.1::x.2::y.1::y.2::aP l)
        exact (List.perm_append_comm (l₁:=[y.1,y.2]) (l₂:=[x.1,x.2])).append_right (aP l)
      | trans _ _ i1 i2=>exact i1.trans i2
    exact go p.symm
  have al:∀ k,k < (cF c n).length->(cF c n).getD k (0,0)∈fd:=fun k hk=>p.mem_iff.mpr (oP hk)
  unfold cJ
  rw [Bool.and_eq_true,Bool.and_eq_true]
  refine ⟨hV.mpr fun k hk=>⟨(w.prs _ (al k hk)).2.1,?_⟩,(cS _).mpr ?_,?_⟩
  · by_cases e:k=0
    · exact .inl e
    · refine .inr ?_
      have:=List.pairwise_iff_getElem.mp (wM c n) (k - 1) k (by omega) hk (by omega)
      unfold dC
      rw [List.getD_eq_getElem?_getD,List.getD_eq_getElem?_getD,List.getElem?_eq_getElem hk,List.getElem?_eq_getElem (show k - 1 < (cF c n).length by omega)]
      exact this
  · have e:=(fp.trans f).length_eq
    rw [nY] at e
    rw [e]
    exact fp.trans f
  · cases e:d7 (cF c n) with
    | false=>rfl
    | true =>
      obtain ⟨a,ha,b,hb,h1,h2,h3⟩:=gv.mp e
      obtain ⟨a1,a2,a3,a4,a5⟩:=w.prs a (p.mem_iff.mpr ha)
      obtain ⟨b1,b2,b3,b4,b5⟩:=w.prs b (p.mem_iff.mpr hb)
      have x1:=b5 a.2.toNat (by omega) (by omega)
      have x2:=a5 (b.1.toNat - 1) (by omega) (by omega)
      rw [show b.1.toNat - 1+1=b.1.toNat by omega] at x2
      omega
theorem A0 {c:List Nat} {n:Nat} {p:Pair} (h:p∈cF c n):0<=p.1/\p.1 < (n:Int):=by
  obtain ⟨k,hk,_,rfl⟩:=sW.mp h
  show 0<=(k:Int)/\(k:Int) < (n:Int)
  omega
end Ck
set_option Elab.async false
set_option linter.all false
set_option maxRecDepth 100000
set_option maxHeartbeats 4000000
namespace Sx
open PySem PySem.SetTable
theorem sub_len:∀ {l1 l2:List Nat},l1.Nodup->(∀ x∈l1,x∈l2)->l1.length<=l2.length
  | [],l2,_,_=>Nat.zero_le _
  | a::l1,l2,nd,h=>by
    rw [List.nodup_cons] at nd
    have ha:=h a (List.mem_cons_self ..)
    have:=sub_len (l1:=l1) (l2:=l2.erase a) nd.2 fun x hx=>(List.mem_erase_of_ne (fun e=>nd.1 (by rw [<- e]; exact hx))).mpr (h x (List.mem_cons_of_mem _ hx))
    rw [List.length_erase_of_mem ha] at this
    have hp:=List.length_pos_of_mem ha
    simp only [List.length_cons]
    omega
theorem qh {l:List Nat} {m:Nat} (h:l.length<=m):∃ t,t<=m/\t∉l:=by
  apply Classical.byContradiction
  intro hn
  have:=sub_len (l1:=List.range (m+1)) (l2:=l) List.nodup_range fun x hx=>by
    apply Classical.byContradiction
    intro hx'
    exact hn ⟨x,Nat.lt_succ_iff.mp (List.mem_range.mp hx),hx'⟩
  rw [List.length_range] at this
  omega
def dm (xs:List Nat):Prop:=xs.Pairwise (· < ·)
theorem lJ (xs:Array Nat) (j:Nat) (hr:dm xs.toList):∀ (fuel lo hi:Nat),hi - lo<=fuel->lo<=hi->hi<=xs.size->(∀ i x,i < lo->xs[i]? = some x->x < j)->(∀ i x,hi<=i->xs[i]? = some x->j<=x) ->
    below.go xs j fuel lo hi<=xs.size/\(∀ i x,i < below.go xs j fuel lo hi->xs[i]? = some x->x < j)/\∀ i x,below.go xs j fuel lo hi<=i->xs[i]? = some x->j<=x
  | 0,lo,hi,hf,hl,hh,h1,h2=>by
    have e:lo=hi:=by omega
    subst e
    exact ⟨hh,h1,h2⟩
  | fuel+1,lo,hi,hf,hl,hh,h1,h2=>by
    unfold below.go
    by_cases h:lo < hi
    · rw [if_pos h]
      have hm:(lo+hi) / 2 < xs.size:=by omega
      have gm:xs[(lo+hi) / 2]? = some xs[(lo+hi) / 2]:=Array.getElem?_eq_getElem hm
      have gd:xs.getD ((lo+hi) / 2) j=xs[(lo+hi) / 2]:=by simp [hm]
      simp only [gd]
      have mono:∀ a b x y,a < b->xs[a]? = some x->xs[b]? = some y->x < y:=fun a b x y hab ha hb=>by
        obtain ⟨la,ea⟩:=Array.getElem?_eq_some_iff.mp ha
        obtain ⟨lb,eb⟩:=Array.getElem?_eq_some_iff.mp hb
        have:=List.pairwise_iff_getElem.mp hr a b (by simpa using la) (by simpa using lb) hab
        simp only [Array.getElem_toList] at this
        omega
      by_cases c:xs[(lo+hi) / 2] < j
      · rw [if_pos c]
        refine lJ xs j hr fuel _ _ (by omega) (by omega) hh (fun i x hlt hx=>?_) h2
        by_cases e:i=(lo+hi) / 2
        · subst e; rw [gm] at hx; cases hx; exact c
        · have:=mono i ((lo+hi) / 2) x _ (by omega) hx gm; omega
      · rw [if_neg c]
        refine lJ xs j hr fuel _ _ (by omega) (by omega) (by omega) h1 (fun i x hlt hx=>?_)
        by_cases e:i=(lo+hi) / 2
        · subst e; rw [gm] at hx; cases hx; omega
        · have:=mono ((lo+hi) / 2) i _ x (by omega) gm hx; omega
    · rw [if_neg h]
      have e:lo=hi:=by omega
      subst e
      exact ⟨hh,h1,h2⟩
theorem below_at (xs:Array Nat) (j:Nat) (hr:dm xs.toList):below xs j<=xs.size/\(∀ i x,i < below xs j->xs[i]? = some x->x < j)/\∀ i x,below xs j<=i->xs[i]? = some x->j<=x:=by
  unfold below
  refine lJ xs j hr xs.size 0 xs.size (by omega) (Nat.zero_le _) (Nat.le_refl _) (fun i x hi _=>absurd hi (Nat.not_lt_zero _)) fun i x hi hx=>?_
  rw [Array.getElem?_eq_none hi] at hx
  cases hx
theorem uX {xs:Array Nat} {j:Nat} (hr:dm xs.toList) (h:j∉xs.toList):(xs[below xs j]? == some j)=false:=by
  rw [beq_eq_false_iff_ne]
  intro e
  exact h (by rw [Array.mem_toList_iff]; exact Array.mem_of_getElem? e)
theorem xu {t:SetTable} {j:Nat} (hr:dm t.place.toList) (hd:t.dummies = #[]) (h:j∉t.place.toList):t.slot j = .empty:=by
  unfold SetTable.slot
  simp only [uX hr h,Bool.false_eq_true,if_false]
  have:has t.dummies j=false:=by rw [hd]; rfl
  rw [this]
  rfl
theorem nv {t:SetTable} {j:Nat} (hd:t.dummies = #[]):t.slot j = .empty\/∃ i,t.slot j = .live i:=by
  unfold SetTable.slot
  have:has t.dummies j=false:=by rw [hd]; rfl
  simp only [this]
  split
  · exact .inr ⟨_,rfl⟩
  · exact .inl rfl
theorem u7 {t:SetTable} {j:Nat} (hr:dm t.place.toList) (h:t.slot j = .empty):j∉t.place.toList:=by
  intro hj
  unfold SetTable.slot at h
  obtain ⟨h0,h1,h2⟩:=below_at t.place j hr
  obtain ⟨i,hi⟩:=List.getElem?_of_mem hj
  have hi':t.place[i]? = some j:=by simpa using hi
  have e:below t.place j=i:=by
    rcases Nat.lt_trichotomy i (below t.place j) with z | z | z
    · have:=h1 i j z hi'; omega
    · exact z.symm
    · have lt:below t.place j < t.place.size:=Nat.lt_trans z (Array.getElem?_eq_some_iff.mp hi').1
      have g:=Array.getElem?_eq_getElem lt
      have:=h2 _ _ (Nat.le_refl _) g
      obtain ⟨li,ei⟩:=Array.getElem?_eq_some_iff.mp hi'
      have m:=List.pairwise_iff_getElem.mp hr _ _ (by simpa using lt) (by simpa using li) z
      simp only [Array.getElem_toList] at m
      omega
  simp only [e,hi',beq_self_eq_true,if_true] at h
  cases h
noncomputable def iter (m:Nat):Nat->Nat × Nat->Nat × Nat
  | 0,p=>p
  | k+1,p=>iter m k (leap m p.1 p.2)
theorem gQ (m:Nat):∀ (a b:Nat) (p:Nat × Nat),iter m (a+b) p=iter m b (iter m a p)
  | 0,b,p=>by rw [Nat.zero_add]; rfl
  | a+1,b,p=>by rw [show a+1+b=(a+b)+1 by omega]; exact gQ m a b _
theorem lU (m:Nat):∀ (k:Nat) (p:Nat × Nat),(iter m k p).2=p.2 / 32 ^ k
  | 0,p=>by show p.2=_; simp
  | k+1,p=>by
    show (iter m k (leap m p.1 p.2)).2=_
    rw [lU m k]
    show p.2 / 32 / 32 ^ k=_
    rw [Nat.div_div_eq_div_mul,Nat.pow_succ,Nat.mul_comm]
theorem rS (m:Nat):∀ (k:Nat) (p:Nat × Nat),p.1<=m->(iter m k p).1<=m
  | 0,p,h=>h
  | k+1,p,h=>rS m k _ (by show (p.1*5+1+p.2 / 32) % (m+1)<=m; exact Nat.lt_succ_iff.mp (Nat.mod_lt _ (Nat.succ_pos _)))
noncomputable def uP (m:Nat):Nat->Nat->List Nat
  | 0,_=>[]
  | k+1,i=>i::uP m k ((i*5+1) % (m+1))
theorem mL (m:Nat):∀ (k i t:Nat),t∈uP m k i->∃ n,n < k/\(iter m n (i,0)).1=t
  | k+1,i,t,h=>by
    rcases List.mem_cons.mp h with rfl | h
    · exact ⟨0,Nat.succ_pos _,rfl⟩
    · obtain ⟨n,hn,e⟩:=mL m k _ t h
      exact ⟨n+1,by omega,by
        show (iter m n (leap m i 0)).1=t
        have:leap m i 0=((i*5+1) % (m+1),0):=rfl
        rw [this]; exact e⟩
def kY (m:Nat):Prop:=m=7\/m=31\/m=127
noncomputable def whole (m:Nat):Bool:=(let o:=uP m (m+1) 0; (List.range (m+1)).all fun t=>o.contains t)&&decide (iter m (m+1) (0,0)=(0,0))
theorem zB:whole 7=true:=by decide +kernel
theorem yp:whole 31=true:=by decide +kernel
theorem xg:whole 127=true:=by decide +kernel
theorem kY.whole {m:Nat} (h:kY m):whole m=true:=by
  rcases h with rfl | rfl | rfl
  · exact zB
  · exact yp
  · exact xg
theorem v9 (m:Nat) (k i:Nat):iter m k (i,0)=((iter m k (i,0)).1,0):=by
  have:(iter m k (i,0)).2=0:=by rw [lU]; exact Nat.zero_div _
  exact Prod.ext rfl this
theorem around {m i t:Nat} (hm:kY m) (hi:i<=m) (ht:t<=m):∃ n,n<=m/\(iter m n (i,0)).1=t:=by
  have hw:=hm.whole
  unfold Sx.whole at hw
  rw [Bool.and_eq_true,decide_eq_true_iff] at hw
  have at_:∀ s,s<=m->∃ n,n < m+1/\(iter m n (0,0)).1=s:=fun s hs=>by
    have:=List.all_eq_true.mp hw.1 s (List.mem_range.mpr (Nat.lt_succ_iff.mpr hs))
    exact mL m (m+1) 0 s (by simpa using this)
  obtain ⟨a,ha,ea⟩:=at_ i hi
  obtain ⟨b,hb,eb⟩:=at_ t ht
  have ei:iter m a (0,0)=(i,0):=by rw [v9,ea]
  by_cases c:a<=b
  · refine ⟨b - a,by omega,?_⟩
    rw [<- ei,<- gQ,show a+(b - a)=b by omega,eb]
  · refine ⟨b+(m+1) - a,by omega,?_⟩
    rw [<- ei,<- gQ,show a+(b+(m+1) - a)=m+1+b by omega,gQ,hw.2,eb]
theorem reach {m i x t:Nat} (hm:kY m) (hi:i<=m) (hx:x < 2 ^ 64) (ht:t<=m):∃ k,k<=13+m/\(iter m k (i,x)).1=t:=by
  have h13:(iter m 13 (i,x)).2=0:=by
    rw [lU]
    exact Nat.div_eq_of_lt (Nat.lt_of_lt_of_le hx (by decide))
  have hf:=rS m 13 (i,x) hi
  obtain ⟨n,hn,e⟩:=around hm hf ht
  refine ⟨13+n,by omega,?_⟩
  rw [gQ,<- e]
  have ep:iter m 13 (i,x)=((iter m 13 (i,x)).1,0):=by rw [<- h13]
  rw [ep]
theorem tX (h:Int):bits h < 2 ^ 64:=by
  unfold bits
  have h0:=Int.emod_nonneg h (show (2 ^ 64:Int)≠0 by decide)
  have h1:=Int.emod_lt_of_pos h (show (0:Int) < 2 ^ 64 by decide)
  have e:(2:Int) ^ 64=18446744073709551616:=by decide
  have e2:(2:Nat) ^ 64=18446744073709551616:=by decide
  rw [e] at h0 h1 |-
  rw [e2]
  omega
noncomputable def begin_ (m i x:Nat):Probe:={ j:=i,more:=runEnd m i - i,i:=i,perturb:=x,dummy:=none }
theorem wx {t:SetTable} {hashAt:Nat->Int} {h:Int} (hd:t.dummies = #[]) (nh:∀ i,i < t.place.size->hashAt i≠h) (nl:∀ j i,t.slot j = .live i->i < t.place.size) :
    ∀ (r fuel:Nat) (p:Probe),p.more=r->p.dummy=none->p.j+r<=t.mask->r+1<=fuel->(∃ j,probe.go t hashAt h fuel p=some (.empty j none)/\t.slot j = .empty/\j<=t.mask)\/probe.go t hashAt h fuel p=probe.go t hashAt h (fuel - (r+1)) (begin_ t.mask (leap t.mask p.i p.perturb).1 (leap t.mask p.i p.perturb).2)
  | r,0,p,hr,hdm,hb,hf=>by omega
  | r,fuel+1,p,hr,hdm,hb,hf=>by
    rcases nv (t:=t) (j:=p.j) hd with e | ⟨i,e⟩
    · refine .inl ⟨p.j,?_,e,by omega⟩
      unfold probe.go
      rw [e,hdm]
    · have ne:(hashAt i == h)=false:=beq_eq_false_iff_ne.mpr (nh i (nl _ _ e))
      have st:probe.go t hashAt h (fuel+1) p=probe.go t hashAt h fuel (t.advance p):=by
        conv=>lhs; unfold probe.go
        rw [e]
        simp only [ne,Bool.false_eq_true,if_false]
      rw [st]
      cases r with
      | zero =>
        refine .inr ?_
        have ea:t.advance p=begin_ t.mask (leap t.mask p.i p.perturb).1 (leap t.mask p.i p.perturb).2:=by
          unfold advance
          rw [hr,if_neg (Nat.lt_irrefl _)]
          unfold begin_
          rw [hdm]
        rw [ea]
        rfl
      | succ r =>
        have ea:t.advance p={ p with j:=p.j+1,more:=r }:=by
          unfold advance
          rw [hr,if_pos (Nat.succ_pos _),Nat.add_sub_cancel]
        rw [ea]
        rcases wx hd nh nl r fuel { p with j:=p.j+1,more:=r } rfl hdm (by show p.j+1+r<=t.mask; omega) (by omega) with z | z
        · exact .inl z
        · refine .inr (z.trans ?_)
          rw [show fuel+1 - (r+1+1)=fuel - (r+1) by omega]
theorem wt (m i:Nat):runEnd m i - i<=9:=by unfold runEnd; split<;>omega
theorem vk {m i:Nat} (h:i<=m):i+(runEnd m i - i)<=m:=by unfold runEnd; split<;>omega
theorem p9 {t:SetTable} {hashAt:Nat->Int} {h:Int} (hd:t.dummies = #[]) (nh:∀ i,i < t.place.size->hashAt i≠h) (nl:∀ j i,t.slot j = .live i->i < t.place.size) :
    ∀ (k fuel i x:Nat),i<=t.mask->t.slot (iter t.mask k (i,x)).1 = .empty->10*(k+1)<=fuel->∃ j,probe.go t hashAt h fuel (begin_ t.mask i x)=some (.empty j none)/\t.slot j = .empty/\j<=t.mask
  | 0,fuel,i,x,hi,he,hf=>by
    obtain ⟨f,rfl⟩:∃ f,fuel=f+1:=⟨fuel - 1,by omega⟩
    refine ⟨i,?_,he,hi⟩
    have he':t.slot (begin_ t.mask i x).j = .empty:=he
    unfold probe.go
    rw [he']
    rfl
  | k+1,fuel,i,x,hi,he,hf=>by
    have rl:=wt t.mask i
    rcases wx hd nh nl (runEnd t.mask i - i) fuel (begin_ t.mask i x) rfl rfl (vk hi) (by omega) with z | z
    · exact z
    · rw [z]
      exact p9 hd nh nl k _ _ _ (by show (i*5+1+x / 32) % (t.mask+1)<=t.mask; exact Nat.lt_succ_iff.mp (Nat.mod_lt _ (Nat.succ_pos _))) he (by omega)
theorem rm {t:SetTable} {j i:Nat} (h:t.slot j = .live i):i < t.place.size:=by
  have e:t.slot j=if (t.place[below t.place j]? == some j)=true then .live (below t.place j) else if has t.dummies j=true then .dummy else .empty:=rfl
  rw [e] at h
  by_cases c:(t.place[below t.place j]? == some j)=true
  · rw [if_pos c] at h
    cases h
    exact (Array.getElem?_eq_some_iff.mp (by simpa using c)).1
  · rw [if_neg c] at h
    by_cases d:has t.dummies j=true
    · rw [if_pos d] at h; cases h
    · rw [if_neg d] at h; cases h
theorem va {t:SetTable} {hashAt:Nat->Int} {h:Int} (hm:kY t.mask) (hr:dm t.place.toList) (hd:t.dummies = #[]) (hs:t.place.size<=t.mask) (nh:∀ i,i < t.place.size->hashAt i≠h) :
    ∃ j,t.probe hashAt h (t.probeStart h)=some (.empty j none)/\j∉t.place.toList/\j<=t.mask:=by
  obtain ⟨g,hg,ng⟩:=qh (l:=t.place.toList) (m:=t.mask) (by simpa using hs)
  have hi:bits h % (t.mask+1)<=t.mask:=Nat.lt_succ_iff.mp (Nat.mod_lt _ (Nat.succ_pos _))
  obtain ⟨k,hk,ek⟩:=reach hm hi (tX h) hg
  obtain ⟨j,hj,he,jm⟩:=p9 (hashAt:=hashAt) (h:=h) hd nh (fun j i e=>rm e) k (10*turns t.mask) (bits h % (t.mask+1)) (bits h) hi (by rw [ek]; exact xu hr hd ng) (by unfold turns; omega)
  exact ⟨j,hj,u7 hr he,jm⟩
theorem gh {α:Type} (xs:Array α) (p:Nat) (x:α) (hp:p<=xs.size):(insertAt xs p x).toList=xs.toList.take p++x::xs.toList.drop p:=by
  unfold insertAt
  rw [Array.toList_append,Array.toList_push,Array.toList_extract,Array.toList_extract]
  simp [List.extract_eq_drop_take]
  exact List.take_of_length_le (by simp)
theorem kS {α:Type} (xs:List α) (p:Nat) (x:α):(xs.take p++x::xs.drop p).Perm (x::xs):=by
  have:=List.perm_middle (a:=x) (l₁:=xs.take p) (l₂:=xs.drop p)
  rwa [List.take_append_drop] at this
theorem vj {xs:Array Nat} {j:Nat} (hr:dm xs.toList) (h:j∉xs.toList):dm (insertAt xs (below xs j) j).toList:=by
  obtain ⟨h0,h1,h2⟩:=below_at xs j hr
  rw [gh _ _ _ h0]
  have lt:∀ x∈xs.toList.take (below xs j),x < j:=fun x hx=>by
    obtain ⟨i,hi⟩:=List.getElem?_of_mem hx
    rw [List.getElem?_take] at hi
    split at hi
    · rename_i hlt; exact h1 i x hlt (by simpa using hi)
    · cases hi
  have gt:∀ x∈xs.toList.drop (below xs j),j < x:=fun x hx=>by
    obtain ⟨i,hi⟩:=List.getElem?_of_mem hx
    rw [List.getElem?_drop] at hi
    have:=h2 (below xs j+i) x (Nat.le_add_right _ _) (by simpa using hi)
    have ne:x≠j:=fun e=>h (by rw [<- e]; exact List.mem_of_getElem? hi)
    omega
  refine List.pairwise_append.mpr ⟨hr.sublist (List.take_sublist _ _),List.pairwise_cons.mpr ⟨gt,hr.sublist (List.drop_sublist _ _)⟩,fun a ha b hb=>?_⟩
  rcases List.mem_cons.mp hb with rfl | hb
  · exact lt a ha
  · exact Nat.lt_trans (lt a ha) (gt b hb)
structure Tab (t:SetTable) (n:Nat):Prop where
  msk:kY t.mask
  ris:dm t.place.toList
  top:∀ j∈t.place.toList,j<=t.mask
  dum:t.dummies = #[]
  len:t.place.size=n
  few:t.place.size<=t.mask
theorem Tab.fresh (f mv:Nat) (led:Bool):Tab (.fresh f mv led) 0:=⟨.inl rfl,List.Pairwise.nil,(fun j h=>nomatch h),rfl,rfl,Nat.zero_le _⟩
theorem Tab.put {t:SetTable} {n j:Nat} (T:Tab t n) (hj:j∉t.place.toList) (hjm:j<=t.mask) (room:n+1<=t.mask):Tab (t.put j).1 (n+1)/\(t.put j).2=below t.place j/\(t.put j).1.plain=t.plain/\(t.put j).1.led=t.led/\(t.put j).1.mask=t.mask:=by
  have h0:=(below_at t.place j T.ris).1
  have hd:has t.dummies j=false:=by rw [T.dum]; rfl
  have el:=gh t.place (below t.place j) j h0
  have ls:(insertAt t.place (below t.place j) j).size=n+1:=by
    rw [<- Array.length_toList,el,List.length_append,List.length_take,List.length_cons,List.length_drop,Array.length_toList,T.len]
    have:=T.len
    omega
  refine ⟨⟨T.msk,vj T.ris hj,fun i hi=>?_,?_,ls,by show (insertAt t.place (below t.place j) j).size<=t.mask; omega⟩,rfl,rfl,rfl,rfl⟩
  · have hi':i∈(insertAt t.place (below t.place j) j).toList:=hi
    rw [el] at hi'
    rcases List.mem_cons.mp ((kS t.place.toList (below t.place j) j).mem_iff.mp hi') with rfl | hi'
    · exact hjm
    · exact T.top i hi'
  · show (if has t.dummies j=true then _ else t.dummies) = #[]
    rw [hd]
    exact T.dum
theorem mV {m:Nat} {owner:Array (Option Nat)}:∀ (k fuel i x:Nat),(owner.getD (iter m k (i,x)).1 (some 0)).isNone=true->k+1<=fuel->∃ j,layClean.free m owner fuel i x=some j/\(owner.getD j (some 0)).isNone=true
  | k,0,i,x,_,hf=>by omega
  | k,fuel+1,i,x,he,hf=>by
    unfold layClean.free
    cases e:(List.range (runEnd m i+1 - i)).find? fun k=>(owner.getD (i+k) (some 0)).isNone with
    | some a=>exact ⟨i+a,rfl,by have:=List.find?_some e; exact this⟩
    | none =>
      cases k with
      | zero =>
        have h0:(0:Nat)∈List.range (runEnd m i+1 - i):=List.mem_range.mpr (by unfold runEnd; split<;>omega)
        have:=List.find?_eq_none.mp e 0 h0
        have he':(owner.getD i (some 0)).isNone=true:=he
        exact absurd he' (by simpa using this)
      | succ k=>exact mV k fuel _ _ he (by omega)
structure Own (m:Nat) (owner:Array (Option Nat)) (js:List Nat):Prop where
  size:owner.size=m+1
  nd:js.Nodup
  top:∀ j∈js,j<=m
  own:∀ j k:Nat,owner.getD j none=some k↔js[k]? = some j
theorem Own.start (m:Nat):Own m (Array.replicate (m+1) none) [] where
  size:=by simp
  nd:=List.nodup_nil
  top:=fun j h=>nomatch h
  own:=fun j k=>by
    have e:(Array.replicate (m+1) (none:Option Nat)).getD j none=none:=by
      rw [Array.getD_eq_getD_getElem?,Array.getElem?_replicate]
      split<;>rfl
    rw [e]
    simp
theorem Own.at_none {m:Nat} {owner:Array (Option Nat)} {js:List Nat} (O:Own m owner js) {j:Nat} (hj:j<=m) (h:j∉js):(owner.getD j (some 0)).isNone=true:=by
  have lt:j < owner.size:=by rw [O.size]; omega
  have e1:owner.getD j (some 0)=owner.getD j none:=by simp [lt]
  rw [e1]
  cases e:owner.getD j none with
  | none=>rfl
  | some k=>exact absurd (List.mem_of_getElem? ((O.own j k).mp e)) h
theorem Own.none_at {m:Nat} {owner:Array (Option Nat)} {js:List Nat} (O:Own m owner js) {j:Nat} (h:(owner.getD j (some 0)).isNone=true):j<=m/\j∉js:=by
  have lt:j < owner.size:=by
    apply Classical.byContradiction
    intro hn
    have:owner.getD j (some 0)=some 0:=by simp [hn]
    rw [this] at h
    cases h
  refine ⟨by rw [O.size] at lt; omega,fun hj=>?_⟩
  obtain ⟨k,hk⟩:=List.getElem?_of_mem hj
  have:=(O.own j k).mpr hk
  have e1:owner.getD j (some 0)=owner.getD j none:=by simp [lt]
  rw [e1,this] at h
  cases h
theorem Own.step {m:Nat} {owner:Array (Option Nat)} {js:List Nat} (O:Own m owner js) {j:Nat} (hj:j<=m) (h:j∉js):Own m (owner.setIfInBounds j (some js.length)) (js++[j]):=by
  have lt:j < owner.size:=by rw [O.size]; omega
  refine ⟨by simp [O.size],List.nodup_append.mpr ⟨O.nd,by simp,fun a ha b hb=>by
    have:b=j:=by simpa using hb
    rw [this]; exact fun e=>h (e▸ha)⟩,fun i hi=>?_,fun i k=>?_⟩
  · rcases List.mem_append.mp hi with hi | hi
    · exact O.top i hi
    · have:i=j:=by simpa using hi
      omega
  · by_cases e:i=j
    · subst e
      have:(owner.setIfInBounds i (some js.length)).getD i none=some js.length:=by simp [lt]
      rw [this]
      constructor
      · intro h'
        have:js.length=k:=by simpa using h'
        rw [<- this]
        simp
      · intro h'
        by_cases hk:k < js.length
        · rw [List.getElem?_append_left hk] at h'
          exact absurd (List.mem_of_getElem? h') h
        · rw [List.getElem?_append_right (by omega)] at h'
          have:k - js.length=0:=by
            have:=(List.getElem?_eq_some_iff.mp h').1
            simp at this
            omega
          rw [show k=js.length by omega]
    · have:(owner.setIfInBounds j (some js.length)).getD i none=owner.getD i none:=by
        simp only [Array.getD_eq_getD_getElem?]
        rw [Array.getElem?_setIfInBounds_ne (Ne.symm e)]
      rw [this,O.own]
      by_cases hk:k < js.length
      · rw [List.getElem?_append_left hk]
      · rw [List.getElem?_append_right (by omega),List.getElem?_eq_none (by omega)]
        constructor
        · intro z; cases z
        · intro z
          have:i=j:=by
            have l:=(List.getElem?_eq_some_iff.mp z).1
            simp at l
            rw [show k - js.length=0 by omega] at z
            simpa using z.symm
          exact absurd this e
theorem tR {m:Nat} (hm:kY m):∀ (hs:List Int) (owner:Array (Option Nat)) (js:List Nat),Own m owner js->js.length+hs.length<=m ->
    ∃ owner' js',hs.foldl (fun acc h=>(do
      let (owner,k) <- acc
      let j <- layClean.free m owner (turns m) (bits h % (m+1)) (bits h)
      pure (owner.setIfInBounds j (some k),k+1))) (some (owner,js.length))=some (owner',js'.length)/\Own m owner' js'/\js'.length=js.length+hs.length
  | [],owner,js,O,_=>⟨owner,js,rfl,O,rfl⟩
  | h::hs,owner,js,O,hl=>by
    simp only [List.length_cons] at hl
    obtain ⟨g,hg,ng⟩:=qh (l:=js) (m:=m) (by omega)
    have hi:bits h % (m+1)<=m:=Nat.lt_succ_iff.mp (Nat.mod_lt _ (Nat.succ_pos _))
    obtain ⟨k,hk,ek⟩:=reach hm hi (tX h) hg
    obtain ⟨j,hj,fj⟩:=mV (owner:=owner) k (turns m) (bits h % (m+1)) (bits h) (by rw [ek]; exact O.at_none hg ng) (by unfold turns; omega)
    obtain ⟨jm,nj⟩:=O.none_at fj
    obtain ⟨o',js',e,O',l'⟩:=tR hm hs _ _ (O.step jm nj) (by simp; omega)
    refine ⟨o',js',?_,O',by rw [l']; simp; omega⟩
    rw [List.foldl_cons,<- e]
    congr 1
    show (do let j <- layClean.free m owner (turns m) (bits h % (m+1)) (bits h); pure (owner.setIfInBounds j (some js.length),js.length+1))=_
    rw [hj]
    simp
theorem sJ {m:Nat} (hm:kY m) (hs:Array Int) (hl:hs.size<=m):∃ owner js,layClean m hs=some owner/\Own m owner js/\js.length=hs.size:=by
  obtain ⟨o',js',e,O',l'⟩:=tR hm hs.toList _ [] (Own.start m) (by simpa using hl)
  refine ⟨o',js',?_,O',by simpa using l'⟩
  unfold layClean
  rw [<- Array.foldl_toList]
  have e':=congrArg (Option.map (·.1)) e
  exact e'
noncomputable def dv (m:Nat) (owner:Array (Option Nat)):List (Nat × Nat):=(List.range (m+1)).filterMap fun j=>(owner.getD j none).map (j,·)
theorem gp {m:Nat} {owner:Array (Option Nat)} {js:List Nat} (O:Own m owner js) {j k:Nat}:(j,k)∈dv m owner↔js[k]? = some j:=by
  unfold dv
  rw [List.mem_filterMap]
  constructor
  · rintro ⟨i,hi,e⟩
    cases o:owner.getD i none with
    | none=>rw [o] at e; cases e
    | some q =>
      rw [o] at e
      have:i=j/\q=k:=by simpa using e
      rw [<- this.1,<- this.2]
      exact (O.own i q).mp o
  · intro h
    have hj:=O.top j (List.mem_of_getElem? h)
    exact ⟨j,List.mem_range.mpr (by omega),by rw [(O.own j k).mpr h]; rfl⟩
theorem iC {m:Nat} {owner:Array (Option Nat)}:((dv m owner).map (·.1)).Sublist (List.range (m+1)):=by
  unfold dv
  generalize List.range (m+1)=l
  induction l with
  | nil=>exact .slnil
  | cons j l ih =>
    rw [List.filterMap_cons]
    cases o:owner.getD j none with
    | none=>exact ih.cons j
    | some k=>exact ih.cons₂ j
theorem v5 (n:Nat):(List.range n).Pairwise (· < ·):=List.pairwise_lt_range
theorem zt {l:List (Nat × Nat)} (h1:(l.map (·.1)).Nodup) (h2:∀ j j' k,(j,k)∈l->(j',k)∈l->j=j'):(l.map (·.2)).Nodup:=by
  induction l with
  | nil=>exact List.nodup_nil
  | cons p l ih =>
    rw [List.map_cons,List.nodup_cons] at h1 |-
    refine ⟨fun z=>?_,ih h1.2 fun j j' k a b=>h2 j j' k (List.mem_cons_of_mem _ a) (List.mem_cons_of_mem _ b)⟩
    obtain ⟨q,hq,e⟩:=List.mem_map.mp z
    have:p.1=q.1:=h2 p.1 q.1 p.2 (List.mem_cons_self ..) (by rw [<- e]; exact List.mem_cons_of_mem _ hq)
    exact h1.1 (List.mem_map.mpr ⟨q,hq,this.symm⟩)
theorem zj {m:Nat} (hm:kY m) (f mv:Nat) (led plain:Bool) (hs:Array Int) (hl:hs.size<=m) :
    ∃ t order,SetTable.laid m f mv led plain hs=some (t,order)/\Tab t hs.size/\t.mask=m/\t.led=led/\t.plain=plain/\order.toList.Perm (List.range hs.size):=by
  obtain ⟨owner,js,e,O,l⟩:=sJ hm hs hl
  have nd1:((dv m owner).map (·.1)).Nodup:=(iC (m:=m) (owner:=owner)).nodup List.nodup_range
  have nd2:((dv m owner).map (·.2)).Nodup:=zt nd1 fun j j' k a b=>by
    have x:=(gp O).mp a
    have y:=(gp O).mp b
    rw [x] at y
    exact Option.some.inj y
  have pm:((dv m owner).map (·.2)).Perm (List.range hs.size):=by
    refine (List.perm_ext_iff_of_nodup nd2 List.nodup_range).mpr fun k=>?_
    rw [List.mem_map,List.mem_range]
    constructor
    · rintro ⟨⟨j,k'⟩,h,rfl⟩
      have:=(List.getElem?_eq_some_iff.mp ((gp O).mp h)).1
      show k' < hs.size
      omega
    · intro h
      have g:js[k]? = some (js[k]'(by omega)):=List.getElem?_eq_getElem (by omega)
      exact ⟨(_,k),(gp O).mpr g,rfl⟩
  have len:(dv m owner).length=hs.size:=by have:=pm.length_eq; rwa [List.length_map,List.length_range] at this
  refine ⟨{ mask:=m,place:=((dv m owner).map (·.1)).toArray,dummies:=#[],finger:=f,led:=led,moves:=mv,plain:=plain },((dv m owner).map (·.2)).toArray,?_,⟨hm,?_,?_,rfl,?_,?_⟩,rfl,rfl,rfl,by simpa using pm⟩
  · unfold SetTable.laid
    rw [e]
    rfl
  · show dm (((dv m owner).map (·.1)).toArray).toList
    rw [List.toList_toArray]
    exact (v5 (m+1)).sublist iC
  · intro j hj
    have hj':j∈(((dv m owner).map (·.1)).toArray).toList:=hj
    rw [List.toList_toArray] at hj'
    have:=List.mem_range.mp (iC.subset hj')
    show j<=m
    omega
  · show (((dv m owner).map (·.1)).toArray).size=hs.size
    simp [len]
  · show (((dv m owner).map (·.1)).toArray).size<=m
    simp [len]
    exact hl
structure Good (t:SetTable) (n:Nat):Prop where
  tab:Tab t n
  lax:t.tooFull=false
theorem Good.room {t:SetTable} {n:Nat} (G:Good t n):n*5 < t.mask*3:=by
  have h:=G.lax
  unfold tooFull fill at h
  rw [G.tab.dum,G.tab.len] at h
  simp at h
  omega
theorem Good.fresh (f mv:Nat) (led:Bool):Good (.fresh f mv led) 0:=⟨Tab.fresh f mv led,by unfold tooFull fill SetTable.fresh; simp⟩
theorem Tab.fits {t:SetTable} {n:Nat} (T:Tab t n):(t.place.size != n || decide (t.fill > t.mask))=false:=by
  have:=T.few
  unfold fill
  rw [T.dum,T.len] at *
  simp
  omega
theorem Good.put {t:SetTable} {n j:Nat} (G:Good t n) (h64:n < 64) (hj:j∉t.place.toList) (hjm:j<=t.mask) :
    Tab (t.put j).1 (n+1)/\(t.put j).2=below t.place j/\(t.put j).1.plain=t.plain/\(t.put j).1.led=t.led /\
      ((t.put j).1.tooFull=true->∀ hs:Array Int,hs.size=n+1->sizeAbove (grown (n+1))<=128/\∃ t' order,(t.put j).1.relaid hs (grown (n+1))=some (t',order)/\Good t' (n+1)/\t'.led=t.led/\t'.plain=t.plain/\order.toList.Perm (List.range (n+1))):=by
  have r:=G.room
  have hm:=G.tab.msk
  obtain ⟨T,e2,e3,e4,e5⟩:=G.tab.put hj hjm (by rcases hm with e | e | e<;>omega)
  refine ⟨T,e2,e3,e4,fun hf hs hsz=>?_⟩
  have hf':t.mask*3<=(n+1)*5:=by
    unfold tooFull fill at hf
    rw [T.dum,T.len,e5] at hf
    simpa using hf
  have key:∀ m,kY m->sizeAbove (grown (n+1))=m+1->n+1<=m->(n+1)*5 < m*3->∃ t' order,(t.put j).1.relaid hs (grown (n+1))=some (t',order)/\Good t' (n+1)/\t'.led=t.led/\t'.plain=t.plain/\order.toList.Perm (List.range (n+1)):=fun m mm em le lx=>by
    unfold relaid
    rw [em,Nat.add_sub_cancel]
    obtain ⟨t',order,a1,a2,a3,a4,a5,a6⟩:=zj mm (t.put j).1.finger ((t.put j).1.movedTo m) (t.put j).1.led (t.put j).1.plain hs (by omega)
    rw [hsz] at a2 a6
    refine ⟨t',order,a1,⟨a2,?_⟩,a4.trans e4,a5.trans e3,a6⟩
    unfold tooFull fill
    rw [a2.dum,a2.len,a3]
    simp
    omega
  rcases hm with e | e | e
  · have en:n=4:=by omega
    subst en
    exact ⟨by decide,key 31 (.inr (.inl rfl)) (by decide) (by decide) (by decide)⟩
  · have en:n=18:=by omega
    subst en
    exact ⟨by decide,key 127 (.inr (.inr rfl)) (by decide) (by decide) (by decide)⟩
  · omega
end Sx
set_option Elab.async false
set_option linter.all false
set_option maxRecDepth 100000
set_option maxHeartbeats 4000000
namespace Sx
open PySem PyProof.Rows
noncomputable def df (p:Int × Int):Int:=reduceHash (Builtin.Tuple.tupleHashOf [hashInt p.1,hashInt p.2])
noncomputable def Bl:List (Int × Int):=(List.range 44).flatMap fun (b:Nat)=>(List.range b).map fun (a:Nat)=>((a:Int),(b:Int))
noncomputable def tD (m:Int):List (Int × Int)->Nat->Bool
  | [],_=>true
  | p::l,B=>!Nat.testBit B (df p % m).toNat&&tD m l (B ||| 1 <<< (df p % m).toNat)
theorem zL:tD 8247 Bl 0=true:=by decide +kernel
theorem tW {m:Int}:∀ {l:List (Int × Int)} {B:Nat},tD m l B=true->∀ p∈l,Nat.testBit B (df p % m).toNat=false
  | q::l,B,h,p,hp=>by
    unfold tD at h
    rw [Bool.and_eq_true,Bool.not_eq_true'] at h
    rcases List.mem_cons.mp hp with rfl | hp
    · exact h.1
    · have:=tW h.2 p hp
      rw [Nat.testBit_or,Bool.or_eq_false_iff] at this
      exact this.1
theorem zC {m:Int} {l:List (Int × Int)}:∀ {B:Nat},tD m l B=true->∀ p∈l,∀ q∈l,df p=df q->p=q:=by
  induction l with
  | nil=>intro B _ p hp; cases hp
  | cons r l ih =>
    intro B h p hp q hq e
    have h':(!Nat.testBit B (df r % m).toNat&&tD m l (B ||| 1 <<< (df r % m).toNat))=true:=h
    rw [Bool.and_eq_true] at h'
    have bit:∀ s∈l,df s≠df r:=fun s hs z=>by
      have:=tW h'.2 s hs
      rw [Nat.testBit_or,Bool.or_eq_false_iff,z] at this
      have t1:=this.2
      rw [Nat.one_shiftLeft,Nat.testBit_two_pow_self] at t1
      cases t1
    rcases List.mem_cons.mp hp with e1 | hp'
    · rcases List.mem_cons.mp hq with e2 | hq'
      · rw [e1,e2]
      · rw [e1] at e; exact absurd e.symm (bit q hq')
    · rcases List.mem_cons.mp hq with e2 | hq'
      · rw [e2] at e; exact absurd e (bit p hp')
      · exact ih h'.2 p hp' q hq' e
def Lo (p:Int × Int):Prop:=0<=p.1/\p.1 < p.2/\p.2 < 44
theorem Lo.mem {p:Int × Int} (h:Lo p):p∈Bl:=by
  obtain ⟨h1,h2,h3⟩:=h
  unfold Bl
  rw [List.mem_flatMap]
  refine ⟨p.2.toNat,List.mem_range.mpr (by omega),List.mem_map.mpr ⟨p.1.toNat,List.mem_range.mpr (by omega),?_⟩⟩
  refine Prod.ext ?_ ?_
  · show ((p.1.toNat:Nat):Int)=p.1; omega
  · show ((p.2.toNat:Nat):Int)=p.2; omega
theorem Al {p q:Int × Int} (hp:Lo p) (hq:Lo q) (e:df p=df q):p=q:=zC zL p hp.mem q hq.mem e
section
variable {prog:Program} {w:World} {A:Around} {E:Value->Shared->Prop} {s:Shared}
noncomputable abbrev gI (prog:Program) (w:World) (h:Heap) (T:Addr) (p:Int × Int):Prop:=IsTupleKey (intKind prog w) h [p.1,p.2] T
theorem zW {h:Heap} {T:Addr} {p:Int × Int} {o:Obj} {n:Nat} {t u:Tok} (ho:h.get? T=some o) (hc:o.cls = .type "tuple") (hd:o.data = .seq #[.int p.1 t,.int p.2 u] n):gI prog w h T p :=
  ⟨o,_,n,ho,hc,hd,.cons (intKind_is _ _ _ _) (.cons (intKind_is _ _ _ _) .nil)⟩
theorem ox {p:Int × Int} {items:List Value} (h:ItemsAre (intKind prog w) [p.1,p.2] items):∃ t u,items=[.int p.1 t,.int p.2 u]:=by
  cases h with
  | cons h1 h =>
    cases h with
    | cons h2 h =>
      cases h
      obtain ⟨t,rfl⟩:=Value.isInt_shape h1
      obtain ⟨u,rfl⟩:=Value.isInt_shape h2
      exact ⟨t,u,rfl⟩
theorem sL {T:Addr} {p:Int × Int} {Q:Bool->Shared->Prop} (hk:gI prog w s.heap T p) (q:Q true s):wpAny (model prog w) A (hashByValue 8 (.ref T)) Q E s:=by
  have hT:=hk.typeIs
  obtain ⟨o,items,n,ho,hc,hd,hi⟩:=hk
  obtain ⟨t,u,ei⟩:=ox hi
  have ea:items = #[.int p.1 t,.int p.2 u]:=by
    cases items
    simp only at ei
    rw [ei]
  subst ea
  unfold hashByValue
  refine wpAny_bind (wpAny_specialOf hT F.slot_tuple_hash.lookup ?_)
  simp only
  refine wpAny_bind ?_
  unfold seqItems?
  refine wpAny_bind (wpAny_load ho ?_)
  rw [hd]
  refine wpAny_pure ?_
  simp only [Option.getD_some,<- Array.forIn_toList,List.forIn_cons,List.forIn_nil,hashByValue,pure_bind]
  simp only [Bool.not_true,Bool.false_eq_true,if_false,pure_bind]
  exact wpAny_pure q
structure fH (h:Heap) (a:Addr) (led:Bool) (es:Array (Int × Value)):Prop where
  at_:∃ o ep t,h.get? a=some o/\o.ExactSet/\o.data = .set es ep t/\Good t es.size/\t.led=led/\t.plain=true
theorem fits_of {t:SetTable} {n:Nat} (T:Tab t n):t.fits n=true:=by
  have h:=T.fits
  unfold SetTable.fits
  rw [Bool.or_eq_false_iff] at h
  rw [Bool.and_eq_true]
  refine ⟨by simpa using h.1,?_⟩
  have:=h.2
  simp at this
  simp
  omega
theorem sN {a:Addr} {o:Obj} {es:Array (Int × Value)} {ep:Nat} {t:SetTable} {x:Value} {h:Int} {Q:SetFound->Shared->Prop} (ho:s.heap.get? a=some o) (hd:o.data = .set es ep t) (G:Good t es.size)
    (nh:∀ e∈es.toList,e.1≠h) (q:∀ j,j∉t.place.toList->j<=t.mask->Q (.free j false) s):wpAny (model prog w) A (setSearch a x h true) Q E s:=by
  have T:=G.tab
  obtain ⟨j,hj,nj,jm⟩:=va (t:=t) (hashAt:=fun i=>(es[i]?.map (·.1)).getD 0) (h:=h) T.msk T.ris T.dum T.few fun i hi=>by
    rw [T.len] at hi
    rw [Array.getElem?_eq_getElem hi]
    exact nh _ (by rw [Array.mem_toList_iff]; exact Array.getElem_mem hi)
  unfold setSearch setSearchFrom
  refine wpAny_bind (wpAny_setState_of ho hd (fits_of T) ?_)
  have gw:t.gaveWay=false:=by
    unfold SetTable.gaveWay
    rcases T.msk with e | e | e<;>rw [e]<;>rfl
  simp only [gw,Bool.false_eq_true,if_false,Option.getD_none]
  erw [hj]
  exact wpAny_pure (q j nj jm)
theorem mE {h:Heap} {a:Addr} {o:Obj} {es es':Array (Int × Value)} {ep:Nat} {t t':SetTable} (ho:h.get? a=some o) (hd:o.data = .set es ep t):(h.update a (Obj.putSet es' t')).get? a=some { o with data:=.set es' (ep+1) t' }:=by
  have:=Heap.get?_update_self (Obj.putSet es' t') ho (by rw [putSet_of es' t' hd]; rfl)
  rw [putSet_of es' t' hd] at this
  exact this
theorem kT {α:Type} {es:Array α} {order:Array Nat} (h:order.toList.Perm (List.range es.size)):(order.filterMap (es[·]?)).toList.Perm es.toList:=by
  rw [Array.toList_filterMap]
  refine (h.filterMap _).trans ?_
  have:(List.range es.size).filterMap (fun i=>es[i]?)=es.toList:=by
    have e:(fun i=>es[i]?)=fun i=>es.toList[i]?:=funext fun i=>Array.getElem?_toList.symm
    rw [e,show es.size=es.toList.length from Array.length_toList.symm]
    generalize es.toList=l
    induction l with
    | nil=>rfl
    | cons a l ih =>
      rw [List.length_cons,List.range_succ_eq_map,List.filterMap_cons]
      simp only [List.getElem?_cons_zero,List.filterMap_map]
      congr 1
  rw [this]
theorem yD {a:Addr} {o:Obj} {es:Array (Int × Value)} {ep:Nat} {t t':SetTable} {order:Array Nat} {wanted:Nat} {Q:Unit->Shared->Prop} (ho:s.heap.get? a=some o) (hd:o.data = .set es ep t) (T:Tab t es.size) (h64:es.size<=64)
    (hz:SetTable.sizeAbove wanted<=128) (hr:t.relaid (es.map (·.1)) wanted=some (t',order)) (pm:order.toList.Perm (List.range es.size))
    (q:Q () { s with heap:=s.heap.update a (Obj.putSet (order.filterMap (es[·]?)) t') }):wpAny (model prog w) A (setRelay a wanted) Q E s:=by
  have fp:=kT pm
  have fs:(order.filterMap (es[·]?)).size=es.size:=by rw [<- Array.length_toList,fp.length_eq,Array.length_toList]
  unfold setRelay
  refine wpAny_bind (wpAny_setState_of ho hd (fits_of T) ?_)
  simp only
  rw [if_neg (by rw [sizeLine_eq]; omega),hr]
  refine wpAny_bind ?_
  show wpAny (model prog w) A (if ((order.filterMap (es[·]?)).size != es.size)=true then _ else _) _ E s
  rw [if_neg (by rw [fs]; simp)]
  refine wpAny_pure ?_
  exact wpAny_storeSet_of ho hd q (by rw [fs,sizeLine_eq]; omega)
theorem yy {a x:Addr} {p:Int × Int} {led:Bool} {es:Array (Int × Value)} {Q:Bool->Shared->Prop} (hu:A.units < cLine) (hS:fH s.heap a led es) (hk:gI prog w s.heap x p) (nh:∀ e∈es.toList,e.1≠df p) (h64:es.size < 64)
    (q:∀ h' es',Heap.SameBut a s.heap h'->fH h' a led es'->es'.toList.Perm ((df p,.ref x)::es.toList)->Q true { s with heap:=h',toks:=s.toks+3 }):wpAny (model prog w) A (setAdd a (.ref x)) Q E s:=by
  obtain ⟨o,ep,t,ho,hex,hd,G,el,ep1⟩:=hS.at_
  unfold setAdd
  refine wpAny_holding (wpAny_bind (wpAny_pyHash_tuple hu hk ?_))
  show wpAny (model prog w) A (setAddHashed a (.ref x) (df p)) Q E { s with toks:=s.toks+3 }
  unfold setAddHashed setAddHashedIn
  refine wpAny_holding (wpAny_bind (wpAny_setState_of (s:={ s with toks:=s.toks+3 }) ho hd (fits_of G.tab) ?_))
  have bs:byScan (.ref x) es=false:=rfl
  simp only [bs,Bool.false_eq_true,if_false]
  refine wpAny_bind (sN (s:={ s with toks:=s.toks+3 }) ho hd G nh fun j nj jm=>?_)
  simp only
  refine wpAny_bind (wpAny_setState_of (s:={ s with toks:=s.toks+3 }) ho hd (fits_of G.tab) ?_)
  obtain ⟨T1,e2,e3,e4,rel⟩:=G.put h64 nj jm
  obtain ⟨t1,p1,e1⟩:∃ t1 p1,t.put j=(t1,p1):=⟨_,_,rfl⟩
  rw [e1] at T1 e2 e3 e4 rel
  simp only at T1 e2 e3 e4 rel
  simp only [e1]
  have pl:t1.plain=true:=by rw [e3,ep1]
  have h0:=(below_at t.place j G.tab.ris).1
  have hp1:p1<=es.size:=by rw [e2,<- G.tab.len]; exact h0
  have el1:=gh es p1 (df p,Value.ref x) hp1
  have pm1:(SetTable.insertAt es p1 (df p,.ref x)).toList.Perm ((df p,.ref x)::es.toList):=by rw [el1]; exact kS _ _ _
  have sz1:(SetTable.insertAt es p1 (df p,.ref x)).size=es.size+1:=by rw [<- Array.length_toList,pm1.length_eq,List.length_cons,Array.length_toList]
  simp only [pl,if_true]
  refine wpAny_bind (sL (s:={ s with toks:=s.toks+3 }) hk ?_)
  simp only [if_true]
  refine wpAny_bind (wpAny_storeSet_of (s:={ s with toks:=s.toks+3 }) ho hd ?_ (by rw [sz1,sizeLine_eq]; omega))
  have g1:=mE (es':=SetTable.insertAt es p1 (df p,.ref x)) (t':=t1) ho hd
  have sb1:=Heap.SameBut.update s.heap a (Obj.putSet (SetTable.insertAt es p1 (df p,.ref x)) t1)
  cases hf:t1.tooFull with
  | false =>
    simp only [Bool.not_false,Bool.true_and,Bool.false_eq_true,if_false]
    refine wpAny_pure (q _ _ sb1 ⟨_,ep+1,t1,g1,hex,rfl,⟨by rw [sz1]; exact T1,hf⟩,by rw [e4,el],pl⟩ pm1)
  | true =>
    simp only [Bool.not_false,Bool.true_and,if_true]
    obtain ⟨z1,t',order,r1,G2,l2,pl2,po⟩:=rel hf ((SetTable.insertAt es p1 (df p,.ref x)).map (·.1)) (by rw [Array.size_map,sz1])
    have sz2:((SetTable.insertAt es p1 (df p,.ref x))).size=es.size+1:=sz1
    refine wpAny_bind (yD (s:={ s with heap:=s.heap.update a (Obj.putSet (SetTable.insertAt es p1 (df p,.ref x)) t1),toks:=s.toks+3 }) g1 rfl (by rw [sz1]; exact T1) (by omega) z1 r1 (by rw [sz1]; exact po) (wpAny_pure ?_))
    have g2:=mE (es':=order.filterMap ((SetTable.insertAt es p1 (df p,.ref x))[·]?)) (t':=t') g1 rfl
    have fp:=kT (es:=SetTable.insertAt es p1 (df p,.ref x)) (order:=order) (by rw [sz1]; exact po)
    have sz3:(order.filterMap ((SetTable.insertAt es p1 (df p,.ref x))[·]?)).size=es.size+1:=by rw [<- Array.length_toList,fp.length_eq,Array.length_toList,sz1]
    exact q _ _ (sb1.trans (Heap.SameBut.update _ a _)) ⟨_,ep+1+1,t',g2,hex,rfl,by rw [sz3]; exact G2,by rw [l2,el],by rw [pl2,ep1]⟩ (fp.trans pm1)
end
end Sx
set_option Elab.async false
set_option linter.all false
set_option maxRecDepth 100000
set_option maxHeartbeats 4000000
namespace Sx
open PySem PyProof.Rows
theorem slot_next:Slot "set_iterator" "__next__" "set_iterator.__next__" :=
  .of (owner:="set_iterator") (n:="__next__") (by rw [typeLookup_type,builtinLookup_eq_fast]; kernel_rfl) (by decide +kernel) (by decide +kernel) (by decide +kernel)
    (by first | exact .inl (by decide +kernel) | exact .inr (by decide +kernel)) (by rw [isSubtype_type]; kernel_rfl)
theorem entry_next:entryFor table "set_iterator.__next__" = some Builtin.«set_iterator.__next__»:=entryFor_of_tree (by kernel_rfl)
theorem vh:entryFor table "set.__iter__" = some Builtin.«frozenset.__iter__» :=
  entryFor_alias (id':="frozenset.__iter__") (by kernel_rfl) rfl (by decide +kernel) (by kernel_rfl)
theorem qu:Manifest.owners.lookup (String.ofList ['r','o','t','a','r','e','t','i','_','t','e','s'].reverse)=some Manifest.sig_set_iterator:=by kernel_rfl
theorem args_next (a:Value):argsOk "set_iterator.__next__" ⟨[a],[]⟩:=by
  unfold argsOk; rw [signature?_of (id:="set_iterator.__next__") (n:=['_','_','t','x','e','n','_','_']) (o:=['r','o','t','a','r','e','t','i','_','t','e','s']) (by kernel_rfl) qu]; kernel_rfl
theorem sY {α:Type} (next:Nat->Nat):∀ (fuel k:Nat) (left:List α) (out:Array α),left.length=fuel->(pickOrder.go next fuel k left out).toList.Perm (out.toList++left)
  | 0,k,left,out,h=>by
    have:left=[]:=List.eq_nil_of_length_eq_zero h
    subst this
    unfold pickOrder.go
    rw [List.append_nil]
  | fuel+1,k,left,out,h=>by
    have lt:next k % left.length < left.length:=Nat.mod_lt _ (by omega)
    unfold pickOrder.go
    rw [List.getElem?_eq_getElem lt]
    simp only
    refine (sY next fuel (k+1) _ _ (by rw [List.length_eraseIdx_of_lt lt]; omega)).trans ?_
    rw [Array.toList_push,List.append_assoc]
    refine List.Perm.append_left _ ?_
    rw [List.eraseIdx_eq_take_drop_succ]
    have e:=List.perm_middle (a:=left[next k % left.length]) (l₁:=left.take (next k % left.length)) (l₂:=left.drop (next k % left.length+1))
    rw [List.getElem_cons_drop,List.take_append_drop] at e
    exact e.symm
theorem xA {α:Type} (next:Nat->Nat) (xs:Array α):(pickOrder next xs).toList.Perm xs.toList:=by
  have:=sY next xs.size 0 xs.toList #[] (by simp)
  exact this
noncomputable def bM (w:World):Bool:=w.params.followText "set-order"
noncomputable def wk (w:World) (a:Addr) (ep:Nat) (es:Array (Int × Value)):Array (Int × Value):=if bM w=true then pickOrder (w.params.setOrder a ep) es else es
theorem tO (w:World) (a:Addr) (ep:Nat) (es:Array (Int × Value)):(wk w a ep es).toList.Perm es.toList:=by
  unfold wk
  split
  · exact xA _ _
  · exact .refl _
theorem ie (w:World) (a:Addr) (ep:Nat) (es:Array (Int × Value)):(wk w a ep es).size=es.size:=by
  rw [<- Array.length_toList,(tO w a ep es).length_eq,Array.length_toList]
noncomputable abbrev zU (h:Heap) (I a:Addr) (slot i n ep:Nat):Prop:=h.get? I=some { cls:=.type "set_iterator",dict:=none,data:=.fields #[rawInt slot,rawInt i,.ref a,rawInt n,rawInt ep],slots:=#[] }
theorem mf (xs:Array Nat) (hr:dm xs.toList):SetTable.below xs 0=0:=by
  obtain ⟨h0,h1,h2⟩:=below_at xs 0 hr
  rcases Nat.eq_zero_or_pos (SetTable.below xs 0) with z | z
  · exact z
  · have:=h1 0 xs[0] z (Array.getElem?_eq_getElem (by omega))
    omega
theorem ux {xs:Array Nat} {i j:Nat} (hr:dm xs.toList) (h:xs[i]? = some j):SetTable.below xs (j+1)=i+1:=by
  obtain ⟨h0,h1,h2⟩:=below_at xs (j+1) hr
  obtain ⟨li,ei⟩:=Array.getElem?_eq_some_iff.mp h
  have mono:∀ a b x y,a < b->xs[a]? = some x->xs[b]? = some y->x < y:=fun a b x y hab ha hb=>by
    obtain ⟨la,ea⟩:=Array.getElem?_eq_some_iff.mp ha
    obtain ⟨lb,eb⟩:=Array.getElem?_eq_some_iff.mp hb
    have:=List.pairwise_iff_getElem.mp hr a b (by simpa using la) (by simpa using lb) hab
    simp only [Array.getElem_toList] at this
    omega
  rcases Nat.lt_trichotomy (SetTable.below xs (j+1)) (i+1) with z | z | z
  · have:=h2 i j (by omega) h; omega
  · exact z
  · have l:i+1 < xs.size:=by omega
    have g:=Array.getElem?_eq_getElem l
    have a1:=h1 (i+1) _ z g
    have a2:=mono i (i+1) j _ (by omega) h g
    omega
section
variable {prog:Program} {w:World} {A:Around} {E:Value->Shared->Prop} {s:Shared}
theorem iI {Q:Bool->Shared->Prop} (q:Q (bM w) s):wpAny (model prog w) A setsByText Q E s:=by
  unfold setsByText
  exact wpAny_bind (wpAny_askSetting (wpAny_pure q))
theorem xI {a:Addr} {o:Obj} {es:Array (Int × Value)} {ep:Nat} {t:SetTable} {Q:Value->Shared->Prop} (ho:s.heap.get? a=some o) (hex:o.ExactSet) (hd:o.data = .set es ep t) (T:Tab t es.size) (pl:t.plain=true)
    (q:Q (.ref s.heap.objs.size) { s with heap:=s.heap.push { cls:=.type "set_iterator",dict:=none,data:=.fields #[rawInt 0,rawInt 0,.ref a,rawInt es.size,rawInt ep],slots:=#[] } }):wpAny (model prog w) A (pyIter (.ref a)) Q E s:=by
  have hT:s.TypeIs (.ref a) "set":=⟨o,ho,hex.1⟩
  refine wpAny_pyIter_slot hT F.slot_set_iter (wpAny_call_entry F.slot_set_iter hT vh ?_ (F.args_set_iter_1 _))
  unfold Builtin.«frozenset.__iter__» Builtin.Frozenset.slot0 slotArgs
  simp only [List.isEmpty_nil,Bool.not_true,Bool.false_eq_true,↓reduceIte,bind_assoc,List.length_nil,bne_self_eq_false]
  unfold Builtin.Frozenset.addrOf Builtin.Frozenset.sizeOf
  refine wpAny_bind (wpAny_pure ?_)
  try dsimp only
  refine wpAny_bind (wpAny_pure ?_)
  refine wpAny_bind (wpAny_bind (wpAny_setEntries_of ho hd (fits_of T) (wpAny_pure ?_)))
  refine wpAny_bind ?_
  unfold setDrawn
  refine wpAny_bind (wpAny_setState_of ho hd (fits_of T) ?_)
  refine wpAny_bind (iI (wpAny_pure ?_))
  have nd:¬ ((!bM w&&(!t.plain&&decide (es.size > 1)))=true):=by rw [pl]; simp
  refine wpAny_ite_split (fun h=>absurd h nd) (fun _=>?_)
  refine wpAny_bind (wpAny_pure ?_)
  refine wpAny_bind (wpAny_setEpoch_of ho hd (fits_of T) ?_)
  unfold newFields
  refine wpAny_bind (wpAny_newObj_type ?_)
  refine wpAny_pure ⟨_,rfl,"set_iterator",_,⟨_,Heap.get?_push_size _ rfl,rfl⟩,slot_next.lookup,q⟩
structure kP (w:World) (h:Heap) (I a:Addr) (es:Array (Int × Value)) (ep:Nat) (t:SetTable) (i:Nat):Prop where
  it:∃ slot,zU h I a slot i es.size ep/\(bM w=false->SetTable.below t.place slot=i)
  st:∃ o,h.get? a=some o/\o.data = .set es ep t
theorem tK {a:Addr} {o:Obj} {es:Array (Int × Value)} {ep slot i:Nat} {t:SetTable} {Q:Option (Value × Nat)->Shared->Prop} (ho:s.heap.get? a=some o) (hd:o.data = .set es ep t) (T:Tab t es.size) (pl:t.plain=true) (ld:t.led = !bM w)
    (hs:bM w=false->SetTable.below t.place slot=i)
    (q0:es.size<=i->Q none s) (q1:∀ e nx,(wk w a ep es)[i]? = some e->(bM w=false->SetTable.below t.place nx=i+1)->Q (some (e.2,nx)) s):wpAny (model prog w) A (setNext a slot i ep) Q E s:=by
  unfold setNext
  refine wpAny_bind (wpAny_setState_of ho hd (fits_of T) ?_)
  refine wpAny_bind (iI ?_)
  cases hb:bM w with
  | true =>
    simp only [if_true,bne_self_eq_false,Bool.false_eq_true,if_false]
    refine wpAny_bind ?_
    unfold setWalk
    refine wpAny_bind (wpAny_setState_of ho hd (fits_of T) ?_)
    refine wpAny_bind (iI ?_)
    simp only [hb,if_true]
    refine wpAny_bind (wpAny_askSetting (wpAny_pure (wpAny_pure ?_)))
    have ew:wk w a ep es=pickOrder (w.params.setOrder a ep) es:=by unfold wk; rw [if_pos hb]
    show Q (((pickOrder (w.params.setOrder a ep) es)[i]?).map fun e=>(e.2,slot)) s
    rw [<- ew]
    by_cases hi:i < es.size
    · rw [Array.getElem?_eq_getElem (show i < (wk w a ep es).size by rw [ie]; exact hi)]
      exact q1 _ slot (Array.getElem?_eq_getElem (show i < (wk w a ep es).size by rw [ie]; exact hi)) fun z=>by rw [hb] at z; cases z
    · rw [Array.getElem?_eq_none (by rw [ie]; omega)]
      exact q0 (by omega)
  | false =>
    simp only [Bool.false_eq_true,if_false]
    have nd:¬ ((!t.plain&&decide (es.size > 1))=true):=by rw [pl]; simp
    refine wpAny_ite_split (fun h=>absurd h nd) (fun _=>?_)
    refine wpAny_bind ?_
    show wpAny (model prog w) A (if (!t.led&&!es.isEmpty)=true then _ else _) _ E s
    rw [if_neg (by rw [ld,hb]; simp)]
    refine wpAny_pure (wpAny_pure ?_)
    rw [hs hb]
    have ew:wk w a ep es=es:=by unfold wk; rw [hb,if_neg (by decide)]
    by_cases hi:i < es.size
    · have g1:=Array.getElem?_eq_getElem hi
      have g2:=Array.getElem?_eq_getElem (show i < t.place.size by rw [T.len]; exact hi)
      rw [g1,g2]
      exact q1 _ _ (by rw [ew]; exact g1) fun _=>ux T.ris g2
    · rw [Array.getElem?_eq_none (show es.size<=i by omega)]
      exact q0 (by omega)
theorem wy {I a:Addr} {es:Array (Int × Value)} {ep i:Nat} {t:SetTable} {Q:Value->Shared->Prop} (hne:a≠I) (S:kP w s.heap I a es ep t i) (T:Tab t es.size) (pl:t.plain=true) (ld:t.led = !bM w) (hi:i < es.size)
    (q:∀ e h',(wk w a ep es)[i]? = some e->kP w h' I a es ep t (i+1)->Heap.SameBut I s.heap h'->Q e.2 { s with heap:=h' }) :
    wpAny (model prog w) A (Builtin.«set_iterator.__next__» ⟨[.ref I],[]⟩) (fun fin s'=>∃ v,fin = .done (.ret v)/\Q v s') E s:=by
  obtain ⟨⟨slot,hit,hs⟩,o,ho,hd⟩:=S
  unfold Builtin.«set_iterator.__next__» slotArgs
  simp only [List.isEmpty_nil,Bool.not_true,Bool.false_eq_true,↓reduceIte,List.length_nil,bne_self_eq_false,pure_bind]
  refine wpAny_bind (wpAny_fieldsOf hit rfl ?_)
  show wpAny (model prog w) A (setEntries a >>= _) _ E s
  refine wpAny_bind (wpAny_setEntries_of ho hd (fits_of T) ?_)
  rw [if_neg (by simp)]
  show wpAny (model prog w) A (setNext a ((slot:Int)).toNat ((i:Int)).toNat ((ep:Int)).toNat >>= _) _ E s
  rw [Int.toNat_natCast,Int.toNat_natCast,Int.toNat_natCast]
  refine wpAny_bind (tK ho hd T pl ld hs (fun z=>absurd z (by omega)) fun e nx he hn=>?_)
  show wpAny (model prog w) A (setField (.ref I) 0 (rawInt nx) >>= _) _ E s
  refine wpAny_bind (wpAny_setField_rec hit (by simp) fun h1 hit1 sb1=>?_)
  show wpAny (model prog w) A (setField (.ref I) 1 (rawInt ((i:Int)+1)) >>= _) _ E _
  refine wpAny_bind (wpAny_setField_rec hit1 (by simp) fun h2 hit2 sb2=>?_)
  have sb:=sb1.trans sb2
  refine wpAny_pure ⟨_,rfl,q e h2 he ⟨⟨nx,?_,hn⟩,o,(sb.2 a hne).trans ho,hd⟩ sb⟩
  show h2.get? I=_
  rw [hit2]
  rfl
theorem yJ {I a:Addr} {es:Array (Int × Value)} {ep i:Nat} {t:SetTable} {Q:PySem.Fin->Shared->Prop} (hh:A.handled=none) (S:kP w s.heap I a es ep t i) (T:Tab t es.size) (pl:t.plain=true) (ld:t.led = !bM w) (hi:es.size<=i)
    (hE:∀ h' e,Heap.ExtBut I s.heap h'->(∃ o,h'.get? e=some o/\o.cls = .type "StopIteration")->E (.ref e) { s with heap:=h' }) :
    wpAny (model prog w) A (Builtin.«set_iterator.__next__» ⟨[.ref I],[]⟩) Q E s:=by
  obtain ⟨⟨slot,hit,hs⟩,o,ho,hd⟩:=S
  unfold Builtin.«set_iterator.__next__» slotArgs
  simp only [List.isEmpty_nil,Bool.not_true,Bool.false_eq_true,↓reduceIte,List.length_nil,bne_self_eq_false,pure_bind]
  refine wpAny_bind (wpAny_fieldsOf hit rfl ?_)
  show wpAny (model prog w) A (setEntries a >>= _) _ E s
  refine wpAny_bind (wpAny_setEntries_of ho hd (fits_of T) ?_)
  rw [if_neg (by simp)]
  show wpAny (model prog w) A (setNext a ((slot:Int)).toNat ((i:Int)).toNat ((ep:Int)).toNat >>= _) _ E s
  rw [Int.toNat_natCast,Int.toNat_natCast,Int.toNat_natCast]
  refine wpAny_bind (tK ho hd T pl ld hs (fun _=>?_) fun e nx he hn=>?_)
  · show wpAny (model prog w) A (setField (.ref I) 2 .none >>= _) _ E s
    refine wpAny_bind (wpAny_setField_rec hit (by simp) fun h1 hit1 sb1=>?_)
    show wpAny _ _ (newExc (.type "StopIteration") [] >>= _) _ _ _
    refine wpAny_bind ?_
    simp only [newExc,newTuple]
    refine wpAny_bind (wpAny_newObj_type ?_ (by size_fits))
    refine wpAny_bind (m:=firstArgMember _ _) (wpAny_of_eq (a:=Value.none) (by first | rfl | (simp only [firstArgMember]; rfl)) ?_)
    refine wpAny_newObj_type ?_ (by size_fits)
    simp only [raiseNew]
    refine wpAny_bind (wpAny_handled ?_)
    rw [hh]
    refine wpAny_bind (wpAny_pure (wpAny_throw ?_))
    exact hE _ _ (fun b o hb e=>Heap.get?_push_of_some _ (Heap.get?_push_of_some _ (sb1.extBut b o hb e))) ⟨_,Heap.get?_push_size _ rfl,rfl⟩
  · have:=(Array.getElem?_eq_some_iff.mp he).1
    rw [ie] at this
    omega
theorem slot_self:Slot "set_iterator" "__iter__" "set_iterator.__iter__" :=
  .of (owner:="set_iterator") (n:="__iter__") (by rw [typeLookup_type,builtinLookup_eq_fast]; kernel_rfl) (by decide +kernel) (by decide +kernel) (by decide +kernel)
    (by first | exact .inl (by decide +kernel) | exact .inr (by decide +kernel)) (by rw [isSubtype_type]; kernel_rfl)
theorem entry_self:entryFor table "set_iterator.__iter__" = some Builtin.«dict_keyiterator.__iter__» :=
  entryFor_alias (id':="dict_keyiterator.__iter__") (by kernel_rfl) rfl (by decide +kernel) (by kernel_rfl)
theorem args_self (a:Value):argsOk "set_iterator.__iter__" ⟨[a],[]⟩:=by
  unfold argsOk; rw [signature?_of (id:="set_iterator.__iter__") (n:=['_','_','r','e','t','i','_','_']) (o:=['r','o','t','a','r','e','t','i','_','t','e','s']) (by kernel_rfl) qu]; kernel_rfl
theorem wu (hh:A.handled=none) (I a:Addr) (hne:a≠I) (es:Array (Int × Value)) (ep:Nat) (t:SetTable) (T:Tab t es.size) (pl:t.plain=true) (ld:t.led = !bM w) :
    Walks prog w A I [I,a] [I] es.size (fun i v=>∃ e,(wk w a ep es)[i]? = some e/\v=e.2) (fun i h=>kP w h I a es ep t i) where
  sub:=fun b hb=>by simp at hb; simp [hb]
  frame:=fun i h h' st hk=>by
    obtain ⟨⟨slot,hit,hs⟩,o,ho,hd⟩:=st
    exact ⟨⟨slot,hk I (by simp) _ hit,hs⟩,o,hk a (by simp) _ ho,hd⟩
  item:=fun i s Q E hi st hQ=>by
    obtain ⟨slot,hit,_⟩:=st.it
    have hT:s.TypeIs (.ref I) "set_iterator":=⟨_,hit,rfl⟩
    unfold pyNext
    refine wpAny_bind (wpAny_attempt (wpAny_callSpecial?_slot (name:=Str.ofString "__next__") hT slot_next (wpAny_call_entry slot_next hT entry_next
      (wy hne st T pl ld hi fun e h' he S' sb=>wpAny_pure ?_) (args_next _))))
    exact hQ e.2 h' s.toks ⟨e,he,rfl⟩ S' fun b o hb x=>sb.extBut b o (fun z=>hb (by simp [z])) x
  done:=fun s Q E st hQ=>by
    obtain ⟨slot,hit,_⟩:=st.it
    have hT:s.TypeIs (.ref I) "set_iterator":=⟨_,hit,rfl⟩
    unfold pyNext
    refine wpAny_bind (wpAny_attempt (wpAny_callSpecial?_slot (name:=Str.ofString "__next__") hT slot_next (wpAny_call_entry slot_next hT entry_next
      (yJ (A:=A.in1) hh st T pl ld (Nat.le_refl _) fun h' e k he=>?_) (args_next _))))
    obtain ⟨o,ho,hc⟩:=he
    exact wpAny_bind (wpAny_isInstance (T:="StopIteration") (b:=true) ⟨o,ho,hc⟩ isSubtype_stop (wpAny_pure (hQ _ s.toks fun b o hb x=>k b o (fun z=>hb (by simp [z])) x)))
  self:=fun i s Q E st hQ=>by
    obtain ⟨slot,hit,_⟩:=st.it
    have hT:s.TypeIs (.ref I) "set_iterator":=⟨_,hit,rfl⟩
    refine wpAny_pyIter_slot hT slot_self (wpAny_call_entry slot_self hT entry_self ?_ (args_self _))
    show wpAny _ _ (ret (.ref I)) _ _ s
    exact wpAny_pure ⟨_,rfl,"set_iterator",_,hT,slot_next.lookup,hQ⟩
end
end Sx
set_option Elab.async false
set_option linter.all false
set_option maxRecDepth 100000
set_option maxHeartbeats 4000000
namespace Sx
open PySem PyProof.Rows
noncomputable def el (e:Addr × (Int × Int)):Int × Value:=(df e.2,.ref e.1)
theorem nS {prog:Program} {w:World} {h h':Heap} {T:Addr} {p:Int × Int} (k:gI prog w h T p) (e:∀ o,h.get? T=some o->h'.get? T=some o):gI prog w h' T p:=by
  obtain ⟨o,items,n,ho,r⟩:=k
  exact ⟨o,items,n,e o ho,r⟩
section
variable {prog:Program} {w:World} {A:Around} {R:Result->Shared->Prop} {I:Addr} {fp wr:List Addr} {G:Array GenState->Array GenState->Prop} {n:Nat} {P:Nat->Value->Prop} {St:Nat->Shared->Prop}
theorem fH.at' {h h':Heap} {a:Addr} {led:Bool} {es:Array (Int × Value)} (S:fH h a led es) (e:∀ o,h.get? a=some o->h'.get? a=some o):fH h' a led es:=by
  obtain ⟨o,ep,t,ho,r⟩:=S.at_
  exact ⟨o,ep,t,e o ho,r⟩
theorem rN (W:WalksS prog w A.in1 I fp wr G n P St) (S:Addr) (hSf:S∉fp) (hu:A.in1.units < cLine) (led:Bool) (Tp:List (Addr × (Int × Int))) (hn:Tp.length=n) (hval:∀ i v,P i v->∃ e,Tp[i]? = some e/\v = .ref e.1)
    (hT:∀ e∈Tp,e.1≠S/\e.1∉wr) (lo:∀ e∈Tp,Lo e.2) (nd:(Tp.map (·.2)).Nodup) (n64:n<=64) :
    ∀ (k i:Nat) (s:Shared) (es:Array (Int × Value)),n - i=k->i<=n->St i s->(∀ e∈Tp,gI prog w s.heap e.1 e.2)->fH s.heap S led es->es.toList.Perm ((Tp.take i).map el) ->
      (∀ s' es',Moved (S::wr) G s s'->fH s'.heap S led es'->es'.toList.Perm (Tp.map el)->R (.ok (.ret .none)) s') ->
      codeAny (model prog w) A (.builtin "set.update.loop" ⟨[.ref S,.ref I],[]⟩) R s:=by
  have hSw:S∉wr:=fun h=>hSf (W.sub _ h)
  have hsub:∀ b∈wr,b∈S::wr:=fun b hb=>List.mem_cons_of_mem _ hb
  intro k
  induction k with
  | zero =>
    intro i s es hk hi hst hP hS hp hR
    have hin:i=n:=by omega
    subst hin
    refine codeAny_builtin F.entry_set_update_loop ?_
    rw [Around.under_plainId F.plain_set_update_loop _]
    show wpAny _ A.in1 (pyNext (.ref I) >>= _) _ _ s
    refine wpAny_bind (W.done s _ _ hst fun s' hm=>?_)
    show wpAny _ A.in1 (ret Value.none) _ _ s'
    rw [List.take_of_length_le (by omega)] at hp
    exact wpAny_pure (hR s' es (hm.mono hsub) (hS.at' fun o e=>hm.heap S _ hSw e) hp)
  | succ k ih =>
    intro i s es hk hi hst hP hS hp hR
    have hlt:i < n:=by omega
    refine codeAny_builtin F.entry_set_update_loop ?_
    rw [Around.under_plainId F.plain_set_update_loop _]
    show wpAny _ A.in1 (pyNext (.ref I) >>= _) _ _ s
    refine wpAny_bind (W.item i s _ _ hlt hst fun v s' hv hst' hm=>?_)
    obtain ⟨e,he,rfl⟩:=hval i v hv
    have em:=List.mem_of_getElem? he
    have hS':fH s'.heap S led es:=hS.at' fun o x=>hm.heap S _ hSw x
    have hP':∀ f∈Tp,gI prog w s'.heap f.1 f.2:=fun f hf=>nS (hP f hf) fun o x=>hm.heap _ _ (hT f hf).2 x
    have les:es.size=i:=by rw [<- Array.length_toList,hp.length_eq,List.length_map,List.length_take]; omega
    have nh:∀ x∈es.toList,x.1≠df e.2:=fun x hx z=>by
      obtain ⟨f,hf,rfl⟩:=List.mem_map.mp (hp.mem_iff.mp hx)
      have z':df f.2=df e.2:=z
      have fm:=List.mem_of_mem_take hf
      have ef:=Al (lo f fm) (lo e em) z'
      obtain ⟨j,hj⟩:=List.getElem?_of_mem hf
      have hji:j < i:=by
        have:=(List.getElem?_eq_some_iff.mp hj).1
        rw [List.length_take] at this
        omega
      rw [List.getElem?_take_of_lt hji] at hj
      have g1:(Tp.map (·.2))[j]? = some f.2:=by rw [List.getElem?_map,hj]; rfl
      have g2:(Tp.map (·.2))[i]? = some e.2:=by rw [List.getElem?_map,he]; rfl
      rw [ef] at g1
      have:=(List.getElem?_inj (by rw [List.length_map]; omega) nd).mp (g1.trans g2.symm)
      omega
    show wpAny _ A.in1 (holding [Value.ref e.1] (setAdd S (.ref e.1)) >>= _) _ _ s'
    refine wpAny_bind (wpAny_holding (yy hu hS' (hP' e em) nh (by omega) fun h' es' sb S2 p2=>?_))
    refine wpAny_pure ⟨plainId_quiet F.plain_set_update_loop _,ih (i+1) _ es' (by omega) hlt (W.frame _ s' _ _ hst' (Nat.le_add_right _ _) fun b hb o x=>?_) (fun f hf=>nS (hP' f hf) fun o x=>(sb.2 _ (hT f hf).1).trans x) S2 ?_ fun s'' es'' hm'' S'' p''=>?_⟩
    · rw [sb.2 b (fun h:b=S=>hSf (by rw [<- h]; exact hb))]; exact x
    · rw [List.take_add_one,he,List.map_append]
      exact (p2.trans (List.Perm.cons _ hp)).trans (List.perm_append_singleton (el e) _).symm
    · refine hR s'' es'' (Moved.trans W.gtrans ((hm.mono hsub).then_heap (Nat.le_add_right _ _) fun b o hb x=>?_) hm'') S'' p''
      rw [sb.2 b (fun h:b=S=>hb (by rw [h]; exact List.mem_cons_self))]; exact x
end
section
variable {prog:Program} {w:World} {A:Around} {E:Value->Shared->Prop} {s:Shared}
theorem zV (a:Value) {Q₁:Value->Shared->Prop} (h:Q₁ (.ref s.heap.objs.size) { s with heap:=s.heap.push { cls:=.type "set",dict:=none,data:=.set #[] 0 (.fresh 0 0 (!bM w)) } }) :
    codeAny (model prog w) A (.call (.builtin "set.__new__") ⟨[.type "set",a],[]⟩) (wants Q₁ E) s:=by
  refine codeAny_of_tree ?_
  show wpAny _ A.in1 (do checkBuiltinCall "set.__new__" ⟨[.type "set",a],[]⟩; again (.builtin "set.__new__" ⟨[.type "set",a],[]⟩)) _ _ s
  refine wpAny_bind (wpAny_of_eq (F.newCall_set_1 a) (wpAny_pure ⟨plainId_quiet F.plain_set_new _,codeAny_builtin F.entry_set_new ?_⟩))
  rw [Around.under_plainId F.plain_set_new _]
  unfold Builtin.«set.__new__» Builtin.Frozenset.newClass
  have hsub:=sub_set_self
  obtain ⟨hp,g,d,tk,os⟩:=s
  dsimp only
  wp_walk
  refine wpAny_askSetting (wpAny_pure ?_)
  dsimp only
  simp only [newObj]
  refine wpAny_bind (wpAny_alloc (wpAny_pure ?_))
  exact wpAny_pure h
theorem n9 {l:Addr} {items:Array Value} {Tp:List (Addr × (Int × Int))} {Q:Value->Shared->Prop} (hh:A.handled=none) (hu:A.units+10 < cLine) (hl:s.heap.IsList l items) (hi:items.toList=Tp.map fun e=>.ref e.1)
    (hP:∀ e∈Tp,gI prog w s.heap e.1 e.2) (lo:∀ e∈Tp,Lo e.2) (nd:(Tp.map (·.2)).Nodup) (n64:Tp.length<=64)
    (h:∀ (h':Heap) (tk:Nat) (es:Array (Int × Value)),fH h' s.heap.objs.size (!bM w) es->es.toList.Perm (Tp.map el)->(∀ b o,b < s.heap.objs.size->s.heap.get? b=some o->h'.get? b=some o)->Q (.ref s.heap.objs.size) { s with heap:=h',toks:=tk }) :
    wpAny (model prog w) A (call (.type "set") [.ref l]) Q E s:=by
  obtain ⟨c,tl,hmro⟩:=F.called_set.mro
  have hmade:=F.called_set.made
  have hsub:=F.called_set.sub
  refine wpAny_call (codeAny_of_tree ?_)
  show wpAny _ _ (callAny (.type "set") _) _ _ _
  refine wpAny_pure ⟨Code.quiet_builtin _ (by decide +kernel),codeAny_builtin F.entry_type_call ?_⟩
  rw [Around.under_plain (weight_type_call_type "set" [.ref l] []) rfl]
  have h1:=F.called_set.notType
  have h2:=F.called_set.canCreate
  have hct:=F.typeCall_set_1 (.ref l)
  repeat (any_goals (first | assumption | wp_step))
  refine codeAny_mono (zV (.ref l) (E:=E) (Q₁:=fun obj s₁=>obj = .ref s.heap.objs.size/\s₁={ s with heap:=s.heap.push { cls:=.type "set",dict:=none,data:=.set #[] 0 (.fresh 0 0 (!bM w)) } }) ⟨rfl,rfl⟩) fun r s₁ hr=>?_
  cases r with
  | error e=>exact hr
  | ok fl =>
    cases fl with
    | ret obj =>
      obtain ⟨rfl,rfl⟩:=hr
      have hS:(s.heap.push { cls:=.type "set",dict:=none,data:=.set #[] 0 (.fresh 0 0 (!bM w)) }).get? s.heap.objs.size=some { cls:=.type "set",dict:=none,data:=.set #[] 0 (.fresh 0 0 (!bM w)) }:=Heap.get?_push_size _ rfl
      have hT:Shared.TypeIs { s with heap:=s.heap.push { cls:=.type "set",dict:=none,data:=.set #[] 0 (.fresh 0 0 (!bM w)) } } (.ref s.heap.objs.size) "set":=⟨_,hS,rfl⟩
      have hli:=F.called_set.init.lookup
      have hbi:=F.called_set.init.bind (.ref s.heap.objs.size)
      repeat (any_goals (first | assumption | wp_step))
      refine codeAny_mono (codeAny_call_builtin (R:=wants (fun r s₂=>r = .none/\∃ h' tk es,s₂={ s with heap:=h',toks:=tk }/\fH h' s.heap.objs.size (!bM w) es/\es.toList.Perm (Tp.map el) /\
          (∀ b o,b < s.heap.objs.size->s.heap.get? b=some o->h'.get? b=some o)) E) F.called_set.init.plain F.entry_set_init (check_set_init_1 hT ?_)) fun r₂ s₂ hr₂=>?_
      · obtain ⟨ol,hol,hcl,nl,hdl⟩:=hl
        obtain ⟨ocls,odict,odata,oslots⟩:=ol
        simp only at hcl hdl
        subst hcl; subst hdl
        have hol':(s.heap.push { cls:=.type "set",dict:=none,data:=.set #[] 0 (.fresh 0 0 (!bM w)) }).get? l=some { cls:=.type "list",dict:=odict,data:=.seq items nl,slots:=oslots }:=Heap.get?_push_of_some _ hol
        have hsls:=F.sub_list_set
        have hslf:=F.sub_list_frozenset
        have hne:(Value.type "list" == Value.type "dict")=false:=by decide
        have hl1:(s.heap.push { cls:=.type "set",dict:=none,data:=.set #[] 0 (.fresh 0 0 (!bM w)) }).IsList l items:=⟨_,hol',rfl,nl,rfl⟩
        unfold Builtin.«set.__init__» noKeywords Builtin.Frozenset.updateFrom
        generalize hPI:pyIter=PI
        wp_walk
        subst hPI
        refine wpAny_pyIter_list hl1 ?_
        refine wpAny_bind (wpAny_runValue ?_)
        have hlS:l < s.heap.objs.size:=Heap.lt_size hol
        have hh3:A.in1.in1.in1.handled=none:=by simp [hh]
        have hneI:l≠(s.heap.push { cls:=.type "set",dict:=none,data:=.set #[] 0 (.fresh 0 0 (!bM w)) }).objs.size:=by
          rw [Heap.size_push]; exact Nat.ne_of_lt (Nat.lt_succ_of_lt hlS)
        have hSf:s.heap.objs.size∉[(s.heap.push { cls:=.type "set",dict:=none,data:=.set #[] 0 (.fresh 0 0 (!bM w)) }).objs.size,l]:=by
          rw [Heap.size_push]; simp only [List.mem_cons,List.mem_singleton,List.not_mem_nil,or_false,not_or]
          exact ⟨Nat.ne_of_lt (Nat.lt_succ_self _),Nat.ne_of_gt hlS⟩
        have hlt:∀ e∈Tp,e.1 < s.heap.objs.size:=fun e he=>by
          obtain ⟨o,_,_,ho,_⟩:=hP e he
          exact Heap.lt_size ho
        have hsz:items.size=Tp.length:=by rw [<- Array.length_toList,hi,List.length_map]
        refine rN (R:=_) ((Walks.list hh3 _ l hneI items).toS) s.heap.objs.size hSf ?hu (!bM w) Tp hsz.symm (fun i v hv=>?hval) (fun e he=>⟨Nat.ne_of_lt (hlt e he),?hw⟩) lo nd (by omega) (items.size - 0) 0 _ #[] (by omega) (Nat.zero_le _)
          ⟨⟨_,Heap.get?_push_size _ rfl,rfl,rfl⟩,(hl1.push _)⟩ (fun e he=>nS (hP e he) fun o x=>Heap.get?_push_of_some _ (Heap.get?_push_of_some _ x)) ?hS0 (List.Perm.refl _) ?hR
        case hu=>simp only [Around.in1_units]; omega
        case hval =>
          have e1:items.toList[i]? = some v:=by rw [Array.getElem?_toList]; exact hv
          rw [hi,List.getElem?_map] at e1
          cases g:Tp[i]? with
          | none=>rw [g] at e1; cases e1
          | some e=>rw [g] at e1; exact ⟨e,rfl,(Option.some.inj e1).symm⟩
        case hw =>
          rw [Heap.size_push]
          simp only [List.mem_singleton]
          exact Nat.ne_of_lt (Nat.lt_succ_of_lt (hlt e he))
        case hS0 =>
          exact ⟨_,0,_,Heap.get?_push_of_some _ hS,⟨rfl,rfl,rfl⟩,rfl,Good.fresh 0 0 _,rfl,rfl⟩
        case hR =>
          intro s' es' hm hS' hp'
          obtain ⟨h',g',d',tk',os'⟩:=s'
          have eg:g'=s.gens:=hm.gens
          have ed:d'=s.drawn:=hm.drawn
          have eo:os'=s.os:=hm.os
          subst eg; subst ed; subst eo
          show wpAny _ _ _ _ _ _
          refine wpAny_pure ?_
          show wpAny _ _ (ret Value.none) _ _ _
          refine wpAny_pure ⟨rfl,h',tk',es',rfl,hS',hp',fun b o hb e=>?_⟩
          have hb1:b≠s.heap.objs.size:=Nat.ne_of_lt hb
          have hb2:b≠(s.heap.push { cls:=.type "set",dict:=none,data:=.set #[] 0 (.fresh 0 0 (!bM w)) }).objs.size:=by
            rw [Heap.size_push]; exact Nat.ne_of_lt (Nat.lt_succ_of_lt hb)
          exact hm.heap b o (by simp only [List.mem_cons,List.mem_singleton,List.not_mem_nil,or_false,not_or]; exact ⟨hb1,hb2⟩) (Heap.get?_push_of_some _ (Heap.get?_push_of_some _ e))
      · cases r₂ with
        | error e=>exact hr₂
        | ok fl₂ =>
          cases fl₂ with
          | ret r =>
            obtain ⟨rfl,h',tk,es,rfl,hS',hp',hk'⟩:=hr₂
            repeat (any_goals (first | assumption | wp_step))
            exact h _ _ _ hS' hp' hk'
          | _=>exact hr₂.elim
    | _=>exact hr.elim
end
end Sx
set_option Elab.async false
set_option linter.all false
set_option maxRecDepth 100000
set_option maxHeartbeats 4000000
namespace Sx
open PySem PyProof.Rows
section
variable {prog:Program} {w:World} {A:Around} {E:Value->Shared->Prop} {s:Shared}
theorem xP {a:Addr} {o:Obj} {Q:Bool->Shared->Prop} (ho:s.heap.get? a=some o) (hc:o.cls = .type "set") (q:Q false s):wpAny (model prog w) A (Builtin.List.listLengthHint (.ref a)) Q E s:=by
  have hT:s.TypeIs (.ref a) "set":=⟨o,ho,hc⟩
  unfold Builtin.List.listLengthHint
  refine wpAny_bind (wpAny_specialOf hT F.slot_set_len.lookup ?_)
  generalize hid:("set.__len__" : String)=id0
  wp_delta
  rw [show splitId id0=some ("set","__len__") from by subst hid; decide +kernel]
  subst hid
  refine wpAny_bind (wpAny_isInstance (T:="set") (b:=true) hT (by rw [isSubtype_type]; kernel_rfl) ?_)
  refine wpAny_ite_split (fun hab=>absurd hab (by decide)) (fun _=>?_)
  refine wpAny_ite_split (fun _=>?_) (fun hab=>absurd (by decide +kernel) hab)
  refine wpAny_bind (wpAny_typeOf hT (wpAny_pure ?_))
  exact q
theorem sI {a:Addr} {o:Obj} {es:Array (Int × Value)} {ep:Nat} {t:SetTable} {Q:List Value->Shared->Prop} (hh:A.handled=none) (ho:s.heap.get? a=some o) (hex:o.ExactSet) (hd:o.data = .set es ep t) (T:Tab t es.size) (pl:t.plain=true) (ld:t.led = !bM w) (h64:es.size<=64)
    (q:∀ h' tk,(∀ b o,s.heap.get? b=some o->h'.get? b=some o)->Q ((wk w a ep es).toList.map (·.2)) { s with heap:=h',toks:=tk }):wpAny (model prog w) A (collect (.ref a)) Q E s:=by
  have lta:a < s.heap.objs.size:=Heap.lt_size ho
  have hz:es.size<=sizeLine:=by rw [sizeLine_eq]; omega
  unfold collect
  refine wpAny_bind (wpAny_runValue (codeAny_builtin F.entry_proto_collect ?_))
  rw [Around.under_plainId F.plain_proto_collect _]
  show wpAny _ A.in1 (newList [] >>= fun l=>again (.builtin "list.__iadd__" ⟨[l,.ref a],[]⟩)) _ _ s
  refine wpAny_bind (wpAny_newObj_type ?_)
  refine wpAny_pure ⟨plainId_quiet F.plain_list_iadd _,codeAny_builtin F.entry_list_iadd ?_⟩
  rw [Around.under_plainId F.plain_list_iadd _]
  have ho1:(s.heap.push { cls:=.type "list",data:=.seq ([]:List Value).toArray }).get? a=some o:=Heap.get?_push_of_some _ ho
  have hS1:(s.heap.push { cls:=.type "list",data:=.seq ([]:List Value).toArray }).get? s.heap.objs.size=some { cls:=.type "list",data:=.seq ([]:List Value).toArray }:=Heap.get?_push_size _ rfl
  have sz1:(s.heap.push { cls:=.type "list",data:=.seq ([]:List Value).toArray }).objs.size=s.heap.objs.size+1:=Heap.size_push ..
  have keep1:∀ b o,s.heap.get? b=some o->(s.heap.push { cls:=.type "list",data:=.seq ([]:List Value).toArray }).get? b=some o:=fun b o e=>Heap.get?_push_of_some _ e
  show wpAny _ A.in1 (Builtin.List.listExtendWith (.ref s.heap.objs.size) (.ref a) (.ref s.heap.objs.size)) _ _ _
  generalize s.heap.push { cls:=.type "list",data:=.seq ([]:List Value).toArray }=h1 at ho1 hS1 sz1 keep1 |-
  unfold Builtin.List.listExtendWith
  refine wpAny_bind (wpAny_typeOf (T:="set") ⟨o,ho1,hex.1⟩ ?_)
  have e1:Builtin.List.listSameRef (.ref s.heap.objs.size) (.ref a)=false:=by simp [Builtin.List.listSameRef]; exact Nat.ne_of_gt lta
  have e2:(Value.type "set" == Value.type "list")=false:=by decide
  have e3:(Value.type "set" == Value.type "tuple")=false:=by decide
  simp only [e1,e2,e3,Bool.or_false,Bool.false_eq_true,if_false]
  refine wpAny_bind (xI (s:={ s with heap:=h1 }) ho1 hex hd T pl ?_)
  have hI:(h1.push { cls:=.type "set_iterator",dict:=none,data:=.fields #[rawInt 0,rawInt 0,.ref a,rawInt es.size,rawInt ep],slots:=#[] }).get? h1.objs.size=some _:=Heap.get?_push_size _ rfl
  have up:∀ b o,h1.get? b=some o->(h1.push { cls:=.type "set_iterator",dict:=none,data:=.fields #[rawInt 0,rawInt 0,.ref a,rawInt es.size,rawInt ep],slots:=#[] }).get? b=some o:=fun b o e=>Heap.get?_push_of_some _ e
  have sz2:(h1.push { cls:=.type "set_iterator",dict:=none,data:=.fields #[rawInt 0,rawInt 0,.ref a,rawInt es.size,rawInt ep],slots:=#[] }).objs.size=h1.objs.size+1:=Heap.size_push ..
  have ho2:=up _ _ ho1
  have hS2:=up _ _ hS1
  show wpAny _ A.in1 (holding [.ref h1.objs.size] (Builtin.List.listLengthHint (.ref a)) >>= _) _ _ { s with heap:=h1.push { cls:=.type "set_iterator",dict:=none,data:=.fields #[rawInt 0,rawInt 0,.ref a,rawInt es.size,rawInt ep],slots:=#[] } }
  generalize h1.push { cls:=.type "set_iterator",dict:=none,data:=.fields #[rawInt 0,rawInt 0,.ref a,rawInt es.size,rawInt ep],slots:=#[] }=h2 at hI up sz2 ho2 hS2 |-
  refine wpAny_bind (wpAny_holding (xP (s:={ s with heap:=h2 }) ho2 hex.1 ?_))
  have nSI:s.heap.objs.size≠h1.objs.size:=by rw [sz1]; exact Nat.ne_of_lt (Nat.lt_succ_self _)
  have naI:a≠h1.objs.size:=by rw [sz1]; exact Nat.ne_of_lt (Nat.lt_succ_of_lt lta)
  have naS:a≠s.heap.objs.size:=Nat.ne_of_lt lta
  have W:=(wu (prog:=prog) (w:=w) (A:=A.in1) hh h1.objs.size a naI es ep t T pl ld).toS
  have key:∀ (h:Heap) (c:Nat) (tk:Nat),kP w h h1.objs.size a es ep t 0->(∀ b o,b≠s.heap.objs.size->h2.get? b=some o->h.get? b=some o)->h.get? s.heap.objs.size=some { cls:=.type "list",data:=.seq #[] c } ->
      codeAny (model prog w) A (.builtin "list.extend.loop" ⟨[.ref s.heap.objs.size,.ref h1.objs.size,.ref s.heap.objs.size],[]⟩) (fun r s'=>match r with | .ok (.ret v)=>wpAny (model prog w) A (match v with | .ref a=>(load a >>= fun o=>match o.data with | .seq xs _=>pure xs.toList | _=>unsupported "internal:collect") | _=>unsupported "internal:collect") Q E s' | .ok _=>False | .error e=>E e s') { s with heap:=h,toks:=tk }:=by
    intro h c tk on kp hS
    refine codeAny_extend_loopS W hz s.heap.objs.size (by simp only [List.mem_cons,List.not_mem_nil,or_false,not_or]; exact ⟨nSI,Ne.symm naS⟩) _ es.size 0 _ #[] c rfl (Nat.zero_le _) on hS (ItemsOf.nil _) fun s' acc' c' hm hS' hacc=>?_
    rw [Moved.eq_with hm]
    show wpAny _ A (load s.heap.objs.size >>= _) _ _ _
    refine wpAny_bind (wpAny_load hS' (wpAny_pure ?_))
    have ea:acc'.toList=(wk w a ep es).toList.map (·.2):=by
      refine List.ext_getElem? fun j=>?_
      by_cases hj:j < es.size
      · have lj:j < acc'.size:=by rw [hacc.1]; exact hj
        have g:=hacc.2 j acc'[j] (Array.getElem?_eq_getElem lj)
        obtain ⟨e,he,ev⟩:=g
        rw [Array.getElem?_toList,Array.getElem?_eq_getElem lj,List.getElem?_map,Array.getElem?_toList,he,ev]
        rfl
      · rw [List.getElem?_eq_none (by rw [Array.length_toList,hacc.1]; omega),List.getElem?_eq_none (by rw [List.length_map,Array.length_toList,ie]; omega)]
    rw [ea]
    refine q _ _ fun b o e=>?_
    have lb:=Heap.lt_size e
    exact hm.heap b o (by simp only [List.mem_cons,List.not_mem_nil,or_false,not_or]; exact ⟨Nat.ne_of_lt lb,by rw [sz1]; exact Nat.ne_of_lt (Nat.lt_succ_of_lt lb)⟩) (kp b o (Nat.ne_of_lt lb) (up b o (keep1 b o e)))
  have on2:kP w h2 h1.objs.size a es ep t 0:=⟨⟨0,hI,fun _=>mf _ T.ris⟩,o,ho2,hd⟩
  refine wpAny_ite_split (fun _=>?_) (fun _=>wpAny_pure ⟨plainId_quiet F.plain_extend_loop _,key h2 0 _ on2 (fun b o _ e=>e) hS2⟩)
  refine wpAny_bind (wpAny_rule ?_)
  refine wpAny_bind ?_
  show wpAny _ _ (updateSeq s.heap.objs.size (·.push .none) >>= fun _=>updateSeq s.heap.objs.size (·.pop)) _ _ _
  have hS3:=Heap.get?_update_self (Obj.mapSeq (·.push Value.none)) hS2 rfl
  have hS4:=Heap.get?_update_self (Obj.mapSeq (·.pop)) hS3 rfl
  have oth:∀ b o,b≠s.heap.objs.size->h2.get? b=some o->((h2.update s.heap.objs.size (Obj.mapSeq (·.push Value.none))).update s.heap.objs.size (Obj.mapSeq (·.pop))).get? b=some o:=fun b o hb e=>(Heap.get?_update_other _ _ (Ne.symm hb)).trans ((Heap.get?_update_other _ _ (Ne.symm hb)).trans e)
  refine wpAny_bind (wpAny_updateSeq (s:={ s with heap:=h2 }) hS2 rfl (wpAny_updateSeq hS3 rfl (wpAny_pure ⟨plainId_quiet F.plain_extend_loop _,key _ _ _ ⟨⟨0,oth _ _ (Ne.symm nSI) hI,fun _=>mf _ T.ris⟩,o,oth _ _ naS ho2,hd⟩ oth hS4⟩) (by show 1<=sizeLine; rw [sizeLine_eq]; omega) (by show 0<=_; exact Nat.zero_le _)) (Nat.zero_le _) (by show 1<=_; rw [sizeLine_eq]; omega))
end
end Sx
namespace Ck
open PySem L2 Sx
theorem rO {α β:Type} {f:α->β} {L M:List β} (h:L.Perm M):∀ T:List α,M=T.map f->∃ T':List α,T'.Perm T/\L=T'.map f:=by
  induction h with
  | nil=>intro T e; exact ⟨T,.refl _,e⟩
  | @cons x l1 l2 _ ih =>
    intro T e
    cases T with
    | nil=>cases e
    | cons a T =>
      rw [List.map_cons,List.cons.injEq] at e
      obtain ⟨T',p,e'⟩:=ih T e.2
      exact ⟨a::T',.cons a p,by rw [List.map_cons,<- e',<- e.1]⟩
  | @swap x y l =>
    intro T e
    match T,e with
    | a::b::T,e =>
      simp only [List.map_cons,List.cons.injEq] at e
      exact ⟨b::a::T,.swap a b T,by simp only [List.map_cons,<- e.1,<- e.2.1,<- e.2.2]⟩
  | trans _ _ ih1 ih2 =>
    intro T e
    obtain ⟨T1,p1,e1⟩:=ih2 T e
    obtain ⟨T2,p2,e2⟩:=ih1 T1 e1
    exact ⟨T2,p2.trans p1,e2⟩
end Ck
namespace L2
open PySem PySem.Spec PyProof.Rows Ck Sx
section
variable {X:Cx}
theorem oz {pins:List (Addr × Obj)} {σ:St} {H:Hp} {s:Shared} (I:Inv X pins σ H s):∀ {us:List V} {ps:List Pair} {vs:List Value},cR H us ps->Vals us vs ->
    ∃ Tp:List (Addr × Pair),us=Tp.map (fun e=>V.ref e.1)/\vs=Tp.map (fun e=>Value.ref e.1)/\Tp.map (·.2)=ps/\∀ e∈Tp,H e.1=some (.tup [.int e.2.1,.int e.2.2])/\gI X.prog X.w s.heap e.1 e.2
  | _,_,_,.nil,.nil=>⟨[],rfl,rfl,rfl,fun e h=>by cases h⟩
  | _,_,_,.cons (b:=p) r t,.cons rv tv=>by
    obtain ⟨a,rfl,ha⟩:=r
    cases rv
    obtain ⟨Tp,e1,e2,e3,e4⟩:=oz I t tv
    obtain ⟨its,r',tu,_⟩:=I.tuple (a9.of ha)
    refine ⟨(a,p)::Tp,by rw [e1]; rfl,by rw [e2]; rfl,by rw [<- e3]; rfl,fun e he=>?_⟩
    rcases List.mem_cons.mp he with rfl | he
    · refine ⟨ha,?_⟩
      cases r' with
      | cons x1 r2 =>
        cases r2 with
        | cons x2 r3 =>
          cases r3
          obtain ⟨t1,rfl⟩:=x1
          obtain ⟨t2,rfl⟩:=x2
          obtain ⟨o,ho,hc,n,hd⟩:=tu
          exact zW ho hc hd
    · exact e4 e he
theorem zr:bootBuiltins "set" = some (.type "set"):=by decide +kernel
theorem my {h:Heap} {prog:Program} {w:World}:∀ {Tp:List (Addr × Pair)},(∀ e∈Tp,gI prog w h e.1 e.2)->hZ h (Tp.map fun e=>Value.ref e.1) (Tp.map (·.2))
  | [],_=>.nil
  | e::Tp,hP=>by
    refine .cons ?_ (my fun f hf=>hP f (List.mem_cons_of_mem _ hf))
    obtain ⟨o,items,n,ho,hc,hd,hi⟩:=hP e (List.mem_cons_self ..)
    obtain ⟨t,u,ei⟩:=ox hi
    have ea:items = #[.int e.2.1 t,.int e.2.2 u]:=by
      cases items
      simp only at ei
      rw [ei]
    subst ea
    exact ⟨e.1,t,u,rfl,o,ho,hc,n,hd⟩
noncomputable def D3 (ta:TA):TE:=fun σ H Q=>ta σ H fun vs H1=>∃ (l:Addr) (ps:List Pair),vs=[.ref l]/\bz H1 l ps/\ps.Nodup/\(∀ p∈ps,Lo p)/\ps.length < 64 /\
  ∀ (q:Addr) (qs:List Pair) (H':Hp),ah H1 H'->H1 q=none->bz H' q qs->qs.Perm ps->qs.Pairwise cg->Q (.ref q) H'
theorem uB {a:Expr} {ta:TA} {p p2 pos pos2:Pos} (hc:X.calm=true) (hu:X.A.units+100 < cLine) (hgl:Gl X "sorted") (hml:X.mg "sorted" = none) (hg:Gl X "set") (hm:X.mg "set" = none) (ha:PA X [a] ta) (hs:starEach [a] X.env=[(false,eval a X.env)]:=by rfl)
    (he:starEach [.Call (.Name "set" p) [a] [] pos] X.env=[(false,eval (.Call (.Name "set" p) [a] [] pos) X.env)]:=by rfl) :
    PE X (.Call (.Name "sorted" p2) [.Call (.Name "set" p) [a] [] pos] [] pos2) (D3 ta):=by
  intro pins s σ H Q I h
  refine wpAny_Call_Name_kw (dY I hgl hml eB ?_ (by decide) (by decide))
  refine PyProof.Rows.callWith_builtin1 ?_ he rfl
  rw [he]
  show wpAny _ _ (spliced ((false,eval (.Call (.Name "set" p) [a] [] pos) X.env)::backTo pos2 [])) _ _ s
  refine Calls.spliced_cons (Call_ (dY I hg hm zr (PyProof.Rows.callWith_type1 (aI (ha pos pins s σ H _ I h) fun us s1 ⟨vs,H1,I1,r1,q1⟩=>?_) hs rfl)))
  obtain ⟨l,ps,e,⟨ws,hl,pr⟩,nd,lo,h64,q⟩:=q1
  subst e
  obtain ⟨u,rfl,ru⟩:=vals1 r1
  cases ru
  obtain ⟨its,r',pl,hz⟩:=I1.list (ar.of hl)
  obtain ⟨Tp,e1,e2,e3,e4⟩:=oz I1 pr r'
  have lT:Tp.length=ps.length:=by rw [<- e3,List.length_map]
  refine n9 (I.ok.hd hc) (show X.A.units+10 < cLine by omega) pl.isList (Tp:=Tp) (by simpa using e2) (fun e he=>(e4 e he).2) (fun e he=>lo e.2 (by rw [<- e3]; exact List.mem_map.mpr ⟨e,he,rfl⟩)) (by rw [e3]; exact nd) (by omega) fun h' tk es S pm kp=>Calls.spliced_nil ?_
  obtain ⟨o,ep,t,ho,hex,hd,G,ld,plain⟩:=S.at_
  have les:es.size=Tp.length:=by rw [<- Array.length_toList,pm.length_eq,List.length_map]
  refine Calls.call_function_entry kind_sorted plain_sorted entry_sorted (args_sorted1 _) ?_
  unfold Builtin.«sorted»
  refine wpAny_bind (m:=checkCount "sorted" 1 1 _) (wpAny_pure (wpAny_bind (sI (s:={ s1 with heap:=h',toks:=tk }) (A:=X.A.in1) (I.ok.hd hc) ho hex hd G.tab plain ld (by omega) fun h2 tk2 kp2=>?_)))
  obtain ⟨Tq,pq,eq⟩:=rO ((tO X.w s1.heap.objs.size ep es).trans pm) Tp rfl
  have ev:(wk X.w s1.heap.objs.size ep es).toList.map (·.2)=Tq.map fun e=>Value.ref e.1:=by
    rw [eq,List.map_map]
    rfl
  rw [ev]
  have lq:Tq.length=Tp.length:=pq.length_eq
  have lv:(Tq.map fun e=>Value.ref e.1).length=Tq.length:=List.length_map _
  have keep:∀ b o,s1.heap.get? b=some o->h2.get? b=some o:=fun b o e=>kp2 b o (kp b o (Heap.lt_size e) e)
  refine wpAny_bind (wpAny_newList ?_ (by rw [lv,sizeLine_eq]; omega))
  have hoL:(h2.push (seqObj "list" (Tq.map fun e=>Value.ref e.1).toArray 0)).get? h2.objs.size=some (seqObj "list" (Tq.map fun e=>Value.ref e.1).toArray 0):=Heap.get?_push_size _ rfl
  have up:∀ b o,h2.get? b=some o->(h2.push (seqObj "list" (Tq.map fun e=>Value.ref e.1).toArray 0)).get? b=some o:=fun b o e=>Heap.get?_push_of_some _ e
  show wpAny _ _ _ _ _ { s1 with heap:=h2.push (seqObj "list" (Tq.map fun e=>Value.ref e.1).toArray 0),toks:=tk2 }
  have hPq:∀ e∈Tq,gI X.prog X.w s1.heap e.1 e.2:=fun e he=>(e4 e (pq.mem_iff.mp he)).2
  have pv:=my hPq
  have hz2:s1.heap.objs.size<=h2.objs.size:=Nat.le_of_lt (Heap.lt_size (kp2 _ _ ho))
  refine wpAny_bind (wpAny_holding (wpAny_call_entry slot_list_sort ⟨_,hoL,rfl⟩ entry_list_sort (qf (s:={ s1 with heap:=h2.push (seqObj "list" (Tq.map fun e=>Value.ref e.1).toArray 0),toks:=tk2 }) (Aw (Tq.map (·.2))) hoL (by rw [lv]; omega)
    (fun h6 old h2'=>yW (s1:={ s1 with heap:=h6,toks:=tk2 }) (pv.mono fun b o e=>old b o (fun z=>by
      have lt:=Heap.lt_size (keep b o e)
      rw [z] at lt
      exact Nat.lt_irrefl _ lt) (up b o (keep b o e))) h2') fun g ok ri=>⟨_,rfl,?_⟩) (args_list_sort _)))
  refine wpAny_pure ⟨_,rfl,?_⟩
  obtain ⟨e,hat⟩:=sortedHeap_at (out:=(fN (Tq.map fun e=>Value.ref e.1) g).toArray) hoL
  have hb:∀ i∈g.toList,i < Tq.length:=fun i hi=>by
    have:=List.mem_range.mp (ok.mem_iff.mp hi)
    rwa [lv] at this
  have lg:g.toList.length=Tq.length:=by rw [ok.length_eq,List.length_range,lv]
  have rq:Vals (Tq.map fun e=>V.ref e.1) (Tq.map fun e=>Value.ref e.1):=by
    clear hoL up hPq pv eq ev pq lq lv ok ri hat hb lg
    induction Tq with
    | nil=>exact .nil
    | cons a T ih=>exact .cons rfl ih
  have prq:cR H1 (Tq.map fun e=>V.ref e.1) (Tq.map (·.2)):=by
    have all:∀ e∈Tq,H1 e.1=some (.tup [.int e.2.1,.int e.2.2]):=fun e he=>(e4 e (pq.mem_iff.mp he)).1
    clear hoL up hPq pv eq ev pq lq lv ok ri hat hb lg rq
    induction Tq with
    | nil=>exact .nil
    | cons a T ih=>exact .cons ⟨a.1,rfl,all a (List.mem_cons_self ..)⟩ (ih fun e he=>all e (List.mem_cons_of_mem _ he))
  have vs2:Vals (g.toList.map fun i=>(Tq.map fun e=>V.ref e.1).getD i V.non) (fN (Tq.map fun e=>Value.ref e.1) g):=e8 rq V.non Value.none g.toList (fun i hi=>by rw [List.length_map]; exact hb i hi)
  have pr2:cR H1 (g.toList.map fun i=>(Tq.map fun e=>V.ref e.1).getD i V.non) (g.toList.map fun i=>(Tq.map (·.2)).getD i (0,0)):=e8 prq V.non (0,0) g.toList (fun i hi=>by rw [List.length_map]; exact hb i hi)
  have fr:H1 h2.objs.size=none:=I1.hok.fresh hz2
  have sz2:(g.toList.map fun i=>(Tq.map fun e=>V.ref e.1).getD i V.non).length<=sizeLine:=by rw [List.length_map,lg]; exact sz (by omega)
  refine ⟨.ref h2.objs.size,_,I1.laid (t':=tk2) (o:=.lst (g.toList.map fun i=>(Tq.map fun e=>V.ref e.1).getD i V.non)) (fun b u x=>?_) hz2 ⟨sz2,fN (Tq.map fun e=>Value.ref e.1) g,e,vs2,by simpa [seqObj] using hat⟩,rfl,?_⟩
  · have lt:=Heap.lt_size (keep b u x)
    rw [sortedHeap_old (Nat.ne_of_lt lt) (Heap.lt_size (up b u (keep b u x)))]
    exact up b u (keep b u x)
  have pmq:(Tq.map (·.2)).Perm ps:=by rw [<- e3]; exact pq.map _
  refine q _ _ _ (ah.new (ah.refl H1) fr _) fr ⟨_,upd_same,pr2.updN fr _⟩ ((oy (0,0) (Tq.map (·.2)) (by rw [List.length_map,<- lv]; exact ok)).trans pmq) ?_
  rw [List.pairwise_map]
  have gs:g.size=Tq.length:=by rw [<- lg]; simp
  refine List.pairwise_iff_getElem.mpr fun i j hi hj hij=>?_
  have:=ri i j (by omega) (by rw [lv,<- gs]; simpa using hj)
  rw [jg] at this
  unfold gA at this
  simpa [show i < g.size by simpa using hi,show j < g.size by simpa using hj] using this
end
end L2
set_option Elab.async false
set_option linter.all false
set_option maxRecDepth 100000
set_option maxHeartbeats 4000000
namespace Ck
open PySem L2
def yU (m:Int) (p:Pair):Prop:=0<=p.1/\p.1 < p.2/\p.2 < m
def se (p q:Pair):Prop:=p.1 < q.1/\q.1 < p.2/\p.2 < q.2
def NC (ps:List Pair):Prop:=∀ p∈ps,∀ q∈ps,¬ se p q
theorem lX {ps:List Pair}:d7 ps=false↔NC ps:=by
  constructor
  · intro h p hp q hq c
    have:d7 ps=true:=gv.mpr ⟨p,hp,q,hq,c.1,c.2.1,c.2.2⟩
    rw [h] at this
    cases this
  · intro h
    cases e:d7 ps with
    | false=>rfl
    | true =>
      obtain ⟨p,hp,q,hq,c⟩:=gv.mp e
      exact absurd c (h p hp q hq)
theorem NC.perm {ps qs:List Pair} (h:NC ps) (p:qs.Perm ps):NC qs:=fun a ha b hb=>h a (p.mem_iff.mp ha) b (p.mem_iff.mp hb)
theorem iR {α β:Type} {f:α->β} {g:β->α} {l:List α} (h:l.Nodup) (e:∀ x∈l,g (f x)=x):(l.map f).Nodup:=by
  induction l with
  | nil=>exact List.nodup_nil
  | cons a l ih =>
    rw [List.nodup_cons] at h
    rw [List.map_cons,List.nodup_cons]
    refine ⟨fun z=>?_,ih h.2 fun x hx=>e x (List.mem_cons_of_mem _ hx)⟩
    obtain ⟨b,hb,eb⟩:=List.mem_map.mp z
    have:b=a:=by rw [<- e b (List.mem_cons_of_mem _ hb),eb,e a (List.mem_cons_self ..)]
    exact h.1 (this▸hb)
def Ct (c:Int) (p:Pair):Prop:=0<=p.1/\p.1+1 < p.2/\p.2 < c/\¬ (p.1=0/\p.2=c - 1)
theorem Ct.inR {c:Int} {p:Pair} (h:Ct c p):yU c p:=⟨h.1,by have:=h.2.1; omega,h.2.2.1⟩
structure iH (c:Int) (ps:List Pair):Prop where
  c2:2<=c
  len:(ps.length:Int)=if c - 3 > 0 then c - 3 else 0
  ct:∀ p∈ps,Ct c p
  nc:NC ps
  nd:ps.Nodup
  ris:ps.Pairwise cg
noncomputable def nm (x y:Int):Pair:=if x < y then (x,y) else (y,x)
end Ck
set_option Elab.async false
set_option linter.all false
set_option maxRecDepth 100000
set_option maxHeartbeats 4000000
namespace Ck
open PySem L2
structure g7 (ps:List Pair):Prop where
  inr:∀ p∈ps,yU (2*(ps.length:Int)) p
  flat:(aP ps).Perm (cf (2*ps.length))
  nc:NC ps
  ris:ps.Pairwise cg
theorem uV {ps qs:List Pair} (h:ps.Perm qs):(aP ps).Perm (aP qs):=by
  induction h with
  | nil=>exact .refl _
  | cons x _ ih=>exact .cons _ (.cons _ ih)
  | swap x y l =>
    show (y.1::y.2::x.1::x.2::aP l).Perm (x.1::x.2::y.1::y.2::aP l)
    have:=List.perm_append_comm (l₁:=[y.1,y.2]) (l₂:=[x.1,x.2])
    exact this.append_right (aP l)
  | trans _ _ a b=>exact a.trans b
theorem qE {n:Nat} {x:Int}:x∈cf n↔0<=x/\x < (n:Int):=by
  unfold cf
  rw [List.mem_map]
  constructor
  · rintro ⟨k,hk,rfl⟩
    have:=List.mem_range.mp hk
    omega
  · intro h
    exact ⟨x.toNat,List.mem_range.mpr (by omega),by omega⟩
theorem Cr {ps:List Pair} (h:cJ ps=true):g7 ps:=by
  unfold cJ at h
  rw [Bool.and_eq_true,Bool.and_eq_true,Bool.not_eq_true'] at h
  obtain ⟨h1,h2,h3⟩:=h
  have st:=hV.mp h1
  have fl:=(cS _).mp h2
  rw [fZ] at fl
  have bd:∀ p∈ps,0<=p.1/\p.2 < 2*(ps.length:Int):=fun p hp=>by
    have a:=qE.mp (fl.mem_iff.mp (eX.mpr ⟨p,hp,.inl rfl⟩))
    have b:=qE.mp (fl.mem_iff.mp (eX.mpr ⟨p,hp,.inr rfl⟩))
    omega
  have mono:∀ (j i:Nat),i < j->j < ps.length->dC ps i < dC ps j:=by
    intro j
    induction j with
    | zero=>intro i hi; omega
    | succ j ih =>
      intro i hi hj
      have:=(st (j+1) hj).2
      rw [Nat.add_sub_cancel] at this
      have z:dC ps j < dC ps (j+1):=this.resolve_left (by omega)
      by_cases e:i=j
      · rw [e]; exact z
      · have:=ih i (by omega) (by omega); omega
  refine ⟨fun p hp=>?_,fl,lX.mp h3,?_⟩
  · obtain ⟨k,hk⟩:=List.getElem?_of_mem hp
    have lk:=(List.getElem?_eq_some_iff.mp hk).1
    have:=(st k lk).1
    have b:=bd p hp
    have e1:dC ps k=p.1:=by unfold dC; rw [List.getD_eq_getElem?_getD,hk]; rfl
    have e2:qA ps k=p.2:=by unfold qA; rw [List.getD_eq_getElem?_getD,hk]; rfl
    exact ⟨b.1,by omega,b.2⟩
  · refine List.pairwise_iff_getElem.mpr fun i j hi hj hij=>?_
    have:=mono j i hij hj
    have e1:dC ps i=ps[i].1:=by unfold dC; rw [List.getD_eq_getElem?_getD,List.getElem?_eq_getElem hi]; rfl
    have e2:dC ps j=ps[j].1:=by unfold dC; rw [List.getD_eq_getElem?_getD,List.getElem?_eq_getElem hj]; rfl
    exact .inl (by omega)
theorem g7.bows {ps:List Pair} (h:g7 ps):cJ ps=true:=by
  have nd:(aP ps).Nodup:=h.flat.nodup_iff.mpr (gK _)
  unfold cJ
  rw [Bool.and_eq_true,Bool.and_eq_true,Bool.not_eq_true']
  refine ⟨hV.mpr fun k hk=>?_,(cS _).mpr (by rw [fZ]; exact h.flat),lX.mpr h.nc⟩
  have ek:∀ i (hi:i < ps.length),dC ps i=ps[i].1/\qA ps i=ps[i].2:=fun i hi=>by
    refine ⟨?_,?_⟩
    · unfold dC; rw [List.getD_eq_getElem?_getD,List.getElem?_eq_getElem hi]; rfl
    · unfold qA; rw [List.getD_eq_getElem?_getD,List.getElem?_eq_getElem hi]; rfl
  obtain ⟨e1,e2⟩:=ek k hk
  rw [e1,e2]
  refine ⟨(h.inr _ (List.getElem_mem hk)).2.1,?_⟩
  by_cases k0:k=0
  · exact .inl k0
  · refine .inr ?_
    have hk':k - 1 < ps.length:=by omega
    rw [(ek (k - 1) hk').1]
    have le:=List.pairwise_iff_getElem.mp h.ris (k - 1) k hk' hk (by omega)
    have ne:=oa nd
    have:=List.pairwise_iff_getElem.mp ne (k - 1) k (by simpa using hk') (by simpa using hk) (by omega)
    unfold cg at le
    simp at this
    omega
end Ck
set_option Elab.async false
set_option linter.all false
set_option maxRecDepth 100000
set_option maxHeartbeats 4000000
namespace Ck
open PySem L2
def oA (p q:Pair):Prop:=p.2<=q.1\/q.2<=p.1
noncomputable def one (n k:Nat):Nat:=if 0 < k/\0 < n then 1 else 0
structure hW (n k:Nat) (ss cuts:List Pair):Prop where
  dis:(ss.drop k).Pairwise oA
  bd:∀ s∈ss.drop k,0<=s.1/\s.1 < s.2/\s.2<=(n:Int)+1
  sep:∀ t∈cuts,∀ s∈ss.drop k,oA t s\/(t.1<=s.1/\s.2<=t.2/\s≠t)
  ct:∀ t∈cuts,Ct ((n:Int)+2) t
  nc:NC cuts
  nd:cuts.Nodup
  root:(k=0/\ss=[((0:Int),(n:Int)+1)]/\cuts=[])\/(0 < k/\∀ s∈ss.drop k,s≠((0:Int),(n:Int)+1))
  cnt:cuts.length+dH (ss.drop k)+one n k=n
  ln:ss.length=2*(cuts.length+one n k)+1
theorem gS (p:Pair) (ps:List Pair):dH (p::ps)=(p.2 - p.1 - 1).toNat+dH ps:=by
  unfold dH
  simp
theorem hW.start (n:Nat):hW n 0 [((0:Int),(n:Int)+1)] [] where
  dis:=List.pairwise_singleton _ _
  bd:=fun s hs=>by
    have:s=((0:Int),(n:Int)+1):=by simpa using hs
    subst this
    exact ⟨Int.le_refl _,by show (0:Int) < (n:Int)+1; omega,Int.le_refl _⟩
  sep:=fun t ht=>nomatch ht
  ct:=fun t ht=>nomatch ht
  nc:=fun t ht=>nomatch ht
  nd:=List.nodup_nil
  root:=.inl ⟨rfl,rfl,rfl⟩
  cnt:=by
    rw [List.drop_zero,gS]
    have:dH []=0:=rfl
    rw [this]
    unfold one
    simp<;>omega
  ln:=by unfold one; simp
theorem hW.unit {n k:Nat} {ss cuts:List Pair} {s:Pair} (h:hW n k ss cuts) (hs:ss[k]? = some s) (hu:¬ s.1+1 < s.2):hW n (k+1) ss cuts:=by
  obtain ⟨lk,ek⟩:=List.getElem?_eq_some_iff.mp hs
  have ed:ss.drop k=s::ss.drop (k+1):=by rw [List.drop_eq_getElem_cons lk,ek]
  have h1:=h.dis; have h2:=h.bd; have h3:=h.sep; have h4:=h.cnt
  rw [ed] at h1 h2 h3 h4
  have b:=h2 s (List.mem_cons_self ..)
  rw [gS,show (s.2 - s.1 - 1).toNat=0 by omega,Nat.zero_add] at h4
  have e1:one n (k+1)=one n k:=by
    rcases h.root with ⟨k0,es,_⟩ | ⟨k0,_⟩
    · subst k0 es
      have:s=((0:Int),(n:Int)+1):=by simpa using hs.symm
      subst this
      have n0:n=0:=by simp only at hu; omega
      unfold one
      simp [n0]
    · unfold one
      simp [k0]
  refine ⟨(List.pairwise_cons.mp h1).2,fun x hx=>h2 x (List.mem_cons_of_mem _ hx),fun t ht x hx=>h3 t ht x (List.mem_cons_of_mem _ hx),h.ct,h.nc,h.nd,.inr ⟨Nat.succ_pos _,fun x hx z=>?_⟩,by rw [e1]; exact h4,by rw [e1]; exact h.ln⟩
  rcases h.root with ⟨k0,es,_⟩ | ⟨k0,hr⟩
  · subst k0 es
    simp at hx
  · exact hr x (by rw [ed]; exact List.mem_cons_of_mem _ hx) z
theorem hW.split {n k:Nat} {ss cuts:List Pair} {s:Pair} {c:Int} (h:hW n k ss cuts) (hs:ss[k]? = some s) (c1:s.1 < c) (c2:c < s.2):hW n (k+1) (ss++[(s.1,c)]++[(c,s.2)]) (cuts++if 0 < k then [s] else []):=by
  obtain ⟨lk,ek⟩:=List.getElem?_eq_some_iff.mp hs
  have ed:ss.drop k=s::ss.drop (k+1):=by rw [List.drop_eq_getElem_cons lk,ek]
  have h1:=h.dis; have h2:=h.bd; have h3:=h.sep; have h4:=h.cnt
  rw [ed] at h1 h2 h3 h4
  have b:=h2 s (List.mem_cons_self ..)
  have hd:=List.pairwise_cons.mp h1
  rw [gS] at h4
  have ed2:(ss++[(s.1,c)]++[(c,s.2)]).drop (k+1)=ss.drop (k+1)++[(s.1,c),(c,s.2)]:=by
    rw [List.append_assoc,List.drop_append_of_le_length (by omega)]
    rfl
  have mem2:∀ x,x∈ss.drop (k+1)++[(s.1,c),(c,s.2)]->x∈ss.drop (k+1)\/x=(s.1,c)\/x=(c,s.2):=fun x hx=>by
    rcases List.mem_append.mp hx with z | z
    · exact .inl z
    · simp only [List.mem_cons,List.not_mem_nil,or_false] at z
      exact .inr z
  have pl2:dH (ss.drop (k+1)++[(s.1,c),(c,s.2)])+1=(s.2 - s.1 - 1).toNat+dH (ss.drop (k+1)):=by
    have e:ss.drop (k+1)++[(s.1,c),(c,s.2)]=(ss.drop (k+1)++[(s.1,c)])++[(c,s.2)]:=by simp
    rw [e,gX,gX]
    simp only
    omega
  have cutm:∀ t,t∈cuts++(if 0 < k then [s] else [])->t∈cuts\/(0 < k/\t=s):=fun t ht=>by
    rcases List.mem_append.mp ht with z | z
    · exact .inl z
    · by_cases k0:0 < k
      · rw [if_pos k0] at z; exact .inr ⟨k0,by simpa using z⟩
      · rw [if_neg k0] at z; cases z
  have n1:0 < n:=by omega
  have o1:one n (k+1)=1:=by unfold one; simp [n1]
  have lc:(cuts++(if 0 < k then [s] else [])).length=cuts.length+one n k:=by
    rw [List.length_append]
    unfold one
    by_cases k0:0 < k
    · simp [k0,n1]
    · simp [k0]
  refine ⟨?_,?_,?_,?_,?_,?_,.inr ⟨Nat.succ_pos _,?_⟩,?_,?_⟩
  · rw [ed2]
    refine List.pairwise_append.mpr ⟨hd.2,?_,fun x hx y hy=>?_⟩
    · refine List.pairwise_cons.mpr ⟨fun y hy=>?_,List.pairwise_singleton _ _⟩
      have:y=(c,s.2):=by simpa using hy
      subst this
      exact .inl (Int.le_refl _)
    · have dx:=hd.1 x hx
      have bx:=h2 x (List.mem_cons_of_mem _ hx)
      simp only [List.mem_cons,List.not_mem_nil,or_false] at hy
      unfold oA at dx |-
      rcases hy with rfl | rfl<;>simp only<;>omega
  · rw [ed2]
    intro x hx
    rcases mem2 x hx with z | rfl | rfl
    · exact h2 x (List.mem_cons_of_mem _ z)
    · exact ⟨b.1,c1,by show c<=_; omega⟩
    · exact ⟨by show 0<=c; omega,c2,b.2.2⟩
  · rw [ed2]
    intro t ht x hx
    rcases cutm t ht with tc | ⟨k0,rfl⟩
    · rcases mem2 x hx with z | rfl | rfl
      · exact h3 t tc x (List.mem_cons_of_mem _ z)
      · rcases h3 t tc s (List.mem_cons_self ..) with d | ⟨d1,d2,d3⟩
        · left; unfold oA at d |-; simp only; omega
        · right; refine ⟨d1,by simp only; omega,fun z=>?_⟩
          have:=congrArg Prod.snd z
          simp only at this
          omega
      · rcases h3 t tc s (List.mem_cons_self ..) with d | ⟨d1,d2,d3⟩
        · left; unfold oA at d |-; simp only; omega
        · right; refine ⟨by simp only; omega,d2,fun z=>?_⟩
          have:=congrArg Prod.fst z
          simp only at this
          omega
    · rcases mem2 x hx with z | rfl | rfl
      · left
        exact hd.1 x z
      · right; refine ⟨Int.le_refl _,by simp only; omega,fun z=>?_⟩
        have:=congrArg Prod.snd z
        simp only at this
        omega
      · right; refine ⟨by simp only; omega,Int.le_refl _,fun z=>?_⟩
        have:=congrArg Prod.fst z
        simp only at this
        omega
  · intro t ht
    rcases cutm t ht with tc | ⟨k0,rfl⟩
    · exact h.ct t tc
    · refine ⟨b.1,by omega,by omega,fun z=>?_⟩
      rcases h.root with ⟨z0,_⟩ | ⟨_,hr⟩
      · omega
      · exact hr t (by rw [ed]; exact List.mem_cons_self ..) (Prod.ext z.1 (by simp only; omega))
  · intro p hp q hq cr
    unfold se at cr
    rcases cutm p hp with pc | ⟨_,rfl⟩
    · rcases cutm q hq with qc | ⟨_,rfl⟩
      · exact h.nc p pc q qc cr
      · rcases h3 p pc q (List.mem_cons_self ..) with d | ⟨d1,d2,_⟩
        · unfold oA at d; omega
        · omega
    · rcases cutm q hq with qc | ⟨_,rfl⟩
      · rcases h3 q qc p (List.mem_cons_self ..) with d | ⟨d1,d2,_⟩
        · unfold oA at d; omega
        · omega
      · omega
  · by_cases k0:0 < k
    · rw [if_pos k0]
      refine List.nodup_append.mpr ⟨h.nd,by simp,fun x hx y hy z=>?_⟩
      have:y=s:=by simpa using hy
      subst this z
      have bx:=h.ct x hx
      rcases h3 x hx x (List.mem_cons_self ..) with d | ⟨_,_,d3⟩
      · unfold oA at d; omega
      · exact d3 rfl
    · rw [if_neg k0,List.append_nil]; exact h.nd
  · rw [ed2]
    intro x hx z
    rcases mem2 x hx with w | rfl | rfl
    · rcases h.root with ⟨k0,es,_⟩ | ⟨_,hr⟩
      · subst k0 es
        simp at w
      · exact hr x (by rw [ed]; exact List.mem_cons_of_mem _ w) z
    · have:=congrArg Prod.snd z
      simp only at this
      omega
    · have:=congrArg Prod.fst z
      simp only at this
      omega
  · rw [ed2,lc,o1]
    omega
  · rw [lc,o1,List.length_append,List.length_append,h.ln]
    simp
    omega
theorem hW.floor {n k:Nat} {ss cuts qs:List Pair} (h:hW n k ss cuts) (hk:ss.length<=k) (pm:qs.Perm cuts) (rs:qs.Pairwise cg):iH ((n:Int)+2) qs:=by
  have hl:=h.ln
  have hc:=h.cnt
  rw [List.drop_eq_nil_of_le hk] at hc
  have p0:dH []=0:=rfl
  rw [p0] at hc
  refine ⟨by omega,?_,fun p hp=>h.ct p (pm.mem_iff.mp hp),h.nc.perm pm,pm.nodup_iff.mpr h.nd,rs⟩
  rw [pm.length_eq]
  unfold one at hc hl
  by_cases n0:0 < n
  · have:(0 < k/\0 < n):=⟨by omega,n0⟩
    rw [if_pos this] at hc
    split<;>omega
  · have:¬ (0 < k/\0 < n):=fun z=>n0 z.2
    rw [if_neg this] at hc
    rw [if_neg (by omega)]
    omega
end Ck
set_option Elab.async false
set_option linter.all false
set_option maxRecDepth 100000
set_option maxHeartbeats 4000000
namespace Ck
open PySem L2
theorem vW {c:List Nat} (h:clo 0 c=true):∀ i,i<=c.length->∃ fd sk,Wk c i fd sk/\clo sk.length (c.drop i)=true
  | 0,_=>⟨[],[],Wk.nil c,by rw [List.drop_zero]; exact h⟩
  | i+1,hi=>by
    obtain ⟨fd,sk,w,hc⟩:=vW h i (by omega)
    have lt:i < c.length:=by omega
    have ge:c.getD i 0=c[i]:=by rw [List.getD_eq_getElem?_getD,List.getElem?_eq_getElem lt]; rfl
    rw [List.drop_eq_getElem_cons lt] at hc
    by_cases e1:c[i]=40
    · rw [e1,eR] at hc
      exact ⟨fd,sk++[(i:Int)],w.up lt (by rw [ge]; exact e1),by rw [List.length_append]; exact hc⟩
    · by_cases e2:c[i]=41
      · rw [e2] at hc
        rcases List.eq_nil_or_concat sk with rfl | ⟨sk0,m,rfl⟩
        · rw [show ([]:List Int).length=0 from rfl,gR] at hc
          cases hc
        · rw [List.concat_eq_append] at hc w
          rw [List.length_append,show [m].length=1 from rfl,dU] at hc
          exact ⟨_,sk0,w.down lt (by rw [ge]; exact e2),hc⟩
      · rw [fY e1 e2] at hc
        cases hc
theorem xS {c:List Nat} (h:clo 0 c=true):cJ (cF c c.length)=true:=by
  obtain ⟨fd,sk,w,hc⟩:=vW h c.length (Nat.le_refl _)
  rw [List.drop_length,ip] at hc
  have:sk=[]:=List.eq_nil_of_length_eq_zero (by simpa using hc)
  subst this
  exact w.bows
theorem nA (c:List Nat):∀ i,i<=c.length->(cF c i).length=(c.take i).count 40
  | 0,_=>rfl
  | i+1,hi=>by
    have lt:i < c.length:=by omega
    have ge:c.getD i 0=c[i]:=by rw [List.getD_eq_getElem?_getD,List.getElem?_eq_getElem lt]; rfl
    rw [eV,List.length_append,nA c i (by omega),ge,List.take_succ_eq_append_getElem lt,List.count_append]
    by_cases e:c[i]=40
    · simp [e]
    · simp [e]
theorem om {c:List Nat} {n:Nat} (h:clo 0 c=true) (hn:c.length=2*n):g7 (cF c c.length)/\(cF c c.length).length=n:=by
  refine ⟨Cr (xS h),?_⟩
  rw [nA c _ (Nat.le_refl _),List.take_length]
  obtain ⟨t,rfl⟩:=jF c.length c (Nat.le_refl _) h
  rw [vT]
  rw [eW] at hn
  omega
end Ck
set_option Elab.async false
set_option linter.all false
set_option maxRecDepth 100000
set_option maxHeartbeats 4000000
namespace Ck
open PySem L2
end Ck
set_option Elab.async false
set_option linter.all false
set_option maxRecDepth 100000
set_option maxHeartbeats 4000000
namespace L2
open PySem PySem.Spec PyProof.Rows
section
variable {X:Cx}
end
end L2
namespace Ck
open PySem L2
inductive iQ (H:Hp):List V->List (Option Bt)->Prop
  | nil:iQ H [] []
  | tree {v:V} {t:Bt} {xs:List V} {ts:List (Option Bt)} (h:Tw H v t) (r:iQ H xs ts):iQ H (v::xs) (some t::ts)
  | sign {xs:List V} {ts:List (Option Bt)} (r:iQ H xs ts):iQ H (.str (Str.ofString ")")::xs) (none::ts)
end Ck
set_option Elab.async false
set_option maxRecDepth 100000
set_option maxHeartbeats 4000000
set_option linter.all false
namespace Ck
open PySem L2
noncomputable def mrr (m:Int) (p:Pair):Pair:=(m - p.2,m - p.1)
theorem tj (m:Int) (p:Pair):mrr m (mrr m p)=p:=by
  obtain ⟨a,b⟩:=p
  unfold mrr
  simp only [Prod.mk.injEq]
  omega
theorem An {m a b:Int} (h:a < b):nm (m - a) (m - b)=mrr m (a,b):=by
  unfold nm mrr
  rw [if_neg (by omega)]
theorem zE {m:Int} {p q:Pair} (h:se (mrr m p) (mrr m q)):se q p:=by
  obtain ⟨a,b⟩:=p
  obtain ⟨c,d⟩:=q
  unfold se mrr at h
  unfold se
  simp only at *
  omega
theorem NC.mrr {m:Int} {ps:List Pair} (h:NC ps):NC (ps.map (mrr m)):=by
  intro a ha b hb c
  obtain ⟨p,hp,rfl⟩:=List.mem_map.mp ha
  obtain ⟨q,hq,rfl⟩:=List.mem_map.mp hb
  exact h q hq p hp (zE c)
theorem pR {m:Int}:∀ ps:List Pair,(aP (ps.map (mrr m))).Perm ((aP ps).map (m - ·))
  | []=>.refl _
  | p::ps=>by
    show ((m - p.2)::(m - p.1)::aP (ps.map (mrr m))).Perm ((m - p.1)::(m - p.2)::(aP ps).map (m - ·))
    exact (List.Perm.swap _ _ _).trans (.cons _ (.cons _ (pR ps)))
theorem A2 (n:Nat):((cf n).map (((n:Int) - 1) - ·)).Perm (cf n):=by
  refine (List.perm_ext_iff_of_nodup ?_ (gK n)).mpr fun x=>?_
  · exact iR (g:=(((n:Int) - 1) - ·)) (gK n) fun x _=>by show (n:Int) - 1 - ((n:Int) - 1 - x)=x; omega
  · rw [List.mem_map,eI]
    constructor
    · rintro ⟨y,hy,rfl⟩
      have:=eI.mp hy
      omega
    · intro h
      exact ⟨(n:Int) - 1 - x,eI.mpr (by omega),by omega⟩
theorem g7.mrr {ps qs:List Pair} (h:g7 ps) (pm:qs.Perm (ps.map (mrr (2*(ps.length:Int) - 1)))) (rs:qs.Pairwise cg):g7 qs:=by
  have lq:qs.length=ps.length:=by rw [pm.length_eq,List.length_map]
  refine ⟨fun p hp=>?_,?_,h.nc.mrr.perm pm,rs⟩
  · obtain ⟨q,hq,rfl⟩:=List.mem_map.mp (pm.mem_iff.mp hp)
    have:=h.inr q hq
    rw [lq]
    unfold yU Ck.mrr at *
    simp only
    omega
  · rw [lq]
    have e:(2*(ps.length:Int) - 1)=((2*ps.length:Nat):Int) - 1:=by omega
    have a:=(uV pm).trans (pR ps)
    rw [e] at a
    exact (a.trans (h.flat.map _)).trans (A2 _)
theorem iH.mrr {c:Int} {ps qs:List Pair} (h:iH c ps) (pm:qs.Perm (ps.map (mrr (c - 1)))) (rs:qs.Pairwise cg):iH c qs :=
  ⟨h.c2,by rw [pm.length_eq,List.length_map]; exact h.len,fun p hp=>by
    obtain ⟨q,hq,rfl⟩:=List.mem_map.mp (pm.mem_iff.mp hp)
    have:=h.ct q hq
    unfold Ct Ck.mrr at *
    simp only
    omega,h.nc.mrr.perm pm,pm.nodup_iff.mpr (iR h.nd fun x _=>tj _ x),rs⟩
theorem qy {m:Int} {ps qs:List Pair} (h:qs.Perm (ps.map (mrr m))):(qs.map (mrr m)).Perm ps:=by
  have:=h.map (mrr m)
  rw [List.map_map] at this
  have e:ps.map (mrr m ∘ mrr m)=ps:=by
    rw [List.map_congr_left (f:=mrr m ∘ mrr m) (g:=id) fun p _=>tj m p]
    exact List.map_id ps
  rwa [e] at this
noncomputable def iL (c:Nat):Nat:=if c=41 then 40 else 41
noncomputable def cB (c:List Nat):List Nat:=(c.map iL).reverse
theorem zI {c:Nat} (h:c=40\/c=41):iL (iL c)=c:=by rcases h with rfl | rfl<;>rfl
theorem xm {c:List Nat} (h:∀ x∈c,x=40\/x=41):cB (cB c)=c:=by
  unfold cB
  rw [List.map_reverse,List.reverse_reverse,List.map_map,List.map_congr_left (f:=iL ∘ iL) (g:=id) fun x hx=>zI (h x hx)]
  exact List.map_id c
theorem oJ (x:Nat) (c:List Nat):cB (x::c)=cB c++[iL x]:=by unfold cB; rw [List.map_cons,List.reverse_cons]
theorem rG (a b:List Nat):cB (a++b)=cB b++cB a:=by unfold cB; rw [List.map_append,List.reverse_append]
theorem lA (c:List Nat):(cB c).length=c.length:=by unfold cB; simp
theorem m8:∀ (t:Bt) (d:Nat) (r:List Nat),clo d (cB (brk t)++r)=clo d r
  | .leaf,d,r=>rfl
  | .node l k,d,r=>by
    show clo d (cB (40::(brk l++41::brk k))++r)=clo d r
    rw [oJ,rG,oJ,List.append_assoc,List.append_assoc,List.append_assoc,m8 k]
    show clo d (40::(cB (brk l)++(41::r)))=clo d r
    rw [eR,m8 l,dU]
noncomputable def wR (p:Pair):Pair:=(p.2,p.1)
noncomputable def ra (c:List Nat) (k:Int):Int:=(((c.take k.toNat).count 40:Nat):Int)
theorem sZ:∀ {ps:List Pair},(aP ps).Nodup->∀ {p q:Pair},p∈ps->q∈ps->p.2=q.2->p=q
  | [],_,_,_,hp,_,_=>by cases hp
  | r::ps,nd,p,q,hp,hq,e=>by
    have nd':(r.1::r.2::aP ps).Nodup:=nd
    rw [List.nodup_cons,List.nodup_cons] at nd'
    rcases List.mem_cons.mp hp with rfl | hp2
    · rcases List.mem_cons.mp hq with rfl | hq2
      · rfl
      · exact absurd (eX.mpr ⟨q,hq2,.inr e⟩) nd'.2.1
    · rcases List.mem_cons.mp hq with rfl | hq2
      · exact absurd (show q.2∈aP ps from eX.mpr ⟨p,hp2,.inr e.symm⟩) nd'.2.1
      · exact sZ nd'.2.2 hp2 hq2 e
theorem yM {ps qs:List Pair} (h:g7 ps) (f:Int->Int) (hf:∀ (j:Nat) (p:Pair),ps[j]? = some p->f p.1=(j:Int)) (pm:qs.Perm (ps.map fun p=>(p.2,p.1))) (rs:qs.Pairwise cg) :
    dQ (qs.map fun q=>f q.2)=true:=by
  have lq:qs.length=ps.length:=by rw [pm.length_eq,List.length_map]
  have back:∀ q∈qs,(q.2,q.1)∈ps:=fun q hq=>by
    obtain ⟨p,hp,rfl⟩:=List.mem_map.mp (pm.mem_iff.mp hq)
    exact hp
  have idx:∀ p∈ps,∃ j:Nat,j < ps.length/\ps[j]? = some p/\f p.1=(j:Int):=fun p hp=>by
    obtain ⟨j,hj⟩:=List.getElem?_of_mem hp
    exact ⟨j,(List.getElem?_eq_some_iff.mp hj).1,hj,hf j p hj⟩
  have mono:∀ p∈ps,∀ r∈ps,f p.1 < f r.1->p.1<=r.1:=fun p hp r hr lt=>by
    obtain ⟨i,hi,ei,fi⟩:=idx p hp
    obtain ⟨j,hj,ej,fj⟩:=idx r hr
    have:=List.pairwise_iff_getElem.mp h.ris i j hi hj (by omega)
    rw [(List.getElem?_eq_some_iff.mp ei).2,(List.getElem?_eq_some_iff.mp ej).2] at this
    unfold cg at this
    omega
  unfold dQ
  rw [Bool.and_eq_true]
  refine ⟨(cS _).mpr ?_,jb fun k hk=>?_⟩
  · have a:=pm.map (fun q:Pair=>f q.2)
    rw [List.map_map] at a
    rw [List.length_map,lq]
    refine a.trans ?_
    have e:ps.map ((fun q:Pair=>f q.2) ∘ fun p=>(p.2,p.1))=cf ps.length:=by
      refine List.ext_getElem? fun i=>?_
      rw [List.getElem?_map]
      by_cases hi:i < ps.length
      · rw [List.getElem?_eq_getElem hi,zM hi]
        exact congrArg some (hf i _ (List.getElem?_eq_getElem hi))
      · rw [List.getElem?_eq_none (by omega),List.getElem?_eq_none (by rw [nY]; omega)]
        rfl
    rw [e]
  · cases z:gM (qs.map fun q=>f q.2) k with
    | false=>rfl
    | true =>
      obtain ⟨i,j,hi,hj,hl,h1,h2⟩:=(gH _ _).mp z
      rw [List.length_map] at hl hk
      have g:∀ m (hm:m < qs.length),(qs.map fun q=>f q.2).getD m 0=f (qs[m]).2:=fun m hm=>by
        rw [List.getD_eq_getElem?_getD,List.getElem?_map,List.getElem?_eq_getElem hm]
        rfl
      rw [g k (by omega),g j (by omega)] at h1
      rw [g j (by omega),g i (by omega)] at h2
      have bi:=back _ (List.getElem_mem (show i < qs.length by omega))
      have bk:=back _ (List.getElem_mem hk)
      have bj:=back _ (List.getElem_mem hl)
      have m1:=mono _ bk _ bj h1
      have m2:=mono _ bj _ bi h2
      have s1:=List.pairwise_iff_getElem.mp rs i k (by omega) hk hi
      have s2:=List.pairwise_iff_getElem.mp rs k j hk hl hj
      have ri:=h.inr _ bi
      have rj:=h.inr _ bj
      have rk:=h.inr _ bk
      have n:=h.nc _ bk _ bj
      have nd:(aP ps).Nodup:=h.flat.nodup_iff.mpr (gK _)
      have sj:=fun e=>sZ nd bk bj e
      generalize qs[i]=qi at *
      generalize qs[k]=qk at *
      generalize qs[j]=qj at *
      unfold se at n
      unfold yU at ri rj rk
      unfold cg at s1 s2
      simp only at *
      have e1:qk.2≠qj.2:=fun e=>by rw [e] at h1; omega
      have e2:qj.2≠qi.2:=fun e=>by rw [e] at h2; omega
      have e3:qk.1≠qj.1:=fun e=>e1 (congrArg Prod.fst (sj e))
      omega
noncomputable def dA (row:List Int):List Int:=(List.range row.length).map fun (k:Nat)=>(row.length:Int) - 1 - ((row.idxOf ((row.length:Int) - 1 - (k:Int)):Nat):Int)
noncomputable def fI (row:List Int) (i:Nat):List Int:=(List.range row.length).map fun (k:Nat)=>if row.idxOf ((row.length:Int) - 1 - (k:Int)) < i then (row.length:Int) - 1 - ((row.idxOf ((row.length:Int) - 1 - (k:Int)):Nat):Int) else 0
theorem bH (row:List Int):(dA row).length=row.length:=by unfold dA; simp
theorem pV (row:List Int) (i:Nat):(fI row i).length=row.length:=by unfold fI; simp
theorem w4 (row:List Int):fI row 0=List.replicate row.length 0:=by
  unfold fI
  refine List.eq_replicate_iff.mpr ⟨by simp,fun b hb=>?_⟩
  obtain ⟨k,_,rfl⟩:=List.mem_map.mp hb
  rw [if_neg (Nat.not_lt_zero _)]
theorem fA {row:List Int} (h:row.Perm (cf row.length)) {v:Int}:v∈row↔0<=v/\v < (row.length:Int):=by rw [h.mem_iff,eI]
theorem B8 {row:List Int} (h:row.Perm (cf row.length)):row.Nodup:=h.nodup_iff.mpr (gK _)
theorem rT {row:List Int} (h:row.Perm (cf row.length)) {i:Nat} {x:Int} (hx:row[i]? = some x):row.idxOf x=i:=by
  obtain ⟨hi,rfl⟩:=List.getElem?_eq_some_iff.mp hx
  exact (B8 h).idxOf_getElem i hi
theorem ya {row:List Int} (h:row.Perm (cf row.length)):fI row row.length=dA row:=by
  unfold fI dA
  refine List.map_congr_left fun k hk=>?_
  have:=List.mem_range.mp hk
  rw [if_pos (List.idxOf_lt_length_iff.mpr ((fA h).mpr (by omega)))]
theorem w8 {row:List Int} (h:row.Perm (cf row.length)) {i:Nat} {x:Int} (hx:row[i]? = some x) :
    (fI row i).set ((row.length:Int) - 1 - x).toNat ((row.length:Int) - 1 - (i:Int))=fI row (i+1):=by
  have xr:=(fA h).mp (List.mem_of_getElem? hx)
  have ix:=rT h hx
  refine List.ext_getElem? fun m=>?_
  rw [List.getElem?_set]
  have gm:∀ (z m:Nat),(fI row z)[m]? = if m < row.length then some (if row.idxOf ((row.length:Int) - 1 - (m:Int)) < z then (row.length:Int) - 1 - ((row.idxOf ((row.length:Int) - 1 - (m:Int)):Nat):Int) else 0) else none:=fun z m=>by
    unfold fI
    rw [List.getElem?_map]
    by_cases hm:m < row.length
    · rw [List.getElem?_range hm,if_pos hm]; rfl
    · rw [List.getElem?_eq_none (by simpa using hm),if_neg hm]; rfl
  rw [pV,gm,gm]
  by_cases e:((row.length:Int) - 1 - x).toNat=m
  · have em:(row.length:Int) - 1 - (m:Int)=x:=by omega
    rw [if_pos e,if_pos (by omega),if_pos (by omega),em,ix,if_pos (by omega)]
  · rw [if_neg e]
    by_cases hm:m < row.length
    · rw [if_pos hm,if_pos hm]
      have hv:=(fA h).mpr (show 0<=(row.length:Int) - 1 - (m:Int)/\(row.length:Int) - 1 - (m:Int) < (row.length:Int) by omega)
      have ne:row.idxOf ((row.length:Int) - 1 - (m:Int))≠i:=fun z=>by
        have g:=List.getElem_idxOf (List.idxOf_lt_length_iff.mpr hv)
        have:row[i]? = some ((row.length:Int) - 1 - (m:Int)):=by
          rw [<- z,List.getElem?_eq_getElem (List.idxOf_lt_length_iff.mpr hv),g]
        rw [hx] at this
        have:=Option.some.inj this
        omega
      refine congrArg some ?_
      by_cases lt:row.idxOf ((row.length:Int) - 1 - (m:Int)) < i
      · rw [if_pos lt,if_pos (by omega)]
      · rw [if_neg lt,if_neg (by omega)]
    · rw [if_neg hm,if_neg hm]
theorem fK {row:List Int} (h:row.Perm (cf row.length)) {k:Nat} (hk:k < row.length):∃ (j:Nat),j < row.length/\row[j]? = some ((row.length:Int) - 1 - (k:Int))/\(dA row)[k]? = some ((row.length:Int) - 1 - (j:Int)):=by
  have hv:=(fA h).mpr (show 0<=(row.length:Int) - 1 - (k:Int)/\(row.length:Int) - 1 - (k:Int) < (row.length:Int) by omega)
  have hj:=List.idxOf_lt_length_iff.mpr hv
  refine ⟨_,hj,by rw [List.getElem?_eq_getElem hj,List.getElem_idxOf hj],?_⟩
  unfold dA
  rw [List.getElem?_map,List.getElem?_range hk]
  rfl
theorem oh {row:List Int} (h:row.Perm (cf row.length)):(dA row).Perm (cf row.length):=by
  have nd:(dA row).Nodup:=by
    refine List.pairwise_iff_getElem.mpr fun a b ha hb hab e=>?_
    rw [bH] at ha hb
    obtain ⟨i,hi,ei,fi⟩:=fK h ha
    obtain ⟨j,hj,ej,fj⟩:=fK h hb
    rw [List.getElem?_eq_getElem (by rw [bH]; exact ha)] at fi
    rw [List.getElem?_eq_getElem (by rw [bH]; exact hb)] at fj
    have fi:=Option.some.inj fi
    have fj:=Option.some.inj fj
    have:i=j:=by omega
    subst this
    rw [ei] at ej
    have:=Option.some.inj ej
    omega
  refine (List.perm_ext_iff_of_nodup nd (gK _)).mpr fun x=>?_
  rw [eI]
  constructor
  · intro hx
    obtain ⟨k,hk⟩:=List.getElem?_of_mem hx
    have lk:=(List.getElem?_eq_some_iff.mp hk).1
    rw [bH] at lk
    obtain ⟨j,hj,ej,fj⟩:=fK h lk
    rw [fj] at hk
    have:=Option.some.inj hk
    omega
  · intro hx
    have hj:row.length - 1 - x.toNat < row.length:=by omega
    have xr:=(fA h).mp (List.getElem_mem hj)
    obtain ⟨i,hi,ei,fi⟩:=fK h (k:=((row.length:Int) - 1 - row[row.length - 1 - x.toNat]).toNat) (by omega)
    have e:i=row.length - 1 - x.toNat:=by
      have a:=rT h ei
      have b:=rT h (List.getElem?_eq_getElem hj)
      rw [show (row.length:Int) - 1 - ((((row.length:Int) - 1 - row[row.length - 1 - x.toNat]).toNat:Nat):Int)=row[row.length - 1 - x.toNat] by omega] at a
      omega
    subst e
    have:=List.mem_of_getElem? fi
    rwa [show (row.length:Int) - 1 - ((row.length - 1 - x.toNat:Nat):Int)=x by omega] at this
theorem xB {row:List Int} (h:row.Perm (cf row.length)):dA (dA row)=row:=by
  have hm:=oh h
  have hm':(dA row).Perm (cf (dA row).length):=by rw [bH]; exact hm
  refine List.ext_getElem? fun k=>?_
  by_cases hk:k < row.length
  · obtain ⟨j,hj,ej,fj⟩:=fK hm' (show k < (dA row).length by rw [bH]; exact hk)
    rw [bH] at hj ej fj
    obtain ⟨i,hi,ei,fi⟩:=fK h hj
    rw [fj]
    rw [fi] at ej
    have e:=Option.some.inj ej
    have:i=k:=by omega
    subst this
    exact ei.symm
  · rw [List.getElem?_eq_none (by rw [bH,bH]; omega),List.getElem?_eq_none (by omega)]
theorem wB {row:List Int} (h:dQ row=true):dQ (dA row)=true:=by
  unfold dQ at h |-
  rw [Bool.and_eq_true] at h |-
  have hp:=(cS _).mp h.1
  refine ⟨(cS _).mpr (by rw [bH]; exact oh hp),jb fun k hk=>?_⟩
  rw [bH] at hk
  cases z:gM (dA row) k with
  | false=>rfl
  | true =>
    obtain ⟨i,j,hi,hj,hl,h1,h2⟩:=(gH _ _).mp z
    rw [bH] at hl
    have g:∀ m,m < row.length->∃ b,b < row.length/\row.getD b 0=(row.length:Int) - 1 - (m:Int)/\(dA row).getD m 0=(row.length:Int) - 1 - (b:Int):=fun m hm=>by
      obtain ⟨b,hb,eb,fb⟩:=fK hp hm
      exact ⟨b,hb,by rw [List.getD_eq_getElem?_getD,eb]; rfl,by rw [List.getD_eq_getElem?_getD,fb]; rfl⟩
    obtain ⟨bi,li,ei,fi⟩:=g i (by omega)
    obtain ⟨bj,lj,ej,fj⟩:=g j hl
    obtain ⟨bk,lk,ek,fk⟩:=g k hk
    have bad:gM row bj=true:=(gH _ _).mpr ⟨bi,bk,by omega,by omega,lk,by omega,by omega⟩
    have:=mZ lj bad
    rw [h.2] at this
    cases this
end Ck
namespace Ck
open PySem L2
theorem zH {c:List Nat} {i z:Nat} (hi:i < c.length) (h:c[c.length - 1 - i]? = some z):(cB c)[i]? = some (iL z):=by
  unfold cB
  rw [List.getElem?_reverse (by rw [List.length_map]; exact hi),List.length_map,List.getElem?_map,h]
  rfl
noncomputable def eE:Bt->Bt
  | .leaf=>.leaf
  | .node l r=>.node (eE r) (eE l)
theorem iW:∀ t:Bt,(eE t).size=t.size
  | .leaf=>rfl
  | .node l r=>by
    show (eE r).size+(eE l).size+1=l.size+r.size+1
    rw [iW l,iW r]
    omega
theorem iX:∀ t:Bt,eE (eE t)=t
  | .leaf=>rfl
  | .node l r=>by
    show Bt.node (eE (eE l)) (eE (eE r)) = .node l r
    rw [iX l,iX r]
end Ck
namespace Ck
open PySem L2
theorem tI (c:List Nat) {i:Nat}:∀ {n:Nat},i<=n->cF c i <+: cF c n
  | 0,h=>by
    obtain rfl:i=0:=by omega
    exact List.prefix_refl _
  | n+1,h=>by
    by_cases e:i=n+1
    · subst e; exact List.prefix_refl _
    · rw [eV]
      exact (tI c (n:=n) (by omega)).trans (List.prefix_append _ _)
theorem zF {c:List Nat} {n j k:Nat} {m:Int} (hk:k < n) (h40:c.getD k 0=40) (hj:(cF c n)[j]? = some ((k:Int),m)):j=(cF c k).length:=by
  have e:(cF c (k+1))[(cF c k).length]? = some ((k:Int),bC c k):=by rw [eV,if_pos h40,List.getElem?_append_right (Nat.le_refl _),Nat.sub_self]; rfl
  obtain ⟨r,er⟩:=tI c (i:=k+1) (n:=n) hk
  have lt:=(List.getElem?_eq_some_iff.mp e).1
  have e2:(cF c n)[(cF c k).length]? = some ((k:Int),bC c k):=by rw [<- er,List.getElem?_append_left lt,e]
  obtain ⟨h1,g1⟩:=List.getElem?_eq_some_iff.mp e2
  obtain ⟨h2,g2⟩:=List.getElem?_eq_some_iff.mp hj
  have pw:=List.pairwise_iff_getElem.mp (wM c n)
  by_cases l1:j < (cF c k).length
  · have:=pw j _ h2 h1 l1
    rw [g1,g2] at this
    simp at this
  · by_cases l2:(cF c k).length < j
    · have:=pw _ j h1 h2 l2
      rw [g1,g2] at this
      simp at this
    · omega
end Ck
set_option Elab.async false
set_option linter.all false
set_option maxRecDepth 100000
set_option maxHeartbeats 4000000
namespace L2
open PySem PySem.Spec PyProof.Rows
theorem nI {X:Cx} {K:PySem.W.Frag} (h:X.K=K):wV X (Az K):=h▸bB
theorem oG:Manifest.owners.lookup (String.ofList ['d','e','s','r','e','v','e','r'].reverse)=some Manifest.sig_reversed:=by kernel_rfl
theorem d0:Slot "reversed" "__next__" "reversed.__next__" :=
  .of (owner:="reversed") (n:="__next__") (by rw [typeLookup_type,builtinLookup_eq_fast]; kernel_rfl) (by decide +kernel) (by decide +kernel) (by decide +kernel)
    (by first | exact .inl (by decide +kernel) | exact .inr (by decide +kernel)) (by rw [isSubtype_type]; kernel_rfl)
theorem ir:entryFor table "reversed.__next__" = some Builtin.«reversed.__next__»:=entryFor_of_tree (by kernel_rfl)
theorem iJ (a:Value):argsOk "reversed.__next__" ⟨[a],[]⟩:=by
  unfold argsOk; rw [signature?_of (id:="reversed.__next__") (n:=['_','_','t','x','e','n','_','_']) (o:=['d','e','s','r','e','v','e','r']) (by kernel_rfl) oG]; kernel_rfl
theorem iP:Slot "reversed" "__iter__" "reversed.__iter__" :=
  .of (owner:="reversed") (n:="__iter__") (by rw [typeLookup_type,builtinLookup_eq_fast]; kernel_rfl) (by decide +kernel) (by decide +kernel) (by decide +kernel)
    (by first | exact .inl (by decide +kernel) | exact .inr (by decide +kernel)) (by rw [isSubtype_type]; kernel_rfl)
theorem oU (a:Value):argsOk "reversed.__iter__" ⟨[a],[]⟩:=by
  unfold argsOk; rw [signature?_of (id:="reversed.__iter__") (n:=['_','_','r','e','t','i','_','_']) (o:=['d','e','s','r','e','v','e','r']) (by kernel_rfl) oG]; kernel_rfl
theorem nJ:entryFor table "reversed.__iter__" = some Builtin.«dict_keyiterator.__iter__» :=
  entryFor_alias (id':="dict_keyiterator.__iter__") (by kernel_rfl) (by first | rfl | decide +kernel | (unfold String.splitOn; simp +decide [String.splitOnAux])) (by decide +kernel) (by kernel_rfl)
theorem oX:Slot "reversed" "__init__" "object.__init__" :=
  .of (owner:="object") (n:="__init__") (by rw [typeLookup_type,builtinLookup_eq_fast]; kernel_rfl) (by decide +kernel) (by decide +kernel) (by decide +kernel)
    (by first | exact .inl (by decide +kernel) | exact .inr (by decide +kernel)) (by rw [isSubtype_type]; kernel_rfl)
theorem uN:TypeCalled "reversed" "reversed.__new__" "object.__init__" :=
  ⟨by decide +kernel,by decide +kernel,⟨_,_,F.mro_reversed⟩,F.made_reversed,by decide +kernel,by rw [isSubtype_type]; kernel_rfl,oX⟩
theorem uq:typeLookup (.type "str") "__reversed__" = pure none:=by rw [typeLookup_type,builtinLookup_eq_fast]; kernel_rfl
theorem sR:isSubtype (.type "str") (.type "dict")=pure false:=by rw [isSubtype_type]; kernel_rfl
noncomputable def mW (x:Str) (t:Tok) (i:Int):Obj:={ cls:=.type "reversed",data:=.fields #[.str x t,rawInt i] }
theorem oS (x:Str) (t:Tok):Meets (Builtin.«reversed.__new__» ⟨[.type "reversed",.str x t],[]⟩) (fun _ R s=>x.length<=sizeLine /\
    R (.ok (.ret (.ref s.heap.objs.size))) { s with heap:=s.heap.push (mW x t ((x.length:Int) - 1)),toks:=s.toks+1+1 }) :=
  .of_wp fun prog w A R s h=>by
    obtain ⟨hz,h⟩:=h
    unfold Builtin.«reversed.__new__»
    refine wpAny_bind (wpAny_of_eq (newClass_reversed _) ?_)
    try dsimp only
    refine wpAny_bind (wpAny_of_eq (a:=()) (by first | rfl | kernel_rfl) ?_)
    refine wpAny_bind (wpAny_of_eq (a:=()) (by first | rfl | kernel_rfl) ?_)
    try dsimp only
    refine wpAny_bind (wpAny_specialOf (typeIs_str _ x t) uq ?_)
    try dsimp only
    refine wpAny_bind ?_
    show wpAny _ _ (isInstance (.str x t) (.type "dict") >>= _) _ _ _
    refine wpAny_bind (wpAny_isInstance (typeIs_str _ x t) sR ?_)
    refine wpAny_bind (wpAny_specialOf (typeIs_str _ x t) F.slot_str_getitem.lookup ?_)
    refine wpAny_pure ?_
    refine wpAny_bind (len_str (by have:=hz; have:sizeLine < 2 ^ 62:=by decide +kernel
                                   omega) ?_)
    refine wpAny_bind (wpAny_of_eq (a:=some ((x.length:Nat):Int)) (by first | rfl | kernel_rfl) ?_)
    refine wpAny_bind (wpAny_newObj_type (data:=.fields #[.str x t,rawInt ((x.length:Int) - 1)]) ?_ (by size_fits))
    exact wpAny_pure ⟨_,rfl,h⟩
section
variable {prog:Program} {w:World} {A:Around} {E:Value->Shared->Prop} {s:Shared}
theorem qB {x:Str} {t:Tok} {Q:Value->Shared->Prop} (hz:x.length<=sizeLine)
    (h:Q (.ref s.heap.objs.size) { s with heap:=s.heap.push (mW x t ((x.length:Int) - 1)),toks:=s.toks+1+1 }):wpAny (model prog w) A (call (.type "reversed") [.str x t]) Q E s :=
  callType_new uN (by decide) (F.typeCall_reversed_1 _) (F.newCall_reversed_1 _) (fun obj=>F.args_object_init_2 obj _) F.entry_reversed_new (oS x t)
    ⟨hz,⟨_,Heap.get?_push_size _ rfl,rfl⟩,h⟩
def gx (h:Heap) (a:Addr) (x:Str) (t:Tok) (i:Int):Prop:=∃ o,h.get? a=some o/\o.cls = .type "reversed"/\o.data = .fields #[.str x t,rawInt i]
theorem gx.typeIs {a:Addr} {x:Str} {t:Tok} {i:Int} (z:gx s.heap a x t i):s.TypeIs (.ref a) "reversed":=let ⟨o,ho,hc,_⟩:=z; ⟨o,ho,hc⟩
theorem yE {it:Addr} {x:Str} {t:Tok} {i c:Nat} {Q:Option Value->Shared->Prop} (hz:x.length<=sizeLine) (hit:gx s.heap it x t (i:Int)) (hx:x.cps[i]? = some c)
    (hQ:∀ h',gx h' it x t ((i:Int) - 1)->(∀ b o,b≠it->s.heap.get? b=some o->h'.get? b=some o)->Q (some (.str ⟨#[c]⟩ (s.toks+1))) { s with heap:=h',toks:=s.toks+1+1 }):wpAny (model prog w) A (pyNext (.ref it)) Q E s:=by
  obtain ⟨o,ho,hc,hd⟩:=id hit
  have hlt:i < x.cps.size:=by
    have:=Array.getElem?_eq_some_iff.mp hx
    exact this.1
  have hlen:x.length=x.cps.size:=rfl
  have h62:sizeLine < 2 ^ 62:=by decide +kernel
  unfold pyNext
  refine wpAny_bind (wpAny_attempt (wpAny_callSpecial?_slot (name:=Str.ofString "__next__") hit.typeIs d0
    (wpAny_call_entry d0 hit.typeIs ir ?_ (iJ _))))
  unfold Builtin.«reversed.__next__»
  refine wpAny_bind (wpAny_of_eq (a:=(Value.ref it,[])) rfl ?_)
  try dsimp only
  refine wpAny_bind (wpAny_field ho hd (x:=.str x t) rfl ?_)
  refine wpAny_bind (wpAny_field ho hd (x:=rawInt (i:Int)) rfl ?_)
  show wpAny _ _ (if (i:Int) < 0 then _ else _) _ _ s
  rw [if_neg (by omega)]
  refine wpAny_bind (wpAny_specialOf (typeIs_str _ x t) F.slot_str_getitem.lookup ?_)
  show wpAny _ _ (mkInt (i:Int) >>= _) _ _ s
  refine wpAny_bind (wpAny_mkInt ?_)
  have e1:decide ((i:Int) < -(2 ^ 63:Int))=false:=decide_eq_false (by omega)
  have e2:decide ((i:Int) ≥ 2 ^ 63)=false:=decide_eq_false (by omega)
  have e:seqIndex? (i:Int) x.length=some (i:Int).toNat:=PySem.StrLaws.seqIndex_nonneg (by omega) (by omega)
  refine wpAny_bind (wpAny_attempt (getItem_str (c:=c) (by rw [e1,e2]<;>rfl) (by rw [e]; exact hx) ?_))
  try dsimp only
  refine wpAny_bind (wpAny_field (s:={ s with toks:=s.toks+1+1 }) ho hd (x:=rawInt (i:Int)) rfl ?_)
  show wpAny _ _ (setField (.ref it) 1 (rawInt ((i:Int) - 1)) >>= _) _ _ _
  refine wpAny_bind (wpAny_setField (s:={ s with toks:=s.toks+1+1 }) ho hd (by simp) ?_)
  refine wpAny_pure ⟨_,rfl,wpAny_pure (hQ _ ?_ fun b o' hb q=>?_)⟩
  · exact ⟨_,Heap.get?_update_self _ ho (Obj.isFreed_of_fields (Obj.data_mapFields hd _)),(Obj.cls_mapFields ..).trans hc,by
      rw [Obj.data_mapFields hd]; simp⟩
  · exact (Heap.get?_update_ne _ _ _ _ hb).trans q
theorem zO {it:Addr} {x:Str} {t:Tok} {Q:Option Value->Shared->Prop} (hh:A.handled=none) (hit:gx s.heap it x t (-1))
    (hQ:∀ h',(∀ b o,b≠it->s.heap.get? b=some o->h'.get? b=some o)->Q none { s with heap:=h' }):wpAny (model prog w) A (pyNext (.ref it)) Q E s:=by
  obtain ⟨o,ho,hc,hd⟩:=id hit
  unfold pyNext
  refine wpAny_bind (wpAny_attempt (wpAny_callSpecial?_slot (name:=Str.ofString "__next__") hit.typeIs d0
    (wpAny_call_entry d0 hit.typeIs ir ?_ (iJ _))))
  unfold Builtin.«reversed.__next__»
  refine wpAny_bind (wpAny_of_eq (a:=(Value.ref it,[])) rfl ?_)
  try dsimp only
  refine wpAny_bind (wpAny_field ho hd (x:=.str x t) rfl ?_)
  refine wpAny_bind (wpAny_field ho hd (x:=rawInt (-1)) rfl ?_)
  show wpAny _ _ (if (-1:Int) < 0 then _ else _) _ _ s
  rw [if_pos (by decide)]
  refine wpAny_bind (wpAny_rule ?_)
  refine wpAny_bind ?_
  show wpAny _ _ (setField (.ref it) 1 (rawInt (-1)) >>= fun _=>setField (.ref it) 0 .none) _ _ _
  refine wpAny_bind (wpAny_setField ho hd (by simp) ?_)
  have ho1:=Heap.get?_update_self (h:=s.heap) (Obj.mapFields (·.setIfInBounds 1 (rawInt (-1)))) ho (Obj.isFreed_of_fields (Obj.data_mapFields hd _))
  have hd1:=Obj.data_mapFields (f:=(·.setIfInBounds 1 (rawInt (-1)))) hd
  refine wpAny_setField ho1 hd1 (by simp) ?_
  first
  | show wpAny _ _ (newExc (.type "StopIteration") [] >>= _) _ _ _
  | (refine wpAny_bind ?_; show wpAny _ _ (newExc (.type "StopIteration") [] >>= _) _ _ _)
  refine wpAny_bind ?_
  simp only [newExc,newTuple]
  refine wpAny_bind (wpAny_newObj_type ?_ (by size_fits))
  refine wpAny_bind (m:=firstArgMember _ _) (wpAny_of_eq (a:=Value.none) (by first | rfl | (simp only [firstArgMember]; rfl)) ?_)
  refine wpAny_newObj_type ?_ (by size_fits)
  simp only [raiseNew]
  refine wpAny_bind (wpAny_handled ?_)
  first | rw [show A.in1.handled=none from hh] | rw [hh]
  refine wpAny_bind (wpAny_pure (wpAny_throw ?_))
  refine wpAny_bind (wpAny_isInstance (T:="StopIteration") (b:=true) ⟨_,Heap.get?_push_size _ rfl,rfl⟩ isSubtype_stop ?_)
  refine wpAny_pure (hQ _ fun b o' hb q=>Heap.get?_push_of_some _ (Heap.get?_push_of_some _ ?_))
  exact ((Heap.get?_update_ne _ _ _ _ hb).trans (Heap.get?_update_ne _ _ _ _ hb)).trans q
theorem pU {it:Addr} {x:Str} {t:Tok} {i:Int} {Q:Value->Shared->Prop} (hit:gx s.heap it x t i) (h:Q (.ref it) s):wpAny (model prog w) A (pyIter (.ref it)) Q E s:=by
  refine wpAny_pyIter_slot hit.typeIs iP (wpAny_call_entry iP hit.typeIs nJ ?_ (oU _))
  show wpAny _ _ (ret (.ref it)) _ _ s
  exact wpAny_pure ⟨_,rfl,"reversed",_,hit.typeIs,d0.lookup,h⟩
end
noncomputable def BA (x:Str):It:=⟨fun i _=>i < x.cps.size,fun i H v H'=>H'=H/\∃ c,x.cps[x.cps.size - 1 - i]? = some c/\v = .str ⟨#[c]⟩,fun i _=>i=x.cps.size⟩
theorem yH {P:Program} {w:World} {K:PySem.W.Frag} {tg:Expr} (it:Addr) (x:Str) (t:Tok) (hz:x.length<=sizeLine) :
    Turn P w K tg (BA x) [it] it (fun i h=>gx h it x t ((x.cps.size:Int) - 1 - (i:Int))) where
  mem:=by simp
  obj:=fun i h st b hb=>by
    have e:b=it:=by simpa using hb
    subst e
    obtain ⟨o,e,c,d⟩:=st
    exact ⟨o,e,fun v z=>by rw [d] at z; cases z⟩
  keep:=fun i h h' st k=>by
    obtain ⟨o,e,c,d⟩:=st
    exact ⟨o,k it (by simp) o e,c,d⟩
  item:=by
    intro X hP hw hK hc i pins s σ H E I hf st hg
    subst hP hw hK
    obtain ⟨f0,f1,f2,f3,f4,f5⟩:=hf it (by simp)
    have hg':i < x.cps.size:=hg
    have e1:(x.cps.size:Int) - 1 - (i:Int)=((x.cps.size - 1 - i:Nat):Int):=by omega
    rw [e1] at st
    have hx:x.cps[x.cps.size - 1 - i]? = some (x.cps[x.cps.size - 1 - i]'(by omega)):=Array.getElem?_eq_getElem _
    refine yE hz st hx fun h' st' kk=>?_
    have I1:Inv X pins σ H { s with heap:=h',toks:=s.toks+1+1 }:=I.turned (fun b o hb e=>kk b o hb e) f0 f1 f3 f4 f5
    have st2:gx h' it x t ((x.cps.size:Int) - 1 - ((i+1:Nat):Int)):=by
      rw [show (x.cps.size:Int) - 1 - ((i+1:Nat):Int)=((x.cps.size - 1 - i:Nat):Int) - 1 by omega]
      exact st'
    obtain ⟨o,e,cl,d⟩:=id st'
    exact ⟨_,rfl,mU (s:={ s with heap:=h',toks:=s.toks+1+1 }) e cl d (by decide) ⟨.str ⟨#[_]⟩,H,I1,⟨_,rfl⟩,⟨rfl,_,hx,rfl⟩,st2,fun b hb=>(hf b hb).1⟩⟩
  done:=by
    intro X hP hw hK hc i pins s σ H E I hf st hg
    subst hP hw hK
    obtain ⟨f0,f1,f2,f3,f4,f5⟩:=hf it (by simp)
    have hi:i=x.cps.size:=hg
    subst hi
    rw [show (x.cps.size:Int) - 1 - (x.cps.size:Int) = -1 by omega] at st
    exact zO (I.ok.hd hc) st fun h' kk=>⟨rfl,I.turned (t':=s.toks) (fun b o hb e=>kk b o hb e) f0 f1 f3 f4 f5⟩
  self:=fun _ _ _ _ _ st h=>pU st h
noncomputable def DA (ta:TA):TI:=fun σ H R=>ta σ H fun vs H1=>∃ x,vs=[.str x]/\x.length<=sizeLine/\R (BA x) H1
section
variable {X:Cx}
theorem AH {tg a:Expr} {ta:TA} {p pos:Pos} (hg:Gl X "reversed") (hm:X.mg "reversed" = none) (ha:PA X [a] ta) (hs:starEach [a] X.env=[(false,eval a X.env)]:=by rfl) :
    PI X tg (.Call (.Name "reversed" p) [a] [] pos) (DA ta):=by
  intro pins s σ H R I h
  refine Call_ (dY I hg hm boot_reversed (PyProof.Rows.callWith_type1 (aI (ha pos pins s σ H _ I h) fun us s1 ⟨vs,H1,I1,r1,q1⟩=>?_) hs rfl))
  obtain ⟨x,rfl,hz,q⟩:=q1
  obtain ⟨u,rfl,ru⟩:=vals1 r1
  obtain ⟨t,rfl⟩:=ru
  refine qB hz ?_
  have I2:Inv X pins σ H1 { s1 with heap:=s1.heap.push (mW x t ((x.length:Int) - 1)),toks:=s1.toks+1+1 }:=I1.kept fun b o e=>Heap.get?_push_of_some _ e
  have st:gx (s1.heap.push (mW x t ((x.length:Int) - 1))) s1.heap.objs.size x t ((x.cps.size:Int) - 1 - ((0:Nat):Int)):=⟨_,Heap.get?_push_size _ rfl,rfl,by
    rw [show (x.cps.size:Int) - 1 - ((0:Nat):Int)=(x.length:Int) - 1 by show _=(x.cps.size:Int) - 1; omega]; rfl⟩
  refine pU st ⟨_,[s1.heap.objs.size],_,_,H1,rfl,I2,yH _ x t hz,st,fun b hb=>?_,q⟩
  rw [show b=s1.heap.objs.size by simpa using hb]
  exact I1.fpOk (Nat.le_refl _) (I1.hok.fresh (Nat.le_refl _))
end
theorem yK {x:Str} {g:TG} {tt:TT} {te:TE} {σ0:St} {H:Hp} {D:Addr} {Q:VK} (Pv:Nat->List V->Hp->Prop) (hz:x.length<=sizeLine)
    (h0:Pv 0 [] (upd H D (.lst []))) (hl:∀ i ys H',i<=x.cps.size->Pv i ys H'->ys.length<=i)
    (hs:∀ (i c:Nat) (ys:List V) (H':Hp) (R:VK) (R0:Hp->Prop),i < x.cps.size->x.cps[x.cps.size - 1 - i]? = some c->Pv i ys H'->(∀ v H3,H3 D=some (.lst ys)->Pv (i+1) (ys++[v]) (upd H3 D (.lst (ys++[v])))->R v H3)->(∀ H3,Pv (i+1) ys H3->R0 H3) ->
      g (.str ⟨#[c]⟩) σ0 H' fun σ2 H2=>Ext σ0 σ2/\tt σ2 H2 fun b H3=>if b=true then te σ2 H3 R else R0 H3)
    (hq:∀ ys H',Pv x.cps.size ys H'->Q (.ref D) H') :
    mT (BA x) g tt te σ0 D Q H:=by
  have hzz:x.cps.size<=sizeLine:=hz
  refine ⟨fun i m ys H'=>m=x.cps.size - i/\i<=x.cps.size/\Pv i ys H',⟨x.cps.size,by simp,Nat.zero_le _,h0⟩,?_⟩
  rintro i m ys H' ⟨rfl,hi,p⟩
  have ly:=hl i ys H' hi p
  by_cases hlt:i < x.cps.size
  · refine .inr ⟨hlt,fun v H'' y=>?_⟩
    obtain ⟨e,c,hc,y⟩:=y
    subst e y
    refine hs i c ys _ _ _ hlt hc p (fun v H3 hD p'=>⟨hD,by omega,x.cps.size - (i+1),by omega,rfl,hlt,p'⟩) fun H3 p'=>⟨x.cps.size - (i+1),by omega,rfl,hlt,p'⟩
  · have e:i=x.cps.size:=by omega
    subst e
    exact .inl ⟨rfl,hq ys H' p⟩
end L2
set_option Elab.async false
set_option linter.all false
set_option maxRecDepth 100000
set_option maxHeartbeats 4000000
namespace Ck
open PySem L2
noncomputable def kw (ns:List Int) (x:Int):List Int:=((List.range ns.length).filter fun (i:Nat)=>decide (ns.getD i 0=x)).map fun (i:Nat)=>(i:Int)+1
theorem mj {ns:List Int} {x k:Int}:k∈kw ns x↔(1<=k/\k<=(ns.length:Int))/\kQ ns k=x:=by
  unfold kw kQ
  rw [List.mem_map]
  constructor
  · rintro ⟨i,hi,rfl⟩
    rw [List.mem_filter] at hi
    have h1:=List.mem_range.mp hi.1
    have h2:=of_decide_eq_true hi.2
    refine ⟨by omega,?_⟩
    rw [show ((i:Int)+1 - 1).toNat=i by omega]
    exact h2
  · rintro ⟨h1,h2⟩
    refine ⟨(k - 1).toNat,List.mem_filter.mpr ⟨List.mem_range.mpr (by omega),decide_eq_true h2⟩,by omega⟩
theorem CP (ns:List Int) (x:Int):(kw ns x).Nodup:=by
  unfold kw
  have h:((List.range ns.length).filter fun (i:Nat)=>decide (ns.getD i 0=x)).Pairwise (· < ·):=List.pairwise_lt_range.filter _
  refine (List.pairwise_map.mpr (h.imp fun h=>?_))
  omega
noncomputable def bK (es:List Int):Nat->List Int
  | 0=>[0]
  | p+1=>bK es p++kw es ((bK es p).getD p 0)
theorem yA {as bs:List Int} (h:as <+: bs) {i:Nat} (hi:i < as.length):bs.getD i 0=as.getD i 0:=by
  obtain ⟨cs,rfl⟩:=h
  rw [List.getD_eq_getElem?_getD,List.getElem?_append_left hi,<- List.getD_eq_getElem?_getD]
structure mx (es:List Int) (p:Nat):Prop where
  long:p < (bK es p).length
  nd:(bK es p).Nodup
  rng:∀ x∈bK es p,0<=x/\x<=(es.length:Int)
  zero:(0:Int)∈bK es p
  kid:∀ x∈bK es p,x=0\/∃ q,q < p/\kQ es x=(bK es p).getD q 0
  all:∀ q,q < p->∀ k,1<=k->k<=(es.length:Int)->kQ es k=(bK es p).getD q 0->k∈bK es p
theorem vI {l:List Int} (nd:l.Nodup) {i j:Nat} (hi:i < l.length) (hj:j < l.length) (h:l.getD i 0=l.getD j 0):i=j:=by
  rw [List.getD_eq_getElem?_getD,List.getD_eq_getElem?_getD,List.getElem?_eq_getElem hi,List.getElem?_eq_getElem hj] at h
  exact ja nd (x:=l[i]) (List.getElem?_eq_getElem hi) (by rw [List.getElem?_eq_getElem hj]; exact congrArg some h.symm)
theorem xG (es:List Int):mx es 0:=by
  refine ⟨by show 0 < 1; decide,by show ([0]:List Int).Nodup; simp,fun x hx=>?_,by show (0:Int)∈[0]; simp,fun x hx=>.inl ?_,fun q hq=>absurd hq (Nat.not_lt_zero _)⟩
  · have:x=0:=by simpa [bK] using hx
    omega
  · simpa [bK] using hx
theorem xJ {es:List Int} {p:Nat} (hin:inR es=true) (reach:∀ k:Int,1<=k->k<=(es.length:Int)->qD es es.length k=0) (v:mx es p) (hp:p+1<=es.length):mx es (p+1):=by
  have er:bK es (p+1)=bK es p++kw es ((bK es p).getD p 0):=rfl
  have lp:=v.long
  have old:∀ i,i < (bK es p).length->(bK es (p+1)).getD i 0=(bK es p).getD i 0:=fun i hi=>yA (List.prefix_append _ _) hi
  have nd:(bK es (p+1)).Nodup:=by
    rw [er,List.nodup_append]
    refine ⟨v.nd,CP _ _,fun x hx y hy e=>?_⟩
    subst e
    obtain ⟨b,e⟩:=mj.mp hy
    rcases v.kid x hx with z | ⟨q,hq,z⟩
    · omega
    · have:=vI v.nd (by omega) lp (z.symm.trans e)
      omega
  have rng:∀ x∈bK es (p+1),0<=x/\x<=(es.length:Int):=fun x hx=>by
    rw [er] at hx
    rcases List.mem_append.mp hx with z | z
    · exact v.rng x z
    · have:=(mj.mp z).1
      omega
  have zero:(0:Int)∈bK es (p+1):=by rw [er]; exact List.mem_append_left _ v.zero
  have kid:∀ x∈bK es (p+1),x=0\/∃ q,q < p+1/\kQ es x=(bK es (p+1)).getD q 0:=fun x hx=>by
    rw [er] at hx
    rcases List.mem_append.mp hx with z | z
    · rcases v.kid x z with w | ⟨q,hq,w⟩
      · exact .inl w
      · exact .inr ⟨q,by omega,by rw [old q (by omega)]; exact w⟩
    · exact .inr ⟨p,by omega,by rw [old p lp]; exact (mj.mp z).2⟩
  have all:∀ q,q < p+1->∀ k,1<=k->k<=(es.length:Int)->kQ es k=(bK es (p+1)).getD q 0->k∈bK es (p+1):=fun q hq k k1 k2 e=>by
    rw [old q (by omega)] at e
    rw [er]
    by_cases hqp:q=p
    · subst hqp
      exact List.mem_append_right _ (mj.mpr ⟨⟨k1,k2⟩,e⟩)
    · exact List.mem_append_left _ (v.all q (by omega) k k1 k2 e)
  refine ⟨?_,nd,rng,zero,kid,all⟩
  by_cases hl:p+1 < (bK es (p+1)).length
  · exact hl
  exfalso
  have le:(bK es (p+1)).length=p+1:=by
    have:(bK es p).length<=(bK es (p+1)).length:=by rw [er,List.length_append]; omega
    omega
  -- all fP are there
  have closed:∀ (m:Nat) (k:Int),1<=k->k<=(es.length:Int)->qD es m k=0->k∈bK es (p+1):=by
    intro m
    induction m with
    | zero=>intro k k1 _ e; exact absurd (show k=0 from e) (by omega)
    | succ m ih =>
      intro k k1 k2 e
      have es1:rC es k=kQ es k:=by unfold rC kQ; rw [if_pos (by omega)]
      have e':qD es m (rC es k)=0:=e
      have b:=BG hin (r:=k) (by omega) k2
      rw [es1] at e' b
      have hm:kQ es k∈bK es (p+1):=by
        by_cases z:kQ es k=0
        · rw [z]; exact zero
        · exact ih _ (by omega) b.2 e'
      obtain ⟨q,hq,eq⟩:=List.getElem_of_mem hm
      refine all q (by omega) k k1 k2 ?_
      rw [List.getD_eq_getElem?_getD,List.getElem?_eq_getElem hq]
      exact eq.symm
  have sub:(0::fP es.length) ⊆ bK es (p+1):=fun x hx=>by
    rcases List.mem_cons.mp hx with z | z
    · rw [z]; exact zero
    · have b:=oR.mp z
      exact closed es.length x b.1 b.2 (reach x b.1 b.2)
  have ndk:(0::fP es.length).Nodup:=List.nodup_cons.mpr ⟨fun z=>by have:=oR.mp z; omega,xO _⟩
  have:=ndk.length_le_of_subset sub
  rw [List.length_cons,wF] at this
  omega
theorem AI {es:List Int} (hin:inR es=true) (reach:∀ k:Int,1<=k->k<=(es.length:Int)->qD es es.length k=0):∀ p,p<=es.length->mx es p
  | 0,_=>xG es
  | p+1,h=>xJ hin reach (AI hin reach p (by omega)) h
end Ck
namespace Ck
open PySem L2
section
variable {es:List Int} (hin:inR es=true) (reach:∀ k:Int,1<=k->k<=(es.length:Int)->qD es es.length k=0)
include hin reach
end
section
variable {ws:List Int} (c:D1 ws)
include c
end
section
variable {es:List Int} (hin:inR es=true) (reach:∀ k:Int,1<=k->k<=(es.length:Int)->qD es es.length k=0)
include hin reach
end
end Ck
namespace L2
open PySem PySem.Spec PyProof.Rows PySem.SeqAt
section
variable {X:Cx} {o e:Expr} {es:List Expr} {to:TE} {t:TA} {name:Str} {apos cpos:Pos} {T id:String} {r:V->List V->Hp->VK->Prop}
theorem Aq {K:PySem.W.Frag} (hK:X.K=K) (pa:PlainAttrs T) (slot:Slot T name id) (hty:typeOf (.builtin id)=pure (.type "method_descriptor")) (hm:yQ X id r) (ho:PE X o to) (ha:PA X (e::es) t)
    (hbase:attributeBase o name X.env (eval o X.env)=eval o X.env:=by rfl)
    (hfew:((backTo cpos (starEach (e::es) X.env)).all (fun x=>!x.1)&&(backToKw cpos (keywordEach [] X.env)).all (fun x=>x.1.isSome)
      && decide ((e::es).length+([]:List Keyword).length+(if ([]:List Keyword).isEmpty then 0 else 1) < 30))=true:=by rfl)
    (hline:(apos.endLine == cpos.line)=true:=by rfl) (hs:starEach (e::es) X.env=(false,eval e X.env)::starEach es X.env:=by rfl) (hplain:(backTo cpos (starEach es X.env)).any (·.1)=false:=by rfl) :
    PE X (.Call (.Attribute o name apos) (e::es) [] cpos) (AV K T r to t):=by
  subst hK
  exact dq pa slot hty hm ho ha hbase hfew hline hs hplain
theorem xb {K:PySem.W.Frag} (hK:X.K=K):ou X "list.index" (xv K):=by
  subst hK
  exact yw
end
end L2
set_option Elab.async false
set_option linter.all false
set_option maxRecDepth 100000
namespace Ck
open PySem PySem.W PySem.Calls PyProof.Rows
noncomputable def tZ {α:Type} (p q:Program) (loose:List Str) (Xt:Shared->Bool) (Yf:Shared->α) (h0:Heap) (s:Shared) :=
  ((staticsOk (importedModules p.main.body) h0 s.heap&&namesBound p s.heap&&gensDone s&&laidKept h0 s.heap),
    openSeen q loose (importedModules p.main.body) Xt true s,Yf s)
theorem vy {p q:Program} {loose:List Str} {Xt:Shared->Bool} {α:Type} {Yf:Shared->α} {Ya:World->α} {N M m:Nat} {H:Params->Heap} {gs:Array GenState} {dr:Drawn} {tk:Nat} {an:Option Value}
    (o:∀ w:World,(fencedOpening treeTable p w N).map (fun s=>(s.heap,s.gens,s.drawn,s.toks))=some (H w.params,gs,dr,tk))
    (z:∀ w:World,((H w.params).isNs mainGlobals&&gs.size == 0,(H w.params).objs.size,(H w.params).nsMap mainGlobals "__annotations__")=(true,m,an))
    (r:∀ (w:World) (os:OsState),∃ e,topRun treeTable p w m an M ⟨H w.params,gs,dr,tk,os⟩ (topStub p)=some e/\tZ p q loose Xt Yf (H w.params) e=(true,openGood q loose,Ya w))
    (le:M<=N):LeftO p q loose Xt Yf Ya N:=by
  intro w
  have ow:=o w
  cases hf:fencedOpening treeTable p w N with
  | none=>rw [hf] at ow; cases ow
  | some s =>
    rw [hf] at ow
    have os:=Option.some.inj ow
    have e1:s.heap=H w.params:=congrArg Prod.fst os
    have e2:s.gens=gs:=congrArg (fun x=>x.2.1) os
    have e3:s.drawn=dr:=congrArg (fun x=>x.2.2.1) os
    have e4:s.toks=tk:=congrArg (fun x=>x.2.2.2) os
    obtain ⟨e,run,look⟩:=r w s.os
    have hs:s=⟨H w.params,gs,dr,tk,s.os⟩:=by rw [<- e1,<- e2,<- e3,<- e4]
    have run':=topRun_mono (N - M) _ _ _ _ run
    rw [Nat.add_sub_cancel' le] at run'
    have zw:=z w
    have z1:=congrArg Prod.fst zw
    have z2:=congrArg (fun x=>x.2.1) zw
    have z3:=congrArg (fun x=>x.2.2) zw
    dsimp only at z1 z2 z3
    have l1:=congrArg Prod.fst look
    have l2:=congrArg Prod.snd look
    have tf:topFrom treeTable p w N s=some e:=by
      rw [hs]
      unfold topFrom
      dsimp only
      rw [z1,z2,z3,run']
      unfold tZ at l1
      dsimp only at l1
      dsimp only [Option.bind]
      rw [l1]
    unfold openEnds
    rw [hf,Option.bind_some,tf]
    exact congrArg some l2
noncomputable def alive (o:Obj):Option Obj:=match o with
  | ⟨_,_,.freed,_⟩=>none
  | o=>some o
noncomputable def fU:List Obj->List Bool->List (Option Obj)
  | _,[]=>[]
  | [],true::m=>none::fU [] m
  | [],false::m=>fU [] m
  | o::os,true::m=>alive o::fU os m
  | _::os,false::m=>fU os m
noncomputable def lQ:List Bool->Nat->List Nat
  | [],_=>[]
  | true::m,i=>i::lQ m (i+1)
  | false::m,i=>lQ m (i+1)
theorem ny:∀ (m:List Bool) (os:List Obj) (pre:List Obj),fU os m=(lQ m pre.length).map fun a=>(pre++os)[a]?.bind alive
  | [],os,pre=>by cases os<;>rfl
  | b::m,[],pre=>by
    have k:=ny m [] (pre++[default])
    rw [List.length_append,List.length_singleton] at k
    have e:∀ i,pre.length < i->((pre++[(default:Obj)])++[])[i]?.bind alive=(pre++[])[i]?.bind alive:=fun i hi=>by
      rw [List.getElem?_eq_none (by simp; omega),List.getElem?_eq_none (by simp; omega)]
    have lt:∀ (m:List Bool) (n i:Nat),i∈lQ m n->n<=i:=by
      intro m
      induction m with
      | nil=>intro n i h; cases h
      | cons b m ih=>intro n i h; cases b with
        | true =>
          rcases List.mem_cons.1 h with h | h
          · omega
          · have:=ih _ _ h; omega
        | false=>have:=ih _ _ h; omega
    have k':fU [] m=(lQ m (pre.length+1)).map fun a=>(pre++[])[a]?.bind alive:=by
      rw [k]; exact List.map_congr_left fun i hi=>e i (lt _ _ _ hi)
    cases b with
    | true=>show none::fU [] m=_::_; rw [k']; congr 1; simp
    | false=>exact k'
  | b::m,o::os,pre=>by
    have k:=ny m os (pre++[o])
    rw [List.length_append,List.length_singleton,List.append_assoc,List.singleton_append] at k
    cases b with
    | true=>show alive o::fU os m=_::_; rw [k]; congr 1; simp
    | false=>exact k
theorem v8 (h:Heap) (a:Addr):h.get? a=h.objs.toList[a]?.bind alive:=by
  unfold Heap.get?
  rw [Array.getElem?_toList]
  cases h.objs[a]? with
  | none=>rfl
  | some o=>obtain ⟨c,d,x,s⟩:=o; cases x<;>rfl
theorem zh {m:List Bool} {as:List Addr} (e:as=lQ m 0) (h:Heap):as.map h.get? = fU h.objs.toList m:=by
  rw [ny m h.objs.toList [],e]
  exact List.map_congr_left fun a _=>v8 h a
section
variable {tb:String->Option Builtin} {p:Program} {w:World} {m:Nat} {an:Option Value} {env:Env} {q:Pos}
noncomputable def nM {β:Type} (tb:String->Option Builtin) (p:Program) (w:World) (m:Nat) (an:Option Value) (q:Pos) (c:Code) (n4:Nat) (L:Shared->β) (r:Flow × SharedT × Code × Pos):Flow × Code × Option β :=
  (r.1,r.2.2.1,(topRun tb p w m an n4 r.2.1.abs ⟨doneF .next,c,r.2.2.2,[topFrame q]⟩).map L)
theorem wG {β:Type} {L:Shared->β} {b:List Stmt} {c:Code} {n1 n2 n3 n4:Nat} {S0 Sa:Shared} {Sb:SharedT} {pos0 pos1:Pos} {z:β} (hc:c = .body b env)
    (h1:topGo tb p w m an n1 S0 (topStub p)=some (Sa,⟨denote tb c,c,pos0,[topFrame q]⟩))
    (h2:segRun tb p w m an 1 n2 Sa (blockOf b env c pos0 [topFrame q])=some (.next,Sb.abs,c,pos1))
    (h3:(segRunT tb p w m an 1 n3 Sb (piecesOf b env c pos1 [topFrame q])).map (nM tb p w m an q c n4 L)=some (.next,c,some z)) :
    ∃ e,topRun tb p w m an (n1+(n2+(n3+n4))) S0 (topStub p)=some e/\L e=z:=by
  cases hr:segRunT tb p w m an 1 n3 Sb (piecesOf b env c pos1 [topFrame q]) with
  | none=>rw [hr] at h3; cases h3
  | some x =>
    obtain ⟨f,s,d,ps⟩:=x
    rw [hr] at h3
    have h3:=Option.some.inj h3
    unfold nM at h3
    have a1:f = .next:=congrArg Prod.fst h3
    have a2:d=c:=congrArg (fun x=>x.2.1) h3
    have a3:=congrArg (fun x=>x.2.2) h3
    dsimp only at a3
    subst a1 a2 hc
    cases ht:topRun tb p w m an n4 s.abs ⟨doneF .next,.body b env,ps,[topFrame q]⟩ with
    | none=>rw [ht] at a3; cases a3
    | some e =>
      rw [ht] at a3
      have k:=piece_app (rest:=[]) (segRun_of hr) (piece_nil ht)
      rw [List.append_nil] at k
      exact ⟨e,go_top h1 (piece_block h2 k),Option.some.inj a3⟩
end
end Ck
set_option maxHeartbeats 4000000
namespace Ck
open PySem L2
noncomputable def top (i:Nat):Stmt:=PySem.Challenge.pw_countkin_k40_mirrors.main.body.getD i (.Pass ⟨0,0,0,0⟩)
structure aU where
 aR:Addr
 aA:Addr
 aX:Addr
 aC:Addr
 a8:Addr
 aQ:Addr
 aL:Addr
 o6:Addr
 u6:Addr
 pN:Addr
 pM:Addr
 vQ:Addr
 oZ:Addr
 vz:Addr
 ph:Addr
 pF:Addr
 vC:Addr
 oY:Addr
 uM:Addr
 pH:Addr
 pb:Addr
 vp:Addr
 pC:Addr
 ue:Addr
 pQ:Addr
 pL:Addr
 vF:Addr
 pE:Addr
 uL:Addr
 o5:Addr
 o7:Addr
 uQ:Addr
structure A4 (K:PySem.W.Frag) (mg:Str->Option Value) (ca:aU):Prop where
 zo:mg "Twins" = some (.ref ca.aR)
 dX:mg "SplitFamily" = some (.ref ca.aA)
 gN:mg "Family" = some (.ref ca.aX)
 uC:mg "Brackets" = some (.ref ca.aC)
 Ak:mg "Bows" = some (.ref ca.a8)
 zR:mg "Turns" = some (.ref ca.aQ)
 xD:mg "Floors" = some (.ref ca.aL)
 jV:gT K ca.aR
 gy:gT K ca.aC
 m5:gT K ca.a8
 kh:gT K ca.aQ
 iF:gT K ca.aL
 mt_Twins_refuse_other:Meth K ca.aR "refuse_other" ca.vQ
 mt_Twins_is_one:Meth K ca.aR "is_one" ca.pM
 mt_Brackets_refuse_other:Meth K ca.aC "refuse_other" ca.vC
 mt_Brackets_is_one:Meth K ca.aC "is_one" ca.pF
 mt_Bows_refuse_other:Meth K ca.a8 "refuse_other" ca.vp
 mt_Bows_is_one:Meth K ca.a8 "is_one" ca.pb
 mt_Turns_refuse_other:Meth K ca.aQ "refuse_other" ca.vF
 mt_Turns_is_one:Meth K ca.aQ "is_one" ca.pL
 mt_Floors_refuse_other:Meth K ca.aL "refuse_other" ca.uQ
 mt_Floors_is_one:Meth K ca.aL "is_one" ca.o7
 mk_Twins:Mk K ca.aR ca.pN
 mk_Brackets:Mk K ca.aC ca.ph
 mk_Bows:Mk K ca.a8 ca.pH
 mk_Turns:Mk K ca.aQ ca.pQ
 mk_Floors:Mk K ca.aL ca.o5
 cm_SplitFamily___init___Twins:gO K ca.aA "__init__" ca.u6
 cm_Family___init___Twins:gO K ca.aX "__init__" ca.o6
 cm_SplitFamily___init___Brackets:gO K ca.aA "__init__" ca.vz
 cm_Family___init___Brackets:gO K ca.aX "__init__" ca.oZ
 cm_SplitFamily___init___Bows:gO K ca.aA "__init__" ca.uM
 cm_Family___init___Bows:gO K ca.aX "__init__" ca.oY
 cm_SplitFamily___init___Turns:gO K ca.aA "__init__" ca.ue
 cm_Family___init___Turns:gO K ca.aX "__init__" ca.pC
 cm_SplitFamily___init___Floors:gO K ca.aA "__init__" ca.uL
 cm_Family___init___Floors:gO K ca.aX "__init__" ca.pE
 d5:dw K ca.aR "word"
 dO:dw K ca.aR "least"
 cU:dw K ca.aC "word"
 cK:dw K ca.aC "least"
 eC:dw K ca.a8 "word"
 d4:dw K ca.a8 "least"
 d6:dw K ca.aQ "word"
 dJ:dw K ca.aQ "least"
 dG:dw K ca.aL "word"
 du:dw K ca.aL "least"
noncomputable abbrev jJ:Stmt:=top 37
theorem wW:aq ["_law_cell","_law_turn","_law_number"] ["_law_cell","_law_turn"] (ae jJ):=⟨rfl,rfl,rfl,by decide +kernel,rfl,by decide +kernel,by decide +kernel⟩
noncomputable abbrev jL:Stmt:=top 38
theorem gb:aq ["_law_script","_law_turn","_law_many","_law_cells","_law_found","_law_lefts","_law_k","_law_at","_law_number"] ["_law_script","_law_turn","_law_many"] (ae jL):=⟨rfl,rfl,rfl,by decide +kernel,rfl,by decide +kernel,by decide +kernel⟩
noncomputable abbrev jP:Stmt:=top 39
theorem eA:aq ["_law_script","_law_size","_law_turn","_law_draws_here","_law_lean","_law_signs","_law_ups","_law_k","_law_height","_law_up"] ["_law_script","_law_size","_law_turn"] (ae jP):=⟨rfl,rfl,rfl,by decide +kernel,rfl,by decide +kernel,by decide +kernel⟩
noncomputable abbrev kM:Stmt:=top 35
theorem BP:aq ["_law_script","_law_k"] ["_law_script","_law_k"] (ae kM):=⟨rfl,rfl,rfl,by decide +kernel,rfl,by decide +kernel,by decide +kernel⟩
noncomputable abbrev kj:Stmt:=top 44
theorem iw:aq ["_law_text","_law_pile","_law_here","_law_k"] ["_law_text"] (ae kj):=⟨rfl,rfl,rfl,by decide +kernel,rfl,by decide +kernel,by decide +kernel⟩
noncomputable abbrev ku:Stmt:=inClass (top 10) 0
theorem AQ:aq ["self","word","least"] ["self","word","least"] (ae ku):=⟨rfl,rfl,rfl,by decide +kernel,rfl,by decide +kernel,by decide +kernel⟩
noncomputable abbrev n8:Stmt:=inClass (top 11) 0
theorem CK:aq ["self","word"] ["self","word"] (ae n8):=⟨rfl,rfl,rfl,by decide +kernel,rfl,by decide +kernel,by decide +kernel⟩
noncomputable abbrev j0:Stmt:=inClass (top 25) 0
theorem z9:aq ["self"] ["self"] (ae j0):=⟨rfl,rfl,rfl,by decide +kernel,rfl,by decide +kernel,by decide +kernel⟩
noncomputable abbrev ju:Stmt:=inClass (top 25) 2
theorem Au:aq ["self","thing"] ["self","thing"] (ae ju):=⟨rfl,rfl,rfl,by decide +kernel,rfl,by decide +kernel,by decide +kernel⟩
noncomputable abbrev nE:Stmt:=inClass (top 10) 7
theorem C2:aq ["self","thing"] ["self","thing"] (ae nE):=⟨rfl,rfl,rfl,by decide +kernel,rfl,by decide +kernel,by decide +kernel⟩
noncomputable abbrev jN:Stmt:=top 31
theorem Af:aq ["twin"] ["twin"] (ae jN):=⟨rfl,rfl,rfl,by decide +kernel,rfl,by decide +kernel,by decide +kernel⟩
noncomputable abbrev kg:Stmt:=top 30
theorem By:aq ["thing"] ["thing"] (ae kg):=⟨rfl,rfl,rfl,by decide +kernel,rfl,by decide +kernel,by decide +kernel⟩
noncomputable abbrev jX:Stmt:=top 45
theorem xy:aq ["_law_found","_law_due","_law_k"] ["_law_found","_law_due"] (ae jX):=⟨rfl,rfl,rfl,by decide +kernel,rfl,by decide +kernel,by decide +kernel⟩
noncomputable abbrev jA:Stmt:=top 50
theorem Bw:aq ["_law_thing"] ["_law_thing"] (ae jA):=⟨rfl,rfl,rfl,by decide +kernel,rfl,by decide +kernel,by decide +kernel⟩
noncomputable abbrev ko:Stmt:=inClass (top 10) 0
theorem BW:aq ["self","word","least"] ["self","word","least"] (ae ko):=⟨rfl,rfl,rfl,by decide +kernel,rfl,by decide +kernel,by decide +kernel⟩
noncomputable abbrev nQ:Stmt:=inClass (top 11) 0
theorem CJ:aq ["self","word"] ["self","word"] (ae nQ):=⟨rfl,rfl,rfl,by decide +kernel,rfl,by decide +kernel,by decide +kernel⟩
noncomputable abbrev j6:Stmt:=inClass (top 23) 0
theorem BY:aq ["self"] ["self"] (ae j6):=⟨rfl,rfl,rfl,by decide +kernel,rfl,by decide +kernel,by decide +kernel⟩
noncomputable abbrev jT:Stmt:=top 21
theorem jn:aq ["text","depth","sign"] ["text"] (ae jT):=⟨rfl,rfl,rfl,by decide +kernel,rfl,by decide +kernel,by decide +kernel⟩
noncomputable abbrev kd:Stmt:=inClass (top 23) 2
theorem Ac:aq ["self","thing"] ["self","thing"] (ae kd):=⟨rfl,rfl,rfl,by decide +kernel,rfl,by decide +kernel,by decide +kernel⟩
noncomputable abbrev nZ:Stmt:=inClass (top 10) 7
theorem C3:aq ["self","thing"] ["self","thing"] (ae nZ):=⟨rfl,rfl,rfl,by decide +kernel,rfl,by decide +kernel,by decide +kernel⟩
noncomputable abbrev jY:Stmt:=top 27
theorem A6:aq ["thing"] ["thing"] (ae jY):=⟨rfl,rfl,rfl,by decide +kernel,rfl,by decide +kernel,by decide +kernel⟩
noncomputable abbrev ki:Stmt:=top 49
theorem mq:aq ["_law_text","_law_found","_law_sign"] ["_law_text"] (ae ki):=⟨rfl,rfl,rfl,by decide +kernel,rfl,by decide +kernel,by decide +kernel⟩
noncomputable abbrev kz:Stmt:=top 52
theorem rW:aq ["_law_text","_law_found","_law_again"] ["_law_text"] (ae kz):=⟨rfl,rfl,rfl,by decide +kernel,rfl,by decide +kernel,by decide +kernel⟩
noncomputable abbrev jB:Stmt:=inClass (top 10) 0
theorem BM:aq ["self","word","least"] ["self","word","least"] (ae jB):=⟨rfl,rfl,rfl,by decide +kernel,rfl,by decide +kernel,by decide +kernel⟩
noncomputable abbrev nu:Stmt:=inClass (top 11) 0
theorem Cn:aq ["self","word"] ["self","word"] (ae nu):=⟨rfl,rfl,rfl,by decide +kernel,rfl,by decide +kernel,by decide +kernel⟩
noncomputable abbrev jD:Stmt:=inClass (top 13) 0
theorem Ay:aq ["self"] ["self"] (ae jD):=⟨rfl,rfl,rfl,by decide +kernel,rfl,by decide +kernel,by decide +kernel⟩
noncomputable abbrev jE:Stmt:=top 3
theorem Cc:aq ["numbers"] ["numbers"] (ae jE):=⟨rfl,rfl,rfl,by decide +kernel,rfl,by decide +kernel,by decide +kernel⟩
noncomputable abbrev jK:Stmt:=top 2
theorem rA:aq ["rows","found","row"] ["rows"] (ae jK):=⟨rfl,rfl,rfl,by decide +kernel,rfl,by decide +kernel,by decide +kernel⟩
noncomputable abbrev kv:Stmt:=top 4
theorem iZ:aq ["pairs","a","b","c","d"] ["pairs"] (ae kv):=⟨rfl,rfl,rfl,by decide +kernel,rfl,by decide +kernel,by decide +kernel⟩
noncomputable abbrev km:Stmt:=inClass (top 13) 2
theorem Aa:aq ["self","thing"] ["self","thing"] (ae km):=⟨rfl,rfl,rfl,by decide +kernel,rfl,by decide +kernel,by decide +kernel⟩
noncomputable abbrev nB:Stmt:=inClass (top 10) 7
theorem C7:aq ["self","thing"] ["self","thing"] (ae nB):=⟨rfl,rfl,rfl,by decide +kernel,rfl,by decide +kernel,by decide +kernel⟩
noncomputable abbrev kB:Stmt:=top 5
theorem As:aq ["pairs"] ["pairs"] (ae kB):=⟨rfl,rfl,rfl,by decide +kernel,rfl,by decide +kernel,by decide +kernel⟩
noncomputable abbrev jz:Stmt:=top 29
theorem B5:aq ["pairs","last"] ["pairs","last"] (ae jz):=⟨rfl,rfl,rfl,by decide +kernel,rfl,by decide +kernel,by decide +kernel⟩
noncomputable abbrev kG:Stmt:=top 28
theorem BU:aq ["thing"] ["thing"] (ae kG):=⟨rfl,rfl,rfl,by decide +kernel,rfl,by decide +kernel,by decide +kernel⟩
noncomputable abbrev jS:Stmt:=top 36
theorem A3:aq ["_law_found"] ["_law_found"] (ae jS):=⟨rfl,rfl,rfl,by decide +kernel,rfl,by decide +kernel,by decide +kernel⟩
noncomputable abbrev kK:Stmt:=top 42
theorem wX:aq ["_law_found","_law_due","_law_k"] ["_law_found","_law_due"] (ae kK):=⟨rfl,rfl,rfl,by decide +kernel,rfl,by decide +kernel,by decide +kernel⟩
noncomputable abbrev kO:Stmt:=top 51
theorem Cf:aq ["_law_pairs_here","_law_last"] ["_law_pairs_here","_law_last"] (ae kO):=⟨rfl,rfl,rfl,by decide +kernel,rfl,by decide +kernel,by decide +kernel⟩
noncomputable abbrev jH:Stmt:=top 53
theorem pY:aq ["_law_bows_here","_law_handed","_law_found"] ["_law_bows_here"] (ae jH):=⟨rfl,rfl,rfl,by decide +kernel,rfl,by decide +kernel,by decide +kernel⟩
noncomputable abbrev jW:Stmt:=top 46
theorem mD:aq ["_law_text","_law_at","_law_height","_law_k"] ["_law_text","_law_at"] (ae jW):=⟨rfl,rfl,rfl,by decide +kernel,rfl,by decide +kernel,by decide +kernel⟩
noncomputable abbrev kE:Stmt:=top 47
theorem Bg:aq ["_law_text"] ["_law_text"] (ae kE):=⟨rfl,rfl,rfl,by decide +kernel,rfl,by decide +kernel,by decide +kernel⟩
noncomputable abbrev kA:Stmt:=inClass (top 10) 0
theorem Bc:aq ["self","word","least"] ["self","word","least"] (ae kA):=⟨rfl,rfl,rfl,by decide +kernel,rfl,by decide +kernel,by decide +kernel⟩
noncomputable abbrev nk:Stmt:=inClass (top 11) 0
theorem C0:aq ["self","word"] ["self","word"] (ae nk):=⟨rfl,rfl,rfl,by decide +kernel,rfl,by decide +kernel,by decide +kernel⟩
noncomputable abbrev j8:Stmt:=inClass (top 18) 0
theorem AR:aq ["self"] ["self"] (ae j8):=⟨rfl,rfl,rfl,by decide +kernel,rfl,by decide +kernel,by decide +kernel⟩
noncomputable abbrev jI:Stmt:=top 19
theorem jc:aq ["numbers","stack","put","number"] ["numbers"] (ae jI):=⟨rfl,rfl,rfl,by decide +kernel,rfl,by decide +kernel,by decide +kernel⟩
noncomputable abbrev kH:Stmt:=inClass (top 18) 2
theorem AE:aq ["self","thing"] ["self","thing"] (ae kH):=⟨rfl,rfl,rfl,by decide +kernel,rfl,by decide +kernel,by decide +kernel⟩
noncomputable abbrev nN:Stmt:=inClass (top 10) 7
theorem C1:aq ["self","thing"] ["self","thing"] (ae nN):=⟨rfl,rfl,rfl,by decide +kernel,rfl,by decide +kernel,by decide +kernel⟩
noncomputable abbrev kL:Stmt:=top 33
theorem jq:aq ["thing","last","found","place","number"] ["thing"] (ae kL):=⟨rfl,rfl,rfl,by decide +kernel,rfl,by decide +kernel,by decide +kernel⟩
noncomputable abbrev kc:Stmt:=top 41
theorem wQ:aq ["_law_found","_law_due","_law_k"] ["_law_found","_law_due"] (ae kc):=⟨rfl,rfl,rfl,by decide +kernel,rfl,by decide +kernel,by decide +kernel⟩
noncomputable abbrev jC:Stmt:=top 55
theorem jf:aq ["_law_row","_law_handed","_law_found","_law_last","_law_due"] ["_law_row"] (ae jC):=⟨rfl,rfl,rfl,by decide +kernel,rfl,by decide +kernel,by decide +kernel⟩
noncomputable abbrev jZ:Stmt:=top 48
theorem wA:aq ["_law_text","_law_closings"] ["_law_text"] (ae jZ):=⟨rfl,rfl,rfl,by decide +kernel,rfl,by decide +kernel,by decide +kernel⟩
noncomputable abbrev kN:Stmt:=inClass (top 10) 0
theorem B9:aq ["self","word","least"] ["self","word","least"] (ae kN):=⟨rfl,rfl,rfl,by decide +kernel,rfl,by decide +kernel,by decide +kernel⟩
noncomputable abbrev nH:Stmt:=inClass (top 11) 0
theorem CF:aq ["self","word"] ["self","word"] (ae nH):=⟨rfl,rfl,rfl,by decide +kernel,rfl,by decide +kernel,by decide +kernel⟩
noncomputable abbrev ka:Stmt:=inClass (top 15) 0
theorem Ae:aq ["self"] ["self"] (ae ka):=⟨rfl,rfl,rfl,by decide +kernel,rfl,by decide +kernel,by decide +kernel⟩
noncomputable abbrev kJ:Stmt:=top 16
theorem AZ:aq ["corners","a","b"] ["corners","a","b"] (ae kJ):=⟨rfl,rfl,rfl,by decide +kernel,rfl,by decide +kernel,by decide +kernel⟩
noncomputable abbrev jG:Stmt:=inClass (top 15) 2
theorem qN:aq ["self","thing","corners","cuts"] ["self","thing"] (ae jG):=⟨rfl,rfl,rfl,by decide +kernel,rfl,by decide +kernel,by decide +kernel⟩
noncomputable abbrev n5:Stmt:=inClass (top 10) 7
theorem Df:aq ["self","thing"] ["self","thing"] (ae n5):=⟨rfl,rfl,rfl,by decide +kernel,rfl,by decide +kernel,by decide +kernel⟩
noncomputable abbrev jU:Stmt:=top 32
theorem B3:aq ["thing"] ["thing"] (ae jU):=⟨rfl,rfl,rfl,by decide +kernel,rfl,by decide +kernel,by decide +kernel⟩
noncomputable abbrev jy:Stmt:=top 43
theorem A9:aq ["_law_found","_law_due"] ["_law_found","_law_due"] (ae jy):=⟨rfl,rfl,rfl,by decide +kernel,rfl,by decide +kernel,by decide +kernel⟩
noncomputable abbrev kf:Stmt:=top 54
theorem mX:aq ["_law_floor_here","_law_handed","_law_found","_law_due"] ["_law_floor_here"] (ae kf):=⟨rfl,rfl,rfl,by decide +kernel,rfl,by decide +kernel,by decide +kernel⟩
noncomputable abbrev j7:Stmt:=top 40
theorem d8:aq ["_law_script","_law_size","_law_turn","_law_draws_here","_law_lean","_law_cuts","_law_spans","_law_k","_law_low","_law_high","_law_corner"] ["_law_script","_law_size","_law_turn"] (ae j7):=⟨rfl,rfl,rfl,by decide +kernel,rfl,by decide +kernel,by decide +kernel⟩
noncomputable abbrev gk:Stmt:=top 56
theorem mJ:aq ["_law_script","_law_text","_law_twins","_law_found"] ["_law_script"] (ae gk):=⟨rfl,rfl,rfl,by decide +kernel,rfl,by decide +kernel,by decide +kernel⟩
noncomputable def pX (_:PySem.W.Frag) (_:aU):Sp:=fun vs H Q _=>∃ c t:Int,vs=[.int c,.int t]/\0<=t/\t<=100000/\∀ m:Int,0<=m->m < 2147483629->Q (.int m) H
noncomputable def me (K:PySem.W.Frag) (_:aU):Sp:=fun vs H Q _=>∃ (a:Addr) (ns:List Int) (t m:Int),vs=[.ref a,.int t,.int m]/\ar K H a (ns.map V.int)/\ns.length<=63/\0<=t/\t<=1000/\0<=m/\m<=1000 /\
 ∀ (p:Addr) (xs:List Int) (H':Hp),ah H H'->H p=none->H' p=some (.lst (xs.map V.int))->xs.length=m.toNat->(∀ x∈xs,0<=x/\x < 2147483587)->Q (.ref p) H'
noncomputable def rD (K:PySem.W.Frag) (_:aU):Sp:=fun vs H Q _=>∃ (a:Addr) (ns:List Int) (n t:Int),vs=[.ref a,.int n,.int t]/\ar K H a (ns.map V.int)/\ns.length<=63/\0<=n/\n<=40/\0<=t/\t<=1000 /\
 ∀ (x:Str) (H':Hp),ah H H'->clo 0 x.cps.toList=true->x.length=2*n.toNat->Q (.str x) H'
noncomputable def qo (K:PySem.W.Frag) (_:aU):Sp:=fun vs H Q _=>∃ (a:Addr) (ns:List Int) (k:Int),vs=[.ref a,.int k]/\ar K H a (ns.map V.int)/\0<=k/\Q (.int (ns.getD k.toNat 0)) H
noncomputable def qz (K:PySem.W.Frag) (_:aU):Sp:=fun vs H Q _=>∃ (x:Str) (t:Bt),vs=[.str x]/\x.cps.toList=brk t/\t.size<=40/\∀ (v:V) (H':Hp),ah H H'->Tw H' v t->Q v H'
noncomputable def qp (_:PySem.W.Frag) (ca:aU):Sp:=fun vs H Q _=>∃ (x dx:Addr) (w:Str) (l:Int),vs=[.ref x,.str w,.int l]/\H x=some (.ins ca.aR dx [])/\∀ (fs:List (Str × V)) (H':Hp),H'=upd H x (.ins ca.aR dx fs)->eG fs w l->Q .non H'
noncomputable def uI (_:PySem.W.Frag) (ca:aU):Sp:=fun vs H Q _=>∃ (x dx:Addr) (w:Str),vs=[.ref x,.str w]/\H x=some (.ins ca.aR dx [])/\∀ (fs:List (Str × V)) (H':Hp),H'=upd H x (.ins ca.aR dx fs)->eG fs w 0->Q .non H'
noncomputable def rB (_:PySem.W.Frag) (ca:aU):Sp:=fun vs H Q _=>∃ x dx,vs=[.ref x]/\H x=some (.ins ca.aR dx [])/\∀ (fs:List (Str × V)) (H':Hp),H'=upd H x (.ins ca.aR dx fs)->eG fs "twins" 0->Q .non H'
noncomputable def qq (K:PySem.W.Frag) (_:aU):Sp:=fun vs H Q _=>∃ (x:Addr) (v:V) (t:Bt),vs=[.ref x,v]/\Th 2 H v t/\∀ H',ah H H'->Q (.bl true) H'
noncomputable def uu (K:PySem.W.Frag) (ca:aU):Sp:=fun vs H Q _=>∃ (x dx:Addr) (fs:List (Str × V)) (wd:Str) (v:V) (t:Bt),vs=[.ref x,v]/\H x=some (.ins ca.aR dx fs)/\eG fs wd 0/\Th 2 H v t/\∀ H',ah H H'->Q .non H'
noncomputable def mY (K:PySem.W.Frag) (_:aU) (n:Nat):Sp:=fun vs H Q _=>∃ (v:V) (t:Bt),vs=[v]/\Tw H v t/\t.size=n/\n<=40/\∀ (u:Addr) (H':Hp),ah H H'->H u=none->Tw H' (.ref u) (eE t)->Q (.ref u) H'
noncomputable def sU (K:PySem.W.Frag) (ca:aU):Sp:=below 41 (fun n=>mY K ca n)
noncomputable def qM (K:PySem.W.Frag) (ca:aU):Sp:=fun vs H Q _=>∃ (v:V) (t:Bt),vs=[v]/\Tw H v t/\t.size<=40/\∀ (u:V) (H':Hp),ah H H'->Tw H' u (eE t)->Q u H'
noncomputable def mB (K:PySem.W.Frag) (_:aU) (n:Nat):Sp:=fun vs H Q _=>∃ (v u:V) (t:Bt),vs=[v,u]/\Tw H v t/\Tw H u t/\t.size=n/\n<=40/\Q (.bl true) H
noncomputable def sX (K:PySem.W.Frag) (ca:aU):Sp:=below 41 (fun n=>mB K ca n)
noncomputable def ma (K:PySem.W.Frag) (_:aU) (n:Nat):Sp:=fun vs H Q _=>∃ (v:V) (t:Bt),vs=[v]/\Tw H v t/\t.size=n/\n<=40/\∀ (u:Addr) (H':Hp),ah H H'->H u=none->Tw H' (.ref u) (eE t)->Q (.ref u) H'
noncomputable def tF (K:PySem.W.Frag) (ca:aU):Sp:=below 41 (fun n=>ma K ca n)
noncomputable def qC (_:PySem.W.Frag) (ca:aU):Sp:=fun vs H Q _=>∃ (x dx:Addr) (w:Str) (l:Int),vs=[.ref x,.str w,.int l]/\H x=some (.ins ca.aC dx [])/\∀ (fs:List (Str × V)) (H':Hp),H'=upd H x (.ins ca.aC dx fs)->eG fs w l->Q .non H'
noncomputable def ud (_:PySem.W.Frag) (ca:aU):Sp:=fun vs H Q _=>∃ (x dx:Addr) (w:Str),vs=[.ref x,.str w]/\H x=some (.ins ca.aC dx [])/\∀ (fs:List (Str × V)) (H':Hp),H'=upd H x (.ins ca.aC dx fs)->eG fs w 0->Q .non H'
noncomputable def sA (_:PySem.W.Frag) (ca:aU):Sp:=fun vs H Q _=>∃ x dx,vs=[.ref x]/\H x=some (.ins ca.aC dx [])/\∀ (fs:List (Str × V)) (H':Hp),H'=upd H x (.ins ca.aC dx fs)->eG fs "brackets" 0->Q .non H'
noncomputable def qV (_:PySem.W.Frag) (_:aU):Sp:=fun vs H Q _=>∃ x:Str,vs=[.str x]/\Q (.bl (clo 0 x.cps.toList)) H
noncomputable def qT (_:PySem.W.Frag) (_:aU):Sp:=fun vs H Q _=>∃ (x:Addr) (t:Str),vs=[.ref x,.str t]/\Q (.bl (clo 0 t.cps.toList)) H
noncomputable def uh (K:PySem.W.Frag) (ca:aU):Sp:=fun vs H Q _=>∃ (x dx:Addr) (fs:List (Str × V)) (t:Str),vs=[.ref x,.str t]/\H x=some (.ins ca.aC dx fs)/\fs.lookup ("is_one" : Str)=none/\clo 0 t.cps.toList=true/\∀ H',ah H H'->Q .non H'
noncomputable def r6 (K:PySem.W.Frag) (ca:aU):Sp:=fun vs H Q _=>∃ (t:Str),vs=[.str t]/\clo 0 t.cps.toList=true/\t.length<=80/\∀ (y:Str) (H':Hp),ah H H'->y.cps.toList=cB t.cps.toList->Q (.str y) H'
noncomputable def si (K:PySem.W.Frag) (_:aU):Sp:=fun vs H Q _=>∃ (t:Str),vs=[.str t]/\t.length<=80/\(∀ x∈t.cps.toList,x=40\/x=41)/\∀ (y:Str),y.cps.toList=cB t.cps.toList->Q (.str y) H
noncomputable def pZ (K:PySem.W.Frag) (ca:aU):Sp:=fun vs H Q _=>∃ (x:Str) (t:Bt),vs=[.str x]/\x.cps.toList=brk t/\t.size<=40/\∀ H',ah H H'->Q (.bl true) H'
noncomputable def rZ (_:PySem.W.Frag) (ca:aU):Sp:=fun vs H Q _=>∃ (x dx:Addr) (w:Str) (l:Int),vs=[.ref x,.str w,.int l]/\H x=some (.ins ca.a8 dx [])/\∀ (fs:List (Str × V)) (H':Hp),H'=upd H x (.ins ca.a8 dx fs)->eG fs w l->Q .non H'
noncomputable def vm (_:PySem.W.Frag) (ca:aU):Sp:=fun vs H Q _=>∃ (x dx:Addr) (w:Str),vs=[.ref x,.str w]/\H x=some (.ins ca.a8 dx [])/\∀ (fs:List (Str × V)) (H':Hp),H'=upd H x (.ins ca.a8 dx fs)->eG fs w 0->Q .non H'
noncomputable def sr (_:PySem.W.Frag) (ca:aU):Sp:=fun vs H Q _=>∃ x dx,vs=[.ref x]/\H x=some (.ins ca.a8 dx [])/\∀ (fs:List (Str × V)) (H':Hp),H'=upd H x (.ins ca.a8 dx fs)->eG fs "bows" 0->Q .non H'
noncomputable def lZ (K:PySem.W.Frag) (_:aU):Sp:=fun vs H Q _=>∃ (l:Addr) (ns:List Int),vs=[.ref l]/\H l=some (.lst (ns.map V.int))/\ns.length < 128/\∀ H',ah H H'->Q (.bl (eh ns)) H'
noncomputable def qg (K:PySem.W.Frag) (_:aU):Sp:=fun vs H Q _=>∃ (l:Addr) (ps:List Pair),vs=[.ref l]/\bz H l ps/\ps.length<=1000/\∀ (p:Addr) (H':Hp),ah H H'->H p=none->H' p=some (.lst ((aP ps).map V.int))->Q (.ref p) H'
noncomputable def ml (K:PySem.W.Frag) (_:aU):Sp:=fun vs H Q _=>∃ (l:Addr) (ps:List Pair),vs=[.ref l]/\bz H l ps/\Q (.bl (d7 ps)) H
noncomputable def qd (K:PySem.W.Frag) (_:aU):Sp:=fun vs H Q _=>∃ (x l:Addr) (ps:List Pair),vs=[.ref x,.ref l]/\bz H l ps/\ps.length<=60/\∀ H',ah H H'->Q (.bl (cJ ps)) H'
noncomputable def vE (K:PySem.W.Frag) (ca:aU):Sp:=fun vs H Q _=>∃ (x dx:Addr) (fs:List (Str × V)) (l:Addr) (ps:List Pair),vs=[.ref x,.ref l]/\H x=some (.ins ca.a8 dx fs)/\fs.lookup ("is_one" : Str)=none/\bz H l ps/\ps.length<=60/\cJ ps=true/\∀ H',ah H H'->Q .non H'
theorem CQ (a b:Int):((if b < a then b else a),(if b > a then b else a))=nm a b:=by
 unfold nm
 by_cases h:a < b
 ·rw [if_neg (by omega),if_pos h,if_pos h]
 ·rw [if_neg h]
  by_cases e:a=b
  ·subst e; simp
  ·rw [if_pos (by omega),if_neg (by omega)]
noncomputable def qP (K:PySem.W.Frag) (_:aU):Sp:=fun vs H Q _=>∃ (l:Addr) (ps:List Pair),vs=[.ref l]/\bz H l ps/\ps.length < 64/\∀ (q:Addr) (qs:List Pair) (H':Hp),ah H H'->H q=none->bz H' q qs->qs.Perm (ps.map fun p=>nm p.1 p.2)->qs.Pairwise cg->Q (.ref q) H'
noncomputable def mQ (K:PySem.W.Frag) (_:aU):Sp:=fun vs H Q _=>∃ (l:Addr) (ps:List Pair) (m:Int),vs=[.ref l,.int m]/\bz H l ps/\ps.length < 64/\(∀ p∈ps,p.1 < p.2)/\∀ (q:Addr) (qs:List Pair) (H':Hp),ah H H'->H q=none->bz H' q qs->qs.Perm (ps.map (mrr m))->qs.Pairwise cg->Q (.ref q) H'
noncomputable def rK (K:PySem.W.Frag) (ca:aU):Sp:=fun vs H Q _=>∃ (l:Addr) (ps:List Pair),vs=[.ref l]/\bz H l ps/\ps.length<=40/\g7 ps/\∀ (q:Addr) (qs:List Pair) (H':Hp),ah H H'->H q=none->bz H' q qs->qs.Perm (ps.map (mrr (2*(ps.length:Int) - 1)))->qs.Pairwise cg->Q (.ref q) H'
noncomputable def iV (_:PySem.W.Frag) (_:aU):Sp:=fun vs H Q _=>∃ n:Int,vs=[.int n]/\Q (.bl true) H
noncomputable def mM (K:PySem.W.Frag) (_:aU):Sp:=fun vs H Q _=>∃ (p r:Addr) (ps:List Pair),vs=[.ref p,.ref r]/\bz H p ps/\bz H r ps/\ps.length<=1000/\Q (.bl true) H
noncomputable def md (K:PySem.W.Frag) (_:aU):Sp:=fun vs H Q _=>∃ (l:Addr) (ps:List Pair) (m:Int),vs=[.ref l,.int m]/\bz H l ps/\ps.length < 64/\∀ (q:Addr) (qs:List Pair) (H':Hp),ah H H'->H q=none->bz H' q qs->qs.Perm (ps.map (mrr m))->qs.Pairwise cg->Q (.ref q) H'
noncomputable def pW (K:PySem.W.Frag) (ca:aU):Sp:=fun vs H Q _=>∃ (l:Addr) (ps:List Pair),vs=[.ref l]/\bz H l ps/\ps.length<=40/\g7 ps/\∀ H',ah H H'->Q (.bl true) H'
noncomputable def mr (K:PySem.W.Frag) (_:aU):Sp:=fun vs H Q _=>∃ (t:Str) (k:Nat),vs=[.str t,.int (k:Int)]/\t.length<=80/\k < t.length/\Q (.int (bC t.cps.toList k)) H
noncomputable def rL (K:PySem.W.Frag) (_:aU):Sp:=fun vs H Q _=>∃ (t:Str),vs=[.str t]/\t.length<=80/\∀ (p:Addr) (H':Hp),ah H H'->H p=none->bz H' p (cF t.cps.toList t.length)->Q (.ref p) H'
noncomputable def qm (_:PySem.W.Frag) (ca:aU):Sp:=fun vs H Q _=>∃ (x dx:Addr) (w:Str) (l:Int),vs=[.ref x,.str w,.int l]/\H x=some (.ins ca.aQ dx [])/\∀ (fs:List (Str × V)) (H':Hp),H'=upd H x (.ins ca.aQ dx fs)->eG fs w l->Q .non H'
noncomputable def uG (_:PySem.W.Frag) (ca:aU):Sp:=fun vs H Q _=>∃ (x dx:Addr) (w:Str),vs=[.ref x,.str w]/\H x=some (.ins ca.aQ dx [])/\∀ (fs:List (Str × V)) (H':Hp),H'=upd H x (.ins ca.aQ dx fs)->eG fs w 0->Q .non H'
noncomputable def qK (_:PySem.W.Frag) (ca:aU):Sp:=fun vs H Q _=>∃ x dx,vs=[.ref x]/\H x=some (.ins ca.aQ dx [])/\∀ (fs:List (Str × V)) (H':Hp),H'=upd H x (.ins ca.aQ dx fs)->eG fs "turns" 0->Q .non H'
noncomputable def p4 (K:PySem.W.Frag) (_:aU):Sp:=fun vs H Q _=>∃ (l:Addr) (ns:List Int),vs=[.ref l]/\H l=some (.lst (ns.map V.int))/\ns.length < 64/\eh ns=true/\∀ H',ah H H'->Q (.bl (lP ns)) H'
noncomputable def qx (K:PySem.W.Frag) (_:aU):Sp:=fun vs H Q _=>∃ (x l:Addr) (ns:List Int),vs=[.ref x,.ref l]/\H l=some (.lst (ns.map V.int))/\ns.length < 64/\∀ H',ah H H'->Q (.bl (dQ ns)) H'
noncomputable def vJ (K:PySem.W.Frag) (ca:aU):Sp:=fun vs H Q _=>∃ (x dx:Addr) (fs:List (Str × V)) (l:Addr) (ns:List Int),vs=[.ref x,.ref l]/\H x=some (.ins ca.aQ dx fs)/\fs.lookup ("is_one" : Str)=none/\H l=some (.lst (ns.map V.int))/\ns.length < 64/\dQ ns=true/\∀ H',ah H H'->Q .non H'
theorem oE {ns:List Int} (h:dQ ns=true):ns.Perm (cf ns.length):=by
 unfold dQ at h
 rw [Bool.and_eq_true] at h
 exact (cS ns).mp h.1
noncomputable def rF (K:PySem.W.Frag) (ca:aU):Sp:=fun vs H Q _=>∃ (l:Addr) (ns:List Int),vs=[.ref l]/\H l=some (.lst (ns.map V.int))/\ns.length<=40/\dQ ns=true/\∀ (p:Addr) (H':Hp),ah H H'->H p=none->H' p=some (.lst ((dA ns).map V.int))->Q (.ref p) H'
noncomputable def rR (K:PySem.W.Frag) (_:aU):Sp:=fun vs H Q _=>∃ (p r:Addr) (ns:List Int),vs=[.ref p,.ref r]/\H p=some (.lst (ns.map V.int))/\H r=some (.lst (ns.map V.int))/\ns.length<=1000/\Q (.bl true) H
noncomputable def rE (K:PySem.W.Frag) (ca:aU):Sp:=fun vs H Q _=>∃ (l:Addr) (ns:List Int),vs=[.ref l]/\H l=some (.lst (ns.map V.int))/\ns.length<=40/\dQ ns=true/\∀ H',ah H H'->Q (.bl true) H'
noncomputable def qZ (K:PySem.W.Frag) (_:aU):Sp:=fun vs H Q _=>∃ (t:Str),vs=[.str t]/\t.length<=80/\(cF t.cps.toList t.length).length<=40/\∀ (p:Addr) (qs:List Pair) (H':Hp),ah H H'->H p=none->qs.Perm ((cF t.cps.toList t.length).map wR)->qs.Pairwise cg->H' p=some (.lst ((qs.map fun q=>ra t.cps.toList q.2).map V.int))->Q (.ref p) H'
noncomputable def qv (_:PySem.W.Frag) (ca:aU):Sp:=fun vs H Q _=>∃ (x dx:Addr) (w:Str) (l:Int),vs=[.ref x,.str w,.int l]/\H x=some (.ins ca.aL dx [])/\∀ (fs:List (Str × V)) (H':Hp),H'=upd H x (.ins ca.aL dx fs)->eG fs w l->Q .non H'
noncomputable def uZ (_:PySem.W.Frag) (ca:aU):Sp:=fun vs H Q _=>∃ (x dx:Addr) (w:Str),vs=[.ref x,.str w]/\H x=some (.ins ca.aL dx [])/\∀ (fs:List (Str × V)) (H':Hp),H'=upd H x (.ins ca.aL dx fs)->eG fs w 0->Q .non H'
noncomputable def qQ (_:PySem.W.Frag) (ca:aU):Sp:=fun vs H Q _=>∃ x dx,vs=[.ref x]/\H x=some (.ins ca.aL dx [])/\∀ (fs:List (Str × V)) (H':Hp),H'=upd H x (.ins ca.aL dx fs)->eG fs "floor" 0->Q .non H'
noncomputable def p7 (K:PySem.W.Frag) (_:aU):Sp:=fun vs H Q _=>∃ (c a b:Int),vs=[.int c,.int a,.int b]/\Ct c (a,b)/\∀ H',ah H H'->Q (.bl true) H'
noncomputable def rf (K:PySem.W.Frag) (_:aU):Sp:=fun vs H Q _=>∃ (x t l:Addr) (c:Int) (ps:List Pair),vs=[.ref x,.ref t]/\H t=some (.tup [.int c,.ref l])/\bz H l ps/\iH c ps/\c<=43/\∀ H',ah H H'->Q (.bl true) H'
noncomputable def uH (K:PySem.W.Frag) (ca:aU):Sp:=fun vs H Q _=>∃ (x dx:Addr) (fs:List (Str × V)) (t l:Addr) (c:Int) (ps:List Pair),vs=[.ref x,.ref t]/\H x=some (.ins ca.aL dx fs)/\fs.lookup ("is_one" : Str)=none/\H t=some (.tup [.int c,.ref l])/\bz H l ps/\iH c ps/\c<=43/\∀ H',ah H H'->Q .non H'
noncomputable def qI (K:PySem.W.Frag) (ca:aU):Sp:=fun vs H Q _=>∃ (t l:Addr) (c:Int) (ps:List Pair),vs=[.ref t]/\H t=some (.tup [.int c,.ref l])/\bz H l ps/\iH c ps/\c<=43/\∀ (u q:Addr) (qs:List Pair) (H':Hp),ah H H'->H u=none->H q=none->H' u=some (.tup [.int c,.ref q])->bz H' q qs->qs.Perm (ps.map (mrr (c - 1)))->qs.Pairwise cg->Q (.ref u) H'
noncomputable def rQ (K:PySem.W.Frag) (_:aU):Sp:=fun vs H Q _=>∃ (t t' l l':Addr) (c:Int) (ps:List Pair),vs=[.ref t,.ref t']/\H t=some (.tup [.int c,.ref l])/\H t'=some (.tup [.int c,.ref l'])/\bz H l ps/\bz H l' ps/\ps.length<=1000/\Q (.bl true) H
noncomputable def qt (K:PySem.W.Frag) (ca:aU):Sp:=fun vs H Q _=>∃ (t l:Addr) (c:Int) (ps:List Pair),vs=[.ref t]/\H t=some (.tup [.int c,.ref l])/\bz H l ps/\iH c ps/\c<=43/\∀ H',ah H H'->Q (.bl true) H'
noncomputable def rH (K:PySem.W.Frag) (_:aU):Sp:=fun vs H Q _=>∃ (a:Addr) (ns:List Int) (n:Nat) (t:Int),vs=[.ref a,.int n,.int t]/\ar K H a (ns.map V.int)/\ns.length<=63/\n<=40/\0<=t/\t<=900 /\
 ∀ (u q:Addr) (qs:List Pair) (H':Hp),ah H H'->H u=none->H q=none->H' u=some (.tup [.int ((n:Int)+2),.ref q])->bz H' q qs->iH ((n:Int)+2) qs->Q (.ref u) H'
theorem vU {c:List Nat} {n:Nat} {qs:List Pair} (h:clo 0 c=true) (hn:c.length=2*n) (pm:qs.Perm ((cF c c.length).map wR)) (rs:qs.Pairwise cg):dQ (qs.map fun q=>ra c q.2)=true/\(qs.map fun q=>ra c q.2).length=n:=by
 obtain ⟨bw,lb⟩:=om h hn
 refine ⟨yM bw (ra c) (fun j p hj=>?_) pm rs,by rw [List.length_map,pm.length_eq,List.length_map,lb]⟩
 obtain ⟨k,hk,e40,rfl⟩:=sW.mp (List.mem_of_getElem? hj)
 unfold ra
 show (((c.take ((k:Nat):Int).toNat).count 40:Nat):Int)=(j:Int)
 rw [Int.toNat_natCast,<- nA c k (by omega),zF hk e40 hj]
noncomputable def Be (K:PySem.W.Frag) (_:aU):Sp:=fun vs H Q _=>∃ (a:Addr) (ns:List Int),vs=[.ref a]/\ar K H a (ns.map V.int)/\ns.length<=63/\∀ H',Q (.bl true) H'
section
variable {P:Program} {w:World} {K:PySem.W.Frag} {mg:Str->Option Value} {base:Heap} {ca:aU} (CA:A4 K mg ca) {f:Addr} {fd:FuncData}
include CA
theorem Cb (F:aV K "_law_mix" "_law_mix" jJ f fd):az P w K mg base aZ 1 f fd ["_law_cell","_law_turn"] (pX K ca):=by
 refine F.ok wW (fun vs H Q E h=>?_) (fun cdv A outer s H vs Q E hr h=>?_)
 ·obtain ⟨c,t,rfl,h0,h1,q⟩:=h
  rfl
 obtain ⟨c,t,rfl,h0,h1,q⟩:=h
 refine ⟨_,ag (aB (i:=2) wW.nd rfl (Or.inl rfl) (aw ck (aw dz (aw cG (aw cG (aw ck (pv 0) ai) (aw dz (aw dz (pv 1) (pv 1)) ai)) ai) ai) ai))
  (af (au (aw ck (aw cG (aw dz (pv 2) (pv 2)) (aw dz ai (pv 1))) ai))),?_⟩
 refine ⟨_,rfl,_,_,rfl,rfl,pm (by decide),_,rfl,_,rfl,_,_,rfl,rfl,.inl ⟨by omega,by omega⟩,_,_,rfl,rfl,.inr ⟨by decide,by decide⟩,_,_,rfl,rfl,_,_,rfl,rfl,_,_,rfl,rfl,.inr ⟨by decide,by decide⟩,_,_,rfl,rfl,pm (by decide),?_⟩
 have b0:=Int.emod_nonneg ((c % 2147483647+t*t*7919+104729)*48271) (show (2147483647:Int)≠0 by decide)
 have b1:=Int.emod_lt_of_pos ((c % 2147483647+t*t*7919+104729)*48271) (show (0:Int) < 2147483647 by decide)
 try dsimp only
 generalize (c % 2147483647+t*t*7919+104729)*48271 % 2147483647=n at *
 exact ⟨_,rfl,_,rfl,_,_,rfl,rfl,.inl ⟨by omega,by omega⟩,_,rfl,_,_,rfl,rfl,.inl ⟨by decide,by decide⟩,_,_,rfl,rfl,_,_,rfl,rfl,pm (by decide),q _ (Int.emod_nonneg _ (by decide)) (Int.emod_lt_of_pos _ (by decide))⟩
theorem BR (F:aV K "_law_draws" "_law_draws" jL f fd) {f0:Addr} {fd0:FuncData} (uS:Def P w K mg base "_law_mix" ["_law_cell","_law_turn"] 1 (pX K ca) f0 fd0) (aO:mg "range" = none) (aE:mg "len" = none):az P w K mg base aZ 2 f fd ["_law_script","_law_turn","_law_many"] (me K ca):=by
 refine F.ok gb (fun vs H Q E h=>?_) (fun cdv A outer s H vs Q E hr h=>?_)
 ·obtain ⟨a,ns,t,m,rfl,hS,h63,t0,t1,m0,m1,q⟩:=h
  rfl
 obtain ⟨a,ns,t,m,rfl,hS,h63,t0,t1,m0,m1,q⟩:=h
 refine ⟨_,ag (aB (i:=3) gb.nd rfl (Or.inl rfl) (aw Ci (lL tU (pv 0) nP (nt ai)) (fg (aa (pv 1) ab))))
  (ag (aB (i:=4) gb.nd rfl (Or.inl rfl) (fg ab))
  (ag (aW (aJ cN (aw ck (aw lK (aH bu (pv 3) ai (fun _ _=>rfl)) ai) ai) ai (aF _)) (ag (mH (i:=5) gb.nd rfl (Or.inl rfl) rfl rfl (dI (pv 3)) rfl rfl rfl rfl (N:=["_law_cell"]) (.own .nil) (fun _ _ _ _ _ _=>(aM (i:=0) (by show List.Nodup (["_law_cell"]:List Str); decide +kernel) rfl (Or.inl rfl))) (fun _ _ _ _ _ _=>eK) (fun _ _ _ _ _ _=>(aw lK (pv 0) ai)))
  (ag (cX PassesOwn.never rfl (dy rfl aO (aa (aw cG (pv 1) (pv 2)) ab)) (aM (i:=6) gb.nd rfl (Or.inl rfl)) (ag (aB (i:=7) gb.nd rfl (Or.inl rfl) (aw ck (pv 6) (ax aG rfl aE bt (aa (pv 5) ab))))
  (ag (aT (dq PySem.F.plainAttrs_list PySem.F.slot_list_append PySem.F.type_list_append bR (pv 4) (aa (aw ck (aH bu (pv 5) (pv 7) (fun _ _=>rfl)) ai) ab)))
  (af (qS (aw lK (aH bu (pv 5) (pv 7) (fun _ _=>rfl)) ai) (wU (pv 5) (pv 7) set_list))))))
  (af (au (lL tU (pv 4) (nt (pv 1)) nP))))) aN)
  (ag (cX PassesOwn.never rfl (dy rfl aO (aa (pv 2) ab)) (aM (i:=6) gb.nd rfl (Or.inl rfl)) (ag (aB (i:=8) gb.nd rfl (Or.inl rfl) (aD uS hr (aa (aH bu (pv 3) (aw ck (pv 6) (ax aG rfl aE bt (aa (pv 3) ab))) (fun _ _=>rfl)) (aa (aw cG (pv 6) (pv 1)) ab))))
  (af (aT (dq PySem.F.plainAttrs_list PySem.F.slot_list_append PySem.F.type_list_append bR (pv 4) (aa (aw ck (aw cG (aw dz (pv 8) (pv 8)) (aw dz ai (pv 6))) ai) ab))))))
  (af (au (pv 4)))))),?_⟩
 have M:∀ x:Int,0<=x % 2147483587/\x % 2147483587 < 2147483587:=fun x=>⟨Int.emod_nonneg x (by decide),Int.emod_lt_of_pos x (by decide)⟩
 refine ⟨_,rfl,_,rfl,a,_,rfl,hS,fun p1 hp1=>⟨_,rfl,(by show 1<=sizeLine; decide),fun p2 hp2=>?_⟩⟩
 have n12:p1≠p2:=ao upd_same hp2
 have s1:=ah.new (ah.refl H) hp1 (.lst (g5 (ns.map V.int) none (some 63)))
 have s2:=ah.new s1 hp2 (.lst [.int t])
 have lc:(fJ ns none (some 63)).length<=63:=Nat.le_trans (sQ _ _ _) h63
 refine ⟨p1,p2,_,_,rfl,rfl,(upd_ne n12).trans upd_same,upd_same,?_,fun pc hpc=>?_⟩
 ·rw [lW,List.length_map]; exact sz (by simp; omega)
 have s3:=ah.new s2 hpc (.lst (g5 (ns.map V.int) none (some 63)++[.int t]))
 have ecs:g5 (ns.map V.int) none (some 63)++[.int t]=(fJ ns none (some 63)++[t]).map V.int:=by rw [lW,List.map_append]; rfl
 have lcs:1<=(fJ ns none (some 63)++[t]).length/\(fJ ns none (some 63)++[t]).length<=64:=by rw [List.length_append]; constructor<;>simp<;>omega
 rw [ecs] at s3 |-
 generalize hH3:upd (upd (upd H p1 (.lst (g5 (ns.map V.int) none (some 63)))) p2 (.lst [.int t])) pc (.lst ((fJ ns none (some 63)++[t]).map V.int))=H3 at s3 |-
 have hc3:H3 pc=some (.lst ((fJ ns none (some 63)++[t]).map V.int)):=by rw [<- hH3]; exact upd_same
 generalize fJ ns none (some 63)++[t]=cs at hc3 lcs |-
 refine ⟨Nat.zero_le _,fun pf hpf=>?_⟩
 have s4:=ah.new s3 hpf (.lst [])
 have fpf:H pf=none:=s3.free hpf
 have ncf:pc≠pf:=ao hc3 hpf
 have hc4:upd H3 pf (.lst []) pc=some (.lst (cs.map V.int)):=(upd_ne ncf).trans hc3
 have hf4:upd H3 pf (.lst []) pf=some (.lst (([]:List Int).map V.int)):=upd_same
 generalize upd H3 pf (.lst [])=H4 at s4 hc4 hf4 |-
 have at0:=eL (ns:=cs) (i:=0) (by decide) (by omega)
 have lm:(cs.map V.int).length=cs.length:=List.length_map _
 refine ⟨_,rfl,pc,_,_,_,rfl,rfl,ar.of hc4,at0,_,_,rfl,rfl,⟨by decide,by decide +kernel⟩,_,_,rfl,rfl,pm (by decide),rfl,_,rfl,iG (fun _=>?_) (fun _=>?_)⟩
 ·refine ⟨_,rfl,pc,rfl,⟨_,ar.of hc4⟩,fun D hD=>wm (fun v=>match v with | .int c=>.int (c / 100000) | v=>v) (by rw [lm]; exact sz (by omega)) (ar.of hc4) hD (fun i x H' R R0 hx hb hR=>?_) ?_⟩
  ·obtain ⟨c,rfl⟩:=n6 hx
   exact ⟨Ext.set rfl,mP (dP ⟨_,rfl,_,_,rfl,rfl,⟨by decide,by decide +kernel⟩,hR⟩)⟩
  ·have fD:H D=none:=s4.free hD
   have nfD:pf≠D:=ao hf4 hD
   have el:(cs.map V.int).map (fun v=>match v with | .int c=>V.int (c / 100000) | v=>v)=(cs.map (· / 100000)).map V.int:=by rw [List.map_map,List.map_map]; rfl
   rw [el]
   refine ⟨_,rfl,_,rfl,_,_,rfl,rfl,_,rfl,by omega,by omega,eD (lo:=0) (n:=(t+m).toNat) (fun i σ H'=>∃ (o1 o2 o3:Option V) (ls fs:List Int),σ=[some (.ref a),some (.int t),some (.int m),some (.ref pc),some (.ref pf),some (.ref D),o1,o2,o3]/\ah H H'/\H' D=some (.lst (ls.map V.int))/\ls.length=cs.length/\H' pf=some (.lst (fs.map V.int))/\fs.length=i/\∀ x∈fs,0<=x/\x < 2147483587)
    ⟨_,_,_,_,[],rfl,ah.new s4 hD _,upd_same,by simp,(upd_ne nfD).trans hf4,rfl,by simp⟩ ?_ ?_⟩
   ·rintro i σ H5 hi ⟨o1,o2,o3,ls,fs,rfl,sm,hl,ll,hf,lf,bf⟩
    have lml:(ls.map V.int).length=ls.length:=List.length_map _
    have pos:(0:Int) < (((ls.map V.int).length:Nat):Int):=by rw [lml]; omega
    have k0:=Int.emod_nonneg ((0:Int)+(i:Int)) (show (((ls.map V.int).length:Nat):Int)≠0 by omega)
    have k1:=Int.emod_lt_of_pos ((0:Int)+(i:Int)) pos
    refine ⟨_,rfl,_,rfl,D,_,rfl,.inl (ar.of hl),_,_,rfl,rfl,pos,?_⟩
    try dsimp only
    generalize ((0:Int)+(i:Int)) % (((ls.map V.int).length:Nat):Int)=k at k0 k1 |-
    rw [lml] at k1
    have atk:=eL (ns:=ls) (i:=k) k0 k1
    refine ⟨_,rfl,.inl ⟨rfl,_,ar.of hf⟩,_,rfl,_,rfl,D,_,_,_,rfl,rfl,ar.of hl,atk,_,_,rfl,rfl,pm (by decide),pf,_,_,rfl,rfl,hf,by rw [List.length_map]; exact jd (by omega),?_⟩
    have hl6:upd H5 pf (.lst (fs.map V.int++[.int (ls.getD k.toNat 0 % 2147483587)])) D=some (.lst (ls.map V.int)):=(upd_ne (Ne.symm nfD)).trans hl
    refine ⟨_,rfl,_,rfl,D,_,_,_,rfl,rfl,ar.of hl6,atk,_,_,rfl,rfl,⟨by decide,by decide +kernel⟩,_,rfl,_,rfl,D,_,_,_,rfl,rfl,hl6,tL k0 (by rw [lml]; exact k1),?_⟩
    refine ⟨_,_,_,ls.set k.toNat (ls.getD k.toNat 0 / 2147483587),fs++[ls.getD k.toNat 0 % 2147483587],rfl,(sm.upd fpf _).upd fD _,?_,by simpa using ll,?_,by simp [lf],?_⟩
    ·rw [upd_same,List.map_set]
    ·rw [upd_ne nfD,upd_same,List.map_append]; rfl
    ·intro x hx
     rcases List.mem_append.mp hx with z | z
     ·exact bf x z
     ·have:x=ls.getD k.toNat 0 % 2147483587:=by simpa using z
      rw [this]; exact M _
   ·rintro σ H5 ⟨o1,o2,o3,ls,fs,rfl,sm,hl,ll,hf,lf,bf⟩
    refine ⟨_,rfl,_,rfl,_,rfl,pf,_,rfl,ar.of hf,fun pr hpr=>?_⟩
    rw [lW,wL fs t0]
    refine q pr (fs.drop t.toNat) _ (ah.new sm hpr _) (sm.free hpr) upd_same ?_ fun x hx=>bf x (List.mem_of_mem_drop hx)
    rw [List.length_drop,lf]; omega
 ·refine ⟨_,rfl,_,rfl,by omega,by omega,eD (lo:=0) (n:=m.toNat) (fun i σ H'=>∃ (o1 o2 o3 o4:Option V) (fs:List Int),σ=[some (.ref a),some (.int t),some (.int m),some (.ref pc),some (.ref pf),o1,o2,o3,o4]/\ah H H'/\H' pc=some (.lst (cs.map V.int))/\H' pf=some (.lst (fs.map V.int))/\fs.length=i/\∀ x∈fs,0<=x/\x < 2147483587)
   ⟨_,_,_,_,[],rfl,s4,hc4,hf4,rfl,by simp⟩ ?_ ?_⟩
  ·rintro i σ H5 hi ⟨o1,o2,o3,o4,fs,rfl,sm,hc,hf,lf,bf⟩
   have pos:(0:Int) < (((cs.map V.int).length:Nat):Int):=by rw [lm]; omega
   have k0:=Int.emod_nonneg ((0:Int)+(i:Int)) (show (((cs.map V.int).length:Nat):Int)≠0 by omega)
   have k1:=Int.emod_lt_of_pos ((0:Int)+(i:Int)) pos
   have atk:=eL (ns:=cs) (i:=((0:Int)+(i:Int)) % (((cs.map V.int).length:Nat):Int)) k0 (by rw [<- lm]; exact k1)
   refine ⟨_,rfl,_,rfl,_,rfl,pc,_,rfl,.inl (ar.of hc),_,_,rfl,rfl,pos,pc,_,_,_,rfl,rfl,ar.of hc,atk,_,rfl,_,rfl,_,_,rfl,rfl,_,_,rfl,by omega,by omega,fun x x0 x1=>?_⟩
   refine ⟨_,rfl,.inl ⟨rfl,_,ar.of hf⟩,_,rfl,_,rfl,_,_,rfl,rfl,.inl ⟨by omega,by omega⟩,_,rfl,_,_,rfl,rfl,.inl ⟨by decide,by decide⟩,_,_,rfl,rfl,_,_,rfl,rfl,pm (by decide),pf,_,_,rfl,rfl,hf,by rw [List.length_map]; exact jd (by omega),?_⟩
   refine ⟨_,_,_,_,fs++[(x*x+7*((0:Int)+(i:Int))) % 2147483587],rfl,sm.upd fpf _,(upd_ne ncf).trans hc,?_,by simp [lf],?_⟩
   ·rw [upd_same,List.map_append]; rfl
   ·intro y hy
    rcases List.mem_append.mp hy with z | z
    ·exact bf y z
    ·have:y=(x*x+7*((0:Int)+(i:Int))) % 2147483587:=by simpa using z
     rw [this]; exact M _
  ·rintro σ H5 ⟨o1,o2,o3,o4,fs,rfl,sm,hc,hf,lf,bf⟩
   exact ⟨_,rfl,q pf fs H5 sm fpf hf lf bf⟩
theorem A1 (F:aV K "_law_text_by" "_law_text_by" jP f fd) {f0:Addr} {fd0:FuncData} (kI:Def P w K mg base "_law_draws" ["_law_script","_law_turn","_law_many"] 2 (me K ca) f0 fd0) (aO:mg "range" = none):az P w K mg base aZ 3 f fd ["_law_script","_law_size","_law_turn"] (rD K ca):=by
 refine F.ok eA (fun vs H Q E h=>?_) (fun cdv A outer s H vs Q E hr h=>?_)
 ·obtain ⟨a,ns,n,t,rfl,hS,h63,n0,n1,t0,t1,q⟩:=h
  rfl
 obtain ⟨a,ns,n,t,rfl,hS,h63,n0,n1,t0,t1,q⟩:=h
 refine ⟨_,ag (aB (i:=3) eA.nd rfl (Or.inl rfl) (aD kI hr (aa (pv 0) (aa (pv 2) (aa ai ab)))))
  (ag (aB (i:=4) eA.nd rfl (Or.inl rfl) (aw ck (aH bu (pv 3) ai (fun _ _=>rfl)) ai))
  (ag (aB (i:=5) eA.nd rfl (Or.inl rfl) (fg ab))
  (ag (aB (i:=6) eA.nd rfl (Or.inl rfl) ai)
  (ag (cX PassesOwn.never rfl (dy rfl aO (aa (aw dz ai (pv 1)) ab)) (aM (i:=7) eA.nd rfl (Or.inl rfl)) (ag (aB (i:=8) eA.nd rfl (Or.inl rfl) (aw bE (aw dz ai (pv 6)) (pv 7)))
  (ag (aB (i:=9) eA.nd rfl (Or.inl rfl) (dE cN (aw ck (aH bu (pv 3) (pv 7) (fun _ _=>rfl)) ai) ai (aF _)))
  (ag (aW (aJ cN (pv 4) ai (aF _)) (af (aB (i:=9) eA.nd rfl (Or.inl rfl) (dE jw (aw ck (aH bu (pv 3) (pv 7) (fun _ _=>rfl)) ai) ai (aF _)))) aN)
  (nz (aW (aJ cN (pv 4) ai (aF _)) (af (aB (i:=9) eA.nd rfl (Or.inl rfl) (dE cN (aw ck (aH bu (pv 3) (pv 7) (fun _ _=>rfl)) ai) ai (aF _)))) aN)
  (af (aW (PW.pt (m6 (aJ fR (pv 6) (pv 1) (aF _)) (jR (PW.pt (cA (aJ cN (pv 8) ai (aF _)) (cE (bb (pv 9)))))))) (ag (aT (dq PySem.F.plainAttrs_list PySem.F.slot_list_append PySem.F.type_list_append bR (pv 5) (aa bF ab)))
  (af (aB (i:=6) eA.nd rfl (Or.inl rfl) (aw cG (pv 6) ai)))) (af (aT (dq PySem.F.plainAttrs_list PySem.F.slot_list_append PySem.F.type_list_append bR (pv 5) (aa bF ab)))))))))))
  (af (au (dq PySem.F.plainAttrs_str PySem.F.slot_str_join PySem.F.type_str_join tP bF (aa (pv 5) ab)))))))),?_⟩
 refine ⟨_,rfl,_,rfl,a,ns,t,81,rfl,hS,h63,t0,t1,by decide,by decide,fun pd xs H1 sm1 fd hd lx bx=>?_⟩
 have lx':xs.length=81:=lx
 have at80:=eL (ns:=xs) (i:=80) (by decide) (by omega)
 refine ⟨_,rfl,pd,_,_,_,rfl,rfl,ar.of hd,at80,_,_,rfl,rfl,pm (by decide),?_⟩
 try dsimp only
 generalize xs.getD (80:Int).toNat 0 % 4=e
 refine ⟨Nat.zero_le _,fun ps hps=>?_⟩
 have nps:pd≠ps:=ao hd hps
 have fps:H ps=none:=sm1.free hps
 refine ⟨_,rfl,_,_,rfl,rfl,.inl ⟨by decide,by decide⟩,_,rfl,by omega,by omega,eD (lo:=0) (n:=(2*n).toNat) (fun i σ H'=>∃ (o1 o2 o3:Option V) (l:List Nat) (u h:Nat),σ=[some (.ref a),some (.int n),some (.int t),some (.ref pd),some (.int e),some (.ref ps),some (.int u),o1,o2,o3]/\ah H H'/\H' pd=some (.lst (xs.map V.int))/\H' ps=some (.lst (l.map sgn))/\oB n.toNat l i u h)
  ⟨_,_,_,[],0,0,rfl,ah.new sm1 hps _,(upd_ne nps).trans hd,upd_same,⟨rfl,rfl,Nat.zero_le _,fun t=>rfl⟩⟩ ?_ ?_⟩
 ·rintro i σ H5 hi ⟨o1,o2,o3,l,u,h,rfl,sm,hd5,hl,bg⟩
  have atk:=eL (ns:=xs) (i:=(0:Int)+(i:Int)) (by omega) (by omega)
  have bal:=bg.bal
  have le:=bg.le
  have ll:=bg.len
  have lmap:(l.map sgn).length < sizeLine:=by rw [List.length_map]; exact jd (by omega)
  refine ⟨_,rfl,_,_,rfl,rfl,.inl ⟨by decide,by decide⟩,_,rfl,_,_,rfl,rfl,?_⟩
  refine ⟨_,rfl,_,rfl,pd,_,_,_,rfl,rfl,ar.of hd5,atk,_,_,rfl,rfl,pm (by decide),rfl,?_⟩
  -- what the turn goes on with
  let P:L2.St->Hp->Prop:=fun σ' H'=>H'=H5/\∃ b:Bool,σ'=[some (.ref a),some (.int n),some (.int t),some (.ref pd),some (.int e),some (.ref ps),some (.int u),some (.int ((0:Int)+(i:Int))),some (.int (2*(u:Int) - ((0:Int)+(i:Int)))),some (.bl b)]
  refine ⟨_,rfl,rfl,_,rfl,iG (fun _=>⟨_,rfl,_,rfl,pd,_,_,_,rfl,rfl,ar.of hd5,atk,_,_,rfl,rfl,pm (by decide),_,_,rfl,rfl,P,?_,?_⟩) (fun _=>⟨P,?_,?_⟩)⟩
  case refine_1=>exact ⟨_,rfl,rfl,_,rfl,iG (fun _=>⟨_,rfl,_,rfl,pd,_,_,_,rfl,rfl,ar.of hd5,atk,_,_,rfl,rfl,pm (by decide),rfl,rfl,_,rfl⟩) (fun _=>⟨rfl,_,rfl⟩)⟩
  case refine_3=>exact ⟨_,rfl,rfl,_,rfl,iG (fun _=>⟨_,rfl,_,rfl,pd,_,_,_,rfl,rfl,ar.of hd5,atk,_,_,rfl,rfl,pm (by decide),rfl,rfl,_,rfl⟩) (fun _=>⟨rfl,_,rfl⟩)⟩
  all_goals
   rintro σ' H' ⟨rfl,b,rfl⟩
   refine ⟨_,rfl,_,rfl,_,_,rfl,rfl,_,rfl,?_⟩
   by_cases hu:(u:Int) < n
   ·refine dF hu ⟨_,rfl,rfl,_,rfl,?_⟩
    by_cases hh:h=0
    ·refine dF (congrArg V.int (by omega)) (dP ⟨_,rfl,.inl ⟨rfl,_,ar.of hl⟩,ps,_,_,rfl,rfl,hl,lmap,_,rfl,_,_,rfl,rfl,?_⟩)
     exact ⟨_,_,_,l++[40],u+1,h+1,rfl,sm.upd fps _,(upd_ne nps).trans hd5,by rw [upd_same,List.map_append,o8]; rfl,bg.up (by omega)⟩
    ·obtain ⟨h',rfl⟩:∃ h',h=h'+1:=⟨h - 1,by omega⟩
     refine eH (fun z=>by injection z with z; omega) ⟨_,rfl,_,rfl,?_⟩
     cases b with
     | true =>
      refine dP ⟨_,rfl,.inl ⟨rfl,_,ar.of hl⟩,ps,_,_,rfl,rfl,hl,lmap,_,rfl,_,_,rfl,rfl,?_⟩
      exact ⟨_,_,_,l++[40],u+1,h'+1+1,rfl,sm.upd fps _,(upd_ne nps).trans hd5,by rw [upd_same,List.map_append,o8]; rfl,bg.up (by omega)⟩
     | false =>
      refine bh ⟨_,rfl,.inl ⟨rfl,_,ar.of hl⟩,ps,_,_,rfl,rfl,hl,lmap,?_⟩
      exact ⟨_,_,_,l++[41],u,h',rfl,sm.upd fps _,(upd_ne nps).trans hd5,by rw [upd_same,List.map_append,pJ]; rfl,bg.down⟩
   ·obtain ⟨h',rfl⟩:∃ h',h=h'+1:=⟨h - 1,by omega⟩
    refine eH hu (bh ⟨_,rfl,.inl ⟨rfl,_,ar.of hl⟩,ps,_,_,rfl,rfl,hl,lmap,?_⟩)
    exact ⟨_,_,_,l++[41],u,h',rfl,sm.upd fps _,(upd_ne nps).trans hd5,by rw [upd_same,List.map_append,pJ]; rfl,bg.down⟩
 ·rintro σ H5 ⟨o1,o2,o3,l,u,h,rfl,sm,hd5,hl,bg⟩
  have bal:=bg.bal
  have le:=bg.le
  have ll:=bg.len
  have hz:h=0:=by omega
  subst hz
  refine ⟨rfl,_,rfl,_,ps,l.map rY,rfl,rfl,ar.of (by rw [hl,zD]),?_,?_⟩
  ·rw [nR]
   have e0:(Str.ofString "").length=0:=by decide +kernel
   show l.length+(l.map rY).length*(Str.ofString "").length<=16777216
   rw [e0,Nat.mul_zero]
   omega
  ·refine q _ H5 sm ?_ ?_
   ·rw [lD]
    have:=bg.clo []
    rw [List.append_nil] at this
    rw [this]; rfl
   ·rw [rb (lD l),ll]; omega
theorem AM (F:aV K "_law_cell_at" "_law_cell_at" kM f fd) (aE:mg "len" = none):az P w K mg base aZ 1 f fd ["_law_script","_law_k"] (qo K ca):=by
 refine F.ok BP (fun vs H Q E h=>?_) (fun cdv A outer s H vs Q E hr h=>?_)
 ·obtain ⟨a,ns,k,rfl,hS,h0,q⟩:=h
  rfl
 obtain ⟨a,ns,k,rfl,hS,h0,q⟩:=h
 refine ⟨_,ag (aW (aJ fR (pv 1) (ax aG rfl aE bt (aa (pv 0) ab)) (aF _)) (af (au (aH bu (pv 0) (pv 1) (fun _ _=>rfl)))) aN)
  (af (au ai)),?_⟩
 have hl:(ns.map V.int).length=ns.length:=List.length_map _
 refine ⟨_,rfl,_,rfl,a,_,rfl,.inl hS,_,_,rfl,rfl,_,rfl,iG (fun c=>?_) (fun c=>?_)⟩
 ·have c':k < (((ns.map V.int).length:Nat):Int):=of_decide_eq_true c
  rw [hl] at c'
  exact ⟨_,rfl,_,rfl,a,_,_,_,rfl,rfl,hS,eL h0 c',q⟩
 ·have c':¬ k < (((ns.map V.int).length:Nat):Int):=of_decide_eq_false (Bool.eq_false_iff.mpr c)
  rw [hl] at c'
  have e:ns.getD k.toNat 0=0:=by rw [List.getD_eq_getElem?_getD,List.getElem?_eq_none (by omega)]; rfl
  rw [e] at q
  exact q
theorem Bk (F:aV K "_law_twins_by" "_law_twins_by" kj f fd) (aO:mg "range" = none) (aE:mg "len" = none):az P w K mg base aZ 1 f fd ["_law_text"] (qz K ca):=by
 refine F.ok iw (fun vs H Q E h=>?_) (fun cdv A outer s H vs Q E hr h=>?_)
 ·obtain ⟨x,t,rfl,hx,h40,q⟩:=h
  rfl
 obtain ⟨x,t,rfl,hx,h40,q⟩:=h
 refine ⟨_,ag (aB (i:=1) iw.nd rfl (Or.inl rfl) (fg ab))
  (ag (aB (i:=2) iw.nd rfl (Or.inl rfl) (bA ab))
  (ag (cX PassesOwn.never rfl (zg rfl aO (aa (aw bE (ax e7 rfl aE bt (aa (pv 0) ab)) ai) (aa (um qJ ai) (aa (um qJ ai) ab)))) (aM (i:=3) iw.nd rfl (Or.inl rfl)) (af (aW (aJ cN (aH jo (pv 0) (pv 3) (fun _ _=>rfl)) bF (aF _)) (ag (aT (dq PySem.F.plainAttrs_list PySem.F.slot_list_append PySem.F.type_list_append bR (pv 1) (aa (pv 2) ab)))
  (af (aB (i:=2) iw.nd rfl (Or.inl rfl) (bA ab)))) (af (aB (i:=2) iw.nd rfl (Or.inl rfl) (bA (aa (pv 2) (aa (wg PySem.F.plainAttrs_list PySem.F.slot_list_pop PySem.F.type_list_pop xa (pv 1)) ab))))))))
  (af (au (pv 2))))),?_⟩
 have lx:x.length=2*t.size:=by rw [<- bJ,hx,eW]
 have lz:x.length<=sizeLine:=sz (by omega)
 have lc:(brk t).length=2*t.size:=eW t
 refine ⟨Nat.zero_le _,fun pr hpr=>⟨Nat.zero_le _,fun pt hpt=>?_⟩⟩
 have s1:=ah.new (ah.refl H) hpr (.lst [])
 have s2:=ah.new s1 hpt (.tup [])
 have h1:upd H pr (.lst []) pr=some (.lst []):=upd_same
 have hr2:=(upd_ne (o:=.tup []) (ao h1 hpt)).trans h1
 have full:=lI t []
 refine ⟨_,rfl,x,rfl,lz,_,_,rfl,rfl,_,rfl,_,rfl,_,_,rfl,⟨by omega,by omega,by decide,by decide⟩,ym (lo:=(x.length:Int) - 1) (n:=((x.length:Int) - 1 - (-1)).toNat) (fun i σ H'=>∃ (o:Option V) (v:V) (h:Bt) (ps:List Bt) (xs:List V),σ=[some (.str x),some (.ref pr),some v,o]/\ah H H'/\H' pr=some (.lst xs)/\Tw H' v h/\eU H' xs ps.reverse/\dc ((brk t).drop (2*t.size - i)) (.leaf,[])=some (h,ps)/\xs.length<=i/\i<=2*t.size)
  ⟨_,_,.leaf,[],[],rfl,s2,hr2,⟨pt,rfl,upd_same⟩,.nil,by rw [Nat.sub_zero,List.drop_eq_nil_of_le (by omega)]; rfl,Nat.le_refl _,Nat.zero_le _⟩ ?_ ?_⟩
 ·rintro i σ H5 hi ⟨o,v,h,ps,xs,rfl,s5,hr5,tw,tws,run,lxs,hi2⟩
  have ep:((x.length:Int) - 1 - (i:Int)).toNat=2*t.size - (i+1):=by omega
  have hk:2*t.size - (i+1) < (brk t).length:=by omega
  obtain ⟨y,y',r1,st,r2⟩:=sV full (List.getElem?_eq_getElem hk)
  rw [show 2*t.size - (i+1)+1=2*t.size - i by omega,run] at r1
  cases r1
  have hat:=jv (x:=x) (i:=(x.length:Int) - 1 - (i:Int)) (by omega) (by rw [ep,hx]; exact List.getElem?_eq_getElem hk)
  generalize (brk t)[2*t.size - (i+1)]=c at hat st
  refine ⟨_,rfl,_,rfl,x,_,c,rfl,rfl,lz,hat,rfl,_,rfl,nG (pD c) ?_⟩
  have fpr:H pr=none:=hpr
  by_cases hc:c=41
  ·subst hc
   have st:some (Bt.leaf,h::ps)=some y':=st
   cases st
   refine dF rfl ⟨_,rfl,.inl ⟨rfl,_,ar.of hr5⟩,_,rfl,pr,_,_,rfl,rfl,hr5,jd (by omega),Nat.zero_le _,fun pe hpe=>?_⟩
   have h6:upd H5 pr (.lst (xs++[v])) pr=some (.lst (xs++[v])):=upd_same
   have kp:∀ p zs,H5 p=some (.tup zs)->upd (upd H5 pr (.lst (xs++[v]))) pe (.tup []) p=some (.tup zs):=fun p zs e=>by
    have n1:p≠pr:=fun z=>by rw [z,hr5] at e; cases e
    have e2:=(upd_ne (o:=.lst (xs++[v])) n1).trans e
    exact (upd_ne (ao e2 hpe)).trans e2
   refine ⟨_,_,.leaf,h::ps,xs++[v],rfl,ah.new (s5.upd fpr _) hpe _,(upd_ne (ao h6 hpe)).trans h6,⟨pe,rfl,upd_same⟩,?_,r2,by simp; omega,by omega⟩
   rw [List.reverse_cons]
   exact (tws.keep kp).app (.cons (tw.keep kp) .nil)
  ·unfold stepT at st
   simp only [if_neg hc] at st
   cases ps with
   | nil=>cases st
   | cons p ps =>
    cases st
    rw [List.reverse_cons] at tws
    obtain ⟨ys,y,us,u,rfl,e2,tus,tu⟩:=tws.unsnoc (by intro z; have:=tws.len; rw [z] at this; simp at this)
    obtain ⟨rfl,e3⟩:=List.append_inj' e2 rfl
    cases e3
    have hlast:(ys++[y])[(ys++[y]).length - 1]? = some y:=by simp
    refine eH hc ⟨_,rfl,_,rfl,.inl ⟨rfl,_,ar.of hr5⟩,pr,_,_,rfl,rfl,hr5,hlast,?_⟩
    rw [List.dropLast_concat]
    refine ⟨(by show 2<=sizeLine; decide),fun pe hpe=>?_⟩
    have h6:upd H5 pr (.lst ys) pr=some (.lst ys):=upd_same
    have kp:∀ p zs,H5 p=some (.tup zs)->upd (upd H5 pr (.lst ys)) pe (.tup [v,y]) p=some (.tup zs):=fun p zs e=>by
     have n1:p≠pr:=fun z=>by rw [z,hr5] at e; cases e
     have e2:=(upd_ne (o:=.lst ys) n1).trans e
     exact (upd_ne (ao e2 hpe)).trans e2
    exact ⟨_,_,.node h p,ps,ys,rfl,ah.new (s5.upd fpr _) hpe _,(upd_ne (ao h6 hpe)).trans h6,⟨pe,v,y,rfl,upd_same,tw.keep kp,tu.keep kp⟩,tus.keep kp,r2,by simp at lxs; omega,by omega⟩
 ·rintro σ H5 ⟨o,v,h,ps,xs,rfl,s5,hr5,tw,tws,run,lxs,hi2⟩
  rw [show 2*t.size - ((x.length:Int) - 1 - (-1)).toNat=0 by omega,List.drop_zero,full] at run
  cases run
  exact ⟨_,rfl,q _ _ s5 tw⟩
theorem Ah (F:aV K "__init__" "Family.__init__" ku ca.o6 fd):az P w K mg base aZ 1 ca.o6 fd ["self","word","least"] (qp K ca):=by
 refine F.ok AQ (fun vs H Q E h=>?_) (fun cdv A outer s H vs Q E hr h=>?_)
 ·obtain ⟨x,dx,w,l,rfl,hx,q⟩:=h
  rfl
 obtain ⟨x,dx,w,l,rfl,hx,q⟩:=h
 refine ⟨_,ag (eT (pv 0) (pv 1) rfl)
  (af (eT (pv 0) (pv 2) rfl)),?_⟩
 refine ⟨_,rfl,_,rfl,x,ca.aR,dx,_,rfl,hx,CA.jV,CA.d5,(by show 0 < 1000; decide),?_⟩
 refine ⟨_,rfl,_,rfl,x,ca.aR,dx,_,rfl,upd_same,CA.jV,CA.dO,(by show 1 < 1000; decide),?_⟩
 exact q _ _ gz (iu w l)
theorem CU (F:aV K "__init__" "SplitFamily.__init__" n8 ca.u6 fd) {fd0:FuncData} (vO:aS P w K mg base ["self","word","least"] 1 (qp K ca) ca.o6 fd0):az P w K mg base aZ 3 ca.u6 fd ["self","word"] (uI K ca):=by
 refine F.ok CK (fun vs H Q E h=>?_) (fun cdv A outer s H vs Q E hr h=>?_)
 ·obtain ⟨x,dx,w,rfl,hx,q⟩:=h
  rfl
 obtain ⟨x,dx,w,rfl,hx,q⟩:=h
 refine ⟨_,af (aT (hJ CA.gN CA.cm_Family___init___Twins vO hr (aa (pv 0) (aa (pv 1) (aa ai ab))))),?_⟩
 exact ⟨_,rfl,_,rfl,x,dx,w,0,rfl,hx,fun fs H' e f=>q fs H' e f⟩
theorem Br (F:aV K "__init__" "Twins.__init__" j0 ca.pN fd) {fd0:FuncData} (xV:aS P w K mg base ["self","word"] 3 (uI K ca) ca.u6 fd0):az P w K mg base aZ 5 ca.pN fd ["self"] (rB K ca):=by
 refine F.ok z9 (fun vs H Q E h=>?_) (fun cdv A outer s H vs Q E hr h=>?_)
 ·obtain ⟨x,dx,rfl,hx,q⟩:=h
  rfl
 obtain ⟨x,dx,rfl,hx,q⟩:=h
 refine ⟨_,af (aT (hJ CA.dX CA.cm_SplitFamily___init___Twins xV hr (aa (pv 0) (aa bF ab)))),?_⟩
 exact ⟨_,rfl,x,dx,_,rfl,hx,fun fs H' e f=>q fs H' e f⟩
theorem BO (F:aV K "is_one" "Twins.is_one" ju ca.pM fd):az P w K mg base aZ 1 ca.pM fd ["self","thing"] (qq K ca):=by
 refine F.ok Au (fun vs H Q E h=>?_) (fun cdv A outer s H vs Q E hr h=>?_)
 ·obtain ⟨x,v,b,rfl,th,q⟩:=h
  rfl
 obtain ⟨x,v,b,rfl,th,q⟩:=h
 refine ⟨_,af (au bI),?_⟩
 exact q _ (ah.refl H)
theorem Dg (F:aV K "refuse_other" "Family.refuse_other" nE ca.vQ fd) {fd0:FuncData} (uf:aS P w K mg base ["self","thing"] 1 (qq K ca) ca.pM fd0):az P w K mg base aZ 2 ca.vQ fd ["self","thing"] (uu K ca):=by
 refine F.ok C2 (fun vs H Q E h=>?_) (fun cdv A outer s H vs Q E hr h=>?_)
 ·obtain ⟨x,dx,fs,wd,v,t,rfl,hx,fl,th,q⟩:=h
  rfl
 obtain ⟨x,dx,fs,wd,v,t,rfl,hx,fl,th,q⟩:=h
 refine ⟨_,af (aW (br (bb (fO (pv 0) CA.jV CA.mt_Twins_is_one uf hr (aa (pv 1) ab)))) (af gP) aN),?_⟩
 exact ⟨_,rfl,x,dx,fs,rfl,hx,fl.no "is_one" (by decide) (by decide),_,rfl,x,v,t,rfl,th,fun H1 s1=>⟨_,rfl,bh (q H1 s1)⟩⟩
theorem Ap (F:aV K "mirrored_twins" "mirrored_twins" jN f fd) (n:Nat) (gG:Def P w K mg base "mirrored_twins" ["twin"] (0+n) (below n fun m=>mY K ca m) f fd):az P w K mg base (m7 P w) (0+n+1) f fd ["twin"] (mY K ca n):=by
 refine az.up ?_
 refine F.ok Af (fun vs H Q E h=>?_) (fun cdv A outer s H vs Q E hr h=>?_)
 ·obtain ⟨v,t,rfl,tv,hn,h40,q⟩:=h
  rfl
 obtain ⟨v,t,rfl,tv,hn,h40,q⟩:=h
 refine ⟨_,ag (aW (aJ (wc (gW hr)) (pv 0) (bA ab) (aF _)) (af (au (bA ab))) aN)
  (af (au (bA (aa (aD gG hr (aa (aH bB (pv 0) ai (fun _ _=>rfl)) ab) (hjk:=by omega)) (aa (aD gG hr (aa (aH bB (pv 0) ai (fun _ _=>rfl)) ab) (hjk:=by omega)) ab))))),?_⟩
 obtain ⟨p,zs,rfl,hp,hz⟩:=tv.ref
 refine ⟨_,rfl,Nat.zero_le _,fun pt hpt=>?_⟩
 have npt:p≠pt:=ao hp hpt
 have s1:=ah.new (ah.refl H) hpt (.tup [])
 have hp1:=s1 _ _ hp
 refine ⟨1,_,by decide,cT.unit npt (a9.of hp1) (a9.of upd_same),⟨p,pt,rfl,rfl,npt⟩,_,rfl,?_⟩
 generalize upd H pt (.tup [])=H1 at s1 hp1 |-
 cases t with
 | leaf =>
  have ez:=hz.mpr rfl
  subst ez
  exact eqT (decide_eq_true rfl) ⟨Nat.zero_le _,fun pe hpe=>q _ _ (ah.new s1 hpe _) (s1.free hpe) ⟨pe,rfl,upd_same⟩⟩
 | node l r =>
  have ez:zs≠[]:=fun z=>by cases hz.mp z
  obtain ⟨p',a,b,e1,hp',tl,tr⟩:=tv
  cases e1
  rw [hp] at hp'
  cases hp'
  have hn:l.size+r.size+1=n:=hn
  refine Dj (decide_eq_false ez) ⟨_,rfl,p,_,_,_,rfl,rfl,a9.of hp1,rfl,r.size,by omega,b,r,rfl,Tw.same s1 tr,rfl,by omega,fun u2 H2 s2 _ tu2=>?_⟩
  have s12:=s1.trans s2
  refine ⟨_,rfl,p,_,_,_,rfl,rfl,a9.of (s12 _ _ hp),rfl,l.size,by omega,a,l,rfl,Tw.same s12 tl,rfl,by omega,fun u3 H3 s3 _ tu3=>⟨(by show 2<=sizeLine; decide),fun pe hpe=>?_⟩⟩
  have k4:=ah.new (ah.refl H3) hpe (.tup [.ref u2,.ref u3])
  exact q _ _ ((s12.trans s3).trans k4) ((s12.trans s3).free hpe) ⟨pe,.ref u2,.ref u3,rfl,upd_same,Tw.same (s3.trans k4) tu2,Tw.same k4 tu3⟩
theorem Ca (F:aV K "twins_mirror" "twins_mirror" kg f fd) {fd0:FuncData} (vL:aS P w K mg base ["self"] 5 (rB K ca) ca.pN fd0) {fd1:FuncData} (xR:aS P w K mg base ["self","thing"] 2 (uu K ca) ca.vQ fd1) {f2:Addr} {fd2:FuncData} (uF:Def P w K mg base "mirrored_twins" ["twin"] 42 (sU K ca) f2 fd2):az P w K mg base aZ 43 f fd ["thing"] (qM K ca):=by
 refine F.ok By (fun vs H Q E h=>?_) (fun cdv A outer s H vs Q E hr h=>?_)
 ·obtain ⟨v,t,rfl,tv,h40,q⟩:=h
  rfl
 obtain ⟨v,t,rfl,tv,h40,q⟩:=h
 refine ⟨_,ag (aT (fO (ji CA.mk_Twins CA.zo vL hr) CA.jV CA.mt_Twins_refuse_other xR hr (aa (pv 0) ab)))
  (af (au (aD uF hr (aa (pv 0) ab)))),?_⟩
 intro b db nb ndb neb
 refine ⟨b,db,rfl,upd_same,fun fsb Hb1 eb fb=>⟨rfl,?_⟩⟩
 have sb:ah H Hb1:=by rw [eb]; exact ((ah.new (ah.refl H) ndb _).upd nb _).upd nb _
 have hb:Hb1 b=some (.ins ca.aR db fsb):=by rw [eb]; exact upd_same
 refine ⟨b,db,fsb,rfl,hb,fb.no "refuse_other" (by decide) (by decide),_,rfl,b,db,fsb,_,v,t,rfl,hb,fb,Tw.same sb tv,fun H2 s2=>?_⟩
 have t2:=sb.trans s2
 exact ⟨_,rfl,t.size,by omega,v,t,rfl,Tw.same t2 tv,rfl,h40,fun u H3 s3 _ tu=>q (.ref u) H3 (t2.trans s3) tu⟩
theorem BZ (F:aV K "_law_same_twins" "_law_same_twins" jX f fd) (aK:mg "isinstance" = none) (eP:mg "tuple" = none) (aE:mg "len" = none) (aO:mg "range" = none) (n:Nat) (gG:Def P w K mg base "_law_same_twins" ["_law_found","_law_due"] (0+n) (below n fun m=>mB K ca m) f fd):az P w K mg base (m7 P w) (0+n+1) f fd ["_law_found","_law_due"] (mB K ca n):=by
 refine az.up ?_
 refine F.ok xy (fun vs H Q E h=>?_) (fun cdv A outer s H vs Q E hr h=>?_)
 ·obtain ⟨v,u,t,rfl,tv,tu,hn,h40,q⟩:=h
  rfl
 obtain ⟨v,u,t,rfl,tv,tu,hn,h40,q⟩:=h
 refine ⟨_,ag (aW (PW.pt (cA (br (bb (ax cw rfl aK bL (aa (pv 0) (aa (eO (v:=.ty "tuple") rfl eP lC rfl) ab))))) (cE (aJ fV (ax aG rfl aE bt (aa (pv 0) ab)) (ax aG rfl aE bt (aa (pv 1) ab)) (aF _))))) (af (au bI)) aN)
  (ag (cX PassesOwn.never rfl (dy rfl aO (aa (ax aG rfl aE bt (aa (pv 1) ab)) ab)) (aM (i:=2) xy.nd rfl (Or.inl rfl)) (af (aW (br (bb (aD gG hr (aa (aH bB (pv 0) (pv 2) (fun _ _=>rfl)) (aa (aH bB (pv 1) (pv 2) (fun _ _=>rfl)) ab)) (hjk:=by omega)))) (af (au bI)) aN)))
  (af (au bI))),?_⟩
 obtain ⟨p,xs,rfl,hp,txs⟩:=tv.kids
 obtain ⟨r,ys,rfl,hr2,tys⟩:=tu.kids
 have lx:=txs.len
 have ly:=tys.len
 have lk:(kids t).length<=2:=by cases t<;>simp [kids]
 refine ⟨_,rfl,_,_,_,_,_,rfl,gq,.tup hp,e6,_,rfl,bh ⟨_,rfl,p,_,rfl,.inr (a9.of hp),_,rfl,r,_,rfl,.inr (a9.of hr2),rfl,_,rfl,fQ (congrArg (fun k:Nat=>V.int (k:Int)) (lx.trans ly.symm)) ?_⟩⟩
 refine ⟨_,rfl,r,_,rfl,.inr (a9.of hr2),_,rfl,by omega,by omega,eD (lo:=0) (n:=((ys.length:Nat):Int).toNat) (fun i σ H'=>H=H'/\∃ o,σ=[some (.ref p),some (.ref r),o]) ⟨rfl,_,rfl⟩ ?_ ?_⟩
 ·rintro i σ H' hi ⟨rfl,o,rfl⟩
  have hik:i < (kids t).length:=by omega
  have eb:(kids t)[i]? = some (kids t)[i]:=List.getElem?_eq_getElem hik
  have sb:=vS (List.getElem_mem hik)
  obtain ⟨y1,e1,t1⟩:=txs.at eb
  obtain ⟨y2,e2,t2⟩:=tys.at eb
  generalize (kids t)[i]=b at sb t1 t2
  have at1:fh xs ((0:Int)+(i:Int))=some y1:=by rw [Int.zero_add]; exact fE e1
  have at2:fh ys ((0:Int)+(i:Int))=some y2:=by rw [Int.zero_add]; exact fE e2
  exact ⟨_,rfl,_,rfl,p,_,_,_,rfl,rfl,a9.of hp,at1,_,rfl,_,rfl,r,_,_,_,rfl,rfl,a9.of hr2,at2,b.size,by omega,y1,y2,b,rfl,t1,t2,rfl,by omega,_,rfl,bh ⟨rfl,_,rfl⟩⟩
 ·rintro σ H' ⟨rfl,o,rfl⟩
  exact q
theorem AL (F:aV K "_law_over" "_law_over" jA f fd) (n:Nat) (gG:Def P w K mg base "_law_over" ["_law_thing"] (0+n) (below n fun m=>ma K ca m) f fd):az P w K mg base (m7 P w) (0+n+1) f fd ["_law_thing"] (ma K ca n):=by
 refine az.up ?_
 refine F.ok Bw (fun vs H Q E h=>?_) (fun cdv A outer s H vs Q E hr h=>?_)
 ·obtain ⟨v,t,rfl,tv,hn,h40,q⟩:=h
  rfl
 obtain ⟨v,t,rfl,tv,hn,h40,q⟩:=h
 refine ⟨_,ag (aW (aJ (wc (gW hr)) (pv 0) (bA ab) (aF _)) (af (au (bA ab))) aN)
  (af (au (bA (aa (aD gG hr (aa (aH bB (pv 0) ai (fun _ _=>rfl)) ab) (hjk:=by omega)) (aa (aD gG hr (aa (aH bB (pv 0) ai (fun _ _=>rfl)) ab) (hjk:=by omega)) ab))))),?_⟩
 obtain ⟨p,zs,rfl,hp,hz⟩:=tv.ref
 refine ⟨_,rfl,Nat.zero_le _,fun pt hpt=>?_⟩
 have npt:p≠pt:=ao hp hpt
 have s1:=ah.new (ah.refl H) hpt (.tup [])
 have hp1:=s1 _ _ hp
 refine ⟨1,_,by decide,cT.unit npt (a9.of hp1) (a9.of upd_same),⟨p,pt,rfl,rfl,npt⟩,_,rfl,?_⟩
 generalize upd H pt (.tup [])=H1 at s1 hp1 |-
 cases t with
 | leaf =>
  have ez:=hz.mpr rfl
  subst ez
  exact eqT (decide_eq_true rfl) ⟨Nat.zero_le _,fun pe hpe=>q _ _ (ah.new s1 hpe _) (s1.free hpe) ⟨pe,rfl,upd_same⟩⟩
 | node l r =>
  have ez:zs≠[]:=fun z=>by cases hz.mp z
  obtain ⟨p',a,b,e1,hp',tl,tr⟩:=tv
  cases e1
  rw [hp] at hp'
  cases hp'
  have hn:l.size+r.size+1=n:=hn
  refine Dj (decide_eq_false ez) ⟨_,rfl,p,_,_,_,rfl,rfl,a9.of hp1,rfl,r.size,by omega,b,r,rfl,Tw.same s1 tr,rfl,by omega,fun u2 H2 s2 _ tu2=>?_⟩
  have s12:=s1.trans s2
  refine ⟨_,rfl,p,_,_,_,rfl,rfl,a9.of (s12 _ _ hp),rfl,l.size,by omega,a,l,rfl,Tw.same s12 tl,rfl,by omega,fun u3 H3 s3 _ tu3=>⟨(by show 2<=sizeLine; decide),fun pe hpe=>?_⟩⟩
  have k4:=ah.new (ah.refl H3) hpe (.tup [.ref u2,.ref u3])
  exact q _ _ ((s12.trans s3).trans k4) ((s12.trans s3).free hpe) ⟨pe,.ref u2,.ref u3,rfl,upd_same,Tw.same (s3.trans k4) tu2,Tw.same k4 tu3⟩
theorem BL (F:aV K "__init__" "Family.__init__" ko ca.oZ fd):az P w K mg base aZ 1 ca.oZ fd ["self","word","least"] (qC K ca):=by
 refine F.ok BW (fun vs H Q E h=>?_) (fun cdv A outer s H vs Q E hr h=>?_)
 ·obtain ⟨x,dx,w,l,rfl,hx,q⟩:=h
  rfl
 obtain ⟨x,dx,w,l,rfl,hx,q⟩:=h
 refine ⟨_,ag (eT (pv 0) (pv 1) rfl)
  (af (eT (pv 0) (pv 2) rfl)),?_⟩
 refine ⟨_,rfl,_,rfl,x,ca.aC,dx,_,rfl,hx,CA.gy,CA.cU,(by show 0 < 1000; decide),?_⟩
 refine ⟨_,rfl,_,rfl,x,ca.aC,dx,_,rfl,upd_same,CA.gy,CA.cK,(by show 1 < 1000; decide),?_⟩
 exact q _ _ gz (iu w l)
theorem Cp (F:aV K "__init__" "SplitFamily.__init__" nQ ca.vz fd) {fd0:FuncData} (uo:aS P w K mg base ["self","word","least"] 1 (qC K ca) ca.oZ fd0):az P w K mg base aZ 3 ca.vz fd ["self","word"] (ud K ca):=by
 refine F.ok CJ (fun vs H Q E h=>?_) (fun cdv A outer s H vs Q E hr h=>?_)
 ·obtain ⟨x,dx,w,rfl,hx,q⟩:=h
  rfl
 obtain ⟨x,dx,w,rfl,hx,q⟩:=h
 refine ⟨_,af (aT (hJ CA.gN CA.cm_Family___init___Brackets uo hr (aa (pv 0) (aa (pv 1) (aa ai ab))))),?_⟩
 exact ⟨_,rfl,_,rfl,x,dx,w,0,rfl,hx,fun fs H' e f=>q fs H' e f⟩
theorem BH (F:aV K "__init__" "Brackets.__init__" j6 ca.ph fd) {fd0:FuncData} (xK:aS P w K mg base ["self","word"] 3 (ud K ca) ca.vz fd0):az P w K mg base aZ 5 ca.ph fd ["self"] (sA K ca):=by
 refine F.ok BY (fun vs H Q E h=>?_) (fun cdv A outer s H vs Q E hr h=>?_)
 ·obtain ⟨x,dx,rfl,hx,q⟩:=h
  rfl
 obtain ⟨x,dx,rfl,hx,q⟩:=h
 refine ⟨_,af (aT (hJ CA.dX CA.cm_SplitFamily___init___Brackets xK hr (aa (pv 0) (aa bF ab)))),?_⟩
 exact ⟨_,rfl,x,dx,_,rfl,hx,fun fs H' e f=>q fs H' e f⟩
theorem BN (F:aV K "closes" "closes" jT f fd):az P w K mg base aZ 1 f fd ["text"] (qV K ca):=by
 refine F.ok jn (fun vs H Q E h=>?_) (fun cdv A outer s H vs Q E hr h=>?_)
 ·obtain ⟨x,rfl,q⟩:=h
  rfl
 obtain ⟨x,rfl,q⟩:=h
 refine ⟨_,ag (aB (i:=1) jn.nd rfl (Or.inl rfl) ai)
  (ag (cX PassesOwn.never rfl (wa (pv 0)) (aM (i:=2) jn.nd rfl (Or.inl rfl)) (af (aW (aJ cN (pv 2) bF (aF _)) (af (qU (i:=1) jn.nd rfl (Or.inl rfl) ai xC)) (af (aW (PW.pt (m6 (aJ cN (pv 2) bF (aF _)) (jR (aJ jw (pv 1) ai (aF _))))) (af (qU (i:=1) jn.nd rfl (Or.inl rfl) ai Cd)) (af (au bI)))))))
  (af (au (dE cN (pv 1) ai (aF _))))),?_⟩
 have fin:∀ b,clo 0 x.cps.toList=b->Q (.bl b) H:=fun b h=>by rw [<- h]; exact q
 refine ⟨_,rfl,x,rfl,tG (x:=x) (fun i σ H'=>H'=H/\∃ (o:Option V) (d:Nat),σ=[some (.str x),some (.int d),o]/\clo 0 x.cps.toList=clo d (x.cps.toList.drop i)) ⟨rfl,none,0,rfl,rfl⟩ ?_ ?_⟩
 ·rintro i c σ H' hc ⟨rfl,o,d,rfl,e⟩
  rw [yh hc] at e
  refine ⟨_,rfl,rfl,_,rfl,nG (pI c) ?_⟩
  by_cases h1:c=40
  ·refine dF h1 ⟨_,rfl,_,_,rfl,rfl,rfl,_,d+1,rfl,?_⟩
   rw [e,h1,eR]
  ·refine eH h1 ⟨_,rfl,rfl,_,rfl,nG (pD c) ?_⟩
   by_cases h2:c=41
   ·refine dF h2 ⟨_,rfl,_,_,rfl,rfl,_,rfl,?_⟩
    cases d with
    | zero=>exact bh (fin false (by rw [e,h2,gR]))
    | succ d =>
     refine dF (by omega) ⟨_,rfl,_,_,rfl,rfl,rfl,some (.str ⟨#[c]⟩),d,?_,?_⟩
     ·show [some (V.str x),some (V.int (((d+1:Nat):Int) - 1)),some (V.str ⟨#[c]⟩)]=_
      rw [show ((d+1:Nat):Int) - 1=(d:Int) by omega]
     ·rw [e,h2,dU]
   ·exact eH h2 (bh (fin false (by rw [e,fY h1 h2])))
 ·rintro σ H' ⟨rfl,o,d,rfl,e⟩
  refine ⟨_,rfl,rfl,fin _ ?_⟩
  rw [e,ye,ip]
  cases d with
  | zero=>rfl
  | succ d=>exact (decide_eq_false fun z=>by injection z with z; omega).symm
theorem Bx (F:aV K "is_one" "Brackets.is_one" kd ca.pF fd) {f0:Addr} {fd0:FuncData} (uA:Def P w K mg base "closes" ["text"] 1 (qV K ca) f0 fd0):az P w K mg base aZ 2 ca.pF fd ["self","thing"] (qT K ca):=by
 refine F.ok Ac (fun vs H Q E h=>?_) (fun cdv A outer s H vs Q E hr h=>?_)
 ·obtain ⟨x,t,rfl,q⟩:=h
  rfl
 obtain ⟨x,t,rfl,q⟩:=h
 refine ⟨_,af (au (aD uA hr (aa (pv 1) ab))),?_⟩
 exact ⟨_,rfl,t,rfl,q⟩
theorem CS (F:aV K "refuse_other" "Family.refuse_other" nZ ca.vC fd) {fd0:FuncData} (vG:aS P w K mg base ["self","thing"] 2 (qT K ca) ca.pF fd0):az P w K mg base aZ 3 ca.vC fd ["self","thing"] (uh K ca):=by
 refine F.ok C3 (fun vs H Q E h=>?_) (fun cdv A outer s H vs Q E hr h=>?_)
 ·obtain ⟨x,dx,fs,t,rfl,hx,fo,hB,q⟩:=h
  rfl
 obtain ⟨x,dx,fs,t,rfl,hx,fo,hB,q⟩:=h
 refine ⟨_,af (aW (br (bb (fO (pv 0) CA.gy CA.mt_Brackets_is_one vG hr (aa (pv 1) ab)))) (af gP) aN),?_⟩
 exact ⟨_,rfl,x,dx,fs,rfl,hx,fo,_,rfl,x,t,rfl,_,rfl,by rw [hB]; exact bh (q H (ah.refl H))⟩
theorem A7 (F:aV K "brackets_mirror" "brackets_mirror" jY f fd) {fd0:FuncData} (u0:aS P w K mg base ["self"] 5 (sA K ca) ca.ph fd0) {fd1:FuncData} (xQ:aS P w K mg base ["self","thing"] 3 (uh K ca) ca.vC fd1) (iz:mg "reversed" = none):az P w K mg base aZ 7 f fd ["thing"] (r6 K ca):=by
 refine F.ok A6 (fun vs H Q E h=>?_) (fun cdv A outer s H vs Q E hr h=>?_)
 ·obtain ⟨t,rfl,hB,hz,q⟩:=h
  rfl
 obtain ⟨t,rfl,hB,hz,q⟩:=h
 refine ⟨_,ag (aT (fO (ji CA.mk_Brackets CA.uC u0 hr) CA.gy CA.mt_Brackets_refuse_other xQ hr (aa (pv 0) ab)))
  (af (au (dq PySem.F.plainAttrs_str PySem.F.slot_str_join PySem.F.type_str_join tP bF (aa (eM rfl (AH rfl iz (aa (pv 0) ab)) rfl rfl rfl rfl (N:=["sign"]) (.own .nil) (fun _ _ _ _ _ _=>(aM (i:=0) (by show List.Nodup (["sign"]:List Str); decide +kernel) rfl (Or.inl rfl))) (fun _ _ _ _ _ _=>eK) (fun _ _ _ _ _ _=>(xE (aJ cN (pv 0) bF (aF _)) bF bF))) ab)))),?_⟩
 intro x dx nx ndx nex
 refine ⟨x,dx,rfl,upd_same,fun fsx Hx1 ex fx=>⟨rfl,?_⟩⟩
 have sx:ah H Hx1:=by rw [ex]; exact ((ah.new (ah.refl H) ndx _).upd nx _).upd nx _
 have hx:Hx1 x=some (.ins ca.aC dx fsx):=by rw [ex]; exact upd_same
 refine ⟨x,dx,fsx,rfl,hx,fx.no "refuse_other" (by decide) (by decide),_,rfl,x,dx,fsx,t,rfl,hx,fx.no "is_one" (by decide) (by decide),hB,fun H2 s2=>?_⟩
 have t2:=sx.trans s2
 have lz:t.length<=sizeLine:=sz (by omega)
 have lc:=bJ t
 have tc:t.cps.size=t.length:=rfl
 have lm:=lA t.cps.toList
 refine ⟨rfl,_,rfl,t,rfl,lz,fun D hD=>yK (x:=t) (fun i ys H'=>ah H2 H'/\H' D=some (.lst ys)/\ys=((cB t.cps.toList).take i).map sgn) lz ⟨ah.new (ah.refl H2) hD _,upd_same,rfl⟩ (fun i ys H' hi h=>by rw [h.2.2,List.length_map,List.length_take]; omega) (fun i c ys H' R R0 hi hc h r r0=>?_) (fun ys H' h=>?_)⟩
 ·obtain ⟨sm,hy,ey⟩:=h
  have hc':t.cps.toList[t.cps.toList.length - 1 - i]? = some c:=by
   rw [lc,<- tc,<- hc]
   simp
  have at1:=zH (by omega) hc'
  have tk:((cB t.cps.toList).take (i+1)).map sgn=ys++[sgn (iL c)]:=by rw [List.take_add_one,at1,List.map_append,ey]; rfl
  refine ⟨Ext.set rfl,mP (dP ⟨_,rfl,rfl,_,rfl,nG (pD c) ?_⟩)⟩
  by_cases h41:c=41
  ·refine dF h41 (r _ _ hy ⟨sm.upd hD _,upd_same,?_⟩)
   rw [tk,h41,o8]
   rfl
  ·refine eH h41 (r _ _ hy ⟨sm.upd hD _,upd_same,?_⟩)
   rw [tk,pJ]
   unfold iL
   rw [if_neg h41]
 ·obtain ⟨sm,hy,ey⟩:=h
  rw [List.take_of_length_le (by omega)] at ey
  have ef:(cB t.cps.toList).map sgn=((cB t.cps.toList).map rY).map V.str:=by rw [List.map_map]; rfl
  rw [ey,ef] at hy
  refine ⟨_,D,_,rfl,rfl,ar.of hy,?_,q _ _ (t2.trans sm) (lD _)⟩
  rw [show (Str.ofString "").length=0 by decide +kernel,nR,Nat.mul_zero]
  omega
theorem zX (F:aV K "_law_mirror" "_law_mirror" ki f fd) (gn:mg "int" = none):az P w K mg base aZ 1 f fd ["_law_text"] (si K ca):=by
 refine F.ok mq (fun vs H Q E h=>?_) (fun cdv A outer s H vs Q E hr h=>?_)
 ·obtain ⟨t,rfl,hz,sg,q⟩:=h
  rfl
 obtain ⟨t,rfl,hz,sg,q⟩:=h
 refine ⟨_,ag (aB (i:=1) mq.nd rfl (Or.inl rfl) bF)
  (ag (cX PassesOwn.never rfl (wa (pv 0)) (aM (i:=2) mq.nd rfl (Or.inl rfl)) (af (aB (i:=1) mq.nd rfl (Or.inl rfl) (aw uY (aH jo bF (fW oN rfl gn p6 (aa (dE cN (pv 2) bF (aF _)) ab)) (fun _ _=>rfl)) (pv 1)))))
  (af (au (pv 1)))),?_⟩
 have lc:=bJ t
 have tc:t.cps.size=t.length:=rfl
 refine ⟨_,rfl,t,rfl,tG (x:=t) (fun i σ H'=>∃ (y:Str) (o:Option V),σ=[some (.str t),some (.str y),o]/\H=H'/\y.cps.toList=cB (t.cps.toList.take i)) ⟨_,_,rfl,rfl,by rw [oQ]; rfl⟩ ?_ ?_⟩
 ·rintro i c σ H' hc ⟨y,o,rfl,rfl,ey⟩
  have hi:i < t.cps.toList.length:=by
   have:=(Array.getElem?_eq_some_iff.mp hc).1
   simpa using this
  have hci:t.cps.toList[i]? = some c:=by
   rw [<- hc]
   simp
  have ly:y.length<=80:=by rw [<- bJ,ey,lA,List.length_take]; omega
  have tk:cB (t.cps.toList.take (i+1))=[iL c]++cB (t.cps.toList.take i):=by
   rw [List.take_add_one,hci,rG]
   rfl
  have hs:=sg c (List.mem_of_getElem? hci)
  have lp:(Str.ofString "()").length=2:=by decide +kernel
  have pc:(Str.ofString "()").cps.toList=[40,41]:=by decide +kernel
  have hat:fh (Str.ofString "()").cps.toList (if decide (V.str ⟨#[c]⟩=V.str (Str.ofString "("))=true then 1 else 0)=some (iL c):=by
   rw [pI,pc]
   rcases hs with rfl | rfl<;>rfl
  have l1:(⟨#[iL c]⟩:Str).length=1:=rfl
  refine ⟨_,rfl,rfl,.inr ⟨_,rfl,_,_,_,rfl,rfl,sz (by omega),hat,_,rfl,_,_,rfl,rfl,sz (by omega),?_⟩⟩
  refine ⟨_,_,rfl,rfl,?_⟩
  rw [xw,ey,tk]
 ·rintro σ H' ⟨y,o,rfl,rfl,ey⟩
  refine ⟨_,rfl,q y ?_⟩
  rw [ey,List.take_of_length_le (by omega)]
theorem B0 (F:aV K "_law_texts" "_law_texts" kz f fd) {f0:Addr} {fd0:FuncData} (pK:Def P w K mg base "brackets_mirror" ["thing"] 7 (r6 K ca) f0 fd0) {f1:Addr} {fd1:FuncData} (uk:Def P w K mg base "_law_mirror" ["_law_text"] 1 (si K ca) f1 fd1) (aK:mg "isinstance" = none) (o9:mg "str" = none):az P w K mg base aZ 8 f fd ["_law_text"] (pZ K ca):=by
 refine F.ok rW (fun vs H Q E h=>?_) (fun cdv A outer s H vs Q E hr h=>?_)
 ·obtain ⟨x,t,rfl,hx,h40,q⟩:=h
  rfl
 obtain ⟨x,t,rfl,hx,h40,q⟩:=h
 refine ⟨_,ag (aB (i:=1) rW.nd rfl (Or.inl rfl) (aD pK hr (aa (pv 0) ab)))
  (ag (aW (PW.pt (cA (br (bb (ax cw rfl aK bL (aa (pv 1) (aa (eO (v:=.ty "str") rfl o9 xf rfl) ab))))) (cE (aJ fV (pv 1) (aD uk hr (aa (pv 0) ab)) (aF _))))) (af (au bI)) aN)
  (ag (aB (i:=2) rW.nd rfl (Or.inl rfl) (aD pK hr (aa (pv 1) ab)))
  (af (au (iq (ax cw rfl aK bL (aa (pv 2) (aa (eO (v:=.ty "str") rfl o9 xf rfl) ab))) (jr (dE cN (pv 2) (pv 0) (aF _)))))))),?_⟩
 have lx:x.length=2*t.size:=by rw [<- bJ,hx,eW]
 have cx:clo 0 x.cps.toList=true:=by rw [hx]; exact kr t
 have sg:∀ z∈x.cps.toList,z=40\/z=41:=by rw [hx]; exact jh t
 refine ⟨_,rfl,x,rfl,cx,by omega,fun y H1 s1 ey=>?_⟩
 refine ⟨_,rfl,_,_,_,_,_,rfl,gq,.str _,kR,_,rfl,bh ⟨_,rfl,_,rfl,x,rfl,by omega,sg,fun z ez=>?_⟩⟩
 have eyz:y=z:=tY (ey.trans ez.symm)
 subst eyz
 refine ⟨rfl,_,rfl,fQ rfl ?_⟩
 have ly:y.length=x.length:=by rw [<- bJ,ey,lA,bJ]
 have cy:clo 0 y.cps.toList=true:=by
  rw [ey,hx]
  have:=m8 t 0 []
  rw [List.append_nil] at this
  rw [this]
  rfl
 refine ⟨_,rfl,y,rfl,cy,by omega,fun w H2 s2 ew=>?_⟩
 have ewx:w=x:=tY (by rw [ew,ey,xm sg])
 subst ewx
 refine ⟨_,rfl,_,_,_,_,_,rfl,gq,.str _,kR,_,rfl,dP ⟨_,rfl,_,rfl,rfl,?_⟩⟩
 rw [decide_eq_true rfl]
 exact q _ (s1.trans s2)
theorem BE (F:aV K "__init__" "Family.__init__" jB ca.oY fd):az P w K mg base aZ 1 ca.oY fd ["self","word","least"] (rZ K ca):=by
 refine F.ok BM (fun vs H Q E h=>?_) (fun cdv A outer s H vs Q E hr h=>?_)
 ·obtain ⟨x,dx,w,l,rfl,hx,q⟩:=h
  rfl
 obtain ⟨x,dx,w,l,rfl,hx,q⟩:=h
 refine ⟨_,ag (eT (pv 0) (pv 1) rfl)
  (af (eT (pv 0) (pv 2) rfl)),?_⟩
 refine ⟨_,rfl,_,rfl,x,ca.a8,dx,_,rfl,hx,CA.m5,CA.eC,(by show 0 < 1000; decide),?_⟩
 refine ⟨_,rfl,_,rfl,x,ca.a8,dx,_,rfl,upd_same,CA.m5,CA.d4,(by show 1 < 1000; decide),?_⟩
 exact q _ _ gz (iu w l)
theorem C6 (F:aV K "__init__" "SplitFamily.__init__" nu ca.uM fd) {fd0:FuncData} (vx:aS P w K mg base ["self","word","least"] 1 (rZ K ca) ca.oY fd0):az P w K mg base aZ 3 ca.uM fd ["self","word"] (vm K ca):=by
 refine F.ok Cn (fun vs H Q E h=>?_) (fun cdv A outer s H vs Q E hr h=>?_)
 ·obtain ⟨x,dx,w,rfl,hx,q⟩:=h
  rfl
 obtain ⟨x,dx,w,rfl,hx,q⟩:=h
 refine ⟨_,af (aT (hJ CA.gN CA.cm_Family___init___Bows vx hr (aa (pv 0) (aa (pv 1) (aa ai ab))))),?_⟩
 exact ⟨_,rfl,_,rfl,x,dx,w,0,rfl,hx,fun fs H' e f=>q fs H' e f⟩
theorem B4 (F:aV K "__init__" "Bows.__init__" jD ca.pH fd) {fd0:FuncData} (yl:aS P w K mg base ["self","word"] 3 (vm K ca) ca.uM fd0):az P w K mg base aZ 5 ca.pH fd ["self"] (sr K ca):=by
 refine F.ok Ay (fun vs H Q E h=>?_) (fun cdv A outer s H vs Q E hr h=>?_)
 ·obtain ⟨x,dx,rfl,hx,q⟩:=h
  rfl
 obtain ⟨x,dx,rfl,hx,q⟩:=h
 refine ⟨_,af (aT (hJ CA.dX CA.cm_SplitFamily___init___Bows yl hr (aa (pv 0) (aa bF ab)))),?_⟩
 exact ⟨_,rfl,x,dx,_,rfl,hx,fun fs H' e f=>q fs H' e f⟩
theorem BD (F:aV K "each_once" "each_once" jE f fd) (bo:mg "sorted" = none) (cj:mg "list" = none) (aO:mg "range" = none) (aE:mg "len" = none):az P w K mg base aZ 1 f fd ["numbers"] (lZ K ca):=by
 refine F.ok Cc (fun vs H Q E h=>?_) (fun cdv A outer s H vs Q E hr h=>?_)
 ·obtain ⟨l,ns,rfl,hl,h64,q⟩:=h
  rfl
 obtain ⟨l,ns,rfl,hl,h64,q⟩:=h
 refine ⟨_,af (au (dE (uy (DZ hr)) (ax r9 rfl bo eB (aa (pv 0) ab)) (Bf rfl rfl cj rfl aO (aa (ax aG rfl aE bt (aa (pv 0) ab)) ab)) (aF _))),?_⟩
 have lm:(ns.map V.int).length=ns.length:=List.length_map _
 refine ⟨_,rfl,l,ns,rfl,ar.of hl,h64,fun ps ms hps hp hs=>?_⟩
 have s1:=ah.new (ah.refl H) hps (.lst (ms.map V.int))
 have hm1:upd H ps (.lst (ms.map V.int)) ps=some (.lst (ms.map V.int)):=upd_same
 generalize upd H ps (.lst (ms.map V.int))=H1 at s1 hm1 |-
 refine ⟨_,rfl,l,_,rfl,.inl (ar.of (s1 _ _ hl)),_,rfl,by omega,by omega,by omega,fun pr hpr=>?_⟩
 have s2:=ah.new (ah.refl H1) hpr (.lst (fF 0 (((ns.map V.int).length:Nat):Int).toNat))
 refine ⟨ps,pr,_,_,rfl,rfl,ar.of (s2 _ _ hm1),ar.of upd_same,oH ms,?_,?_⟩
 ·rw [ot]; exact oH _
 have e:kW (ms.map V.int) (fF 0 (((ns.map V.int).length:Nat):Int).toNat)=eh ns:=by
  rw [ot,ql,qO hp hs,show (((ns.map V.int).length:Nat):Int).toNat=ns.length by omega]
 have last:∀ b:Bool,b=eh ns->Q (.bl b) (upd H1 pr (.lst (fF 0 (((ns.map V.int).length:Nat):Int).toNat))):=fun b z=>by rw [z]; exact q _ (s1.trans s2)
 exact last _ e
theorem AN (F:aV K "flat" "flat" jK f fd):az P w K mg base aZ 1 f fd ["rows"] (qg K ca):=by
 refine F.ok rA (fun vs H Q E h=>?_) (fun cdv A outer s H vs Q E hr h=>?_)
 ·obtain ⟨l,ps,rfl,hl,hz,q⟩:=h
  rfl
 obtain ⟨l,ps,rfl,hl,hz,q⟩:=h
 refine ⟨_,ag (aB (i:=1) rA.nd rfl (Or.inl rfl) (fg ab))
  (ag (cX PassesOwn.never rfl (dI (pv 0)) (aM (i:=2) rA.nd rfl (Or.inl rfl)) (af (aT (dq PySem.F.plainAttrs_list PySem.F.slot_list_extend PySem.F.type_list_extend zJ (pv 1) (aa (pv 2) ab)))))
  (af (au (pv 1)))),?_⟩
 obtain ⟨xs,el,lxs,pr⟩:=hl.len
 refine ⟨Nat.zero_le _,fun pf hpf=>?_⟩
 have s1:=ah.new (ah.refl H) hpf (.lst [])
 refine ⟨_,rfl,l,rfl,⟨_,ar.of (s1 _ _ el)⟩,iD (xs:=xs) (fun i σ H'=>∃ (o1:Option V),σ=[some (.ref l),some (.ref pf),o1]/\ah H H'/\H' pf=some (.lst ((aP (ps.take i)).map V.int))) ⟨_,rfl,s1,upd_same⟩ (fun i σ H' _ h=>ar.of (h.choose_spec.2.1 _ _ el)) ?_ ?_⟩
 ·rintro i v σ H2 hv ⟨o1,rfl,sm,hf⟩
  obtain ⟨pp,tt,hpp,rfl,htt⟩:=pr.get hv
  have hz2:((aP (ps.take i)).map V.int).length<=2000:=by
   rw [List.length_map,fZ,List.length_take]
   omega
  refine ⟨_,rfl,.inl ⟨rfl,_,ar.of hf⟩,_,rfl,pf,tt,_,_,rfl,rfl,hf,a9.of (sm _ _ htt),(by show _+2<=_; exact sz (by omega)),?_⟩
  refine ⟨_,rfl,sm.upd hpf _,?_⟩
  rw [upd_same,List.take_add_one,hpp,i4,List.map_append]
  rfl
 ·rintro σ H2 ⟨o1,rfl,sm,hf⟩
  rw [List.take_of_length_le (by omega)] at hf
  exact ⟨_,rfl,q pf H2 sm hpf hf⟩
theorem z8 (F:aV K "any_cross" "any_cross" kv f fd):az P w K mg base aZ 1 f fd ["pairs"] (ml K ca):=by
 refine F.ok iZ (fun vs H Q E h=>?_) (fun cdv A outer s H vs Q E hr h=>?_)
 ·obtain ⟨l,ps,rfl,hl,q⟩:=h
  rfl
 obtain ⟨l,ps,rfl,hl,q⟩:=h
 refine ⟨_,ag (cX PassesOwn.never rfl (dI (pv 0)) (iY rfl (bG (aM (i:=1) iZ.nd rfl (Or.inl rfl)) (bG (aM (i:=2) iZ.nd rfl (Or.inl rfl)) eZ))) (af (cX PassesOwn.never rfl (dI (pv 0)) (iY rfl (bG (aM (i:=3) iZ.nd rfl (Or.inl rfl)) (bG (aM (i:=4) iZ.nd rfl (Or.inl rfl)) eZ))) (af (aW (Bp fR fR fR (pv 1) (pv 3) (pv 2) (pv 4)) (af (au bI)) aN)))))
  (af (au bI)),?_⟩
 obtain ⟨xs,el,lxs,pr⟩:=hl.len
 refine ⟨_,rfl,l,rfl,⟨_,ar.of el⟩,iD (xs:=xs) (fun i σ H'=>∃ (o1 o2 o3 o4:Option V),σ=[some (.ref l),o1,o2,o3,o4]/\H=H'/\∀ p∈ps.take i,ps.any (g9 p)=false) ⟨_,_,_,_,rfl,rfl,by simp⟩ (fun i σ H' _ h=>by obtain ⟨_,_,_,_,_,rfl,_⟩:=h; exact ar.of el) ?_ ?_⟩
 ·rintro i v σ H2 hv ⟨o1,o2,o3,o4,rfl,rfl,al⟩
  obtain ⟨pp,tt,hpp,rfl,htt⟩:=pr.get hv
  refine ⟨tt,_,rfl,a9.of htt,rfl,_,_,rfl,_,_,rfl,rfl,?_⟩
  refine ⟨_,rfl,l,rfl,⟨_,ar.of el⟩,iD (xs:=xs) (fun j σ H'=>∃ (o3 o4:Option V),σ=[some (.ref l),some (.int pp.1),some (.int pp.2),o3,o4]/\H=H'/\∀ r∈ps.take j,g9 pp r=false) ⟨_,_,rfl,rfl,by simp⟩ (fun i σ H' _ h=>by obtain ⟨_,_,_,rfl,_⟩:=h; exact ar.of el) ?_ ?_⟩
  ·rintro j v σ H3 hv ⟨o3,o4,rfl,rfl,al2⟩
   obtain ⟨rr,t2,hrr,rfl,ht2⟩:=pr.get hv
   refine ⟨t2,_,rfl,a9.of ht2,rfl,_,_,rfl,_,_,rfl,rfl,?_⟩
   have next:g9 pp rr=false->∀ r∈ps.take (j+1),g9 pp r=false:=fun hc r hr=>by
    rw [List.take_add_one,hrr] at hr
    rcases List.mem_append.mp hr with z | z
    ·exact al2 r z
    ·have:r=rr:=by simpa using z
     rw [this]; exact hc
   refine ⟨_,rfl,_,rfl,_,_,rfl,rfl,_,rfl,?_⟩
   by_cases c1:pp.1 < rr.1
   ·refine dF c1 ⟨_,rfl,_,_,rfl,rfl,_,rfl,?_⟩
    by_cases c2:rr.1 < pp.2
    ·refine dF c2 ⟨_,rfl,_,_,rfl,rfl,_,rfl,?_⟩
     by_cases c3:pp.2 < rr.2
     ·refine dF c3 ?_
      have:d7 ps=true:=gv.mpr ⟨pp,List.mem_of_getElem? hpp,rr,List.mem_of_getElem? hrr,c1,c2,c3⟩
      rw [this] at q
      exact q
     ·exact eH c3 ⟨_,_,rfl,rfl,next (by unfold g9; simp [c3])⟩
    ·exact eH c2 ⟨_,rfl,bh ⟨_,_,rfl,rfl,next (by unfold g9; simp [c2])⟩⟩
   ·exact eH c1 ⟨_,rfl,bh ⟨_,_,rfl,rfl,next (by unfold g9; simp [c1])⟩⟩
  ·rintro σ H3 ⟨o3,o4,rfl,rfl,al2⟩
   rw [List.take_of_length_le (by omega)] at al2
   refine ⟨_,_,_,_,rfl,rfl,fun p hp=>?_⟩
   rw [List.take_add_one,hpp] at hp
   rcases List.mem_append.mp hp with z | z
   ·exact al p z
   ·have:p=pp:=by simpa using z
    rw [this,List.any_eq_false]
    intro r hr
    rw [al2 r hr]
    decide
 ·rintro σ H2 ⟨o1,o2,o3,o4,rfl,rfl,al⟩
  rw [List.take_of_length_le (by omega)] at al
  have:d7 ps=false:=by
   unfold d7
   rw [List.any_eq_false]
   intro p hp
   rw [al p hp]
   decide
  rw [this] at q
  exact q
theorem A8 (F:aV K "is_one" "Bows.is_one" km ca.pb fd) {f0:Addr} {fd0:FuncData} (j9:Def P w K mg base "each_once" ["numbers"] 1 (lZ K ca) f0 fd0) {f1:Addr} {fd1:FuncData} (vN:Def P w K mg base "flat" ["rows"] 1 (qg K ca) f1 fd1) {f2:Addr} {fd2:FuncData} (jt:Def P w K mg base "any_cross" ["pairs"] 1 (ml K ca) f2 fd2) (bo:mg "sorted" = none) (j5:mg "all" = none):az P w K mg base aZ 2 ca.pb fd ["self","thing"] (qd K ca):=by
 refine F.ok Aa (fun vs H Q E h=>?_) (fun cdv A outer s H vs Q E hr h=>?_)
 ·obtain ⟨x,l,ps,rfl,hl,hz,q⟩:=h
  rfl
 obtain ⟨x,l,ps,rfl,hl,hz,q⟩:=h
 refine ⟨_,ag (aW (PW.pt (cA (br (bb (aD j9 hr (aa (aD vN hr (aa (pv 1) ab)) ab)))) (cE (aJ (mI (gW hr)) (pv 1) (ax eF rfl bo eB (aa (pv 1) ab)) (aF _))))) (af (au bI)) aN)
  (af (au (iq (ax (qF rfl) rfl j5 vX (aa (eM rfl (dI (pv 1)) rfl rfl rfl rfl (N:=["a","b"]) (.own (.own .nil)) (fun _ _ _ _ _ _=>(jO (K:=K) (n:=2) rfl rfl (bG (aM (i:=0) (by show List.Nodup (["a","b"]:List Str); decide +kernel) rfl (Or.inl rfl)) (bG (aM (i:=1) (by show List.Nodup (["a","b"]:List Str); decide +kernel) rfl (Or.inl rfl)) eZ)))) (fun _ _ _ _ _ _=>eK) (fun _ _ _ _ _ _=>(dE fR (pv 0) (pv 1) (aF _)))) ab)) (jr (w6 (aD jt hr (aa (pv 1) ab))))))),?_⟩
 refine ⟨_,rfl,l,ps,rfl,hl,by omega,fun pf H1 s1 f1 h1=>⟨pf,_,rfl,h1,by rw [fZ]; omega,fun H2 s2=>⟨_,rfl,?_⟩⟩⟩
 have s12:=s1.trans s2
 have hl2:=hl.same s12
 cases hE:eh (aP ps) with
 | false =>
  rw [wH hE] at q
  exact dP (dP (q _ s12))
 | true =>
  refine bh ⟨_,rfl,_,rfl,l,ps,rfl,hl2,by omega,fun pq qs H3 s3 f3 h3 hp hs=>?_⟩
  have s13:=s12.trans s3
  have hl3:=hl.same s13
  have ne:l≠pq:=by
   obtain ⟨_,e,_⟩:=hl2
   exact ao e f3
  refine ⟨2,_,by decide,cT.prs ne hl3 h3,⟨l,pq,rfl,rfl,ne⟩,_,rfl,?_⟩
  by_cases e:ps=qs
  ·rw [sH hp hs hE e] at q
   obtain ⟨xs,el,lxs,pr⟩:=hl3.len
   rw [decide_eq_true e]
   refine bh ⟨_,rfl,l,rfl,⟨_,ar.of el⟩,fun D hD=>eY (xs:=xs) (fun i ys H'=>ah H3 H'/\H' D=some (.lst ys)/\ys=((ps.take i).map fun p=>decide (p.1 < p.2)).map V.bl/\i<=ps.length) (sz (by omega)) ⟨ah.new (ah.refl H3) hD _,upd_same,rfl,Nat.zero_le _⟩ (fun i ys H' hi h=>⟨ar.of (h.1 _ _ el),?_⟩) (fun i x ys H' R R0 hx h r r0=>?_) (fun ys H' h=>?_)⟩
   ·rw [h.2.2.1]
    simp
    omega
   ·obtain ⟨sm,hy,ey,hi⟩:=h
    obtain ⟨pp,tt,hpp,rfl,htt⟩:=pr.get hx
    have hlt:i < ps.length:=(List.getElem?_eq_some_iff.mp hpp).1
    refine ⟨tt,_,rfl,a9.of (sm _ _ htt),rfl,_,_,rfl,_,_,rfl,rfl,(Ext.set rfl).trans (Ext.set rfl),mP (dP ⟨_,rfl,_,rfl,_,_,rfl,rfl,?_⟩)⟩
    refine r _ _ hy ⟨sm.upd hD _,upd_same,?_,hlt⟩
    rw [List.take_add_one,hpp,List.map_append,List.map_append,<- ey]
    rfl
   ·obtain ⟨sm,hy,ey,hi⟩:=h
    rw [List.take_of_length_le (by omega)] at ey
    have ha:(((ps.map fun p=>decide (p.1 < p.2)).map V.bl).length)=ps.length:=by simp
    rw [ey] at hy
    refine ⟨D,_,rfl,ar.of hy,_,rfl,?_⟩
    have e2:((ps.map fun p=>decide (p.1 < p.2)).all id)=ps.all fun p=>decide (p.1 < p.2):=by rw [List.all_map]; rfl
    rw [e2]
    cases hA:ps.all fun p=>decide (p.1 < p.2) with
    | false =>
     rw [hA,Bool.false_and] at q
     exact bh (q _ (s13.trans sm))
    | true =>
     rw [hA,Bool.true_and] at q
     exact dP ⟨_,rfl,l,ps,rfl,hl3.same sm,_,rfl,q _ (s13.trans sm)⟩
  ·rw [ug hp hs hE e] at q
   rw [decide_eq_false e]
   exact dP (q _ s13)
theorem Cs (F:aV K "refuse_other" "Family.refuse_other" nB ca.vp fd) {fd0:FuncData} (vt:aS P w K mg base ["self","thing"] 2 (qd K ca) ca.pb fd0):az P w K mg base aZ 3 ca.vp fd ["self","thing"] (vE K ca):=by
 refine F.ok C7 (fun vs H Q E h=>?_) (fun cdv A outer s H vs Q E hr h=>?_)
 ·obtain ⟨x,dx,fs,l,ps,rfl,hx,fo,hl,hz,hB,q⟩:=h
  rfl
 obtain ⟨x,dx,fs,l,ps,rfl,hx,fo,hl,hz,hB,q⟩:=h
 refine ⟨_,af (aW (br (bb (fO (pv 0) CA.m5 CA.mt_Bows_is_one vt hr (aa (pv 1) ab)))) (af gP) aN),?_⟩
 exact ⟨_,rfl,x,dx,fs,rfl,hx,fo,_,rfl,x,l,ps,rfl,hl,hz,fun H1 s1=>⟨_,rfl,by rw [hB]; exact bh (q H1 s1)⟩⟩
theorem Bj (F:aV K "pairs_anew" "pairs_anew" kB f fd) (bo:mg "sorted" = none) (jQ:mg "max" = none) (uT:mg "min" = none):az P w K mg base aZ 1 f fd ["pairs"] (qP K ca):=by
 refine F.ok As (fun vs H Q E h=>?_) (fun cdv A outer s H vs Q E hr h=>?_)
 ·obtain ⟨l,ps,rfl,hl,h64,q⟩:=h
  rfl
 obtain ⟨l,ps,rfl,hl,h64,q⟩:=h
 refine ⟨_,af (au (ax eF rfl bo eB (aa (eM rfl (dI (pv 0)) rfl rfl rfl rfl (N:=["a","b"]) (.own (.own .nil)) (fun _ _ _ _ _ _=>(jO (K:=K) (n:=2) rfl rfl (bG (aM (i:=0) (by show List.Nodup (["a","b"]:List Str); decide +kernel) rfl (Or.inl rfl)) (bG (aM (i:=1) (by show List.Nodup (["a","b"]:List Str); decide +kernel) rfl (Or.inl rfl)) eZ)))) (fun _ _ _ _ _ _=>eK) (fun _ _ _ _ _ _=>(bA (aa (ax (v7 rfl) rfl uT Av (aa (pv 0) (aa (pv 1) ab))) (aa (ax (oC rfl) rfl jQ wb (aa (pv 0) (aa (pv 1) ab))) ab))))) ab))),?_⟩
 obtain ⟨xs,el,lxs,pr⟩:=hl.len
 refine ⟨_,rfl,l,rfl,⟨_,ar.of el⟩,fun D hD=>eY (xs:=xs) (fun i ys H'=>ah H H'/\H' D=some (.lst ys)/\cR H' ys ((ps.take i).map fun p=>nm p.1 p.2)/\i<=ps.length) (sz (by omega)) ⟨ah.new (ah.refl H) hD _,upd_same,.nil,Nat.zero_le _⟩ (fun i ys H' hi h=>⟨ar.of (h.1 _ _ el),?_⟩) (fun i x ys H' R R0 hx h r r0=>?_) (fun ys H' h=>?_)⟩
 ·rw [h.2.2.1.length,List.length_map,List.length_take]
  omega
 ·obtain ⟨sm,hy,py,hi⟩:=h
  obtain ⟨pp,tt,hpp,rfl,htt⟩:=pr.get hx
  have hlt:i < ps.length:=(List.getElem?_eq_some_iff.mp hpp).1
  refine ⟨tt,_,rfl,a9.of (sm _ _ htt),rfl,_,_,rfl,_,_,rfl,rfl,(Ext.set rfl).trans (Ext.set rfl),mP (dP ?_)⟩
  refine ⟨_,rfl,_,rfl,_,_,rfl,_,rfl,_,rfl,_,_,rfl,(by show 2<=sizeLine; decide),fun u1 fX=>?_⟩
  have nD:D≠u1:=ao hy fX
  have e:=CQ pp.1 pp.2
  have hu:upd H' u1 (.tup [.int (if pp.2 < pp.1 then pp.2 else pp.1),.int (if pp.2 > pp.1 then pp.2 else pp.1)]) u1=some (.tup [.int (nm pp.1 pp.2).1,.int (nm pp.1 pp.2).2]):=by rw [upd_same,<- e]
  have y1:=(upd_ne (o:=.tup [.int (if pp.2 < pp.1 then pp.2 else pp.1),.int (if pp.2 > pp.1 then pp.2 else pp.1)]) nD).trans hy
  have s1:=ah.new sm fX (.tup [.int (if pp.2 < pp.1 then pp.2 else pp.1),.int (if pp.2 > pp.1 then pp.2 else pp.1)])
  have p1:=py.updN fX (.tup [.int (if pp.2 < pp.1 then pp.2 else pp.1),.int (if pp.2 > pp.1 then pp.2 else pp.1)])
  refine r _ _ y1 ⟨s1.upd hD _,upd_same,?_,hlt⟩
  rw [List.take_add_one,hpp,List.map_append]
  exact (p1.snoc (t:=u1) (p:=nm pp.1 pp.2) hu).updL y1 _
 ·obtain ⟨sm,hy,py,hi⟩:=h
  rw [List.take_of_length_le (by omega)] at py
  exact ⟨D,_,rfl,⟨ys,hy,py⟩,by rw [List.length_map]; exact h64,fun p qs H5 s5 f5 h5 pm rs=>q p qs H5 (sm.trans s5) (sm.free f5) h5 pm rs⟩
theorem Bu (F:aV K "mirrored_pairs" "mirrored_pairs" jz f fd) {f0:Addr} {fd0:FuncData} (uJ:Def P w K mg base "pairs_anew" ["pairs"] 1 (qP K ca) f0 fd0):az P w K mg base aZ 2 f fd ["pairs","last"] (mQ K ca):=by
 refine F.ok B5 (fun vs H Q E h=>?_) (fun cdv A outer s H vs Q E hr h=>?_)
 ·obtain ⟨l,ps,m,rfl,hl,h64,hlt,q⟩:=h
  rfl
 obtain ⟨l,ps,m,rfl,hl,h64,hlt,q⟩:=h
 refine ⟨_,af (au (aD uJ hr (aa (eM rfl (dI (pv 0)) rfl rfl rfl rfl (N:=["a","b","last"]) (.own (.own (.cap (j:=1) rfl rfl rfl .nil))) (fun _ _ _ _ _ _=>(jO (K:=K) (n:=2) rfl rfl (bG (aM (i:=0) (by show List.Nodup (["a","b","last"]:List Str); decide +kernel) rfl (Or.inl rfl)) (bG (aM (i:=1) (by show List.Nodup (["a","b","last"]:List Str); decide +kernel) rfl (Or.inl rfl)) eZ)))) (fun _ _ _ _ _ _=>eK) (fun _ _ _ _ _ _=>(bA (aa (aw bE (pv 2) (pv 0)) (aa (aw bE (pv 2) (pv 1)) ab))))) ab))),?_⟩
 obtain ⟨xs,el,lxs,pr⟩:=hl.len
 refine ⟨_,rfl,l,rfl,⟨_,ar.of el⟩,fun D hD=>eY (xs:=xs) (fun i ys H'=>ah H H'/\H' D=some (.lst ys)/\cR H' ys ((ps.take i).map fun p=>(m - p.1,m - p.2))/\i<=ps.length) (sz (by omega)) ⟨ah.new (ah.refl H) hD _,upd_same,.nil,Nat.zero_le _⟩ (fun i ys H' hi h=>⟨ar.of (h.1 _ _ el),?_⟩) (fun i x ys H' R R0 hx h r r0=>?_) (fun ys H' h=>?_)⟩
 ·rw [h.2.2.1.length,List.length_map,List.length_take]
  omega
 ·obtain ⟨sm,hy,py,hi⟩:=h
  obtain ⟨pp,tt,hpp,rfl,htt⟩:=pr.get hx
  have hlt:i < ps.length:=(List.getElem?_eq_some_iff.mp hpp).1
  refine ⟨tt,_,rfl,a9.of (sm _ _ htt),rfl,_,_,rfl,_,_,rfl,rfl,(Ext.set rfl).trans (Ext.set rfl),mP (dP ?_)⟩
  refine ⟨_,rfl,_,rfl,_,_,rfl,rfl,_,rfl,_,rfl,_,_,rfl,rfl,(by show 2<=sizeLine; decide),fun u1 fX=>?_⟩
  have nD:D≠u1:=ao hy fX
  have y1:=(upd_ne (o:=.tup [.int (m - pp.1),.int (m - pp.2)]) nD).trans hy
  have s1:=ah.new sm fX (.tup [.int (m - pp.1),.int (m - pp.2)])
  have p1:=py.updN fX (.tup [.int (m - pp.1),.int (m - pp.2)])
  refine r _ _ y1 ⟨s1.upd hD _,upd_same,?_,hlt⟩
  rw [List.take_add_one,hpp,List.map_append]
  exact (p1.snoc (t:=u1) (p:=(m - pp.1,m - pp.2)) upd_same).updL y1 _
 ·obtain ⟨sm,hy,py,hi⟩:=h
  rw [List.take_of_length_le (by omega)] at py
  refine ⟨D,ps.map (fun p=>(m - p.1,m - p.2)),rfl,⟨ys,hy,py⟩,by rw [List.length_map]; exact h64,fun p qs H5 s5 f5 h5 pm rs=>q p qs H5 (sm.trans s5) (sm.free f5) h5 ?_ rs⟩
  rw [List.map_map] at pm
  refine pm.trans ?_
  rw [List.map_congr_left (f:=(fun p:Pair=>nm p.1 p.2) ∘ fun p:Pair=>(m - p.1,m - p.2)) (g:=mrr m) fun p hp=>An (hlt p hp)]
theorem Cj (F:aV K "bows_mirror" "bows_mirror" kG f fd) {fd0:FuncData} (vP:aS P w K mg base ["self"] 5 (sr K ca) ca.pH fd0) {fd1:FuncData} (xU:aS P w K mg base ["self","thing"] 3 (vE K ca) ca.vp fd1) {f2:Addr} {fd2:FuncData} (kl:Def P w K mg base "mirrored_pairs" ["pairs","last"] 2 (mQ K ca) f2 fd2) (aE:mg "len" = none):az P w K mg base aZ 7 f fd ["thing"] (rK K ca):=by
 refine F.ok BU (fun vs H Q E h=>?_) (fun cdv A outer s H vs Q E hr h=>?_)
 ·obtain ⟨l,ps,rfl,hl,hz,bw,q⟩:=h
  rfl
 obtain ⟨l,ps,rfl,hl,hz,bw,q⟩:=h
 refine ⟨_,ag (aT (fO (ji CA.mk_Bows CA.Ak vP hr) CA.m5 CA.mt_Bows_refuse_other xU hr (aa (pv 0) ab)))
  (af (au (aD kl hr (aa (pv 0) (aa (aw bE (aw dz ai (ax aG rfl aE bt (aa (pv 0) ab))) ai) ab))))),?_⟩
 intro x dx nx ndx nex
 refine ⟨x,dx,rfl,upd_same,fun fsx Hx1 ex fx=>⟨rfl,?_⟩⟩
 have sx:ah H Hx1:=by rw [ex]; exact ((ah.new (ah.refl H) ndx _).upd nx _).upd nx _
 have hx:Hx1 x=some (.ins ca.a8 dx fsx):=by rw [ex]; exact upd_same
 refine ⟨x,dx,fsx,rfl,hx,fx.no "refuse_other" (by decide) (by decide),_,rfl,x,dx,fsx,l,ps,rfl,hx,fx.no "is_one" (by decide) (by decide),hl.same sx,by omega,bw.bows,fun H2 s2=>?_⟩
 have t2:=sx.trans s2
 have hl2:=hl.same t2
 obtain ⟨xs,el,lxs,pr⟩:=hl2.len
 exact ⟨_,rfl,_,rfl,l,_,rfl,.inl (ar.of el),_,_,rfl,rfl,.inl ⟨by decide,by decide⟩,_,_,rfl,rfl,l,ps,2*(ps.length:Int) - 1,(by rw [lxs]; rfl),hl2,by omega,fun p hp=>(bw.inr p hp).2.1,fun q' qs H3 s3 f3 h3 pm rs=>q q' qs H3 (t2.trans s3) (t2.free f3) h3 pm rs⟩
theorem Bb (F:aV K "_law_whole" "_law_whole" jS f fd) (aK:mg "isinstance" = none) (gn:mg "int" = none) (rn:mg "bool" = none):az P w K mg base aZ 1 f fd ["_law_found"] (iV K ca):=by
 refine F.ok A3 (fun vs H Q E h=>?_) (fun cdv A outer s H vs Q E hr h=>?_)
 ·obtain ⟨n,rfl,q⟩:=h
  rfl
 obtain ⟨n,rfl,q⟩:=h
 refine ⟨_,af (au (iq (ax cw rfl aK bL (aa (pv 0) (aa (eO (v:=.ty "int") rfl gn p6 rfl) ab))) (jr (w6 (ax cw rfl aK bL (aa (pv 0) (aa (eO (v:=.ty "bool") rfl rn zT rfl) ab))))))),?_⟩
 exact ⟨_,rfl,_,_,_,_,_,rfl,gq,.int _,sO,_,rfl,dP ⟨_,rfl,_,_,_,_,_,rfl,gq,.int _,qw,_,rfl,q⟩⟩
theorem Ax (F:aV K "_law_pairs" "_law_pairs" kK f fd) {f0:Addr} {fd0:FuncData} (fS:Def P w K mg base "_law_whole" ["_law_found"] 1 (iV K ca) f0 fd0) (aK:mg "isinstance" = none) (cj:mg "list" = none) (aE:mg "len" = none) (aO:mg "range" = none) (eP:mg "tuple" = none):az P w K mg base aZ 2 f fd ["_law_found","_law_due"] (mM K ca):=by
 refine F.ok wX (fun vs H Q E h=>?_) (fun cdv A outer s H vs Q E hr h=>?_)
 ·obtain ⟨p,r,ps,rfl,hp,hr2,hz,q⟩:=h
  rfl
 obtain ⟨p,r,ps,rfl,hp,hr2,hz,q⟩:=h
 refine ⟨_,ag (aW (PW.pt (cA (br (bb (ax cw rfl aK bL (aa (pv 0) (aa (eO (v:=.ty "list") rfl cj gC rfl) ab))))) (cE (aJ fV (ax aG rfl aE bt (aa (pv 0) ab)) (ax aG rfl aE bt (aa (pv 1) ab)) (aF _))))) (af (au bI)) aN)
  (ag (cX PassesOwn.never rfl (dy rfl aO (aa (ax aG rfl aE bt (aa (pv 1) ab)) ab)) (aM (i:=2) wX.nd rfl (Or.inl rfl)) (ag (aW (PW.pt (cA (br (bb (ax cw rfl aK bL (aa (aH bu (pv 0) (pv 2) (fun _ _=>rfl)) (aa (eO (v:=.ty "tuple") rfl eP lC rfl) ab))))) (cE (aJ fV (ax aG rfl aE bt (aa (aH bu (pv 0) (pv 2) (fun _ _=>rfl)) ab)) ai (aF _))))) (af (au bI)) aN)
  (af (aW (PW.pt (cA (br (bb (aD fS hr (aa (aH bB (aH bu (pv 0) (pv 2) (fun _ _=>rfl)) ai (fun _ _=>rfl)) ab)))) (cA (br (bb (aD fS hr (aa (aH bB (aH bu (pv 0) (pv 2) (fun _ _=>rfl)) ai (fun _ _=>rfl)) ab)))) (cE (aJ ((mI (gW hr)).or (AG (gW hr))) (aH bu (pv 0) (pv 2) (fun _ _=>rfl)) (aH bu (pv 1) (pv 2) (fun _ _=>rfl)) (aF _)))))) (af (au bI)) aN))))
  (af (au bI))),?_⟩
 obtain ⟨xs,ep,lx,px⟩:=hp.len
 obtain ⟨ys,er,ly,py⟩:=hr2.len
 refine ⟨_,rfl,_,_,_,_,_,rfl,gq,.lst ep,iM,_,rfl,bh ⟨_,rfl,p,_,rfl,.inl (ar.of ep),_,rfl,r,_,rfl,.inl (ar.of er),rfl,_,rfl,fQ (congrArg V.int (by omega)) ?_⟩⟩
 refine ⟨_,rfl,r,_,rfl,.inl (ar.of er),_,rfl,by omega,by omega,eD (lo:=0) (n:=((ys.length:Nat):Int).toNat) (fun i σ H'=>H=H'/\∃ o,σ=[some (.ref p),some (.ref r),o]) ⟨rfl,_,rfl⟩ ?_ ?_⟩
 ·rintro i σ H' hi ⟨rfl,o,rfl⟩
  have hix:i < xs.length:=by omega
  have hiy:i < ys.length:=by omega
  obtain ⟨p1,t1,e1,hx1,h1⟩:=px.get (List.getElem?_eq_getElem hix)
  obtain ⟨p2,t2,e2,hy2,h2⟩:=py.get (List.getElem?_eq_getElem hiy)
  have ep12:p1=p2:=by rw [e1] at e2; injection e2
  subst ep12
  have a1:fh xs ((0:Int)+(i:Int))=some (.ref t1):=by
   have:=fE (xs:=xs) (j:=i) (by rw [List.getElem?_eq_getElem hix,hx1])
   rw [show (0:Int)+(i:Int)=(i:Int) by omega]
   exact this
  have a2:fh ys ((0:Int)+(i:Int))=some (.ref t2):=by
   have:=fE (xs:=ys) (j:=i) (by rw [List.getElem?_eq_getElem hiy,hy2])
   rw [show (0:Int)+(i:Int)=(i:Int) by omega]
   exact this
  have b0:fh [V.int p1.1,V.int p1.2] 0=some (.int p1.1):=rfl
  have b1:fh [V.int p1.1,V.int p1.2] 1=some (.int p1.2):=rfl
  refine ⟨_,rfl,_,rfl,p,_,_,_,rfl,rfl,ar.of ep,a1,_,_,_,_,_,rfl,gq,.tup h1,e6,_,rfl,bh ⟨_,rfl,_,rfl,p,_,_,_,rfl,rfl,ar.of ep,a1,t1,_,rfl,.inr (a9.of h1),rfl,_,rfl,fQ rfl ?_⟩⟩
  refine ⟨_,rfl,_,rfl,p,_,_,_,rfl,rfl,ar.of ep,a1,t1,_,_,_,rfl,rfl,a9.of h1,b0,_,rfl,_,rfl,bh ⟨_,rfl,_,rfl,p,_,_,_,rfl,rfl,ar.of ep,a1,t1,_,_,_,rfl,rfl,a9.of h1,b1,_,rfl,_,rfl,bh ?_⟩⟩
  refine ⟨_,rfl,_,rfl,p,_,_,_,rfl,rfl,ar.of ep,a1,_,rfl,_,rfl,r,_,_,_,rfl,rfl,ar.of er,a2,?_⟩
  by_cases et:t1=t2
  ·subst et
   exact .inr ⟨t1,_,_,rfl,rfl,h1,_,rfl,bh ⟨rfl,_,rfl⟩⟩
  ·refine .inl ⟨1,_,by decide,cT.two et h1 h2,⟨t1,t2,rfl,rfl,et⟩,_,rfl,?_⟩
   rw [decide_eq_true (rfl:p1.1=p1.1),decide_eq_true (rfl:p1.2=p1.2)]
   exact bh ⟨rfl,_,rfl⟩
 ·rintro σ H' ⟨rfl,o,rfl⟩
  exact q
theorem Aj (F:aV K "_law_flipped" "_law_flipped" kO f fd) (bo:mg "sorted" = none):az P w K mg base aZ 1 f fd ["_law_pairs_here","_law_last"] (md K ca):=by
 refine F.ok Cf (fun vs H Q E h=>?_) (fun cdv A outer s H vs Q E hr h=>?_)
 ·obtain ⟨l,ps,m,rfl,hl,h64,q⟩:=h
  rfl
 obtain ⟨l,ps,m,rfl,hl,h64,q⟩:=h
 refine ⟨_,af (au (ax eF rfl bo eB (aa (eM rfl (dI (pv 0)) rfl rfl rfl rfl (N:=["_law_pair","_law_last"]) (.own (.cap (j:=1) rfl rfl rfl .nil)) (fun _ _ _ _ _ _=>(aM (i:=0) (by show List.Nodup (["_law_pair","_law_last"]:List Str); decide +kernel) rfl (Or.inl rfl))) (fun _ _ _ _ _ _=>eK) (fun _ _ _ _ _ _=>(bA (aa (aw bE (pv 1) (aH (nI (K:=K) rfl) (pv 0) ai (fun _ _=>rfl))) (aa (aw bE (pv 1) (aH (nI (K:=K) rfl) (pv 0) ai (fun _ _=>rfl))) ab))))) ab))),?_⟩
 obtain ⟨xs,el,lxs,pr⟩:=hl.len
 refine ⟨_,rfl,l,rfl,⟨_,ar.of el⟩,fun D hD=>eY (xs:=xs) (fun i ys H'=>ah H H'/\H' D=some (.lst ys)/\cR H' ys ((ps.take i).map (mrr m))/\i<=ps.length) (sz (by omega)) ⟨ah.new (ah.refl H) hD _,upd_same,.nil,Nat.zero_le _⟩ (fun i ys H' hi h=>⟨ar.of (h.1 _ _ el),?_⟩) (fun i x ys H' R R0 hx h r r0=>?_) (fun ys H' h=>?_)⟩
 ·rw [h.2.2.1.length,List.length_map,List.length_take]
  omega
 ·obtain ⟨sm,hy,py,hi⟩:=h
  obtain ⟨pp,tt,hpp,rfl,htt⟩:=pr.get hx
  have hlt:i < ps.length:=(List.getElem?_eq_some_iff.mp hpp).1
  have ht2:=sm _ _ htt
  refine ⟨Ext.set rfl,mP (dP ?_)⟩
  refine ⟨_,rfl,_,rfl,tt,_,_,_,rfl,rfl,a9.of ht2,rfl,_,_,rfl,rfl,_,rfl,_,rfl,tt,_,_,_,rfl,rfl,a9.of ht2,rfl,_,_,rfl,rfl,(by show 2<=sizeLine; decide),fun u1 fX=>?_⟩
  have nD:D≠u1:=ao hy fX
  have y1:=(upd_ne (o:=.tup [.int (m - pp.2),.int (m - pp.1)]) nD).trans hy
  have s1:=ah.new sm fX (.tup [.int (m - pp.2),.int (m - pp.1)])
  have p1:=py.updN fX (.tup [.int (m - pp.2),.int (m - pp.1)])
  refine r _ _ y1 ⟨s1.upd hD _,upd_same,?_,hlt⟩
  rw [List.take_add_one,hpp,List.map_append]
  exact (p1.snoc (t:=u1) (p:=mrr m pp) upd_same).updL y1 _
 ·obtain ⟨sm,hy,py,hi⟩:=h
  rw [List.take_of_length_le (by omega)] at py
  exact ⟨D,ps.map (mrr m),rfl,⟨ys,hy,py⟩,by rw [List.length_map]; exact h64,fun p qs H5 s5 f5 h5 pm rs=>q p qs H5 (sm.trans s5) (sm.free f5) h5 pm rs⟩
theorem BQ (F:aV K "_law_bows" "_law_bows" jH f fd) {f0:Addr} {fd0:FuncData} (pk:Def P w K mg base "bows_mirror" ["thing"] 7 (rK K ca) f0 fd0) {f1:Addr} {fd1:FuncData} (gU:Def P w K mg base "_law_pairs" ["_law_found","_law_due"] 2 (mM K ca) f1 fd1) {f2:Addr} {fd2:FuncData} (jx:Def P w K mg base "_law_flipped" ["_law_pairs_here","_law_last"] 1 (md K ca) f2 fd2) (cj:mg "list" = none) (aE:mg "len" = none):az P w K mg base aZ 8 f fd ["_law_bows_here"] (pW K ca):=by
 refine F.ok pY (fun vs H Q E h=>?_) (fun cdv A outer s H vs Q E hr h=>?_)
 ·obtain ⟨l,ps,rfl,hl,hz,bw,q⟩:=h
  rfl
 obtain ⟨l,ps,rfl,hl,hz,bw,q⟩:=h
 refine ⟨_,ag (aB (i:=1) pY.nd rfl (Or.inl rfl) (fW gD rfl cj gC (aa (pv 0) ab)))
  (ag (aB (i:=2) pY.nd rfl (Or.inl rfl) (aD pk hr (aa (pv 1) ab)))
  (ag (aW (PW.pt (cA (br (bb (aD gU hr (aa (pv 2) (aa (aD jx hr (aa (pv 0) (aa (aw bE (aw dz ai (ax aG rfl aE bt (aa (pv 0) ab))) ai) ab))) ab))))) (cE (br (bb (aD gU hr (aa (aD pk hr (aa (pv 2) ab)) (aa (pv 0) ab)))))))) (af (au bI)) aN)
  (ag (aT (dq PySem.F.plainAttrs_list PySem.F.slot_list_append PySem.F.type_list_append bR (pv 2) (aa (bA (aa ai (aa ai ab))) ab)))
  (af (au (aD gU hr (aa (pv 1) (aa (pv 0) ab)))))))),?_⟩
 obtain ⟨xs,el,lxs,pr⟩:=hl.len
 refine ⟨_,rfl,l,_,rfl,.inl (ar.of el),fun c hc=>?_⟩
 have s1:=ah.new (ah.refl H) hc (.lst xs)
 have ec1:upd H c (.lst xs) c=some (.lst xs):=upd_same
 generalize upd H c (.lst xs)=H1 at s1 ec1 |-
 have hc1:bz H1 c ps:=⟨xs,ec1,pr.same s1⟩
 refine ⟨_,rfl,c,ps,rfl,hc1,hz,bw,fun f qs H2 s2 f2 h2 pm rs=>?_⟩
 have t2:=s1.trans s2
 have lq:qs.length=ps.length:=by rw [pm.length_eq,List.length_map]
 have bq:=bw.mrr pm rs
 refine ⟨_,rfl,_,rfl,_,rfl,l,_,rfl,.inl (ar.of (t2 _ _ el)),_,_,rfl,rfl,.inl ⟨by decide,by decide⟩,_,_,rfl,rfl,l,ps,2*(ps.length:Int) - 1,(by rw [lxs]; rfl),hl.same t2,by omega,fun g gs H3 s3 f3 h3 pm3 rs3=>?_⟩
 have eg:gs=qs:=gL rs3 rs (pm3.trans pm.symm)
 subst eg
 refine ⟨f,g,gs,rfl,h2.same s3,h3,by omega,_,rfl,bh ?_⟩
 have t3:=t2.trans s3
 refine ⟨_,rfl,f,gs,rfl,h2.same s3,by omega,bq,fun b bs H4 s4 f4 h4 pm4 rs4=>?_⟩
 have t4:=t3.trans s4
 rw [lq] at pm4
 have eb:bs=ps:=gL rs4 bw.ris (pm4.trans (qy pm))
 subst eb
 refine ⟨_,rfl,b,l,bs,rfl,h4,hl.same t4,by omega,_,rfl,bh ?_⟩
 obtain ⟨ys,ey,ly,pry⟩:=(h2.same (s3.trans s4)).len
 have ff:H f=none:=s1.free f2
 have nfc:c≠f:=ao ec1 f2
 have nfl:l≠f:=ao (s1 _ _ el) f2
 refine ⟨_,rfl,.inl ⟨rfl,_,ar.of ey⟩,(by show 2<=sizeLine; decide),fun u hu=>?_⟩
 have k5:=ah.new (ah.refl H4) hu (.tup [.int 0,.int 1])
 have ey5:=k5 _ _ ey
 refine ⟨f,_,_,rfl,rfl,ey5,jd (by omega),?_⟩
 have t5:=(t4.trans k5).upd ff (.lst (ys++[.ref u]))
 have hc5:=((hc1.same ((s2.trans s3).trans (s4.trans k5)))).updL ey5 nfc (.lst (ys++[.ref u]))
 have hl5:=(hl.same (t4.trans k5)).updL ey5 nfl (.lst (ys++[.ref u]))
 exact ⟨_,rfl,_,rfl,c,l,bs,rfl,hc5,hl5,by omega,q _ t5⟩
theorem Bd (F:aV K "_law_mate" "_law_mate" jW f fd) (aO:mg "range" = none) (aE:mg "len" = none) (gn:mg "int" = none):az P w K mg base aZ 1 f fd ["_law_text","_law_at"] (mr K ca):=by
 refine F.ok mD (fun vs H Q E h=>?_) (fun cdv A outer s H vs Q E hr h=>?_)
 ·obtain ⟨t,k,rfl,hz,hk,q⟩:=h
  rfl
 obtain ⟨t,k,rfl,hz,hk,q⟩:=h
 refine ⟨_,ag (aB (i:=2) mD.nd rfl (Or.inl rfl) ai)
  (ag (cX PassesOwn.never rfl (xx rfl aO (aa (pv 1) (aa (ax e7 rfl aE bt (aa (pv 0) ab)) ab))) (aM (i:=3) mD.nd rfl (Or.inl rfl)) (ag (aB (i:=2) mD.nd rfl (Or.inl rfl) (aw bE (aw cG (pv 2) ai) (aw dz ai (fW oN rfl gn p6 (aa (dE cN (aH jo (pv 0) (pv 3) (fun _ _=>rfl)) bF (aF _)) ab)))))
  (af (aW (aJ cN (pv 2) ai (aF _)) (af (au (pv 3))) aN))))
  (af (au (um qJ ai)))),?_⟩
 have lc:=bJ t
 have lz:t.length<=sizeLine:=sz (by omega)
 refine ⟨_,rfl,_,rfl,t,rfl,lz,_,_,rfl,⟨by omega,by omega,by omega,by omega⟩,eD (lo:=(k:Int)) (n:=(((t.length:Nat):Int) - (k:Int)).toNat) (fun i σ H'=>∃ (o1:Option V),σ=[some (.str t),some (.int (k:Int)),some (.int (Dp t.cps.toList (k+i) - Dp t.cps.toList k)),o1]/\H=H'/\∀ m,k<=m->m < k+i->Dp t.cps.toList (m+1)≠Dp t.cps.toList k) ⟨none,by rw [Nat.add_zero,Int.sub_self]; rfl,rfl,fun m h1 h2=>by omega⟩ ?_ ?_⟩
 ·rintro i σ H' hi ⟨o1,rfl,rfl,no⟩
  have hlt:k+i < t.cps.toList.length:=by omega
  have hc:t.cps.toList[((k:Int)+(i:Int)).toNat]? = some (t.cps.toList.getD (k+i) 0):=by
   rw [show ((k:Int)+(i:Int)).toNat=k+i by omega,List.getD_eq_getElem?_getD,List.getElem?_eq_getElem hlt]
   rfl
  have hat:=jv (by omega) hc
  have ds:=nX hlt
  generalize t.cps.toList.getD (k+i) 0=c at hat ds
  refine ⟨_,rfl,_,_,rfl,rfl,_,rfl,_,rfl,t,_,_,rfl,rfl,lz,hat,rfl,.inr ⟨_,rfl,_,_,rfl,rfl,.inl ⟨by decide,by decide⟩,_,_,rfl,rfl,?_⟩⟩
  try dsimp only
  rw [Cq]
  have e:Dp t.cps.toList (k+i) - Dp t.cps.toList k+1 - 2*(if c=41 then 1 else 0)=Dp t.cps.toList (k+(i+1)) - Dp t.cps.toList k:=by
   rw [show k+(i+1)=k+i+1 by omega,ds]
   omega
  rw [e]
  refine ⟨_,rfl,rfl,_,rfl,?_⟩
  by_cases z:Dp t.cps.toList (k+(i+1)) - Dp t.cps.toList k=0
  ·refine dF (congrArg V.int z) ⟨_,rfl,?_⟩
   have m:=tS (c:=t.cps.toList) (k:=k) (j:=k+i) (by omega) hlt (by rw [show k+i+1=k+(i+1) by omega]; omega) no
   rw [m] at q
   rw [show (k:Int)+(i:Int)=((k+i:Nat):Int) by omega]
   exact q
  ·refine eH (fun w=>z (by injection w)) ⟨_,rfl,rfl,fun m h1 h2=>?_⟩
   by_cases em:m=k+i
   ·subst em
    rw [show k+i+1=k+(i+1) by omega]
    omega
   ·exact no m h1 (by omega)
 ·rintro σ H' ⟨o1,rfl,rfl,no⟩
  have m:=zA (c:=t.cps.toList) (k:=k) fun m h1 h2=>no m h1 (by omega)
  rw [m] at q
  exact ⟨_,rfl,q⟩
theorem Bn (F:aV K "_law_bows_of" "_law_bows_of" kE f fd) {f0:Addr} {fd0:FuncData} (kq:Def P w K mg base "_law_mate" ["_law_text","_law_at"] 1 (mr K ca) f0 fd0) (aO:mg "range" = none) (aE:mg "len" = none):az P w K mg base aZ 2 f fd ["_law_text"] (rL K ca):=by
 refine F.ok Bg (fun vs H Q E h=>?_) (fun cdv A outer s H vs Q E hr h=>?_)
 ·obtain ⟨t,rfl,hz,q⟩:=h
  rfl
 obtain ⟨t,rfl,hz,q⟩:=h
 refine ⟨_,af (au (eM rfl (dy rfl aO (aa (ax e7 rfl aE bt (aa (pv 0) ab)) ab)) rfl rfl rfl rfl (N:=["_law_k","_law_text"]) (.own (.cap (j:=0) rfl rfl rfl .nil)) (fun _ _ _ _ _ _=>(aM (i:=0) (by show List.Nodup (["_law_k","_law_text"]:List Str); decide +kernel) rfl (Or.inl rfl))) (fun _ _ _ _ _ _=>(tN (aJ cN (aH jo (pv 1) (pv 0) (fun _ _=>rfl)) bF (aF _)))) (fun _ _ _ _ _ _=>(bA (aa (pv 0) (aa (aD kq hr (aa (pv 1) (aa (pv 0) ab))) ab)))))),?_⟩
 have lc:=bJ t
 have lz:t.length<=sizeLine:=sz (by omega)
 refine ⟨_,rfl,t,rfl,lz,_,rfl,by omega,by omega,fun D hD=>g6 (lo:=0) (n:=((t.length:Nat):Int).toNat) (fun i ys H'=>ah H H'/\H' D=some (.lst ys)/\cR H' ys (cF t.cps.toList i)/\ys.length<=i) (sz (by omega)) ⟨ah.new (ah.refl H) hD _,upd_same,.nil,Nat.le_refl _⟩ (fun i ys H' _ h=>h.2.2.2) ?_ ?_⟩
 ·rintro i ys H5 R R0 hi ⟨s5,hD5,pr,ly⟩ hR hR0
  have hk:i < t.cps.toList.length:=by omega
  have hat:=jv (x:=t) (i:=(0:Int)+(i:Int)) (by omega) (by rw [show ((0:Int)+(i:Int)).toNat=i by omega]; exact List.getElem?_eq_getElem hk)
  have bs:=eV t.cps.toList i
  rw [show t.cps.toList.getD i 0=t.cps.toList[i] by rw [List.getD_eq_getElem?_getD,List.getElem?_eq_getElem hk]; rfl] at bs
  generalize t.cps.toList[i]=c at hat bs
  refine ⟨Ext.set rfl,⟨_,rfl,_,rfl,t,_,c,rfl,rfl,lz,hat,rfl,_,rfl,?_⟩⟩
  refine nG (pI c) ?_
  by_cases hc:c=40
  ·rw [if_pos hc] at bs
   refine dF hc ⟨_,rfl,_,rfl,_,rfl,t,i,(by rw [show (0:Int)+(i:Int)=(i:Int) by omega]; rfl),hz,by omega,(by show 2<=sizeLine; decide),fun t1 ht1=>?_⟩
   have n1:D≠t1:=ao hD5 ht1
   have hy1:=(upd_ne (o:=.tup [.int ((0:Int)+(i:Int)),.int (bC t.cps.toList i)]) n1).trans hD5
   refine hR _ _ hy1 ⟨(ah.new s5 ht1 _).upd hD _,upd_same,?_,by rw [List.length_append]; exact Nat.succ_le_succ ly⟩
   have:=((pr.updN ht1 (.tup [.int ((0:Int)+(i:Int)),.int (bC t.cps.toList i)])).snoc (t:=t1) (p:=((0:Int)+(i:Int),bC t.cps.toList i)) upd_same).updL hy1 (.lst (ys++[.ref t1]))
   rw [bs]
   have e0:((0:Int)+(i:Int),bC t.cps.toList i)=((i:Int),bC t.cps.toList i):=by rw [show (0:Int)+(i:Int)=(i:Int) by omega]
   rw [e0] at this
   exact this
  ·rw [if_neg hc,List.append_nil] at bs
   exact eH hc (hR0 _ ⟨s5,hD5,by rw [bs]; exact pr,by omega⟩)
 ·rintro ys H5 ⟨s5,hD5,pr,_⟩
  rw [show ((t.length:Nat):Int).toNat=t.length by omega] at pr
  exact q _ _ s5 hD ⟨ys,hD5,pr⟩
theorem AD (F:aV K "__init__" "Family.__init__" kA ca.pC fd):az P w K mg base aZ 1 ca.pC fd ["self","word","least"] (qm K ca):=by
 refine F.ok Bc (fun vs H Q E h=>?_) (fun cdv A outer s H vs Q E hr h=>?_)
 ·obtain ⟨x,dx,w,l,rfl,hx,q⟩:=h
  rfl
 obtain ⟨x,dx,w,l,rfl,hx,q⟩:=h
 refine ⟨_,ag (eT (pv 0) (pv 1) rfl)
  (af (eT (pv 0) (pv 2) rfl)),?_⟩
 refine ⟨_,rfl,_,rfl,x,ca.aQ,dx,_,rfl,hx,CA.kh,CA.d6,(by show 0 < 1000; decide),?_⟩
 refine ⟨_,rfl,_,rfl,x,ca.aQ,dx,_,rfl,upd_same,CA.kh,CA.dJ,(by show 1 < 1000; decide),?_⟩
 exact q _ _ gz (iu w l)
theorem CG (F:aV K "__init__" "SplitFamily.__init__" nk ca.ue fd) {fd0:FuncData} (uW:aS P w K mg base ["self","word","least"] 1 (qm K ca) ca.pC fd0):az P w K mg base aZ 3 ca.ue fd ["self","word"] (uG K ca):=by
 refine F.ok C0 (fun vs H Q E h=>?_) (fun cdv A outer s H vs Q E hr h=>?_)
 ·obtain ⟨x,dx,w,rfl,hx,q⟩:=h
  rfl
 obtain ⟨x,dx,w,rfl,hx,q⟩:=h
 refine ⟨_,af (aT (hJ CA.gN CA.cm_Family___init___Turns uW hr (aa (pv 0) (aa (pv 1) (aa ai ab))))),?_⟩
 exact ⟨_,rfl,_,rfl,x,dx,w,0,rfl,hx,fun fs H' e f=>q fs H' e f⟩
theorem B6 (F:aV K "__init__" "Turns.__init__" j8 ca.pQ fd) {fd0:FuncData} (xX:aS P w K mg base ["self","word"] 3 (uG K ca) ca.ue fd0):az P w K mg base aZ 5 ca.pQ fd ["self"] (qK K ca):=by
 refine F.ok AR (fun vs H Q E h=>?_) (fun cdv A outer s H vs Q E hr h=>?_)
 ·obtain ⟨x,dx,rfl,hx,q⟩:=h
  rfl
 obtain ⟨x,dx,rfl,hx,q⟩:=h
 refine ⟨_,af (aT (hJ CA.dX CA.cm_SplitFamily___init___Turns xX hr (aa (pv 0) (aa bF ab)))),?_⟩
 exact ⟨_,rfl,x,dx,_,rfl,hx,fun fs H' e f=>q fs H' e f⟩
theorem BF (F:aV K "comes_off_a_stack" "comes_off_a_stack" jI f fd):az P w K mg base aZ 1 f fd ["numbers"] (p4 K ca):=by
 refine F.ok jc (fun vs H Q E h=>?_) (fun cdv A outer s H vs Q E hr h=>?_)
 ·obtain ⟨l,row,rfl,hl,h64,hB,q⟩:=h
  rfl
 obtain ⟨l,row,rfl,hl,h64,hB,q⟩:=h
 refine ⟨_,ag (aB (i:=1) jc.nd rfl (Or.inl rfl) (fg ab))
  (ag (aB (i:=2) jc.nd rfl (Or.inl rfl) ai)
  (ag (cX PassesOwn.never rfl (dI (pv 0)) (aM (i:=3) jc.nd rfl (Or.inl rfl)) (ag (p8 PassesOwn.never (aJ yX (pv 2) (pv 3) (aF _)) (ag (aT (dq PySem.F.plainAttrs_list PySem.F.slot_list_append PySem.F.type_list_append bR (pv 1) (aa (pv 2) ab)))
  (af (qU (i:=2) jc.nd rfl (Or.inl rfl) ai xC))))
  (af (aW (aJ fV (wg PySem.F.plainAttrs_list PySem.F.slot_list_pop PySem.F.type_list_pop xa (pv 1)) (pv 3) (aF _)) (af (au bI)) aN))))
  (af (au bI)))),?_⟩
 have hperm:=(cS row).mp hB
 have lm:(row.map V.int).length=row.length:=List.length_map _
 refine ⟨Nat.zero_le _,fun ps hps=>?_⟩
 have s1:=ah.new (ah.refl H) hps (.lst [])
 have hs1:upd H ps (.lst []) ps=some (.lst ((stk row 0 0).map V.int)):=upd_same
 generalize upd H ps (.lst [])=H1 at s1 hs1 |-
 refine ⟨_,rfl,l,rfl,⟨_,ar.of (s1 _ _ hl)⟩,iD (xs:=row.map V.int) (fun i σ H'=>∃ (o1:Option V) (p:Nat),σ=[some (.ref l),some (.ref ps),some (.int p),o1]/\ah H H'/\H' ps=some (.lst ((stk row i p).map V.int))/\Off row i p/\p<=100) ⟨_,0,rfl,s1,hs1,Off.start row,by omega⟩ (fun i σ H' _ h=>ar.of (h.choose_spec.choose_spec.2.1 _ _ hl)) ?_ ?_⟩
 ·rintro i v σ H2 hv ⟨o1,p,rfl,sm,hst,off,p100⟩
  obtain ⟨x,rfl⟩:=n6 hv
  have hx:row[i]? = some x:=by
   rw [List.getElem?_map] at hv
   cases h:row[i]? with
   | none=>rw [h] at hv; cases hv
   | some d=>rw [h] at hv; injection hv with hv; injection hv with hv; rw [hv]
  have hi:i < row.length:=(List.getElem?_eq_some_iff.mp hx).1
  have xr:=eI.mp (hperm.mem_iff.mp (List.mem_of_getElem? hx))
  refine ⟨fun m σ H'=>∃ (d:Nat),σ=[some (.ref l),some (.ref ps),some (.int ((p+d:Nat):Int)),some (.int x)]/\ah H H'/\H' ps=some (.lst ((stk row i (p+d)).map V.int))/\m=(x+1 - (p:Int) - (d:Int)).toNat/\(d=0\/((p+d:Nat):Int)<=x+1),⟨_,0,rfl,sm,hst,rfl,.inl rfl⟩,?_⟩
  rintro m σ H3 ⟨d,rfl,sm3,hst3,hm,hd⟩
  have lst:∀ k p:Nat,((stk row k p).map V.int).length<=p:=fun k p=>by
   rw [List.length_map]
   unfold stk
   exact Nat.le_trans (List.length_filter_le _ _) (by rw [nY]; exact Nat.le_refl _)
  refine ⟨_,rfl,_,rfl,_,_,rfl,rfl,_,rfl,?_⟩
  by_cases hle:((p+d:Nat):Int)<=x
  ·refine dF hle ⟨fun σ' H'=>σ'=[some (.ref l),some (.ref ps),some (.int ((p+d:Nat)+1:Int)),some (.int x)]/\ah H H'/\H' ps=some (.lst ((stk row i (p+d+1)).map V.int)),?_,?_⟩
   ·rintro σ' H' ⟨rfl,a1,a2⟩
    exact ⟨(x+1 - (p:Int) - ((d+1:Nat):Int)).toNat,by omega,d+1,by rw [show ((p+d:Nat):Int)+1=((p+(d+1):Nat):Int) by omega],a1,a2,rfl,.inr (by omega)⟩
   ·have hn:((p+d:Nat):Int)∉row.take i:=fun z=>by have:=off.below _ z; omega
    have:=lst i (p+d)
    refine ⟨_,rfl,.inl ⟨rfl,_,ar.of hst3⟩,_,rfl,ps,_,_,rfl,rfl,hst3,jd (by omega),?_⟩
    refine ⟨_,rfl,_,_,rfl,rfl,rfl,sm3.upd hps _,?_⟩
    rw [upd_same,yq hn,List.map_append]
    rfl
  ·have hp':(((p+d:Nat):Nat):Int)=if (p:Int)<=x then x+1 else (p:Int):=by
    split<;>omega
   obtain ⟨l0,t,el,good,bad⟩:=off.step hperm hx hp'
   have lt:=lst i (p+d)
   rw [el] at hst3 lt
   have hlast:((l0++[t]).map V.int)[((l0++[t]).map V.int).length - 1]? = some (.int t):=by
    rw [List.length_map,List.length_append,List.map_append]
    show (l0.map V.int++[V.int t])[l0.length+1 - 1]? = _
    rw [Nat.add_sub_cancel,List.getElem?_append_right (by simp)]
    simp
   have hdl:((l0++[t]).map V.int).dropLast=l0.map V.int:=by rw [List.map_append]; exact List.dropLast_concat
   refine eH hle ⟨_,rfl,.inl ⟨rfl,_,ar.of hst3⟩,ps,_,_,rfl,rfl,hst3,hlast,?_⟩
   rw [hdl]
   refine ⟨_,rfl,rfl,_,rfl,?_⟩
   by_cases e:t=x
   ·obtain ⟨g1,g2⟩:=good e
    refine fQ (by rw [e]) ⟨_,p+d,rfl,sm3.upd hps _,by rw [upd_same,g1],g2,by omega⟩
   ·refine C5 (ne_int e) ?_
    have:=mZ hi (bad e)
    rw [this] at q
    exact q _ (sm3.upd hps _)
 ·rintro σ H2 ⟨o1,p,rfl,sm,hst,off,_⟩
  have:lP row=true:=jb fun k hk=>off.fine k (by rw [lm]; exact hk)
  rw [this] at q
  exact q _ sm
theorem AY (F:aV K "is_one" "Turns.is_one" kH ca.pL fd) {f0:Addr} {fd0:FuncData} (j9:Def P w K mg base "each_once" ["numbers"] 1 (lZ K ca) f0 fd0) {f1:Addr} {fd1:FuncData} (vH:Def P w K mg base "comes_off_a_stack" ["numbers"] 1 (p4 K ca) f1 fd1):az P w K mg base aZ 2 ca.pL fd ["self","thing"] (qx K ca):=by
 refine F.ok AE (fun vs H Q E h=>?_) (fun cdv A outer s H vs Q E hr h=>?_)
 ·obtain ⟨x,l,ns,rfl,hl,h64,q⟩:=h
  rfl
 obtain ⟨x,l,ns,rfl,hl,h64,q⟩:=h
 refine ⟨_,af (au (iq (aD j9 hr (aa (pv 1) ab)) (jr (aD vH hr (aa (pv 1) ab))))),?_⟩
 refine ⟨_,rfl,l,ns,rfl,hl,by omega,fun H1 s1=>⟨_,rfl,?_⟩⟩
 unfold dQ at q
 cases hB:eh ns with
 | false =>
  rw [hB,Bool.false_and] at q
  exact bh (q _ s1)
 | true =>
  rw [hB,Bool.true_and] at q
  exact dP ⟨_,rfl,l,ns,rfl,s1 _ _ hl,h64,hB,fun H2 s2=>q _ (s1.trans s2)⟩
theorem CC (F:aV K "refuse_other" "Family.refuse_other" nN ca.vF fd) {fd0:FuncData} (ua:aS P w K mg base ["self","thing"] 2 (qx K ca) ca.pL fd0):az P w K mg base aZ 3 ca.vF fd ["self","thing"] (vJ K ca):=by
 refine F.ok C1 (fun vs H Q E h=>?_) (fun cdv A outer s H vs Q E hr h=>?_)
 ·obtain ⟨x,dx,fs,l,ns,rfl,hx,fo,hl,h64,hB,q⟩:=h
  rfl
 obtain ⟨x,dx,fs,l,ns,rfl,hx,fo,hl,h64,hB,q⟩:=h
 refine ⟨_,af (aW (br (bb (fO (pv 0) CA.kh CA.mt_Turns_is_one ua hr (aa (pv 1) ab)))) (af gP) aN),?_⟩
 exact ⟨_,rfl,x,dx,fs,rfl,hx,fo,_,rfl,x,l,ns,rfl,hl,h64,fun H1 s1=>⟨_,rfl,by rw [hB]; exact bh (q H1 s1)⟩⟩
theorem AJ (F:aV K "turns_mirror" "turns_mirror" kL f fd) {fd0:FuncData} (ur:aS P w K mg base ["self"] 5 (qK K ca) ca.pQ fd0) {fd1:FuncData} (xN:aS P w K mg base ["self","thing"] 3 (vJ K ca) ca.vF fd1) (aE:mg "len" = none) (g8:mg "enumerate" = none):az P w K mg base aZ 7 f fd ["thing"] (rF K ca):=by
 refine F.ok jq (fun vs H Q E h=>?_) (fun cdv A outer s H vs Q E hr h=>?_)
 ·obtain ⟨l,ns,rfl,hl,hz,hT,q⟩:=h
  rfl
 obtain ⟨l,ns,rfl,hl,hz,hT,q⟩:=h
 refine ⟨_,ag (aT (fO (ji CA.mk_Turns CA.zR ur hr) CA.kh CA.mt_Turns_refuse_other xN hr (aa (pv 0) ab)))
  (ag (aB (i:=1) jq.nd rfl (Or.inl rfl) (aw bE (ax aG rfl aE bt (aa (pv 0) ab)) ai))
  (ag (aB (i:=2) jq.nd rfl (Or.inl rfl) (aw Ba (fg (aa ai ab)) (ax aG rfl aE bt (aa (pv 0) ab))))
  (ag (cX PassesOwn.never rfl (zb rfl g8 (aa (pv 0) ab)) (iY rfl (bG (aM (i:=3) jq.nd rfl (Or.inl rfl)) (bG (aM (i:=4) jq.nd rfl (Or.inl rfl)) eZ))) (af (qS (aw bE (pv 1) (pv 3)) (wU (pv 2) (aw bE (pv 1) (pv 4)) set_list))))
  (af (au (pv 2)))))),?_⟩
 intro x dx nx ndx nex
 refine ⟨x,dx,rfl,upd_same,fun fsx Hx1 ex fx=>⟨rfl,?_⟩⟩
 have sx:ah H Hx1:=by rw [ex]; exact ((ah.new (ah.refl H) ndx _).upd nx _).upd nx _
 have hx:Hx1 x=some (.ins ca.aQ dx fsx):=by rw [ex]; exact upd_same
 refine ⟨x,dx,fsx,rfl,hx,fx.no "refuse_other" (by decide) (by decide),_,rfl,x,dx,fsx,l,ns,rfl,hx,fx.no "is_one" (by decide) (by decide),sx _ _ hl,by omega,hT,fun H2 s2=>?_⟩
 have t2:=sx.trans s2
 have hl2:=t2 _ _ hl
 have hp:=oE hT
 have lm:(ns.map V.int).length=ns.length:=List.length_map _
 refine ⟨_,rfl,l,_,rfl,.inl (ar.of hl2),_,_,rfl,rfl,?_⟩
 refine ⟨(by show 1<=sizeLine; decide),fun p1 hp1=>?_⟩
 have s3:=ah.new t2 hp1 (.lst [.int 0])
 have n1:l≠p1:=ao hl2 hp1
 refine ⟨_,rfl,l,_,rfl,.inl (ar.of ((upd_ne n1).trans hl2)),p1,_,_,rfl,rfl,upd_same,by omega,by omega,sz (by simp; omega),fun pf hpf=>?_⟩
 have s4:=ah.new s3 hpf (.lst (List.replicate (((ns.map V.int).length:Nat):Int).toNat [V.int 0]).flatten)
 have fpf:=s3.free hpf
 have hf4:upd (upd H2 p1 (.lst [.int 0])) pf (.lst (List.replicate (((ns.map V.int).length:Nat):Int).toNat [V.int 0]).flatten) pf=some (.lst ((fI ns 0).map V.int)):=by
  rw [upd_same,zm,w4,List.map_replicate,show (((ns.map V.int).length:Nat):Int).toNat=ns.length by omega]
 generalize upd (upd H2 p1 (.lst [.int 0])) pf (.lst (List.replicate (((ns.map V.int).length:Nat):Int).toNat [V.int 0]).flatten)=H4 at s4 hf4 |-
 have nlf:l≠pf:=ao (s3 _ _ hl) hpf
 refine ⟨_,rfl,l,rfl,⟨_,ar.of (s4 _ _ hl)⟩,xF (xs:=ns.map V.int) (fun i σ H'=>∃ (o1 o2:Option V),σ=[some (.ref l),some (.int ((((ns.map V.int).length:Nat):Int) - 1)),some (.ref pf),o1,o2]/\ah H H'/\H' pf=some (.lst ((fI ns i).map V.int))) ⟨_,_,rfl,s4,hf4⟩ (fun i σ H' _ h=>ar.of (h.choose_spec.choose_spec.2.1 _ _ hl)) ?_ ?_⟩
 ·rintro i v σ H5 T hv ⟨o1,o2,rfl,sm,hf5⟩ hT5
  obtain ⟨c,rfl⟩:=n6 hv
  have hc:ns[i]? = some c:=by
   rw [List.getElem?_map] at hv
   cases h:ns[i]? with
   | none=>rw [h] at hv; cases hv
   | some d=>rw [h] at hv; injection hv with hv; injection hv with hv; rw [hv]
  have hi:i < ns.length:=(List.getElem?_eq_some_iff.mp hc).1
  have cr:=(fA hp).mp (List.mem_of_getElem? hc)
  have sm6:=ah.new sm hT5 (.tup [.int (i:Int),.int c])
  have hf6:=(upd_ne (o:=.tup [.int (i:Int),.int c]) (ao hf5 hT5)).trans hf5
  have hT6:upd H5 T (.tup [.int (i:Int),.int c]) T=some (.tup [.int (i:Int),.int c]):=upd_same
  generalize upd H5 T (.tup [.int (i:Int),.int c])=H6 at sm6 hf6 hT6 |-
  have lS:((fI ns i).map V.int).length=ns.length:=by rw [List.length_map,pV]
  refine ⟨T,_,rfl,a9.of hT6,rfl,_,_,rfl,_,_,rfl,rfl,?_⟩
  refine ⟨_,rfl,_,rfl,_,_,rfl,rfl,_,rfl,_,rfl,_,rfl,_,_,rfl,rfl,pf,_,_,_,rfl,rfl,hf6,tL (by omega) (by omega),?_⟩
  refine ⟨_,_,rfl,sm6.upd fpf _,?_⟩
  rw [upd_same,<- List.map_set,lm,w8 hp hc]
 ·rintro σ H5 ⟨o1,o2,rfl,sm,hf5⟩
  rw [lm,ya hp] at hf5
  exact ⟨_,rfl,q _ _ sm fpf hf5⟩
theorem BJ (F:aV K "_law_numbers" "_law_numbers" kc f fd) {f0:Addr} {fd0:FuncData} (fS:Def P w K mg base "_law_whole" ["_law_found"] 1 (iV K ca) f0 fd0) (aK:mg "isinstance" = none) (cj:mg "list" = none) (aE:mg "len" = none) (aO:mg "range" = none):az P w K mg base aZ 2 f fd ["_law_found","_law_due"] (rR K ca):=by
 refine F.ok wQ (fun vs H Q E h=>?_) (fun cdv A outer s H vs Q E hr h=>?_)
 ·obtain ⟨p,r,ns,rfl,hp,hr2,hz,q⟩:=h
  rfl
 obtain ⟨p,r,ns,rfl,hp,hr2,hz,q⟩:=h
 refine ⟨_,ag (aW (PW.pt (cA (br (bb (ax cw rfl aK bL (aa (pv 0) (aa (eO (v:=.ty "list") rfl cj gC rfl) ab))))) (cE (aJ fV (ax aG rfl aE bt (aa (pv 0) ab)) (ax aG rfl aE bt (aa (pv 1) ab)) (aF _))))) (af (au bI)) aN)
  (ag (cX PassesOwn.never rfl (dy rfl aO (aa (ax aG rfl aE bt (aa (pv 1) ab)) ab)) (aM (i:=2) wQ.nd rfl (Or.inl rfl)) (af (aW (PW.pt (cA (br (bb (aD fS hr (aa (aH bu (pv 0) (pv 2) (fun _ _=>rfl)) ab)))) (cE (aJ fV (aH bu (pv 0) (pv 2) (fun _ _=>rfl)) (aH bu (pv 1) (pv 2) (fun _ _=>rfl)) (aF _))))) (af (au bI)) aN)))
  (af (au bI))),?_⟩
 have lm:(ns.map V.int).length=ns.length:=List.length_map _
 refine ⟨_,rfl,_,_,_,_,_,rfl,gq,.lst hp,iM,_,rfl,bh ⟨_,rfl,p,_,rfl,.inl (ar.of hp),_,rfl,r,_,rfl,.inl (ar.of hr2),rfl,_,rfl,fQ rfl ?_⟩⟩
 refine ⟨_,rfl,r,_,rfl,.inl (ar.of hr2),_,rfl,by omega,by omega,eD (lo:=0) (n:=(((ns.map V.int).length:Nat):Int).toNat) (fun i σ H'=>H=H'/\∃ o,σ=[some (.ref p),some (.ref r),o]) ⟨rfl,_,rfl⟩ ?_ ?_⟩
 ·rintro i σ H' hi ⟨rfl,o,rfl⟩
  have at1:=eL (ns:=ns) (i:=(0:Int)+(i:Int)) (by omega) (by omega)
  exact ⟨_,rfl,_,rfl,p,_,_,_,rfl,rfl,ar.of hp,at1,_,rfl,_,rfl,bh ⟨_,rfl,_,rfl,p,_,_,_,rfl,rfl,ar.of hp,at1,_,rfl,_,rfl,r,_,_,_,rfl,rfl,ar.of hr2,at1,rfl,_,rfl,fQ rfl ⟨rfl,_,rfl⟩⟩⟩
 ·rintro σ H' ⟨rfl,o,rfl⟩
  exact q
theorem zY (F:aV K "_law_turns" "_law_turns" jC f fd) {f0:Addr} {fd0:FuncData} (pB:Def P w K mg base "turns_mirror" ["thing"] 7 (rF K ca) f0 fd0) {f1:Addr} {fd1:FuncData} (m4:Def P w K mg base "_law_numbers" ["_law_found","_law_due"] 2 (rR K ca) f1 fd1) (cj:mg "list" = none) (aE:mg "len" = none) (aO:mg "range" = none):az P w K mg base aZ 8 f fd ["_law_row"] (rE K ca):=by
 refine F.ok jf (fun vs H Q E h=>?_) (fun cdv A outer s H vs Q E hr h=>?_)
 ·obtain ⟨l,ns,rfl,hl,hz,hT,q⟩:=h
  rfl
 obtain ⟨l,ns,rfl,hl,hz,hT,q⟩:=h
 refine ⟨_,ag (aB (i:=1) jf.nd rfl (Or.inl rfl) (fW gD rfl cj gC (aa (pv 0) ab)))
  (ag (aB (i:=2) jf.nd rfl (Or.inl rfl) (aD pB hr (aa (pv 1) ab)))
  (ag (aB (i:=3) jf.nd rfl (Or.inr rfl) (aw bE (ax aG rfl aE bt (aa (pv 0) ab)) ai))
  (ag (mH (i:=4) jf.nd rfl (Or.inl rfl) rfl rfl (dy rfl aO (aa (ax aG rfl aE bt (aa (pv 0) ab)) ab)) rfl rfl rfl rfl (N:=["_law_k","_law_last","_law_row"]) (.own (.cap (j:=3) rfl rfl rfl (.cap (j:=0) rfl rfl rfl .nil))) (fun _ _ _ _ _ _=>(aM (i:=0) (by show List.Nodup (["_law_k","_law_last","_law_row"]:List Str); decide +kernel) rfl (Or.inl rfl))) (fun _ _ _ _ _ _=>eK) (fun _ _ _ _ _ _=>(aw bE (pv 1) (Aq (K:=K) rfl PySem.F.plainAttrs_list PySem.F.slot_list_index PySem.F.type_list_index (xb (K:=K) rfl) (pv 2) (aa (aw bE (pv 1) (pv 0)) ab)))))
  (ag (aW (PW.pt (cA (br (bb (aD m4 hr (aa (pv 2) (aa (pv 4) ab))))) (cE (br (bb (aD m4 hr (aa (aD pB hr (aa (pv 2) ab)) (aa (pv 0) ab)))))))) (af (au bI)) aN)
  (ag (aT (dq PySem.F.plainAttrs_list PySem.F.slot_list_append PySem.F.type_list_append bR (pv 2) (aa ai ab)))
  (af (au (aD m4 hr (aa (pv 1) (aa (pv 0) ab)))))))))),?_⟩
 have hp:=oE hT
 have lm:(ns.map V.int).length=ns.length:=List.length_map _
 refine ⟨_,rfl,l,_,rfl,.inl (ar.of hl),fun c hc=>?_⟩
 have s1:=ah.new (ah.refl H) hc (.lst (ns.map V.int))
 have ec1:upd H c (.lst (ns.map V.int)) c=some (.lst (ns.map V.int)):=upd_same
 generalize upd H c (.lst (ns.map V.int))=H1 at s1 ec1 |-
 refine ⟨_,rfl,c,ns,rfl,ec1,hz,hT,fun f H2 s2 f2 h2=>?_⟩
 have t2:=s1.trans s2
 have hl2:=t2 _ _ hl
 refine ⟨_,rfl,l,_,rfl,.inl (ar.of hl2),_,_,rfl,rfl,?_⟩
 refine ⟨_,rfl,l,_,rfl,.inl (ar.of hl2),_,rfl,by omega,by omega,fun D hD=>g6 (lo:=0) (n:=(((ns.map V.int).length:Nat):Int).toNat) (fun i ys H'=>ah H2 H'/\H' D=some (.lst ys)/\ys=((dA ns).take i).map V.int/\i<=ns.length) (sz (by omega)) ⟨ah.new (ah.refl H2) hD _,upd_same,rfl,Nat.zero_le _⟩ (fun i ys H' _ h=>by rw [h.2.2.1,List.length_map,List.length_take]; omega) ?_ ?_⟩
 ·rintro i ys H5 R R0 hi ⟨s5,hD5,ey,hi2⟩ hR hR0
  have hlt:i < ns.length:=by omega
  have hv:=(fA hp).mpr (show 0<=(ns.length:Int) - 1 - (i:Int)/\(ns.length:Int) - 1 - (i:Int) < (ns.length:Int) by omega)
  refine ⟨Ext.set rfl,mP (dP ⟨_,rfl,_,rfl,.inl ⟨rfl,_,ar.of (s5 _ _ hl2)⟩,_,rfl,_,rfl,_,_,rfl,rfl,l,ns,(ns.length:Int) - 1 - (i:Int),rfl,(by rw [lm,Int.zero_add]),ar.of (s5 _ _ hl2),hv,_,_,rfl,rfl,hR _ _ hD5 ⟨s5.upd hD _,upd_same,?_,hlt⟩⟩)⟩
  rw [List.take_add_one,ey,List.map_append]
  unfold dA
  rw [List.getElem?_map,List.getElem?_range hlt,lm]
  rfl
 ·rintro ys H5 ⟨s5,hD5,ey,hi2⟩
  rw [List.take_of_length_le (by rw [bH]; omega)] at ey
  rw [ey] at hD5
  have h25:=s5 _ _ h2
  refine ⟨_,rfl,_,rfl,f,D,dA ns,rfl,h25,hD5,by rw [bH]; omega,_,rfl,bh ?_⟩
  refine ⟨_,rfl,f,dA ns,rfl,h25,by rw [bH]; exact hz,wB hT,fun g H6 s6 f6 h6=>?_⟩
  rw [xB hp] at h6
  have t6:=(t2.trans s5).trans s6
  refine ⟨_,rfl,g,l,ns,rfl,h6,t6 _ _ hl,by omega,_,rfl,bh ?_⟩
  have nfc:c≠f:=ao ec1 f2
  have nfl:l≠f:=ao (s1 _ _ hl) f2
  have h26:=s6 _ _ h25
  refine ⟨_,rfl,.inl ⟨rfl,_,ar.of h26⟩,f,_,_,rfl,rfl,h26,by rw [List.length_map,bH]; exact jd (by omega),?_⟩
  exact ⟨_,rfl,_,rfl,c,l,ns,rfl,(upd_ne nfc).trans (((s2.trans s5).trans s6) _ _ ec1),(upd_ne nfl).trans (t6 _ _ hl),by omega,q _ (t6.upd (s1.free f2) _)⟩
theorem BX (F:aV K "_law_turns_of" "_law_turns_of" jZ f fd) {f0:Addr} {fd0:FuncData} (kq:Def P w K mg base "_law_mate" ["_law_text","_law_at"] 1 (mr K ca) f0 fd0) (bo:mg "sorted" = none) (aO:mg "range" = none) (aE:mg "len" = none):az P w K mg base aZ 2 f fd ["_law_text"] (qZ K ca):=by
 refine F.ok wA (fun vs H Q E h=>?_) (fun cdv A outer s H vs Q E hr h=>?_)
 ·obtain ⟨t,rfl,hz,h40,q⟩:=h
  rfl
 obtain ⟨t,rfl,hz,h40,q⟩:=h
 refine ⟨_,ag (aB (i:=1) wA.nd rfl (Or.inl rfl) (ax eF rfl bo eB (aa (eM rfl (dy rfl aO (aa (ax e7 rfl aE bt (aa (pv 0) ab)) ab)) rfl rfl rfl rfl (N:=["_law_k","_law_text"]) (.own (.cap (j:=0) rfl rfl rfl .nil)) (fun _ _ _ _ _ _=>(aM (i:=0) (by show List.Nodup (["_law_k","_law_text"]:List Str); decide +kernel) rfl (Or.inl rfl))) (fun _ _ _ _ _ _=>(tN (aJ cN (aH jo (pv 1) (pv 0) (fun _ _=>rfl)) bF (aF _)))) (fun _ _ _ _ _ _=>(bA (aa (aD kq hr (aa (pv 1) (aa (pv 0) ab))) (aa (pv 0) ab))))) ab)))
  (af (au (eM rfl (dI (pv 1)) rfl rfl rfl rfl (N:=["_law_pair","_law_text"]) (.own (.cap (j:=0) rfl rfl rfl .nil)) (fun _ _ _ _ _ _=>(aM (i:=0) (by show List.Nodup (["_law_pair","_law_text"]:List Str); decide +kernel) rfl (Or.inl rfl))) (fun _ _ _ _ _ _=>eK) (fun _ _ _ _ _ _=>(z5 (K:=K) rfl PySem.F.plainAttrs_str PySem.F.slot_str_count PySem.F.type_str_count yd (lL BI (pv 1) nP (nt (aH (nI (K:=K) rfl) (pv 0) ai (fun _ _=>rfl)))) (aa bF ab)))))),?_⟩
 have lc:=bJ t
 have lz:t.length<=sizeLine:=sz (by omega)
 refine ⟨_,rfl,t,rfl,lz,_,rfl,by omega,by omega,fun D hD=>g6 (lo:=0) (n:=((t.length:Nat):Int).toNat) (fun i ys H'=>ah H H'/\H' D=some (.lst ys)/\cR H' ys ((cF t.cps.toList i).map wR)/\ys.length<=i) (sz (by omega)) ⟨ah.new (ah.refl H) hD _,upd_same,.nil,Nat.le_refl _⟩ (fun i ys H' _ h=>h.2.2.2) ?_ ?_⟩
 ·rintro i ys H5 R R0 hi ⟨s5,hD5,pr,ly⟩ hR hR0
  have hk:i < t.cps.toList.length:=by omega
  have hat:=jv (x:=t) (i:=(0:Int)+(i:Int)) (by omega) (by rw [show ((0:Int)+(i:Int)).toNat=i by omega]; exact List.getElem?_eq_getElem hk)
  have bs:=congrArg (List.map wR) (eV t.cps.toList i)
  rw [show t.cps.toList.getD i 0=t.cps.toList[i] by rw [List.getD_eq_getElem?_getD,List.getElem?_eq_getElem hk]; rfl,List.map_append] at bs
  generalize t.cps.toList[i]=c at hat bs
  refine ⟨Ext.set rfl,⟨_,rfl,_,rfl,t,_,c,rfl,rfl,lz,hat,rfl,_,rfl,?_⟩⟩
  refine nG (pI c) ?_
  by_cases hc:c=40
  ·rw [if_pos hc] at bs
   refine dF hc ⟨_,rfl,_,rfl,t,i,(by rw [show (0:Int)+(i:Int)=(i:Int) by omega]; rfl),hz,by omega,_,rfl,(by show 2<=sizeLine; decide),fun t1 ht1=>?_⟩
   have n1:D≠t1:=ao hD5 ht1
   have hy1:=(upd_ne (o:=.tup [.int (bC t.cps.toList i),.int ((0:Int)+(i:Int))]) n1).trans hD5
   refine hR _ _ hy1 ⟨(ah.new s5 ht1 _).upd hD _,upd_same,?_,by rw [List.length_append]; exact Nat.succ_le_succ ly⟩
   have:=((pr.updN ht1 (.tup [.int (bC t.cps.toList i),.int ((0:Int)+(i:Int))])).snoc (t:=t1) (p:=(bC t.cps.toList i,(0:Int)+(i:Int))) upd_same).updL hy1 (.lst (ys++[.ref t1]))
   rw [bs]
   have e0:(bC t.cps.toList i,(0:Int)+(i:Int))=wR ((i:Int),bC t.cps.toList i):=by rw [show (0:Int)+(i:Int)=(i:Int) by omega]; rfl
   rw [e0] at this
   exact this
  ·rw [if_neg hc,List.map_nil,List.append_nil] at bs
   exact eH hc (hR0 _ ⟨s5,hD5,by rw [bs]; exact pr,by omega⟩)
 ·rintro ys H5 ⟨s5,hD5,pr,_⟩
  rw [show ((t.length:Nat):Int).toNat=t.length by omega] at pr
  refine ⟨D,_,rfl,⟨ys,hD5,pr⟩,by rw [List.length_map]; omega,fun pq qs H6 s6 f6 h6 pm rs=>?_⟩
  have lq:qs.length<=40:=by rw [pm.length_eq,List.length_map]; exact h40
  have s56:=s5.trans s6
  obtain ⟨xs,el,lxs,pr6⟩:=h6.len
  have bnd:∀ p∈qs,0<=p.2:=fun p hp=>by
   obtain ⟨r,hr,rfl⟩:=List.mem_map.mp (pm.mem_iff.mp hp)
   exact (A0 hr).1
  refine ⟨_,rfl,pq,rfl,⟨_,ar.of el⟩,fun D2 hD2=>eY (xs:=xs) (fun i ys H'=>ah H6 H'/\H' D2=some (.lst ys)/\ys=((qs.take i).map fun q=>ra t.cps.toList q.2).map V.int/\i<=qs.length) (sz (by omega)) ⟨ah.new (ah.refl H6) hD2 _,upd_same,rfl,Nat.zero_le _⟩ (fun i ys H' hi h=>⟨ar.of (h.1 _ _ el),?_⟩) (fun i x ys H' R R0 hx h r r0=>?_) (fun ys H' h=>?_)⟩
  ·rw [h.2.2.1,List.length_map,List.length_map,List.length_take]
   omega
  ·obtain ⟨sm,hy,ey,hi⟩:=h
   obtain ⟨pp,tt,hpp,rfl,htt⟩:=pr6.get hx
   have hlt:i < qs.length:=(List.getElem?_eq_some_iff.mp hpp).1
   have b0:=bnd pp (List.mem_of_getElem? hpp)
   have ec:Txt.count (Txt.slice t none (some pp.2)) (Str.ofString "(")=ra t.cps.toList pp.2:=by
    rw [Dl,xh,x8 b0]
    rfl
   refine ⟨Ext.set rfl,mP (dP ⟨_,rfl,_,rfl,tt,_,_,_,rfl,rfl,a9.of (sm _ _ htt),rfl,_,rfl,t,rfl,lz,rfl,_,_,rfl,rfl,?_⟩)⟩
   rw [ec]
   refine r _ _ hy ⟨sm.upd hD2 _,upd_same,?_,hlt⟩
   rw [List.take_add_one,hpp,List.map_append,List.map_append,<- ey]
   rfl
  ·obtain ⟨sm,hy,ey,hi⟩:=h
   rw [List.take_of_length_le (by omega)] at ey
   rw [ey] at hy
   exact q _ qs _ (s56.trans sm) (s56.free hD2) pm rs hy
theorem BB (F:aV K "__init__" "Family.__init__" kN ca.pE fd):az P w K mg base aZ 1 ca.pE fd ["self","word","least"] (qv K ca):=by
 refine F.ok B9 (fun vs H Q E h=>?_) (fun cdv A outer s H vs Q E hr h=>?_)
 ·obtain ⟨x,dx,w,l,rfl,hx,q⟩:=h
  rfl
 obtain ⟨x,dx,w,l,rfl,hx,q⟩:=h
 refine ⟨_,ag (eT (pv 0) (pv 1) rfl)
  (af (eT (pv 0) (pv 2) rfl)),?_⟩
 refine ⟨_,rfl,_,rfl,x,ca.aL,dx,_,rfl,hx,CA.iF,CA.dG,(by show 0 < 1000; decide),?_⟩
 refine ⟨_,rfl,_,rfl,x,ca.aL,dx,_,rfl,upd_same,CA.iF,CA.du,(by show 1 < 1000; decide),?_⟩
 exact q _ _ gz (iu w l)
theorem CI (F:aV K "__init__" "SplitFamily.__init__" nH ca.uL fd) {fd0:FuncData} (uz:aS P w K mg base ["self","word","least"] 1 (qv K ca) ca.pE fd0):az P w K mg base aZ 3 ca.uL fd ["self","word"] (uZ K ca):=by
 refine F.ok CF (fun vs H Q E h=>?_) (fun cdv A outer s H vs Q E hr h=>?_)
 ·obtain ⟨x,dx,w,rfl,hx,q⟩:=h
  rfl
 obtain ⟨x,dx,w,rfl,hx,q⟩:=h
 refine ⟨_,af (aT (hJ CA.gN CA.cm_Family___init___Floors uz hr (aa (pv 0) (aa (pv 1) (aa ai ab))))),?_⟩
 exact ⟨_,rfl,_,rfl,x,dx,w,0,rfl,hx,fun fs H' e f=>q fs H' e f⟩
theorem AW (F:aV K "__init__" "Floors.__init__" ka ca.o5 fd) {fd0:FuncData} (yb:aS P w K mg base ["self","word"] 3 (uZ K ca) ca.uL fd0):az P w K mg base aZ 5 ca.o5 fd ["self"] (qQ K ca):=by
 refine F.ok Ae (fun vs H Q E h=>?_) (fun cdv A outer s H vs Q E hr h=>?_)
 ·obtain ⟨x,dx,rfl,hx,q⟩:=h
  rfl
 obtain ⟨x,dx,rfl,hx,q⟩:=h
 refine ⟨_,af (aT (hJ CA.dX CA.cm_SplitFamily___init___Floors yb hr (aa (pv 0) (aa bF ab)))),?_⟩
 exact ⟨_,rfl,x,dx,_,rfl,hx,fun fs H' e f=>q fs H' e f⟩
theorem BK (F:aV K "may_be_cut" "may_be_cut" kJ f fd):az P w K mg base aZ 1 f fd ["corners","a","b"] (p7 K ca):=by
 refine F.ok AZ (fun vs H Q E h=>?_) (fun cdv A outer s H vs Q E hr h=>?_)
 ·obtain ⟨c,a,b,rfl,ct,q⟩:=h
  rfl
 obtain ⟨c,a,b,rfl,ct,q⟩:=h
 refine ⟨_,af (au (iq (xH yX fR ai (pv 1) (aw bE (pv 2) ai)) (iq (dE fR (pv 2) (pv 0) (aF _)) (jr (dE (mI (gW hr)) (bA (aa (pv 1) (aa (pv 2) ab))) (bA (aa ai (aa (aw bE (pv 0) ai) ab))) (aF _)))))),?_⟩
 obtain ⟨c1,c2,c3,c4⟩:=ct
 simp only at c1 c2 c3 c4
 refine ⟨_,rfl,_,_,rfl,rfl,_,rfl,dF c1 ⟨_,rfl,_,_,rfl,rfl,_,_,rfl,rfl,_,rfl,dF (by omega) ⟨_,rfl,_,rfl,_,_,rfl,rfl,_,rfl,dF c3 ?_⟩⟩⟩
 refine ⟨_,rfl,_,rfl,(by show 2<=sizeLine; decide),fun t1 ht1=>⟨_,rfl,_,_,rfl,rfl,(by show 2<=sizeLine; decide),fun t2 ht2=>?_⟩⟩
 have n12:t1≠t2:=ao upd_same ht2
 have h1:=(upd_ne (o:=.tup [.int 0,.int (c - 1)]) n12).trans (upd_same (H:=H) (a:=t1) (o:=.tup [.int a,.int b]))
 have s2:=ah.new (ah.new (ah.refl H) ht1 (.tup [.int a,.int b])) ht2 (.tup [.int 0,.int (c - 1)])
 refine ⟨1,_,by decide,cT.two n12 h1 upd_same,⟨t1,t2,rfl,rfl,n12⟩,?_⟩
 have e:(decide (a=0)&&decide (b=c - 1))=false:=by
  cases z:(decide (a=0)&&decide (b=c - 1)) with
  | false=>rfl
  | true =>
   rw [Bool.and_eq_true,decide_eq_true_iff,decide_eq_true_iff] at z
   exact absurd z c4
 rw [e]
 exact q _ s2
theorem Bs (F:aV K "is_one" "Floors.is_one" jG ca.o7 fd) {f0:Addr} {fd0:FuncData} (jt:Def P w K mg base "any_cross" ["pairs"] 1 (ml K ca) f0 fd0) {f1:Addr} {fd1:FuncData} (vw:Def P w K mg base "may_be_cut" ["corners","a","b"] 1 (p7 K ca) f1 fd1) (aE:mg "len" = none) (jQ:mg "max" = none) (bo:mg "sorted" = none) (vA:mg "set" = none) (j5:mg "all" = none):az P w K mg base aZ 2 ca.o7 fd ["self","thing"] (rf K ca):=by
 refine F.ok qN (fun vs H Q E h=>?_) (fun cdv A outer s H vs Q E hr h=>?_)
 ·obtain ⟨x,t,l,c,ps,rfl,ht,hl,fl,c43,q⟩:=h
  rfl
 obtain ⟨x,t,l,c,ps,rfl,ht,hl,fl,c43,q⟩:=h
 refine ⟨_,ag (aB (i:=2) qN.nd rfl (Or.inr rfl) (aH bB (pv 1) ai (fun _ _=>rfl)))
  (ag (aB (i:=3) qN.nd rfl (Or.inl rfl) (aH bB (pv 1) ai (fun _ _=>rfl)))
  (ag (aW (PW.pt (cA (aJ fR (pv 2) ai (aF _)) (cE (aJ fV (ax aG rfl aE bt (aa (pv 3) ab)) (ax (oC rfl) rfl jQ wb (aa ai (aa (aw bE (pv 2) ai) ab))) (aF _))))) (af (au bI)) aN)
  (ag (aW (PW.pt (cA (aJ (mI (gW hr)) (pv 3) (uB rfl (gW hr) rfl bo rfl vA (aa (pv 3) ab)) (aF _)) (cE (bb (aD jt hr (aa (pv 3) ab)))))) (af (au bI)) aN)
  (af (au (ax (qF rfl) rfl j5 vX (aa (eM rfl (dI (pv 3)) rfl rfl rfl rfl (N:=["a","b","corners"]) (.own (.own (.cap (j:=2) rfl rfl rfl .nil))) (fun _ _ _ _ _ _=>(jO (K:=K) (n:=2) rfl rfl (bG (aM (i:=0) (by show List.Nodup (["a","b","corners"]:List Str); decide +kernel) rfl (Or.inl rfl)) (bG (aM (i:=1) (by show List.Nodup (["a","b","corners"]:List Str); decide +kernel) rfl (Or.inl rfl)) eZ)))) (fun _ _ _ _ _ _=>eK) (fun _ _ _ _ _ _=>(aD vw hr (aa (pv 2) (aa (pv 0) (aa (pv 1) ab)))))) ab))))))),?_⟩
 obtain ⟨xs,el,lxs,pr⟩:=hl.len
 have c2:=fl.c2
 have ln:=fl.len
 have l44:ps.length < 64:=by
  have:(ps.length:Int)<=40:=by rw [ln]; split<;>omega
  omega
 refine ⟨_,rfl,t,_,_,_,rfl,rfl,a9.of ht,rfl,_,rfl,t,_,_,_,rfl,rfl,a9.of ht,rfl,?_⟩
 refine ⟨_,rfl,_,_,rfl,rfl,_,rfl,eH (by omega) ⟨_,rfl,l,_,rfl,.inl (ar.of el),_,rfl,_,_,rfl,rfl,_,_,rfl,rfl,_,rfl,fQ (congrArg V.int (by rw [lxs]; exact ln)) ?_⟩⟩
 refine ⟨_,rfl,_,rfl,l,ps,rfl,hl,fl.nd,fun p hp=>?_,l44,fun pq qs H1 s1 f1 h1 pm rs=>?_⟩
 ·have:=fl.ct p hp
  exact ⟨this.1,by have:=this.2.1; omega,by have:=this.2.2.1; omega⟩
 have eqs:qs=ps:=gL rs fl.ris pm
 subst eqs
 have hl1:=hl.same s1
 have ne:l≠pq:=ao el f1
 refine ⟨2,_,by decide,cT.prs ne hl1 h1,⟨l,pq,rfl,rfl,ne⟩,_,rfl,?_⟩
 rw [decide_eq_true rfl]
 refine bh ⟨_,rfl,l,qs,rfl,hl1,_,rfl,?_⟩
 rw [lX.mpr fl.nc]
 refine bh ⟨_,rfl,l,rfl,⟨_,ar.of (s1 _ _ el)⟩,fun D hD=>eY (xs:=xs) (fun i ys H'=>ah H1 H'/\H' D=some (.lst ys)/\ys=((qs.take i).map fun _=>true).map V.bl/\i<=qs.length) (sz (by omega)) ⟨ah.new (ah.refl H1) hD _,upd_same,rfl,Nat.zero_le _⟩ (fun i ys H' hi h=>⟨ar.of (h.1 _ _ (s1 _ _ el)),?_⟩) (fun i y ys H' R R0 hx h r r0=>?_) (fun ys H' h=>?_)⟩
 ·rw [h.2.2.1,List.length_map,List.length_map,List.length_take]
  omega
 ·obtain ⟨sm,hy,ey,hi⟩:=h
  obtain ⟨pp,tt,hpp,rfl,htt⟩:=(pr.same s1).get hx
  have hlt:i < qs.length:=(List.getElem?_eq_some_iff.mp hpp).1
  refine ⟨tt,_,rfl,a9.of (sm _ _ htt),rfl,_,_,rfl,_,_,rfl,rfl,(Ext.set rfl).trans (Ext.set rfl),mP (dP ?_)⟩
  refine ⟨_,rfl,_,rfl,_,rfl,c,pp.1,pp.2,rfl,fl.ct pp (List.mem_of_getElem? hpp),fun H3 s3=>r _ _ (s3 _ _ hy) ⟨(sm.trans s3).upd hD _,upd_same,?_,hlt⟩⟩
  rw [List.take_add_one,hpp,List.map_append,List.map_append,<- ey]
  rfl
 ·obtain ⟨sm,hy,ey,hi⟩:=h
  rw [List.take_of_length_le (by omega)] at ey
  rw [ey] at hy
  refine ⟨D,_,rfl,ar.of hy,?_⟩
  have e2:((qs.map fun _=>true).all id)=true:=by rw [List.all_map]; exact List.all_eq_true.mpr fun _ _=>rfl
  rw [e2]
  exact q _ (s1.trans sm)
theorem Dh (F:aV K "refuse_other" "Family.refuse_other" n5 ca.uQ fd) {fd0:FuncData} (uw:aS P w K mg base ["self","thing"] 2 (rf K ca) ca.o7 fd0):az P w K mg base aZ 3 ca.uQ fd ["self","thing"] (uH K ca):=by
 refine F.ok Df (fun vs H Q E h=>?_) (fun cdv A outer s H vs Q E hr h=>?_)
 ·obtain ⟨x,dx,fs,t,l,c,ps,rfl,hx,fo,ht,hl,fl,c43,q⟩:=h
  rfl
 obtain ⟨x,dx,fs,t,l,c,ps,rfl,hx,fo,ht,hl,fl,c43,q⟩:=h
 refine ⟨_,af (aW (br (bb (fO (pv 0) CA.iF CA.mt_Floors_is_one uw hr (aa (pv 1) ab)))) (af gP) aN),?_⟩
 exact ⟨_,rfl,x,dx,fs,rfl,hx,fo,_,rfl,x,t,l,c,ps,rfl,ht,hl,fl,c43,fun H1 s1=>⟨_,rfl,bh (q H1 s1)⟩⟩
theorem Bm (F:aV K "floor_mirror" "floor_mirror" jU f fd) {fd0:FuncData} (ve:aS P w K mg base ["self"] 5 (qQ K ca) ca.o5 fd0) {fd1:FuncData} (yI:aS P w K mg base ["self","thing"] 3 (uH K ca) ca.uQ fd1) {f2:Addr} {fd2:FuncData} (kl:Def P w K mg base "mirrored_pairs" ["pairs","last"] 2 (mQ K ca) f2 fd2):az P w K mg base aZ 7 f fd ["thing"] (qI K ca):=by
 refine F.ok B3 (fun vs H Q E h=>?_) (fun cdv A outer s H vs Q E hr h=>?_)
 ·obtain ⟨t,l,c,ps,rfl,ht,hl,fl,c43,q⟩:=h
  rfl
 obtain ⟨t,l,c,ps,rfl,ht,hl,fl,c43,q⟩:=h
 refine ⟨_,ag (aT (fO (ji CA.mk_Floors CA.xD ve hr) CA.iF CA.mt_Floors_refuse_other yI hr (aa (pv 0) ab)))
  (af (au (bA (aa (aH bB (pv 0) ai (fun _ _=>rfl)) (aa (aD kl hr (aa (aH bB (pv 0) ai (fun _ _=>rfl)) (aa (aw bE (aH bB (pv 0) ai (fun _ _=>rfl)) ai) ab))) ab))))),?_⟩
 intro x dx nx ndx nex
 refine ⟨x,dx,rfl,upd_same,fun fsx Hx1 ex fx=>⟨rfl,?_⟩⟩
 have sx:ah H Hx1:=by rw [ex]; exact ((ah.new (ah.refl H) ndx _).upd nx _).upd nx _
 have hx:Hx1 x=some (.ins ca.aL dx fsx):=by rw [ex]; exact upd_same
 refine ⟨x,dx,fsx,rfl,hx,fx.no "refuse_other" (by decide) (by decide),_,rfl,x,dx,fsx,t,l,c,ps,rfl,hx,fx.no "is_one" (by decide) (by decide),sx _ _ ht,hl.same sx,fl,c43,fun H2 s2=>?_⟩
 have t2:=sx.trans s2
 have hl2:=hl.same t2
 have ht2:=t2 _ _ ht
 have ln:=fl.len
 have c2:=fl.c2
 have l44:ps.length < 64:=by
  have:(ps.length:Int)<=40:=by rw [ln]; split<;>omega
  omega
 refine ⟨_,rfl,t,_,_,_,rfl,rfl,a9.of ht2,rfl,_,rfl,t,_,_,_,rfl,rfl,a9.of ht2,rfl,_,rfl,t,_,_,_,rfl,rfl,a9.of ht2,rfl,_,_,rfl,rfl,l,ps,c - 1,rfl,hl2,l44,fun p hp=>(fl.ct p hp).inR.2.1,fun q' qs H3 s3 f3 h3 pm rs=>⟨(by show 2<=sizeLine; decide),fun u hu=>?_⟩⟩
 have t3:=t2.trans s3
 exact q u q' qs _ (ah.new t3 hu _) (t3.free hu) (t2.free f3) upd_same (h3.same (ah.new (ah.refl _) hu _)) pm rs
theorem Bo (F:aV K "_law_floor" "_law_floor" jy f fd) {f0:Addr} {fd0:FuncData} (fS:Def P w K mg base "_law_whole" ["_law_found"] 1 (iV K ca) f0 fd0) {f1:Addr} {fd1:FuncData} (gU:Def P w K mg base "_law_pairs" ["_law_found","_law_due"] 2 (mM K ca) f1 fd1) (aK:mg "isinstance" = none) (eP:mg "tuple" = none) (aE:mg "len" = none):az P w K mg base aZ 3 f fd ["_law_found","_law_due"] (rQ K ca):=by
 refine F.ok A9 (fun vs H Q E h=>?_) (fun cdv A outer s H vs Q E hr h=>?_)
 ·obtain ⟨t,t2,l,l2,c,ps,rfl,ht,ht2,hl,hl2,hz,q⟩:=h
  rfl
 obtain ⟨t,t2,l,l2,c,ps,rfl,ht,ht2,hl,hl2,hz,q⟩:=h
 refine ⟨_,ag (aW (PW.pt (cA (br (bb (ax cw rfl aK bL (aa (pv 0) (aa (eO (v:=.ty "tuple") rfl eP lC rfl) ab))))) (cA (aJ fV (ax aG rfl aE bt (aa (pv 0) ab)) ai (aF _)) (cA (br (bb (aD fS hr (aa (aH bB (pv 0) ai (fun _ _=>rfl)) ab)))) (cE (aJ fV (aH bB (pv 0) ai (fun _ _=>rfl)) (aH bB (pv 1) ai (fun _ _=>rfl)) (aF _))))))) (af (au bI)) aN)
  (af (au (aD gU hr (aa (aH bB (pv 0) ai (fun _ _=>rfl)) (aa (aH bB (pv 1) ai (fun _ _=>rfl)) ab))))),?_⟩
 refine ⟨_,rfl,_,_,_,_,_,rfl,gq,.tup ht,e6,_,rfl,bh ⟨_,rfl,t,_,rfl,.inr (a9.of ht),rfl,_,rfl,fQ rfl ?_⟩⟩
 refine ⟨_,rfl,t,_,_,_,rfl,rfl,a9.of ht,rfl,c,rfl,_,rfl,bh ⟨_,rfl,t,_,_,_,rfl,rfl,a9.of ht,rfl,_,rfl,t2,_,_,_,rfl,rfl,a9.of ht2,rfl,rfl,_,rfl,fQ rfl ?_⟩⟩
 exact ⟨_,rfl,t,_,_,_,rfl,rfl,a9.of ht,rfl,_,rfl,t2,_,_,_,rfl,rfl,a9.of ht2,rfl,l,l2,ps,rfl,hl,hl2,hz,q⟩
theorem Cg (F:aV K "_law_floors" "_law_floors" kf f fd) {f0:Addr} {fd0:FuncData} (pz:Def P w K mg base "floor_mirror" ["thing"] 7 (qI K ca) f0 fd0) {f1:Addr} {fd1:FuncData} (jx:Def P w K mg base "_law_flipped" ["_law_pairs_here","_law_last"] 1 (md K ca) f1 fd1) {f2:Addr} {fd2:FuncData} (mS:Def P w K mg base "_law_floor" ["_law_found","_law_due"] 3 (rQ K ca) f2 fd2) (cj:mg "list" = none):az P w K mg base aZ 8 f fd ["_law_floor_here"] (qt K ca):=by
 refine F.ok mX (fun vs H Q E h=>?_) (fun cdv A outer s H vs Q E hr h=>?_)
 ·obtain ⟨t,l,c,ps,rfl,ht,hl,fl,c43,q⟩:=h
  rfl
 obtain ⟨t,l,c,ps,rfl,ht,hl,fl,c43,q⟩:=h
 refine ⟨_,ag (aB (i:=1) mX.nd rfl (Or.inl rfl) (bA (aa (aH bB (pv 0) ai (fun _ _=>rfl)) (aa (fW gD rfl cj gC (aa (aH bB (pv 0) ai (fun _ _=>rfl)) ab)) ab))))
  (ag (aB (i:=2) mX.nd rfl (Or.inl rfl) (aD pz hr (aa (pv 1) ab)))
  (ag (aB (i:=3) mX.nd rfl (Or.inl rfl) (bA (aa (aH bB (pv 0) ai (fun _ _=>rfl)) (aa (aD jx hr (aa (aH bB (pv 0) ai (fun _ _=>rfl)) (aa (aw bE (aH bB (pv 0) ai (fun _ _=>rfl)) ai) ab))) ab))))
  (ag (aW (PW.pt (cA (br (bb (aD mS hr (aa (pv 2) (aa (pv 3) ab))))) (cE (br (bb (aD mS hr (aa (aD pz hr (aa (pv 2) ab)) (aa (pv 0) ab)))))))) (af (au bI)) aN)
  (ag (aT (dq PySem.F.plainAttrs_list PySem.F.slot_list_append PySem.F.type_list_append bR (aH bB (pv 2) ai (fun _ _=>rfl)) (aa (bA (aa ai (aa ai ab))) ab)))
  (af (au (aD mS hr (aa (pv 1) (aa (pv 0) ab))))))))),?_⟩
 obtain ⟨xs,el,lxs,pr⟩:=hl.len
 have ln:=fl.len
 have c2:=fl.c2
 have l44:ps.length < 64:=by
  have:(ps.length:Int)<=40:=by rw [ln]; split<;>omega
  omega
 refine ⟨_,rfl,t,_,_,_,rfl,rfl,a9.of (ah.refl H _ _ ht),rfl,_,rfl,t,_,_,_,rfl,rfl,a9.of (ah.refl H _ _ ht),rfl,l,_,rfl,.inl (ar.of el),fun pc hc=>⟨(by show 2<=sizeLine; decide),fun th hth=>?_⟩⟩
 have k1:=ah.new (ah.refl H) hc (.lst xs)
 have k2:=ah.new (ah.refl _) hth (.tup [.int c,.ref pc])
 have s1:=k1.trans k2
 have ec1:=k2 _ _ (upd_same (H:=H) (a:=pc) (o:=.lst xs))
 have eth:upd (upd H pc (.lst xs)) th (.tup [.int c,.ref pc]) th=some (.tup [.int c,.ref pc]):=upd_same
 generalize upd (upd H pc (.lst xs)) th (.tup [.int c,.ref pc])=H1 at s1 ec1 eth |-
 have hc1:bz H1 pc ps:=⟨xs,ec1,pr.same s1⟩
 refine ⟨_,rfl,th,pc,c,ps,rfl,eth,hc1,fl,c43,fun u f qs H2 s2 fu ff hu h2 pm rs=>?_⟩
 have t2:=s1.trans s2
 have lq:qs.length=ps.length:=by rw [pm.length_eq,List.length_map]
 have fq:=fl.mrr pm rs
 refine ⟨_,rfl,t,_,_,_,rfl,rfl,a9.of (t2 _ _ ht),rfl,_,rfl,t,_,_,_,rfl,rfl,a9.of (t2 _ _ ht),rfl,_,rfl,t,_,_,_,rfl,rfl,a9.of (t2 _ _ ht),rfl,_,_,rfl,rfl,l,ps,c - 1,rfl,hl.same t2,l44,fun g gs H3 s3 f3 h3 pm3 rs3=>⟨(by show 2<=sizeLine; decide),fun tw htw=>?_⟩⟩
 have eg:gs=qs:=gL rs3 rs (pm3.trans pm.symm)
 subst eg
 have k3:=ah.new (ah.refl H3) htw (.tup [.int c,.ref g])
 have s3':=s3.trans k3
 refine ⟨_,rfl,_,rfl,u,tw,f,g,c,gs,rfl,s3' _ _ hu,upd_same,h2.same s3',h3.same k3,by omega,_,rfl,bh ?_⟩
 have t3:=t2.trans s3'
 generalize upd H3 tw (.tup [.int c,.ref g])=H3' at k3 s3' t3 |-
 refine ⟨_,rfl,u,f,c,gs,rfl,s3' _ _ hu,h2.same s3',fq,c43,fun u4 b bs H4 s4 fu4 f4 hu4 h4 pm4 rs4=>?_⟩
 have t4:=t3.trans s4
 have eb:bs=ps:=gL rs4 fl.ris (pm4.trans (qy pm))
 subst eb
 refine ⟨_,rfl,u4,t,b,l,c,bs,rfl,hu4,t4 _ _ ht,h4,hl.same t4,by omega,_,rfl,bh ?_⟩
 have s24:=s3'.trans s4
 obtain ⟨ys,ey,ly,pry⟩:=(h2.same s24).len
 have hf:H f=none:=s1.free ff
 have nfc:pc≠f:=ao ec1 ff
 have nfl:l≠f:=ao (s1 _ _ el) ff
 have nft:t≠f:=ao (s1 _ _ ht) ff
 have nfth:th≠f:=ao eth ff
 refine ⟨_,rfl,u,_,_,_,rfl,rfl,a9.of (s24 _ _ hu),rfl,.inl ⟨rfl,_,ar.of ey⟩,(by show 2<=sizeLine; decide),fun v hv=>?_⟩
 have k5:=ah.new (ah.refl H4) hv (.tup [.int 0,.int 1])
 have ey5:=k5 _ _ ey
 refine ⟨f,_,_,rfl,rfl,ey5,jd (by omega),?_⟩
 have t4':=t4.trans k5
 have t5:=t4'.upd hf (.lst (ys++[.ref v]))
 have s15:=(s2.trans s24).trans k5
 have hc5:=(hc1.same s15).updL ey5 nfc (.lst (ys++[.ref v]))
 have hl5:=(hl.same t4').updL ey5 nfl (.lst (ys++[.ref v]))
 have ht5:=(upd_ne (o:=.lst (ys++[.ref v])) nft).trans (t4' _ _ ht)
 have hth5:=(upd_ne (o:=.lst (ys++[.ref v])) nfth).trans (s15 _ _ eth)
 exact ⟨_,rfl,_,rfl,th,t,pc,l,c,bs,rfl,hth5,ht5,hc5,hl5,by omega,q _ t5⟩
theorem AK (F:aV K "_law_floor_by" "_law_floor_by" j7 f fd) {f0:Addr} {fd0:FuncData} (kI:Def P w K mg base "_law_draws" ["_law_script","_law_turn","_law_many"] 2 (me K ca) f0 fd0) (aE:mg "len" = none) (bo:mg "sorted" = none):az P w K mg base aZ 3 f fd ["_law_script","_law_size","_law_turn"] (rH K ca):=by
 refine F.ok d8 (fun vs H Q E h=>?_) (fun cdv A outer s H vs Q E hr h=>?_)
 ·obtain ⟨a,ns,n,t,rfl,hS,h63,hn,t0,t1,q⟩:=h
  rfl
 obtain ⟨a,ns,n,t,rfl,hS,h63,hn,t0,t1,q⟩:=h
 refine ⟨_,ag (aB (i:=3) d8.nd rfl (Or.inl rfl) (aD kI hr (aa (pv 0) (aa (pv 2) (aa (aw cG (aw dz ai (pv 1)) ai) ab)))))
  (ag (aB (i:=4) d8.nd rfl (Or.inl rfl) (aw ck (aH bu (pv 3) (aw cG (aw dz ai (pv 1)) ai) (fun _ _=>rfl)) ai))
  (ag (aB (i:=5) d8.nd rfl (Or.inl rfl) (fg ab))
  (ag (aB (i:=6) d8.nd rfl (Or.inl rfl) (fg (aa (bA (aa ai (aa (aw cG (pv 1) ai) ab))) ab)))
  (ag (aB (i:=7) d8.nd rfl (Or.inl rfl) ai)
  (ag (p8 PassesOwn.never (aJ fR (pv 7) (ax aG rfl aE bt (aa (pv 6) ab)) (aF _)) (ag (qS (aH bu (pv 6) (pv 7) (fun _ _=>rfl)) (iY rfl (bG (aM (i:=8) d8.nd rfl (Or.inl rfl)) (bG (aM (i:=9) d8.nd rfl (Or.inl rfl)) eZ))))
  (ag (aW (aJ jw (pv 9) (aw cG (pv 8) ai) (aF _)) (ag (aB (i:=10) d8.nd rfl (Or.inl rfl) (aw cG (aw cG (pv 8) ai) (aw ck (aH bu (pv 3) (pv 7) (fun _ _=>rfl)) (aw bE (aw bE (pv 9) (pv 8)) ai))))
  (nz (aW (PW.pt (m6 (aJ cN (pv 4) ai (aF _)) (jR (aJ jw (aw ck (aH bu (pv 3) (pv 7) (fun _ _=>rfl)) ai) ai (aF _))))) (af (aB (i:=10) d8.nd rfl (Or.inl rfl) (aw cG (pv 8) ai))) aN)
  (nz (aW (PW.pt (m6 (aJ cN (pv 4) ai (aF _)) (jR (aJ jw (aw ck (aH bu (pv 3) (pv 7) (fun _ _=>rfl)) ai) ai (aF _))))) (af (aB (i:=10) d8.nd rfl (Or.inl rfl) (aw bE (pv 9) ai))) aN)
  (ag (aT (dq PySem.F.plainAttrs_list PySem.F.slot_list_append PySem.F.type_list_append bR (pv 6) (aa (bA (aa (pv 8) (aa (pv 10) ab))) ab)))
  (ag (aT (dq PySem.F.plainAttrs_list PySem.F.slot_list_append PySem.F.type_list_append bR (pv 6) (aa (bA (aa (pv 10) (aa (pv 9) ab))) ab)))
  (af (aW (aJ jw (pv 7) ai (aF _)) (af (aT (dq PySem.F.plainAttrs_list PySem.F.slot_list_append PySem.F.type_list_append bR (pv 5) (aa (bA (aa (pv 8) (aa (pv 9) ab))) ab)))) aN))))))) aN)
  (af (aB (i:=7) d8.nd rfl (Or.inl rfl) (aw cG (pv 7) ai))))))
  (af (au (bA (aa (aw cG (pv 1) ai) (aa (ax eF rfl bo eB (aa (pv 5) ab)) ab)))))))))),?_⟩
 refine ⟨_,rfl,_,rfl,_,rfl,_,_,rfl,rfl,.inl ⟨by decide,by decide⟩,_,_,rfl,rfl,a,ns,t,_,rfl,hS,h63,t0,by omega,by omega,by omega,fun pd xs H1 sm1 fd hd lx bx=>?_⟩
 have lx':xs.length=2*n+2:=by omega
 have atz:=eL (ns:=xs) (i:=2*(n:Int)+1) (by omega) (by omega)
 refine ⟨_,rfl,_,rfl,_,_,rfl,rfl,.inl ⟨by decide,by decide⟩,_,_,rfl,rfl,pd,_,_,_,rfl,rfl,ar.of hd,atz,_,_,rfl,rfl,pm (by decide),?_⟩
 try dsimp only
 generalize xs.getD (2*(n:Int)+1).toNat 0 % 4=e
 refine ⟨Nat.zero_le _,fun pc hpc=>?_⟩
 have s2:=ah.new sm1 hpc (.lst [])
 have fpc:H pc=none:=sm1.free hpc
 have ndc:pd≠pc:=ao hd hpc
 have hd2:=(upd_ne (o:=.lst []) ndc).trans hd
 have hc2:bz (upd H1 pc (.lst [])) pc []:=⟨[],upd_same,.nil⟩
 generalize upd H1 pc (.lst [])=H2 at s2 hd2 hc2 |-
 refine ⟨_,rfl,_,_,rfl,rfl,(by show 2<=sizeLine; decide),fun t1' ht1=>⟨(by show 1<=sizeLine; decide),fun pp hpp=>?_⟩⟩
 have k1:=ah.new (ah.refl H2) ht1 (.tup [.int 0,.int ((n:Int)+1)])
 have k2:=ah.new (ah.refl _) hpp (.lst [.ref t1'])
 have k12:=k1.trans k2
 have s3:=s2.trans k12
 have fpp:H pp=none:=(s2.trans k1).free hpp
 have hp3:bz (upd (upd H2 t1' (.tup [.int 0,.int ((n:Int)+1)])) pp (.lst [.ref t1'])) pp [(0,(n:Int)+1)]:=⟨_,upd_same,.cons ⟨t1',rfl,k2 _ _ upd_same⟩ .nil⟩
 have hd3:=k12 _ _ hd2
 have hc3:=hc2.same k12
 have ndp:pd≠pp:=ao (k1 _ _ hd2) hpp
 have ncp:pc≠pp:=by
  obtain ⟨ys,h,_⟩:=hc2
  exact ao (k1 _ _ h) hpp
 generalize upd (upd H2 t1' (.tup [.int 0,.int ((n:Int)+1)])) pp (.lst [.ref t1'])=H3 at s3 hp3 hd3 hc3 |-
 refine ⟨fun m σ H'=>∃ (o1 o2 o3:Option V) (k:Nat) (pl cs:List Pair),σ=[some (.ref a),some (.int n),some (.int t),some (.ref pd),some (.int e),some (.ref pc),some (.ref pp),some (.int (k:Int)),o1,o2,o3]/\ah H H'/\H' pd=some (.lst (xs.map V.int))/\bz H' pc cs/\bz H' pp pl/\hW n k pl cs/\k<=pl.length/\m=2*dH (pl.drop k)+(pl.length - k),
  ⟨_,_,_,_,0,[(0,(n:Int)+1)],[],rfl,s3,hd3,hc3,hp3,hW.start n,Nat.zero_le _,rfl⟩,?_⟩
 rintro m σ H4 ⟨o1,o2,o3,k,pl,cs,rfl,s4,hd4,hc4,hp4,sp,hkl,rfl⟩
 have cn:=sp.cnt
 have ln:=sp.ln
 obtain ⟨ys,ey,ly,pry⟩:=hp4.len
 refine ⟨_,rfl,_,rfl,pp,_,rfl,.inl (ar.of ey),_,_,rfl,rfl,_,rfl,?_⟩
 by_cases hk:k < pl.length
 case neg =>
  refine eH (by rw [ly]; omega) ⟨_,rfl,_,_,rfl,rfl,_,rfl,pc,cs,rfl,hc4,by omega,fun p qs H5 s5 f5 h5 pm5 rs5=>⟨(by show 2<=sizeLine; decide),fun u hu=>?_⟩⟩
  have s6:=s4.trans s5
  exact q u p qs _ (ah.new s6 hu _) (s6.free hu) (s4.free f5) upd_same (h5.same (ah.new (ah.refl _) hu _)) (sp.floor (by omega) pm5 rs5)
 have hs:pl[k]? = some pl[k]:=List.getElem?_eq_getElem hk
 generalize pl[k]=p at hs
 have ed:pl.drop k=p::pl.drop (k+1):=by
  obtain ⟨lk,ek⟩:=List.getElem?_eq_some_iff.mp hs
  rw [List.drop_eq_getElem_cons lk,ek]
 have bpp:=sp.bd p (by rw [ed]; exact List.mem_cons_self ..)
 refine dF (by rw [ly]; omega) ⟨fun σ' H'=>∃ (o1 o2 o3:Option V) (k':Nat) (pl' cs':List Pair),σ'=[some (.ref a),some (.int n),some (.int t),some (.ref pd),some (.int e),some (.ref pc),some (.ref pp),some (.int (k':Int)),o1,o2,o3]/\ah H H'/\H' pd=some (.lst (xs.map V.int))/\bz H' pc cs'/\bz H' pp pl'/\hW n k' pl' cs'/\k'<=pl'.length/\2*dH (pl'.drop k')+(pl'.length - k') < 2*dH (pl.drop k)+(pl.length - k),?_,?_⟩
 ·rintro σ' H' ⟨o1,o2,o3,k',pl',cs',rfl,a1,a2,a3,a4,a5,a6,a7⟩
  exact ⟨_,a7,o1,o2,o3,k',pl',cs',rfl,a1,a2,a3,a4,a5,a6,rfl⟩
 obtain ⟨yk,hyk⟩:∃ y,ys[k]? = some y:=⟨_,List.getElem?_eq_getElem (by omega)⟩
 obtain ⟨p',tt,hp',rfl,htt⟩:=pry.get hyk
 rw [hs] at hp'
 obtain rfl:p=p':=Option.some.inj hp'
 have atk:fh ys (k:Int)=some (.ref tt):=fE hyk
 refine ⟨_,rfl,_,rfl,pp,_,_,_,rfl,rfl,ar.of ey,atk,tt,_,rfl,a9.of htt,rfl,_,_,rfl,_,_,rfl,rfl,?_⟩
 refine ⟨_,rfl,_,rfl,_,_,rfl,rfl,_,_,rfl,rfl,_,rfl,?_⟩
 have pc1:dH (pl.drop k)=(p.2 - p.1 - 1).toNat+dH (pl.drop (k+1)):=by rw [ed,gS]
 by_cases hu:p.1+1 < p.2
 case neg =>
  refine eH hu ⟨_,rfl,_,_,rfl,rfl,_,_,_,k+1,pl,cs,rfl,s4,hd4,hc4,hp4,sp.unit hs hu,hk,?_⟩
  omega
 have atx:=eL (ns:=xs) (i:=(k:Int)) (by omega) (by omega)
 generalize xs.getD ((k:Int)).toNat 0=dk at atx
 have w0:=Int.emod_nonneg dk (show p.2 - p.1 - 1≠0 by omega)
 have w1:=Int.emod_lt_of_pos dk (show (0:Int) < p.2 - p.1 - 1 by omega)
 refine dF hu ⟨_,rfl,_,_,rfl,rfl,_,rfl,_,rfl,pd,_,_,_,rfl,rfl,ar.of hd4,atx,_,rfl,_,rfl,_,_,rfl,rfl,_,_,rfl,rfl,_,_,rfl,rfl,by omega,_,_,rfl,rfl,?_⟩
 try dsimp only
 generalize dk % (p.2 - p.1 - 1)=w at w0 w1 |-
 refine ⟨fun σ H'=>∃ (th:Int),σ=[some (.ref a),some (.int n),some (.int t),some (.ref pd),some (.int e),some (.ref pc),some (.ref pp),some (.int (k:Int)),some (.int p.1),some (.int p.2),some (.int th)]/\H4=H'/\p.1 < th/\th < p.2,?_,?_⟩
 ·refine ⟨_,rfl,rfl,_,rfl,iG (fun _=>?_) (fun _=>bh ⟨_,rfl,rfl,by omega,by omega⟩)⟩
  exact ⟨_,rfl,_,rfl,pd,_,_,_,rfl,rfl,ar.of hd4,atx,_,_,rfl,rfl,pm (by decide),_,_,rfl,rfl,_,rfl,iG (fun _=>⟨_,rfl,_,_,rfl,rfl,_,rfl,rfl,by omega,by omega⟩) (fun _=>⟨_,rfl,rfl,by omega,by omega⟩)⟩
 rintro σ H6 ⟨th,rfl,rfl,h1,h2⟩
 refine ⟨fun σ H'=>∃ (th:Int),σ=[some (.ref a),some (.int n),some (.int t),some (.ref pd),some (.int e),some (.ref pc),some (.ref pp),some (.int (k:Int)),some (.int p.1),some (.int p.2),some (.int th)]/\H4=H'/\p.1 < th/\th < p.2,?_,?_⟩
 ·refine ⟨_,rfl,rfl,_,rfl,iG (fun _=>?_) (fun _=>bh ⟨_,rfl,rfl,h1,h2⟩)⟩
  exact ⟨_,rfl,_,rfl,pd,_,_,_,rfl,rfl,ar.of hd4,atx,_,_,rfl,rfl,pm (by decide),_,_,rfl,rfl,_,rfl,iG (fun _=>⟨_,rfl,_,_,rfl,rfl,_,rfl,rfl,by omega,by omega⟩) (fun _=>⟨_,rfl,rfl,h1,h2⟩)⟩
 rintro σ H6 ⟨th,rfl,rfl,h1,h2⟩
 -- the two parts
 refine ⟨_,rfl,.inl ⟨rfl,_,ar.of ey⟩,_,rfl,_,rfl,(by show 2<=sizeLine; decide),fun u1 fX=>?_⟩
 have ey1:=(upd_ne (o:=.tup [.int p.1,.int th]) (ao ey fX)).trans ey
 refine ⟨pp,_,_,rfl,rfl,ey1,jd (by omega),?_⟩
 have hp5:=bz.push (a:=p.1) (b:=th) ey pry fX
 have s5:=(ah.new s4 fX (.tup [.int p.1,.int th])).upd fpp (.lst (ys++[.ref u1]))
 have j1:=ah.new (ah.refl H4) fX (.tup [.int p.1,.int th])
 have hd5:=(upd_ne (o:=.lst (ys++[.ref u1])) ndp).trans (j1 _ _ hd4)
 have hc5:=(hc4.same j1).updL ey1 ncp (.lst (ys++[.ref u1]))
 have ey5:upd (upd H4 u1 (.tup [.int p.1,.int th])) pp (.lst (ys++[.ref u1])) pp=some (.lst (ys++[.ref u1])):=upd_same
 generalize upd (upd H4 u1 (.tup [.int p.1,.int th])) pp (.lst (ys++[.ref u1]))=H5 at hp5 s5 hd5 hc5 ey5 |-
 obtain ⟨ys5,ey5',ly5,pry5⟩:=hp5.len
 rw [ey5] at ey5'
 obtain rfl:ys++[V.ref u1]=ys5:=by injection ey5' with z; injection z
 refine ⟨_,rfl,.inl ⟨rfl,_,ar.of ey5⟩,_,rfl,_,rfl,(by show 2<=sizeLine; decide),fun u2 hu2=>?_⟩
 have ey6:=(upd_ne (o:=.tup [.int th,.int p.2]) (ao ey5 hu2)).trans ey5
 refine ⟨pp,_,_,rfl,rfl,ey6,by rw [List.length_append]; exact jd (by simp; omega),?_⟩
 have hp6:=bz.push (a:=th) (b:=p.2) ey5 pry5 hu2
 have s6:=(ah.new s5 hu2 (.tup [.int th,.int p.2])).upd fpp (.lst (ys++[.ref u1]++[.ref u2]))
 have j2:=ah.new (ah.refl H5) hu2 (.tup [.int th,.int p.2])
 have hd6:=(upd_ne (o:=.lst (ys++[.ref u1]++[.ref u2])) ndp).trans (j2 _ _ hd5)
 have hc6:=(hc5.same j2).updL ey6 ncp (.lst (ys++[.ref u1]++[.ref u2]))
 generalize upd (upd H5 u2 (.tup [.int th,.int p.2])) pp (.lst (ys++[.ref u1]++[.ref u2]))=H6 at hp6 s6 hd6 hc6 |-
 have sp':=sp.split hs h1 h2
 have ll:(pl++[(p.1,th)]++[(th,p.2)]).length=pl.length+2:=by simp
 have pl2:dH ((pl++[(p.1,th)]++[(th,p.2)]).drop (k+1))+1=dH (pl.drop k):=by
  have e2:(pl++[(p.1,th)]++[(th,p.2)]).drop (k+1)=(pl.drop (k+1)++[(p.1,th)])++[(th,p.2)]:=by
   rw [List.append_assoc,List.drop_append_of_le_length (by omega),List.append_assoc]
  rw [e2,gX,gX,pc1]
  simp only
  omega
 have lt':2*dH ((pl++[(p.1,th)]++[(th,p.2)]).drop (k+1))+((pl++[(p.1,th)]++[(th,p.2)]).length - (k+1)) < 2*dH (pl.drop k)+(pl.length - k):=by
  rw [ll]
  omega
 have kl':k+1<=(pl++[(p.1,th)]++[(th,p.2)]).length:=by rw [ll]; omega
 refine ⟨_,rfl,_,_,rfl,rfl,_,rfl,?_⟩
 by_cases k0:0 < k
 ·rw [if_pos k0] at sp'
  refine dF (by omega) ?_
  obtain ⟨zs,ez,lz,prz⟩:=hc6.len
  refine ⟨_,rfl,.inl ⟨rfl,_,ar.of ez⟩,_,rfl,_,rfl,(by show 2<=sizeLine; decide),fun u3 hu3=>?_⟩
  have ez1:=(upd_ne (o:=.tup [.int p.1,.int p.2]) (ao ez hu3)).trans ez
  refine ⟨pc,_,_,rfl,rfl,ez1,jd (by omega),?_⟩
  have j3:=ah.new (ah.refl H6) hu3 (.tup [.int p.1,.int p.2])
  have hc7:=bz.push (a:=p.1) (b:=p.2) ez prz hu3
  exact ⟨_,rfl,_,_,rfl,rfl,_,_,_,k+1,_,_,rfl,(ah.new s6 hu3 _).upd fpc _,(upd_ne ndc).trans (j3 _ _ hd6),hc7,(hp6.same j3).updL ez1 (Ne.symm ncp) _,sp',kl',lt'⟩
 ·rw [if_neg k0,List.append_nil] at sp'
  exact eH (by omega) ⟨_,rfl,_,_,rfl,rfl,_,_,_,k+1,_,_,rfl,s6,hd6,hc6,hp6,sp',kl',lt'⟩
theorem zZ (F:aV K "law" "law" gk f fd) {f0:Addr} {fd0:FuncData} (uc:Def P w K mg base "_law_text_by" ["_law_script","_law_size","_law_turn"] 3 (rD K ca) f0 fd0) {f1:Addr} {fd1:FuncData} (pO:Def P w K mg base "_law_cell_at" ["_law_script","_law_k"] 1 (qo K ca) f1 fd1) {f2:Addr} {fd2:FuncData} (vb:Def P w K mg base "_law_twins_by" ["_law_text"] 1 (qz K ca) f2 fd2) {f3:Addr} {fd3:FuncData} (pj:Def P w K mg base "twins_mirror" ["thing"] 43 (qM K ca) f3 fd3) {f4:Addr} {fd4:FuncData} (pG:Def P w K mg base "_law_same_twins" ["_law_found","_law_due"] 42 (sX K ca) f4 fd4) {f5:Addr} {fd5:FuncData} (vd:Def P w K mg base "_law_over" ["_law_thing"] 42 (tF K ca) f5 fd5) {f6:Addr} {fd6:FuncData} (uR:Def P w K mg base "_law_texts" ["_law_text"] 8 (pZ K ca) f6 fd6) {f7:Addr} {fd7:FuncData} (uv:Def P w K mg base "_law_bows" ["_law_bows_here"] 8 (pW K ca) f7 fd7) {f8:Addr} {fd8:FuncData} (uO:Def P w K mg base "_law_bows_of" ["_law_text"] 2 (rL K ca) f8 fd8) {f9:Addr} {fd9:FuncData} (uD:Def P w K mg base "_law_turns" ["_law_row"] 8 (rE K ca) f9 fd9) {f10:Addr} {fd10:FuncData} (vg:Def P w K mg base "_law_turns_of" ["_law_text"] 2 (qZ K ca) f10 fd10) {f11:Addr} {fd11:FuncData} (vq:Def P w K mg base "_law_floors" ["_law_floor_here"] 8 (qt K ca) f11 fd11) {f12:Addr} {fd12:FuncData} (vR:Def P w K mg base "_law_floor_by" ["_law_script","_law_size","_law_turn"] 3 (rH K ca) f12 fd12):az P w K mg base aZ 44 f fd ["_law_script"] (Be K ca):=by
 refine F.ok mJ (fun vs H Q E h=>?_) (fun cdv A outer s H vs Q E hr h=>?_)
 ·obtain ⟨a,ns,rfl,hS,h63,q⟩:=h
  rfl
 obtain ⟨a,ns,rfl,hS,h63,q⟩:=h
 refine ⟨_,ag (aB (i:=1) mJ.nd rfl (Or.inl rfl) (aD uc hr (aa (pv 0) (aa (aw ck (aD pO hr (aa (pv 0) (aa ai ab))) ai) (aa ai ab)))))
  (ag (aB (i:=2) mJ.nd rfl (Or.inl rfl) (aD vb hr (aa (pv 1) ab)))
  (ag (aB (i:=3) mJ.nd rfl (Or.inl rfl) (aD pj hr (aa (pv 2) ab)))
  (ag (aW (PW.pt (cA (br (bb (aD pG hr (aa (pv 3) (aa (aD vd hr (aa (pv 2) ab)) ab))))) (cE (br (bb (aD pG hr (aa (aD pj hr (aa (pv 3) ab)) (aa (pv 2) ab)))))))) (af (au bI)) aN)
  (ag (aW (PW.pt (cA (br (bb (aD uR hr (aa (pv 1) ab)))) (cA (br (bb (aD uv hr (aa (aD uO hr (aa (pv 1) ab)) ab)))) (cE (br (bb (aD uD hr (aa (aD vg hr (aa (pv 1) ab)) ab)))))))) (af (au bI)) aN)
  (af (au (aD vq hr (aa (aD vR hr (aa (pv 0) (aa (aw ck (aD pO hr (aa (pv 0) (aa ai ab))) ai) (aa ai ab)))) ab)))))))),?_⟩
 have hb:∀ x k:Int,0 < k->0<=x % k/\x % k < k:=fun x k hk=>⟨Int.emod_nonneg _ (by omega),Int.emod_lt_of_pos _ hk⟩
 have m0:=hb (ns.getD (0:Int).toNat 0) 41 (by decide)
 have m1:=hb (ns.getD (1:Int).toNat 0) 41 (by decide)
 refine ⟨_,rfl,_,rfl,a,ns,0,rfl,hS,by decide,_,_,rfl,rfl,pm (by decide),?_⟩
 try dsimp only
 generalize ns.getD (0:Int).toNat 0 % 41=z at m0 |-
 obtain ⟨n0,rfl⟩:∃ n:Nat,z=(n:Int):=⟨z.toNat,by omega⟩
 refine ⟨a,ns,(n0:Int),3,rfl,hS,h63,by omega,by omega,by decide,by decide,fun x H1 s1 cx lx=>?_⟩
 obtain ⟨t,et⟩:=jF _ x.cps.toList (Nat.le_refl _) cx
 have lx':x.cps.toList.length=2*n0:=by rw [bJ,lx]; omega
 have st:t.size=n0:=by
  have:=eW t
  rw [et] at this
  omega
 have h40:t.size<=40:=by omega
 obtain ⟨bw,lb⟩:=om cx lx'
 rw [bJ] at bw lb
 refine ⟨_,rfl,x,t,rfl,et.symm,h40,fun v H2 s2 tv=>?_⟩
 have t2:=s1.trans s2
 refine ⟨_,rfl,v,t,rfl,tv,h40,fun u H3 s3 tu=>?_⟩
 have t3:=t2.trans s3
 have tv3:=Tw.same s3 tv
 refine ⟨_,rfl,_,rfl,t.size,by omega,v,t,rfl,tv3,rfl,h40,fun w H4 s4 _ tw=>?_⟩
 have t4:=t3.trans s4
 have tu4:=Tw.same s4 tu
 have sm:=iW t
 refine ⟨(eE t).size,by omega,u,.ref w,eE t,rfl,tu4,tw,rfl,by omega,_,rfl,bh ?_⟩
 refine ⟨_,rfl,u,eE t,rfl,tu4,by omega,fun u5 H5 s5 tu5=>?_⟩
 rw [iX] at tu5
 have t5:=t4.trans s5
 refine ⟨_,rfl,t.size,by omega,u5,v,t,rfl,tu5,Tw.same (s4.trans s5) tv3,rfl,h40,_,rfl,bh ?_⟩
 refine ⟨_,rfl,x,t,rfl,et.symm,h40,fun H6 s6=>⟨_,rfl,bh ?_⟩⟩
 have t6:=t5.trans s6
 refine ⟨_,rfl,x,rfl,by omega,fun l H7 s7 f7 h7=>?_⟩
 have t7:=t6.trans s7
 refine ⟨l,_,rfl,h7,by omega,bw,fun H8 s8=>⟨_,rfl,bh ?_⟩⟩
 have t8:=t7.trans s8
 refine ⟨_,rfl,x,rfl,by omega,by omega,fun p qs H9 s9 f9 pmq rs hp=>?_⟩
 have t9:=t8.trans s9
 rw [<- bJ] at pmq
 obtain ⟨tn,ln⟩:=vU cx lx' pmq rs
 refine ⟨p,_,rfl,hp,by omega,tn,fun Ha sa=>⟨_,rfl,bh ?_⟩⟩
 have ta:=t9.trans sa
 refine ⟨_,rfl,_,rfl,a,ns,1,rfl,ta.seq hS,by decide,_,_,rfl,rfl,pm (by decide),?_⟩
 try dsimp only
 generalize ns.getD (1:Int).toNat 0 % 41=z at m1 |-
 obtain ⟨n1,rfl⟩:∃ n:Nat,z=(n:Int):=⟨z.toNat,by omega⟩
 refine ⟨a,ns,n1,100,rfl,ta.seq hS,h63,by omega,by decide,by decide,fun tf k fs Hb sb ft fk ht hk fl=>?_⟩
 exact ⟨tf,k,_,fs,rfl,ht,hk,fl,by omega,fun Hc sc=>q _⟩
end
noncomputable def B2 (K:PySem.W.Frag):Sp:=fun vs H Q _=>∃ (a:Addr) (ns:List Int),vs=[.ref a]/\ar K H a (ns.map V.int)/\ns.length<=63/\∀ H',Q (.bl true) H'
theorem aY {P:List Value->Prop} (h:∀ a0:Value,P [a0]):∀ us:List Value,us.length=1->P us
 | [a0],_=>h a0
theorem bp {P:List Value->Prop} (h:∀ a0 a1:Value,P [a0,a1]):∀ us:List Value,us.length=2->P us
 | [a0,a1],_=>h a0 a1
theorem eJ {P:List Value->Prop} (h:∀ a0 a1 a2:Value,P [a0,a1,a2]):∀ us:List Value,us.length=3->P us
 | [a0,a1,a2],_=>h a0 a1 a2
theorem all_mk {l:PySem.W.OpenLaw} {w:World} {K:PySem.W.Frag} {h:Heap} {mg:Str->Option Value} {fa:Addr} (X:K.In h) (G:h.Ns mainGlobals mg) (hfa:mg "law" = some (.ref fa)) {aR:Addr} {aA:Addr} {aX:Addr} {aC:Addr} {a8:Addr} {aQ:Addr} {aL:Addr}
 {f1 f2 f3 f4 f5 f6 f7 f8 f9 f10 f11 f12 f13 f14 f15 f16 f17 f18 f19 f20 f21 f22 f23 f24 f25 f26 f27 f28 f29 f30 f31 f32 f33 f34 f35 f36 f37 f38 f39 f40 f41 f42 f43 f44 f45 f46 f47 f48 f49 f50 f51 f52 f53 f54 f55 f56 f57 f58 f59 f60 f61:Addr} {od1 an1 od2 an2 od3 an3 od4 an4 od5 an5 od6 an6 od7 an7 od8 an8 od9 an9 od10 an10 od11 an11 od12 an12 od13 an13 od14 an14 od15 an15 od16 an16 od17 an17 od18 an18 od19 an19 od20 an20 od21 an21 od22 an22 od23 an23 od24 an24 od25 an25 od26 an26 od27 an27 od28 an28 od29 an29 od30 an30 od31 an31 od32 an32 od33 an33 od34 an34 od35 an35 od36 an36 od37 an37 od38 an38 od39 an39 od40 an40 od41 an41 od42 an42 od43 an43 od44 an44 od45 an45 od46 an46 od47 an47 od48 an48 od49 an49 od50 an50 od51 an51 od52 an52 od53 an53 od54 an54 od55 an55 od56 an56 od57 an57 od58 an58 od59 an59 od60 an60 od61 an61:Option Addr} {sl1 sl2 sl3 sl4 sl5 sl6 sl7 sl8 sl9 sl10 sl11 sl12 sl13 sl14 sl15 sl16 sl17 sl18 sl19 sl20 sl21 sl22 sl23 sl24 sl25 sl26 sl27 sl28 sl29 sl30 sl31 sl32 sl33 sl34 sl35 sl36 sl37 sl38 sl39 sl40 sl41 sl42 sl43 sl44 sl45 sl46 sl47 sl48 sl49 sl50 sl51 sl52 sl53 sl54 sl55 sl56 sl57 sl58 sl59 sl60 sl61:Array (Option Value)} {oc1 kV1 dc1 pm1 cd1 ct1 oc2 kV2 dc2 pm2 cd2 ct2 oc3 kV3 dc3 pm3 cd3 ct3 oc4 kV4 dc4 pm4 cd4 ct4 oc5 kV5 dc5 pm5 cd5 ct5 oc6 kV6 dc6 pm6 cd6 ct6 oc7 kV7 dc7 pm7 cd7 ct7 oc8 kV8 dc8 pm8 cd8 ct8 oc9 kV9 dc9 pm9 cd9 ct9 oc10 kV10 dc10 pm10 cd10 ct10 oc11 kV11 dc11 pm11 cd11 ct11 oc12 kV12 dc12 pm12 cd12 ct12 oc13 kV13 dc13 pm13 cd13 ct13 oc14 kV14 dc14 pm14 cd14 ct14 oc15 kV15 dc15 pm15 cd15 ct15 oc16 kV16 dc16 pm16 cd16 ct16 oc17 kV17 dc17 pm17 cd17 ct17 oc18 kV18 dc18 pm18 cd18 ct18 oc19 kV19 dc19 pm19 cd19 ct19 oc20 kV20 dc20 pm20 cd20 ct20 oc21 kV21 dc21 pm21 cd21 ct21 oc22 kV22 dc22 pm22 cd22 ct22 oc23 kV23 dc23 pm23 cd23 ct23 oc24 kV24 dc24 pm24 cd24 ct24 oc25 kV25 dc25 pm25 cd25 ct25 oc26 kV26 dc26 pm26 cd26 ct26 oc27 kV27 dc27 pm27 cd27 ct27 oc28 kV28 dc28 pm28 cd28 ct28 oc29 kV29 dc29 pm29 cd29 ct29 oc30 kV30 dc30 pm30 cd30 ct30 oc31 kV31 dc31 pm31 cd31 ct31 oc32 kV32 dc32 pm32 cd32 ct32 oc33 kV33 dc33 pm33 cd33 ct33 oc34 kV34 dc34 pm34 cd34 ct34 oc35 kV35 dc35 pm35 cd35 ct35 oc36 kV36 dc36 pm36 cd36 ct36 oc37 kV37 dc37 pm37 cd37 ct37 oc38 kV38 dc38 pm38 cd38 ct38 oc39 kV39 dc39 pm39 cd39 ct39 oc40 kV40 dc40 pm40 cd40 ct40 oc41 kV41 dc41 pm41 cd41 ct41 oc42 kV42 dc42 pm42 cd42 ct42 oc43 kV43 dc43 pm43 cd43 ct43 oc44 kV44 dc44 pm44 cd44 ct44 oc45 kV45 dc45 pm45 cd45 ct45 oc46 kV46 dc46 pm46 cd46 ct46 oc47 kV47 dc47 pm47 cd47 ct47 oc48 kV48 dc48 pm48 cd48 ct48 oc49 kV49 dc49 pm49 cd49 ct49 oc50 kV50 dc50 pm50 cd50 ct50 oc51 kV51 dc51 pm51 cd51 ct51 oc52 kV52 dc52 pm52 cd52 ct52 oc53 kV53 dc53 pm53 cd53 ct53 oc54 kV54 dc54 pm54 cd54 ct54 oc55 kV55 dc55 pm55 cd55 ct55 oc56 kV56 dc56 pm56 cd56 ct56 oc57 kV57 dc57 pm57 cd57 ct57 oc58 kV58 dc58 pm58 cd58 ct58 oc59 kV59 dc59 pm59 cd59 ct59 oc60 kV60 dc60 pm60 cd60 ct60 oc61 kV61 dc61 pm61 cd61 ct61:Value}
  (lr:PySem.W.nsIn K mainGlobals "Twins" = some (some (.ref aR)))
  (fM:PySem.W.nsIn K mainGlobals "SplitFamily" = some (some (.ref aA)))
  (iU:PySem.W.nsIn K mainGlobals "Family" = some (some (.ref aX)))
  (hG:PySem.W.nsIn K mainGlobals "Brackets" = some (some (.ref aC)))
  (nU:PySem.W.nsIn K mainGlobals "Bows" = some (some (.ref a8)))
  (lB:PySem.W.nsIn K mainGlobals "Turns" = some (some (.ref aQ)))
  (iS:PySem.W.nsIn K mainGlobals "Floors" = some (some (.ref aL)))
  (dS:PySem.W.findIn K (.ref aR) "refuse_other" = some (some (.ref f10)))
  (fz:PySem.W.findIn K (.ref aR) "is_one" = some (some (.ref f9)))
  (di:PySem.W.findIn K (.ref aC) "refuse_other" = some (some (.ref f20)))
  (eQ:PySem.W.findIn K (.ref aC) "is_one" = some (some (.ref f19)))
  (ee:PySem.W.findIn K (.ref a8) "refuse_other" = some (some (.ref f31)))
  (gf:PySem.W.findIn K (.ref a8) "is_one" = some (some (.ref f30)))
  (dW:PySem.W.findIn K (.ref aQ) "refuse_other" = some (some (.ref f46)))
  (fL:PySem.W.findIn K (.ref aQ) "is_one" = some (some (.ref f45)))
  (dN:PySem.W.findIn K (.ref aL) "refuse_other" = some (some (.ref f56)))
  (fc:PySem.W.findIn K (.ref aL) "is_one" = some (some (.ref f55)))
  (lV:PySem.W.findIn K (.ref aR) "__init__" = some (some (.ref f8)))
  (gZ:PySem.W.findIn K (.ref aC) "__init__" = some (some (.ref f17)))
  (nr:PySem.W.findIn K (.ref a8) "__init__" = some (some (.ref f26)))
  (lM:PySem.W.findIn K (.ref aQ) "__init__" = some (some (.ref f43)))
  (je:PySem.W.findIn K (.ref aL) "__init__" = some (some (.ref f53)))
  (cb:PySem.W.findCls K (.ref aA) (.type "type") "__init__" = some (.val (.ref f7)))
  (bZ:PySem.W.specialIn K (.ref aA) "__getattribute__" = some (some (.builtin "type.__getattribute__")))
  (bY:PySem.W.readsIn K aA (.type "type")=true)
  (c0:PySem.W.findCls K (.ref aX) (.type "type") "__init__" = some (.val (.ref f6)))
  (cZ:PySem.W.specialIn K (.ref aX) "__getattribute__" = some (some (.builtin "type.__getattribute__")))
  (cW:PySem.W.readsIn K aX (.type "type")=true)
  (bO:PySem.W.findCls K (.ref aA) (.type "type") "__init__" = some (.val (.ref f16)))
  (bQ:PySem.W.specialIn K (.ref aA) "__getattribute__" = some (some (.builtin "type.__getattribute__")))
  (bN:PySem.W.readsIn K aA (.type "type")=true)
  (cH:PySem.W.findCls K (.ref aX) (.type "type") "__init__" = some (.val (.ref f15)))
  (cD:PySem.W.specialIn K (.ref aX) "__getattribute__" = some (some (.builtin "type.__getattribute__")))
  (cC:PySem.W.readsIn K aX (.type "type")=true)
  (cq:PySem.W.findCls K (.ref aA) (.type "type") "__init__" = some (.val (.ref f25)))
  (cu:PySem.W.specialIn K (.ref aA) "__getattribute__" = some (some (.builtin "type.__getattribute__")))
  (cp:PySem.W.readsIn K aA (.type "type")=true)
  (dh:PySem.W.findCls K (.ref aX) (.type "type") "__init__" = some (.val (.ref f24)))
  (dg:PySem.W.specialIn K (.ref aX) "__getattribute__" = some (some (.builtin "type.__getattribute__")))
  (dj:PySem.W.readsIn K aX (.type "type")=true)
  (cc:PySem.W.findCls K (.ref aA) (.type "type") "__init__" = some (.val (.ref f42)))
  (bX:PySem.W.specialIn K (.ref aA) "__getattribute__" = some (some (.builtin "type.__getattribute__")))
  (bW:PySem.W.readsIn K aA (.type "type")=true)
  (cY:PySem.W.findCls K (.ref aX) (.type "type") "__init__" = some (.val (.ref f41)))
  (de:PySem.W.specialIn K (.ref aX) "__getattribute__" = some (some (.builtin "type.__getattribute__")))
  (cV:PySem.W.readsIn K aX (.type "type")=true)
  (bT:PySem.W.findCls K (.ref aA) (.type "type") "__init__" = some (.val (.ref f52)))
  (bU:PySem.W.specialIn K (.ref aA) "__getattribute__" = some (some (.builtin "type.__getattribute__")))
  (bV:PySem.W.readsIn K aA (.type "type")=true)
  (cO:PySem.W.findCls K (.ref aX) (.type "type") "__init__" = some (.val (.ref f51)))
  (cP:PySem.W.specialIn K (.ref aX) "__getattribute__" = some (some (.builtin "type.__getattribute__")))
  (cM:PySem.W.readsIn K aX (.type "type")=true)
  (a1:PySem.W.nsIn K mainGlobals "_law_mix" = some (some (.ref f1)))
  (l1:K.lookup f1=some ⟨oc1,od1,.func (PySem.W.fnOf "_law_mix" "_law_mix" (ak jJ) (aj jJ) (ae jJ) .none kV1 dc1 pm1 an1 cd1 ct1),sl1⟩)
  (c1:PySem.W.codeIn K cd1 "_law_mix" = true)
  (k1:PySem.W.keepIn K (.ref f1)=true)
  (a2:PySem.W.nsIn K mainGlobals "_law_draws" = some (some (.ref f2)))
  (l2:K.lookup f2=some ⟨oc2,od2,.func (PySem.W.fnOf "_law_draws" "_law_draws" (ak jL) (aj jL) (ae jL) .none kV2 dc2 pm2 an2 cd2 ct2),sl2⟩)
  (c2:PySem.W.codeIn K cd2 "_law_draws" = true)
  (k2:PySem.W.keepIn K (.ref f2)=true)
  (a3:PySem.W.nsIn K mainGlobals "_law_text_by" = some (some (.ref f3)))
  (l3:K.lookup f3=some ⟨oc3,od3,.func (PySem.W.fnOf "_law_text_by" "_law_text_by" (ak jP) (aj jP) (ae jP) .none kV3 dc3 pm3 an3 cd3 ct3),sl3⟩)
  (c3:PySem.W.codeIn K cd3 "_law_text_by" = true)
  (k3:PySem.W.keepIn K (.ref f3)=true)
  (a4:PySem.W.nsIn K mainGlobals "_law_cell_at" = some (some (.ref f4)))
  (l4:K.lookup f4=some ⟨oc4,od4,.func (PySem.W.fnOf "_law_cell_at" "_law_cell_at" (ak kM) (aj kM) (ae kM) .none kV4 dc4 pm4 an4 cd4 ct4),sl4⟩)
  (c4:PySem.W.codeIn K cd4 "_law_cell_at" = true)
  (k4:PySem.W.keepIn K (.ref f4)=true)
  (a5:PySem.W.nsIn K mainGlobals "_law_twins_by" = some (some (.ref f5)))
  (l5:K.lookup f5=some ⟨oc5,od5,.func (PySem.W.fnOf "_law_twins_by" "_law_twins_by" (ak kj) (aj kj) (ae kj) .none kV5 dc5 pm5 an5 cd5 ct5),sl5⟩)
  (c5:PySem.W.codeIn K cd5 "_law_twins_by" = true)
  (k5:PySem.W.keepIn K (.ref f5)=true)
  (l6:K.lookup f6=some ⟨oc6,od6,.func (PySem.W.fnOf "__init__" "Family.__init__" (ak ku) (aj ku) (ae ku) .none kV6 dc6 pm6 an6 cd6 ct6),sl6⟩)
  (c6:PySem.W.codeIn K cd6 "Family.__init__" = true)
  (k6:PySem.W.keepIn K (.ref f6)=true)
  (i6:PySem.W.isFn K (.ref f6)=true)
  (l7:K.lookup f7=some ⟨oc7,od7,.func (PySem.W.fnOf "__init__" "SplitFamily.__init__" (ak n8) (aj n8) (ae n8) .none kV7 dc7 pm7 an7 cd7 ct7),sl7⟩)
  (c7:PySem.W.codeIn K cd7 "SplitFamily.__init__" = true)
  (k7:PySem.W.keepIn K (.ref f7)=true)
  (i7:PySem.W.isFn K (.ref f7)=true)
  (l8:K.lookup f8=some ⟨oc8,od8,.func (PySem.W.fnOf "__init__" "Twins.__init__" (ak j0) (aj j0) (ae j0) .none kV8 dc8 pm8 an8 cd8 ct8),sl8⟩)
  (c8:PySem.W.codeIn K cd8 "Twins.__init__" = true)
  (k8:PySem.W.keepIn K (.ref f8)=true)
  (i8:PySem.W.isFn K (.ref f8)=true)
  (l9:K.lookup f9=some ⟨oc9,od9,.func (PySem.W.fnOf "is_one" "Twins.is_one" (ak ju) (aj ju) (ae ju) .none kV9 dc9 pm9 an9 cd9 ct9),sl9⟩)
  (c9:PySem.W.codeIn K cd9 "Twins.is_one" = true)
  (k9:PySem.W.keepIn K (.ref f9)=true)
  (i9:PySem.W.isFn K (.ref f9)=true)
  (l10:K.lookup f10=some ⟨oc10,od10,.func (PySem.W.fnOf "refuse_other" "Family.refuse_other" (ak nE) (aj nE) (ae nE) .none kV10 dc10 pm10 an10 cd10 ct10),sl10⟩)
  (c10:PySem.W.codeIn K cd10 "Family.refuse_other" = true)
  (k10:PySem.W.keepIn K (.ref f10)=true)
  (i10:PySem.W.isFn K (.ref f10)=true)
  (a11:PySem.W.nsIn K mainGlobals "mirrored_twins" = some (some (.ref f11)))
  (l11:K.lookup f11=some ⟨oc11,od11,.func (PySem.W.fnOf "mirrored_twins" "mirrored_twins" (ak jN) (aj jN) (ae jN) .none kV11 dc11 pm11 an11 cd11 ct11),sl11⟩)
  (c11:PySem.W.codeIn K cd11 "mirrored_twins" = true)
  (k11:PySem.W.keepIn K (.ref f11)=true)
  (a12:PySem.W.nsIn K mainGlobals "twins_mirror" = some (some (.ref f12)))
  (l12:K.lookup f12=some ⟨oc12,od12,.func (PySem.W.fnOf "twins_mirror" "twins_mirror" (ak kg) (aj kg) (ae kg) .none kV12 dc12 pm12 an12 cd12 ct12),sl12⟩)
  (c12:PySem.W.codeIn K cd12 "twins_mirror" = true)
  (k12:PySem.W.keepIn K (.ref f12)=true)
  (a13:PySem.W.nsIn K mainGlobals "_law_same_twins" = some (some (.ref f13)))
  (l13:K.lookup f13=some ⟨oc13,od13,.func (PySem.W.fnOf "_law_same_twins" "_law_same_twins" (ak jX) (aj jX) (ae jX) .none kV13 dc13 pm13 an13 cd13 ct13),sl13⟩)
  (c13:PySem.W.codeIn K cd13 "_law_same_twins" = true)
  (k13:PySem.W.keepIn K (.ref f13)=true)
  (a14:PySem.W.nsIn K mainGlobals "_law_over" = some (some (.ref f14)))
  (l14:K.lookup f14=some ⟨oc14,od14,.func (PySem.W.fnOf "_law_over" "_law_over" (ak jA) (aj jA) (ae jA) .none kV14 dc14 pm14 an14 cd14 ct14),sl14⟩)
  (c14:PySem.W.codeIn K cd14 "_law_over" = true)
  (k14:PySem.W.keepIn K (.ref f14)=true)
  (l15:K.lookup f15=some ⟨oc15,od15,.func (PySem.W.fnOf "__init__" "Family.__init__" (ak ko) (aj ko) (ae ko) .none kV15 dc15 pm15 an15 cd15 ct15),sl15⟩)
  (c15:PySem.W.codeIn K cd15 "Family.__init__" = true)
  (k15:PySem.W.keepIn K (.ref f15)=true)
  (i15:PySem.W.isFn K (.ref f15)=true)
  (l16:K.lookup f16=some ⟨oc16,od16,.func (PySem.W.fnOf "__init__" "SplitFamily.__init__" (ak nQ) (aj nQ) (ae nQ) .none kV16 dc16 pm16 an16 cd16 ct16),sl16⟩)
  (c16:PySem.W.codeIn K cd16 "SplitFamily.__init__" = true)
  (k16:PySem.W.keepIn K (.ref f16)=true)
  (i16:PySem.W.isFn K (.ref f16)=true)
  (l17:K.lookup f17=some ⟨oc17,od17,.func (PySem.W.fnOf "__init__" "Brackets.__init__" (ak j6) (aj j6) (ae j6) .none kV17 dc17 pm17 an17 cd17 ct17),sl17⟩)
  (c17:PySem.W.codeIn K cd17 "Brackets.__init__" = true)
  (k17:PySem.W.keepIn K (.ref f17)=true)
  (i17:PySem.W.isFn K (.ref f17)=true)
  (a18:PySem.W.nsIn K mainGlobals "closes" = some (some (.ref f18)))
  (l18:K.lookup f18=some ⟨oc18,od18,.func (PySem.W.fnOf "closes" "closes" (ak jT) (aj jT) (ae jT) .none kV18 dc18 pm18 an18 cd18 ct18),sl18⟩)
  (c18:PySem.W.codeIn K cd18 "closes" = true)
  (k18:PySem.W.keepIn K (.ref f18)=true)
  (l19:K.lookup f19=some ⟨oc19,od19,.func (PySem.W.fnOf "is_one" "Brackets.is_one" (ak kd) (aj kd) (ae kd) .none kV19 dc19 pm19 an19 cd19 ct19),sl19⟩)
  (c19:PySem.W.codeIn K cd19 "Brackets.is_one" = true)
  (k19:PySem.W.keepIn K (.ref f19)=true)
  (i19:PySem.W.isFn K (.ref f19)=true)
  (l20:K.lookup f20=some ⟨oc20,od20,.func (PySem.W.fnOf "refuse_other" "Family.refuse_other" (ak nZ) (aj nZ) (ae nZ) .none kV20 dc20 pm20 an20 cd20 ct20),sl20⟩)
  (c20:PySem.W.codeIn K cd20 "Family.refuse_other" = true)
  (k20:PySem.W.keepIn K (.ref f20)=true)
  (i20:PySem.W.isFn K (.ref f20)=true)
  (a21:PySem.W.nsIn K mainGlobals "brackets_mirror" = some (some (.ref f21)))
  (l21:K.lookup f21=some ⟨oc21,od21,.func (PySem.W.fnOf "brackets_mirror" "brackets_mirror" (ak jY) (aj jY) (ae jY) .none kV21 dc21 pm21 an21 cd21 ct21),sl21⟩)
  (c21:PySem.W.codeIn K cd21 "brackets_mirror" = true)
  (k21:PySem.W.keepIn K (.ref f21)=true)
  (a22:PySem.W.nsIn K mainGlobals "_law_mirror" = some (some (.ref f22)))
  (l22:K.lookup f22=some ⟨oc22,od22,.func (PySem.W.fnOf "_law_mirror" "_law_mirror" (ak ki) (aj ki) (ae ki) .none kV22 dc22 pm22 an22 cd22 ct22),sl22⟩)
  (c22:PySem.W.codeIn K cd22 "_law_mirror" = true)
  (k22:PySem.W.keepIn K (.ref f22)=true)
  (a23:PySem.W.nsIn K mainGlobals "_law_texts" = some (some (.ref f23)))
  (l23:K.lookup f23=some ⟨oc23,od23,.func (PySem.W.fnOf "_law_texts" "_law_texts" (ak kz) (aj kz) (ae kz) .none kV23 dc23 pm23 an23 cd23 ct23),sl23⟩)
  (c23:PySem.W.codeIn K cd23 "_law_texts" = true)
  (k23:PySem.W.keepIn K (.ref f23)=true)
  (l24:K.lookup f24=some ⟨oc24,od24,.func (PySem.W.fnOf "__init__" "Family.__init__" (ak jB) (aj jB) (ae jB) .none kV24 dc24 pm24 an24 cd24 ct24),sl24⟩)
  (c24:PySem.W.codeIn K cd24 "Family.__init__" = true)
  (k24:PySem.W.keepIn K (.ref f24)=true)
  (i24:PySem.W.isFn K (.ref f24)=true)
  (l25:K.lookup f25=some ⟨oc25,od25,.func (PySem.W.fnOf "__init__" "SplitFamily.__init__" (ak nu) (aj nu) (ae nu) .none kV25 dc25 pm25 an25 cd25 ct25),sl25⟩)
  (c25:PySem.W.codeIn K cd25 "SplitFamily.__init__" = true)
  (k25:PySem.W.keepIn K (.ref f25)=true)
  (i25:PySem.W.isFn K (.ref f25)=true)
  (l26:K.lookup f26=some ⟨oc26,od26,.func (PySem.W.fnOf "__init__" "Bows.__init__" (ak jD) (aj jD) (ae jD) .none kV26 dc26 pm26 an26 cd26 ct26),sl26⟩)
  (c26:PySem.W.codeIn K cd26 "Bows.__init__" = true)
  (k26:PySem.W.keepIn K (.ref f26)=true)
  (i26:PySem.W.isFn K (.ref f26)=true)
  (a27:PySem.W.nsIn K mainGlobals "each_once" = some (some (.ref f27)))
  (l27:K.lookup f27=some ⟨oc27,od27,.func (PySem.W.fnOf "each_once" "each_once" (ak jE) (aj jE) (ae jE) .none kV27 dc27 pm27 an27 cd27 ct27),sl27⟩)
  (c27:PySem.W.codeIn K cd27 "each_once" = true)
  (k27:PySem.W.keepIn K (.ref f27)=true)
  (a28:PySem.W.nsIn K mainGlobals "flat" = some (some (.ref f28)))
  (l28:K.lookup f28=some ⟨oc28,od28,.func (PySem.W.fnOf "flat" "flat" (ak jK) (aj jK) (ae jK) .none kV28 dc28 pm28 an28 cd28 ct28),sl28⟩)
  (c28:PySem.W.codeIn K cd28 "flat" = true)
  (k28:PySem.W.keepIn K (.ref f28)=true)
  (a29:PySem.W.nsIn K mainGlobals "any_cross" = some (some (.ref f29)))
  (l29:K.lookup f29=some ⟨oc29,od29,.func (PySem.W.fnOf "any_cross" "any_cross" (ak kv) (aj kv) (ae kv) .none kV29 dc29 pm29 an29 cd29 ct29),sl29⟩)
  (c29:PySem.W.codeIn K cd29 "any_cross" = true)
  (k29:PySem.W.keepIn K (.ref f29)=true)
  (l30:K.lookup f30=some ⟨oc30,od30,.func (PySem.W.fnOf "is_one" "Bows.is_one" (ak km) (aj km) (ae km) .none kV30 dc30 pm30 an30 cd30 ct30),sl30⟩)
  (c30:PySem.W.codeIn K cd30 "Bows.is_one" = true)
  (k30:PySem.W.keepIn K (.ref f30)=true)
  (i30:PySem.W.isFn K (.ref f30)=true)
  (l31:K.lookup f31=some ⟨oc31,od31,.func (PySem.W.fnOf "refuse_other" "Family.refuse_other" (ak nB) (aj nB) (ae nB) .none kV31 dc31 pm31 an31 cd31 ct31),sl31⟩)
  (c31:PySem.W.codeIn K cd31 "Family.refuse_other" = true)
  (k31:PySem.W.keepIn K (.ref f31)=true)
  (i31:PySem.W.isFn K (.ref f31)=true)
  (a32:PySem.W.nsIn K mainGlobals "pairs_anew" = some (some (.ref f32)))
  (l32:K.lookup f32=some ⟨oc32,od32,.func (PySem.W.fnOf "pairs_anew" "pairs_anew" (ak kB) (aj kB) (ae kB) .none kV32 dc32 pm32 an32 cd32 ct32),sl32⟩)
  (c32:PySem.W.codeIn K cd32 "pairs_anew" = true)
  (k32:PySem.W.keepIn K (.ref f32)=true)
  (a33:PySem.W.nsIn K mainGlobals "mirrored_pairs" = some (some (.ref f33)))
  (l33:K.lookup f33=some ⟨oc33,od33,.func (PySem.W.fnOf "mirrored_pairs" "mirrored_pairs" (ak jz) (aj jz) (ae jz) .none kV33 dc33 pm33 an33 cd33 ct33),sl33⟩)
  (c33:PySem.W.codeIn K cd33 "mirrored_pairs" = true)
  (k33:PySem.W.keepIn K (.ref f33)=true)
  (a34:PySem.W.nsIn K mainGlobals "bows_mirror" = some (some (.ref f34)))
  (l34:K.lookup f34=some ⟨oc34,od34,.func (PySem.W.fnOf "bows_mirror" "bows_mirror" (ak kG) (aj kG) (ae kG) .none kV34 dc34 pm34 an34 cd34 ct34),sl34⟩)
  (c34:PySem.W.codeIn K cd34 "bows_mirror" = true)
  (k34:PySem.W.keepIn K (.ref f34)=true)
  (a35:PySem.W.nsIn K mainGlobals "_law_whole" = some (some (.ref f35)))
  (l35:K.lookup f35=some ⟨oc35,od35,.func (PySem.W.fnOf "_law_whole" "_law_whole" (ak jS) (aj jS) (ae jS) .none kV35 dc35 pm35 an35 cd35 ct35),sl35⟩)
  (c35:PySem.W.codeIn K cd35 "_law_whole" = true)
  (k35:PySem.W.keepIn K (.ref f35)=true)
  (a36:PySem.W.nsIn K mainGlobals "_law_pairs" = some (some (.ref f36)))
  (l36:K.lookup f36=some ⟨oc36,od36,.func (PySem.W.fnOf "_law_pairs" "_law_pairs" (ak kK) (aj kK) (ae kK) .none kV36 dc36 pm36 an36 cd36 ct36),sl36⟩)
  (c36:PySem.W.codeIn K cd36 "_law_pairs" = true)
  (k36:PySem.W.keepIn K (.ref f36)=true)
  (a37:PySem.W.nsIn K mainGlobals "_law_flipped" = some (some (.ref f37)))
  (l37:K.lookup f37=some ⟨oc37,od37,.func (PySem.W.fnOf "_law_flipped" "_law_flipped" (ak kO) (aj kO) (ae kO) .none kV37 dc37 pm37 an37 cd37 ct37),sl37⟩)
  (c37:PySem.W.codeIn K cd37 "_law_flipped" = true)
  (k37:PySem.W.keepIn K (.ref f37)=true)
  (a38:PySem.W.nsIn K mainGlobals "_law_bows" = some (some (.ref f38)))
  (l38:K.lookup f38=some ⟨oc38,od38,.func (PySem.W.fnOf "_law_bows" "_law_bows" (ak jH) (aj jH) (ae jH) .none kV38 dc38 pm38 an38 cd38 ct38),sl38⟩)
  (c38:PySem.W.codeIn K cd38 "_law_bows" = true)
  (k38:PySem.W.keepIn K (.ref f38)=true)
  (a39:PySem.W.nsIn K mainGlobals "_law_mate" = some (some (.ref f39)))
  (l39:K.lookup f39=some ⟨oc39,od39,.func (PySem.W.fnOf "_law_mate" "_law_mate" (ak jW) (aj jW) (ae jW) .none kV39 dc39 pm39 an39 cd39 ct39),sl39⟩)
  (c39:PySem.W.codeIn K cd39 "_law_mate" = true)
  (k39:PySem.W.keepIn K (.ref f39)=true)
  (a40:PySem.W.nsIn K mainGlobals "_law_bows_of" = some (some (.ref f40)))
  (l40:K.lookup f40=some ⟨oc40,od40,.func (PySem.W.fnOf "_law_bows_of" "_law_bows_of" (ak kE) (aj kE) (ae kE) .none kV40 dc40 pm40 an40 cd40 ct40),sl40⟩)
  (c40:PySem.W.codeIn K cd40 "_law_bows_of" = true)
  (k40:PySem.W.keepIn K (.ref f40)=true)
  (l41:K.lookup f41=some ⟨oc41,od41,.func (PySem.W.fnOf "__init__" "Family.__init__" (ak kA) (aj kA) (ae kA) .none kV41 dc41 pm41 an41 cd41 ct41),sl41⟩)
  (c41:PySem.W.codeIn K cd41 "Family.__init__" = true)
  (k41:PySem.W.keepIn K (.ref f41)=true)
  (i41:PySem.W.isFn K (.ref f41)=true)
  (l42:K.lookup f42=some ⟨oc42,od42,.func (PySem.W.fnOf "__init__" "SplitFamily.__init__" (ak nk) (aj nk) (ae nk) .none kV42 dc42 pm42 an42 cd42 ct42),sl42⟩)
  (c42:PySem.W.codeIn K cd42 "SplitFamily.__init__" = true)
  (k42:PySem.W.keepIn K (.ref f42)=true)
  (i42:PySem.W.isFn K (.ref f42)=true)
  (l43:K.lookup f43=some ⟨oc43,od43,.func (PySem.W.fnOf "__init__" "Turns.__init__" (ak j8) (aj j8) (ae j8) .none kV43 dc43 pm43 an43 cd43 ct43),sl43⟩)
  (c43:PySem.W.codeIn K cd43 "Turns.__init__" = true)
  (k43:PySem.W.keepIn K (.ref f43)=true)
  (i43:PySem.W.isFn K (.ref f43)=true)
  (a44:PySem.W.nsIn K mainGlobals "comes_off_a_stack" = some (some (.ref f44)))
  (l44:K.lookup f44=some ⟨oc44,od44,.func (PySem.W.fnOf "comes_off_a_stack" "comes_off_a_stack" (ak jI) (aj jI) (ae jI) .none kV44 dc44 pm44 an44 cd44 ct44),sl44⟩)
  (c44:PySem.W.codeIn K cd44 "comes_off_a_stack" = true)
  (k44:PySem.W.keepIn K (.ref f44)=true)
  (l45:K.lookup f45=some ⟨oc45,od45,.func (PySem.W.fnOf "is_one" "Turns.is_one" (ak kH) (aj kH) (ae kH) .none kV45 dc45 pm45 an45 cd45 ct45),sl45⟩)
  (c45:PySem.W.codeIn K cd45 "Turns.is_one" = true)
  (k45:PySem.W.keepIn K (.ref f45)=true)
  (i45:PySem.W.isFn K (.ref f45)=true)
  (l46:K.lookup f46=some ⟨oc46,od46,.func (PySem.W.fnOf "refuse_other" "Family.refuse_other" (ak nN) (aj nN) (ae nN) .none kV46 dc46 pm46 an46 cd46 ct46),sl46⟩)
  (c46:PySem.W.codeIn K cd46 "Family.refuse_other" = true)
  (k46:PySem.W.keepIn K (.ref f46)=true)
  (i46:PySem.W.isFn K (.ref f46)=true)
  (a47:PySem.W.nsIn K mainGlobals "turns_mirror" = some (some (.ref f47)))
  (l47:K.lookup f47=some ⟨oc47,od47,.func (PySem.W.fnOf "turns_mirror" "turns_mirror" (ak kL) (aj kL) (ae kL) .none kV47 dc47 pm47 an47 cd47 ct47),sl47⟩)
  (c47:PySem.W.codeIn K cd47 "turns_mirror" = true)
  (k47:PySem.W.keepIn K (.ref f47)=true)
  (a48:PySem.W.nsIn K mainGlobals "_law_numbers" = some (some (.ref f48)))
  (l48:K.lookup f48=some ⟨oc48,od48,.func (PySem.W.fnOf "_law_numbers" "_law_numbers" (ak kc) (aj kc) (ae kc) .none kV48 dc48 pm48 an48 cd48 ct48),sl48⟩)
  (c48:PySem.W.codeIn K cd48 "_law_numbers" = true)
  (k48:PySem.W.keepIn K (.ref f48)=true)
  (a49:PySem.W.nsIn K mainGlobals "_law_turns" = some (some (.ref f49)))
  (l49:K.lookup f49=some ⟨oc49,od49,.func (PySem.W.fnOf "_law_turns" "_law_turns" (ak jC) (aj jC) (ae jC) .none kV49 dc49 pm49 an49 cd49 ct49),sl49⟩)
  (c49:PySem.W.codeIn K cd49 "_law_turns" = true)
  (k49:PySem.W.keepIn K (.ref f49)=true)
  (a50:PySem.W.nsIn K mainGlobals "_law_turns_of" = some (some (.ref f50)))
  (l50:K.lookup f50=some ⟨oc50,od50,.func (PySem.W.fnOf "_law_turns_of" "_law_turns_of" (ak jZ) (aj jZ) (ae jZ) .none kV50 dc50 pm50 an50 cd50 ct50),sl50⟩)
  (c50:PySem.W.codeIn K cd50 "_law_turns_of" = true)
  (k50:PySem.W.keepIn K (.ref f50)=true)
  (l51:K.lookup f51=some ⟨oc51,od51,.func (PySem.W.fnOf "__init__" "Family.__init__" (ak kN) (aj kN) (ae kN) .none kV51 dc51 pm51 an51 cd51 ct51),sl51⟩)
  (c51:PySem.W.codeIn K cd51 "Family.__init__" = true)
  (k51:PySem.W.keepIn K (.ref f51)=true)
  (i51:PySem.W.isFn K (.ref f51)=true)
  (l52:K.lookup f52=some ⟨oc52,od52,.func (PySem.W.fnOf "__init__" "SplitFamily.__init__" (ak nH) (aj nH) (ae nH) .none kV52 dc52 pm52 an52 cd52 ct52),sl52⟩)
  (c52:PySem.W.codeIn K cd52 "SplitFamily.__init__" = true)
  (k52:PySem.W.keepIn K (.ref f52)=true)
  (i52:PySem.W.isFn K (.ref f52)=true)
  (l53:K.lookup f53=some ⟨oc53,od53,.func (PySem.W.fnOf "__init__" "Floors.__init__" (ak ka) (aj ka) (ae ka) .none kV53 dc53 pm53 an53 cd53 ct53),sl53⟩)
  (c53:PySem.W.codeIn K cd53 "Floors.__init__" = true)
  (k53:PySem.W.keepIn K (.ref f53)=true)
  (i53:PySem.W.isFn K (.ref f53)=true)
  (a54:PySem.W.nsIn K mainGlobals "may_be_cut" = some (some (.ref f54)))
  (l54:K.lookup f54=some ⟨oc54,od54,.func (PySem.W.fnOf "may_be_cut" "may_be_cut" (ak kJ) (aj kJ) (ae kJ) .none kV54 dc54 pm54 an54 cd54 ct54),sl54⟩)
  (c54:PySem.W.codeIn K cd54 "may_be_cut" = true)
  (k54:PySem.W.keepIn K (.ref f54)=true)
  (l55:K.lookup f55=some ⟨oc55,od55,.func (PySem.W.fnOf "is_one" "Floors.is_one" (ak jG) (aj jG) (ae jG) .none kV55 dc55 pm55 an55 cd55 ct55),sl55⟩)
  (c55:PySem.W.codeIn K cd55 "Floors.is_one" = true)
  (k55:PySem.W.keepIn K (.ref f55)=true)
  (i55:PySem.W.isFn K (.ref f55)=true)
  (l56:K.lookup f56=some ⟨oc56,od56,.func (PySem.W.fnOf "refuse_other" "Family.refuse_other" (ak n5) (aj n5) (ae n5) .none kV56 dc56 pm56 an56 cd56 ct56),sl56⟩)
  (c56:PySem.W.codeIn K cd56 "Family.refuse_other" = true)
  (k56:PySem.W.keepIn K (.ref f56)=true)
  (i56:PySem.W.isFn K (.ref f56)=true)
  (a57:PySem.W.nsIn K mainGlobals "floor_mirror" = some (some (.ref f57)))
  (l57:K.lookup f57=some ⟨oc57,od57,.func (PySem.W.fnOf "floor_mirror" "floor_mirror" (ak jU) (aj jU) (ae jU) .none kV57 dc57 pm57 an57 cd57 ct57),sl57⟩)
  (c57:PySem.W.codeIn K cd57 "floor_mirror" = true)
  (k57:PySem.W.keepIn K (.ref f57)=true)
  (a58:PySem.W.nsIn K mainGlobals "_law_floor" = some (some (.ref f58)))
  (l58:K.lookup f58=some ⟨oc58,od58,.func (PySem.W.fnOf "_law_floor" "_law_floor" (ak jy) (aj jy) (ae jy) .none kV58 dc58 pm58 an58 cd58 ct58),sl58⟩)
  (c58:PySem.W.codeIn K cd58 "_law_floor" = true)
  (k58:PySem.W.keepIn K (.ref f58)=true)
  (a59:PySem.W.nsIn K mainGlobals "_law_floors" = some (some (.ref f59)))
  (l59:K.lookup f59=some ⟨oc59,od59,.func (PySem.W.fnOf "_law_floors" "_law_floors" (ak kf) (aj kf) (ae kf) .none kV59 dc59 pm59 an59 cd59 ct59),sl59⟩)
  (c59:PySem.W.codeIn K cd59 "_law_floors" = true)
  (k59:PySem.W.keepIn K (.ref f59)=true)
  (a60:PySem.W.nsIn K mainGlobals "_law_floor_by" = some (some (.ref f60)))
  (l60:K.lookup f60=some ⟨oc60,od60,.func (PySem.W.fnOf "_law_floor_by" "_law_floor_by" (ak j7) (aj j7) (ae j7) .none kV60 dc60 pm60 an60 cd60 ct60),sl60⟩)
  (c60:PySem.W.codeIn K cd60 "_law_floor_by" = true)
  (k60:PySem.W.keepIn K (.ref f60)=true)
  (a61:PySem.W.nsIn K mainGlobals "law" = some (some (.ref f61)))
  (l61:K.lookup f61=some ⟨oc61,od61,.func (PySem.W.fnOf "law" "law" (ak gk) (aj gk) (ae gk) .none kV61 dc61 pm61 an61 cd61 ct61),sl61⟩)
  (c61:PySem.W.codeIn K cd61 "law" = true)
  (k61:PySem.W.keepIn K (.ref f61)=true)
  (pg_Twins:PySem.W.plainGet K aR Str.empty=true)
  (hd_Twins:PySem.W.hasDictIn K aR=true)
  (po_Twins:PySem.W.plainOver K aR=true)
  (sa_Twins:PySem.W.findIn K (.ref aR) "__setattr__" = some (some (.builtin "object.__setattr__")))
  (pg_Brackets:PySem.W.plainGet K aC Str.empty=true)
  (hd_Brackets:PySem.W.hasDictIn K aC=true)
  (po_Brackets:PySem.W.plainOver K aC=true)
  (sa_Brackets:PySem.W.findIn K (.ref aC) "__setattr__" = some (some (.builtin "object.__setattr__")))
  (pg_Bows:PySem.W.plainGet K a8 Str.empty=true)
  (hd_Bows:PySem.W.hasDictIn K a8=true)
  (po_Bows:PySem.W.plainOver K a8=true)
  (sa_Bows:PySem.W.findIn K (.ref a8) "__setattr__" = some (some (.builtin "object.__setattr__")))
  (pg_Turns:PySem.W.plainGet K aQ Str.empty=true)
  (hd_Turns:PySem.W.hasDictIn K aQ=true)
  (po_Turns:PySem.W.plainOver K aQ=true)
  (sa_Turns:PySem.W.findIn K (.ref aQ) "__setattr__" = some (some (.builtin "object.__setattr__")))
  (pg_Floors:PySem.W.plainGet K aL Str.empty=true)
  (hd_Floors:PySem.W.hasDictIn K aL=true)
  (po_Floors:PySem.W.plainOver K aL=true)
  (sa_Floors:PySem.W.findIn K (.ref aL) "__setattr__" = some (some (.builtin "object.__setattr__")))
  (mk_Twins:PySem.W.makesIn K aR=true)
  (kc_Twins:PySem.W.keepIn K (.ref aR)=true)
  (mk_Brackets:PySem.W.makesIn K aC=true)
  (kc_Brackets:PySem.W.keepIn K (.ref aC)=true)
  (mk_Bows:PySem.W.makesIn K a8=true)
  (kc_Bows:PySem.W.keepIn K (.ref a8)=true)
  (mk_Turns:PySem.W.makesIn K aQ=true)
  (kc_Turns:PySem.W.keepIn K (.ref aQ)=true)
  (mk_Floors:PySem.W.makesIn K aL=true)
  (kc_Floors:PySem.W.keepIn K (.ref aL)=true)
  (d5:PySem.W.findIn K (.ref aR) "word" = some none)
  (dO:PySem.W.findIn K (.ref aR) "least" = some none)
  (cU:PySem.W.findIn K (.ref aC) "word" = some none)
  (cK:PySem.W.findIn K (.ref aC) "least" = some none)
  (eC:PySem.W.findIn K (.ref a8) "word" = some none)
  (d4:PySem.W.findIn K (.ref a8) "least" = some none)
  (d6:PySem.W.findIn K (.ref aQ) "word" = some none)
  (dJ:PySem.W.findIn K (.ref aQ) "least" = some none)
  (dG:PySem.W.findIn K (.ref aL) "word" = some none)
  (du:PySem.W.findIn K (.ref aL) "least" = some none)
  (z_range:PySem.W.nsIn K mainGlobals "range" = some none)
  (z_len:PySem.W.nsIn K mainGlobals "len" = some none)
  (z_isinstance:PySem.W.nsIn K mainGlobals "isinstance" = some none)
  (z_tuple:PySem.W.nsIn K mainGlobals "tuple" = some none)
  (z_reversed:PySem.W.nsIn K mainGlobals "reversed" = some none)
  (z_int:PySem.W.nsIn K mainGlobals "int" = some none)
  (z_str:PySem.W.nsIn K mainGlobals "str" = some none)
  (z_sorted:PySem.W.nsIn K mainGlobals "sorted" = some none)
  (z_list:PySem.W.nsIn K mainGlobals "list" = some none)
  (z_all:PySem.W.nsIn K mainGlobals "all" = some none)
  (z_max:PySem.W.nsIn K mainGlobals "max" = some none)
  (z_min:PySem.W.nsIn K mainGlobals "min" = some none)
  (z_bool:PySem.W.nsIn K mainGlobals "bool" = some none)
  (z_enumerate:PySem.W.nsIn K mainGlobals "enumerate" = some none)
  (z_set:PySem.W.nsIn K mainGlobals "set" = some none) :
  ∃ fd:FuncData,(∀ (s:Shared) (v:Value),BindsTo s fd ⟨[v],[]⟩ [("_law_script",v)])/\∀ base:Heap,K.In base->base.Ns mainGlobals mg->az l.prog w K mg base aZ 44 fa fd ["_law_script"] (B2 K):=by
 have e:=hfa.symm.trans (PySem.W.mg_of X G a61)
 cases e
 have CA:A4 K mg ⟨aR,aA,aX,aC,a8,aQ,aL,f6,f7,f8,f9,f10,f15,f16,f17,f19,f20,f24,f25,f26,f30,f31,f41,f42,f43,f45,f46,f51,f52,f53,f55,f56⟩:=⟨PySem.W.mg_of X G lr,PySem.W.mg_of X G fM,PySem.W.mg_of X G iU,PySem.W.mg_of X G hG,PySem.W.mg_of X G nU,PySem.W.mg_of X G lB,PySem.W.mg_of X G iS,⟨pg_Twins,hd_Twins,po_Twins,sa_Twins⟩,⟨pg_Brackets,hd_Brackets,po_Brackets,sa_Brackets⟩,⟨pg_Bows,hd_Bows,po_Bows,sa_Bows⟩,⟨pg_Turns,hd_Turns,po_Turns,sa_Turns⟩,⟨pg_Floors,hd_Floors,po_Floors,sa_Floors⟩,⟨dS,i10,k10⟩,⟨fz,i9,k9⟩,⟨di,i20,k20⟩,⟨eQ,i19,k19⟩,⟨ee,i31,k31⟩,⟨gf,i30,k30⟩,⟨dW,i46,k46⟩,⟨fL,i45,k45⟩,⟨dN,i56,k56⟩,⟨fc,i55,k55⟩,⟨mk_Twins,lV,i8,kc_Twins⟩,⟨mk_Brackets,gZ,i17,kc_Brackets⟩,⟨mk_Bows,nr,i26,kc_Bows⟩,⟨mk_Turns,lM,i43,kc_Turns⟩,⟨mk_Floors,je,i53,kc_Floors⟩,⟨bZ,bY,cb,k7⟩,⟨cZ,cW,c0,k6⟩,⟨bQ,bN,bO,k16⟩,⟨cD,cC,cH,k15⟩,⟨cu,cp,cq,k25⟩,⟨dg,dj,dh,k24⟩,⟨bX,bW,cc,k42⟩,⟨de,cV,cY,k41⟩,⟨bU,bV,bT,k52⟩,⟨cP,cM,cO,k51⟩,d5,dO,cU,cK,eC,d4,d6,dJ,dG,du⟩
 have F1:=ay (st:=jJ) l1 c1 k1
 have b1:=F1.binds (ps:=["_law_cell","_law_turn"]) fun _ _ _ _ _ _=>bp (fun _ _=>rfl)
 have F2:=ay (st:=jL) l2 c2 k2
 have b2:=F2.binds (ps:=["_law_script","_law_turn","_law_many"]) fun _ _ _ _ _ _=>eJ (fun _ _ _=>rfl)
 have F3:=ay (st:=jP) l3 c3 k3
 have b3:=F3.binds (ps:=["_law_script","_law_size","_law_turn"]) fun _ _ _ _ _ _=>eJ (fun _ _ _=>rfl)
 have F4:=ay (st:=kM) l4 c4 k4
 have b4:=F4.binds (ps:=["_law_script","_law_k"]) fun _ _ _ _ _ _=>bp (fun _ _=>rfl)
 have F5:=ay (st:=kj) l5 c5 k5
 have b5:=F5.binds (ps:=["_law_text"]) fun _ _ _ _ _ _=>aY (fun _=>rfl)
 have F6:=ay (st:=ku) l6 c6 k6
 have b6:=F6.binds (ps:=["self","word","least"]) fun _ _ _ _ _ _=>eJ (fun _ _ _=>rfl)
 have F7:=ay (st:=n8) l7 c7 k7
 have b7:=F7.binds (ps:=["self","word"]) fun _ _ _ _ _ _=>bp (fun _ _=>rfl)
 have F8:=ay (st:=j0) l8 c8 k8
 have b8:=F8.binds (ps:=["self"]) fun _ _ _ _ _ _=>aY (fun _=>rfl)
 have F9:=ay (st:=ju) l9 c9 k9
 have b9:=F9.binds (ps:=["self","thing"]) fun _ _ _ _ _ _=>bp (fun _ _=>rfl)
 have F10:=ay (st:=nE) l10 c10 k10
 have b10:=F10.binds (ps:=["self","thing"]) fun _ _ _ _ _ _=>bp (fun _ _=>rfl)
 have F11:=ay (st:=jN) l11 c11 k11
 have b11:=F11.binds (ps:=["twin"]) fun _ _ _ _ _ _=>aY (fun _=>rfl)
 have F12:=ay (st:=kg) l12 c12 k12
 have b12:=F12.binds (ps:=["thing"]) fun _ _ _ _ _ _=>aY (fun _=>rfl)
 have F13:=ay (st:=jX) l13 c13 k13
 have b13:=F13.binds (ps:=["_law_found","_law_due"]) fun _ _ _ _ _ _=>bp (fun _ _=>rfl)
 have F14:=ay (st:=jA) l14 c14 k14
 have b14:=F14.binds (ps:=["_law_thing"]) fun _ _ _ _ _ _=>aY (fun _=>rfl)
 have F15:=ay (st:=ko) l15 c15 k15
 have b15:=F15.binds (ps:=["self","word","least"]) fun _ _ _ _ _ _=>eJ (fun _ _ _=>rfl)
 have F16:=ay (st:=nQ) l16 c16 k16
 have b16:=F16.binds (ps:=["self","word"]) fun _ _ _ _ _ _=>bp (fun _ _=>rfl)
 have F17:=ay (st:=j6) l17 c17 k17
 have b17:=F17.binds (ps:=["self"]) fun _ _ _ _ _ _=>aY (fun _=>rfl)
 have F18:=ay (st:=jT) l18 c18 k18
 have b18:=F18.binds (ps:=["text"]) fun _ _ _ _ _ _=>aY (fun _=>rfl)
 have F19:=ay (st:=kd) l19 c19 k19
 have b19:=F19.binds (ps:=["self","thing"]) fun _ _ _ _ _ _=>bp (fun _ _=>rfl)
 have F20:=ay (st:=nZ) l20 c20 k20
 have b20:=F20.binds (ps:=["self","thing"]) fun _ _ _ _ _ _=>bp (fun _ _=>rfl)
 have F21:=ay (st:=jY) l21 c21 k21
 have b21:=F21.binds (ps:=["thing"]) fun _ _ _ _ _ _=>aY (fun _=>rfl)
 have F22:=ay (st:=ki) l22 c22 k22
 have b22:=F22.binds (ps:=["_law_text"]) fun _ _ _ _ _ _=>aY (fun _=>rfl)
 have F23:=ay (st:=kz) l23 c23 k23
 have b23:=F23.binds (ps:=["_law_text"]) fun _ _ _ _ _ _=>aY (fun _=>rfl)
 have F24:=ay (st:=jB) l24 c24 k24
 have b24:=F24.binds (ps:=["self","word","least"]) fun _ _ _ _ _ _=>eJ (fun _ _ _=>rfl)
 have F25:=ay (st:=nu) l25 c25 k25
 have b25:=F25.binds (ps:=["self","word"]) fun _ _ _ _ _ _=>bp (fun _ _=>rfl)
 have F26:=ay (st:=jD) l26 c26 k26
 have b26:=F26.binds (ps:=["self"]) fun _ _ _ _ _ _=>aY (fun _=>rfl)
 have F27:=ay (st:=jE) l27 c27 k27
 have b27:=F27.binds (ps:=["numbers"]) fun _ _ _ _ _ _=>aY (fun _=>rfl)
 have F28:=ay (st:=jK) l28 c28 k28
 have b28:=F28.binds (ps:=["rows"]) fun _ _ _ _ _ _=>aY (fun _=>rfl)
 have F29:=ay (st:=kv) l29 c29 k29
 have b29:=F29.binds (ps:=["pairs"]) fun _ _ _ _ _ _=>aY (fun _=>rfl)
 have F30:=ay (st:=km) l30 c30 k30
 have b30:=F30.binds (ps:=["self","thing"]) fun _ _ _ _ _ _=>bp (fun _ _=>rfl)
 have F31:=ay (st:=nB) l31 c31 k31
 have b31:=F31.binds (ps:=["self","thing"]) fun _ _ _ _ _ _=>bp (fun _ _=>rfl)
 have F32:=ay (st:=kB) l32 c32 k32
 have b32:=F32.binds (ps:=["pairs"]) fun _ _ _ _ _ _=>aY (fun _=>rfl)
 have F33:=ay (st:=jz) l33 c33 k33
 have b33:=F33.binds (ps:=["pairs","last"]) fun _ _ _ _ _ _=>bp (fun _ _=>rfl)
 have F34:=ay (st:=kG) l34 c34 k34
 have b34:=F34.binds (ps:=["thing"]) fun _ _ _ _ _ _=>aY (fun _=>rfl)
 have F35:=ay (st:=jS) l35 c35 k35
 have b35:=F35.binds (ps:=["_law_found"]) fun _ _ _ _ _ _=>aY (fun _=>rfl)
 have F36:=ay (st:=kK) l36 c36 k36
 have b36:=F36.binds (ps:=["_law_found","_law_due"]) fun _ _ _ _ _ _=>bp (fun _ _=>rfl)
 have F37:=ay (st:=kO) l37 c37 k37
 have b37:=F37.binds (ps:=["_law_pairs_here","_law_last"]) fun _ _ _ _ _ _=>bp (fun _ _=>rfl)
 have F38:=ay (st:=jH) l38 c38 k38
 have b38:=F38.binds (ps:=["_law_bows_here"]) fun _ _ _ _ _ _=>aY (fun _=>rfl)
 have F39:=ay (st:=jW) l39 c39 k39
 have b39:=F39.binds (ps:=["_law_text","_law_at"]) fun _ _ _ _ _ _=>bp (fun _ _=>rfl)
 have F40:=ay (st:=kE) l40 c40 k40
 have b40:=F40.binds (ps:=["_law_text"]) fun _ _ _ _ _ _=>aY (fun _=>rfl)
 have F41:=ay (st:=kA) l41 c41 k41
 have b41:=F41.binds (ps:=["self","word","least"]) fun _ _ _ _ _ _=>eJ (fun _ _ _=>rfl)
 have F42:=ay (st:=nk) l42 c42 k42
 have b42:=F42.binds (ps:=["self","word"]) fun _ _ _ _ _ _=>bp (fun _ _=>rfl)
 have F43:=ay (st:=j8) l43 c43 k43
 have b43:=F43.binds (ps:=["self"]) fun _ _ _ _ _ _=>aY (fun _=>rfl)
 have F44:=ay (st:=jI) l44 c44 k44
 have b44:=F44.binds (ps:=["numbers"]) fun _ _ _ _ _ _=>aY (fun _=>rfl)
 have F45:=ay (st:=kH) l45 c45 k45
 have b45:=F45.binds (ps:=["self","thing"]) fun _ _ _ _ _ _=>bp (fun _ _=>rfl)
 have F46:=ay (st:=nN) l46 c46 k46
 have b46:=F46.binds (ps:=["self","thing"]) fun _ _ _ _ _ _=>bp (fun _ _=>rfl)
 have F47:=ay (st:=kL) l47 c47 k47
 have b47:=F47.binds (ps:=["thing"]) fun _ _ _ _ _ _=>aY (fun _=>rfl)
 have F48:=ay (st:=kc) l48 c48 k48
 have b48:=F48.binds (ps:=["_law_found","_law_due"]) fun _ _ _ _ _ _=>bp (fun _ _=>rfl)
 have F49:=ay (st:=jC) l49 c49 k49
 have b49:=F49.binds (ps:=["_law_row"]) fun _ _ _ _ _ _=>aY (fun _=>rfl)
 have F50:=ay (st:=jZ) l50 c50 k50
 have b50:=F50.binds (ps:=["_law_text"]) fun _ _ _ _ _ _=>aY (fun _=>rfl)
 have F51:=ay (st:=kN) l51 c51 k51
 have b51:=F51.binds (ps:=["self","word","least"]) fun _ _ _ _ _ _=>eJ (fun _ _ _=>rfl)
 have F52:=ay (st:=nH) l52 c52 k52
 have b52:=F52.binds (ps:=["self","word"]) fun _ _ _ _ _ _=>bp (fun _ _=>rfl)
 have F53:=ay (st:=ka) l53 c53 k53
 have b53:=F53.binds (ps:=["self"]) fun _ _ _ _ _ _=>aY (fun _=>rfl)
 have F54:=ay (st:=kJ) l54 c54 k54
 have b54:=F54.binds (ps:=["corners","a","b"]) fun _ _ _ _ _ _=>eJ (fun _ _ _=>rfl)
 have F55:=ay (st:=jG) l55 c55 k55
 have b55:=F55.binds (ps:=["self","thing"]) fun _ _ _ _ _ _=>bp (fun _ _=>rfl)
 have F56:=ay (st:=n5) l56 c56 k56
 have b56:=F56.binds (ps:=["self","thing"]) fun _ _ _ _ _ _=>bp (fun _ _=>rfl)
 have F57:=ay (st:=jU) l57 c57 k57
 have b57:=F57.binds (ps:=["thing"]) fun _ _ _ _ _ _=>aY (fun _=>rfl)
 have F58:=ay (st:=jy) l58 c58 k58
 have b58:=F58.binds (ps:=["_law_found","_law_due"]) fun _ _ _ _ _ _=>bp (fun _ _=>rfl)
 have F59:=ay (st:=kf) l59 c59 k59
 have b59:=F59.binds (ps:=["_law_floor_here"]) fun _ _ _ _ _ _=>aY (fun _=>rfl)
 have F60:=ay (st:=j7) l60 c60 k60
 have b60:=F60.binds (ps:=["_law_script","_law_size","_law_turn"]) fun _ _ _ _ _ _=>eJ (fun _ _ _=>rfl)
 have F61:=ay (st:=gk) l61 c61 k61
 have aO:=PySem.W.mg_none_of X G z_range
 have aE:=PySem.W.mg_none_of X G z_len
 have aK:=PySem.W.mg_none_of X G z_isinstance
 have eP:=PySem.W.mg_none_of X G z_tuple
 have iz:=PySem.W.mg_none_of X G z_reversed
 have gn:=PySem.W.mg_none_of X G z_int
 have o9:=PySem.W.mg_none_of X G z_str
 have bo:=PySem.W.mg_none_of X G z_sorted
 have cj:=PySem.W.mg_none_of X G z_list
 have j5:=PySem.W.mg_none_of X G z_all
 have jQ:=PySem.W.mg_none_of X G z_max
 have uT:=PySem.W.mg_none_of X G z_min
 have rn:=PySem.W.mg_none_of X G z_bool
 have g8:=PySem.W.mg_none_of X G z_enumerate
 have vA:=PySem.W.mg_none_of X G z_set
 refine ⟨PySem.W.fnOf "law" "law" (ak gk) (aj gk) (ae gk) .none kV61 dc61 pm61 an61 cd61 ct61,fun s v=>.of_eq rfl,fun base _ _=>?_⟩
 have uS:Def l.prog w K mg base "_law_mix" ["_law_cell","_law_turn"] 1 (pX K _) f1 _:=⟨(Cb (P:=l.prog) (w:=w) (base:=base) CA F1).up,b1,k1,PySem.W.mg_of X G a1⟩
 have kI:Def l.prog w K mg base "_law_draws" ["_law_script","_law_turn","_law_many"] 2 (me K _) f2 _:=⟨(BR (P:=l.prog) (w:=w) (base:=base) CA F2 uS aO aE).up,b2,k2,PySem.W.mg_of X G a2⟩
 have uc:Def l.prog w K mg base "_law_text_by" ["_law_script","_law_size","_law_turn"] 3 (rD K _) f3 _:=⟨(A1 (P:=l.prog) (w:=w) (base:=base) CA F3 kI aO).up,b3,k3,PySem.W.mg_of X G a3⟩
 have pO:Def l.prog w K mg base "_law_cell_at" ["_law_script","_law_k"] 1 (qo K _) f4 _:=⟨(AM (P:=l.prog) (w:=w) (base:=base) CA F4 aE).up,b4,k4,PySem.W.mg_of X G a4⟩
 have vb:Def l.prog w K mg base "_law_twins_by" ["_law_text"] 1 (qz K _) f5 _:=⟨(Bk (P:=l.prog) (w:=w) (base:=base) CA F5 aO aE).up,b5,k5,PySem.W.mg_of X G a5⟩
 have vO:aS l.prog w K mg base ["self","word","least"] 1 (qp K _) f6 _:=⟨(Ah (P:=l.prog) (w:=w) (base:=base) CA F6).up,b6⟩
 have xV:aS l.prog w K mg base ["self","word"] 3 (uI K _) f7 _:=⟨(CU (P:=l.prog) (w:=w) (base:=base) CA F7 vO).up,b7⟩
 have vL:aS l.prog w K mg base ["self"] 5 (rB K _) f8 _:=⟨(Br (P:=l.prog) (w:=w) (base:=base) CA F8 xV).up,b8⟩
 have uf:aS l.prog w K mg base ["self","thing"] 1 (qq K _) f9 _:=⟨(BO (P:=l.prog) (w:=w) (base:=base) CA F9).up,b9⟩
 have xR:aS l.prog w K mg base ["self","thing"] 2 (uu K _) f10 _:=⟨(Dg (P:=l.prog) (w:=w) (base:=base) CA F10 uf).up,b10⟩
 have C4:∀ n,az l.prog w K mg base (m7 l.prog w) (0+n+1) f11 _ ["twin"] (mY K _ n):=rX fun n q=>Ap (P:=l.prog) (w:=w) (base:=base) CA F11 n ⟨fG q,b11,k11,PySem.W.mg_of X G a11⟩
 have uF:Def l.prog w K mg base "mirrored_twins" ["twin"] 42 (sU K _) f11 _:=⟨((fG (L:=0) (N:=41) fun m _=>C4 m).mono (by decide)),b11,k11,PySem.W.mg_of X G a11⟩
 have pj:Def l.prog w K mg base "twins_mirror" ["thing"] 43 (qM K _) f12 _:=⟨(Ca (P:=l.prog) (w:=w) (base:=base) CA F12 vL xR uF).up,b12,k12,PySem.W.mg_of X G a12⟩
 have CM:∀ n,az l.prog w K mg base (m7 l.prog w) (0+n+1) f13 _ ["_law_found","_law_due"] (mB K _ n):=rX fun n q=>BZ (P:=l.prog) (w:=w) (base:=base) CA F13 aK eP aE aO n ⟨fG q,b13,k13,PySem.W.mg_of X G a13⟩
 have pG:Def l.prog w K mg base "_law_same_twins" ["_law_found","_law_due"] 42 (sX K _) f13 _:=⟨((fG (L:=0) (N:=41) fun m _=>CM m).mono (by decide)),b13,k13,PySem.W.mg_of X G a13⟩
 have Cz:∀ n,az l.prog w K mg base (m7 l.prog w) (0+n+1) f14 _ ["_law_thing"] (ma K _ n):=rX fun n q=>AL (P:=l.prog) (w:=w) (base:=base) CA F14 n ⟨fG q,b14,k14,PySem.W.mg_of X G a14⟩
 have vd:Def l.prog w K mg base "_law_over" ["_law_thing"] 42 (tF K _) f14 _:=⟨((fG (L:=0) (N:=41) fun m _=>Cz m).mono (by decide)),b14,k14,PySem.W.mg_of X G a14⟩
 have uo:aS l.prog w K mg base ["self","word","least"] 1 (qC K _) f15 _:=⟨(BL (P:=l.prog) (w:=w) (base:=base) CA F15).up,b15⟩
 have xK:aS l.prog w K mg base ["self","word"] 3 (ud K _) f16 _:=⟨(Cp (P:=l.prog) (w:=w) (base:=base) CA F16 uo).up,b16⟩
 have u0:aS l.prog w K mg base ["self"] 5 (sA K _) f17 _:=⟨(BH (P:=l.prog) (w:=w) (base:=base) CA F17 xK).up,b17⟩
 have uA:Def l.prog w K mg base "closes" ["text"] 1 (qV K _) f18 _:=⟨(BN (P:=l.prog) (w:=w) (base:=base) CA F18).up,b18,k18,PySem.W.mg_of X G a18⟩
 have vG:aS l.prog w K mg base ["self","thing"] 2 (qT K _) f19 _:=⟨(Bx (P:=l.prog) (w:=w) (base:=base) CA F19 uA).up,b19⟩
 have xQ:aS l.prog w K mg base ["self","thing"] 3 (uh K _) f20 _:=⟨(CS (P:=l.prog) (w:=w) (base:=base) CA F20 vG).up,b20⟩
 have pK:Def l.prog w K mg base "brackets_mirror" ["thing"] 7 (r6 K _) f21 _:=⟨(A7 (P:=l.prog) (w:=w) (base:=base) CA F21 u0 xQ iz).up,b21,k21,PySem.W.mg_of X G a21⟩
 have uk:Def l.prog w K mg base "_law_mirror" ["_law_text"] 1 (si K _) f22 _:=⟨(zX (P:=l.prog) (w:=w) (base:=base) CA F22 gn).up,b22,k22,PySem.W.mg_of X G a22⟩
 have uR:Def l.prog w K mg base "_law_texts" ["_law_text"] 8 (pZ K _) f23 _:=⟨(B0 (P:=l.prog) (w:=w) (base:=base) CA F23 pK uk aK o9).up,b23,k23,PySem.W.mg_of X G a23⟩
 have vx:aS l.prog w K mg base ["self","word","least"] 1 (rZ K _) f24 _:=⟨(BE (P:=l.prog) (w:=w) (base:=base) CA F24).up,b24⟩
 have yl:aS l.prog w K mg base ["self","word"] 3 (vm K _) f25 _:=⟨(C6 (P:=l.prog) (w:=w) (base:=base) CA F25 vx).up,b25⟩
 have vP:aS l.prog w K mg base ["self"] 5 (sr K _) f26 _:=⟨(B4 (P:=l.prog) (w:=w) (base:=base) CA F26 yl).up,b26⟩
 have j9:Def l.prog w K mg base "each_once" ["numbers"] 1 (lZ K _) f27 _:=⟨(BD (P:=l.prog) (w:=w) (base:=base) CA F27 bo cj aO aE).up,b27,k27,PySem.W.mg_of X G a27⟩
 have vN:Def l.prog w K mg base "flat" ["rows"] 1 (qg K _) f28 _:=⟨(AN (P:=l.prog) (w:=w) (base:=base) CA F28).up,b28,k28,PySem.W.mg_of X G a28⟩
 have jt:Def l.prog w K mg base "any_cross" ["pairs"] 1 (ml K _) f29 _:=⟨(z8 (P:=l.prog) (w:=w) (base:=base) CA F29).up,b29,k29,PySem.W.mg_of X G a29⟩
 have vt:aS l.prog w K mg base ["self","thing"] 2 (qd K _) f30 _:=⟨(A8 (P:=l.prog) (w:=w) (base:=base) CA F30 j9 vN jt bo j5).up,b30⟩
 have xU:aS l.prog w K mg base ["self","thing"] 3 (vE K _) f31 _:=⟨(Cs (P:=l.prog) (w:=w) (base:=base) CA F31 vt).up,b31⟩
 have uJ:Def l.prog w K mg base "pairs_anew" ["pairs"] 1 (qP K _) f32 _:=⟨(Bj (P:=l.prog) (w:=w) (base:=base) CA F32 bo jQ uT).up,b32,k32,PySem.W.mg_of X G a32⟩
 have kl:Def l.prog w K mg base "mirrored_pairs" ["pairs","last"] 2 (mQ K _) f33 _:=⟨(Bu (P:=l.prog) (w:=w) (base:=base) CA F33 uJ).up,b33,k33,PySem.W.mg_of X G a33⟩
 have pk:Def l.prog w K mg base "bows_mirror" ["thing"] 7 (rK K _) f34 _:=⟨(Cj (P:=l.prog) (w:=w) (base:=base) CA F34 vP xU kl aE).up,b34,k34,PySem.W.mg_of X G a34⟩
 have fS:Def l.prog w K mg base "_law_whole" ["_law_found"] 1 (iV K _) f35 _:=⟨(Bb (P:=l.prog) (w:=w) (base:=base) CA F35 aK gn rn).up,b35,k35,PySem.W.mg_of X G a35⟩
 have gU:Def l.prog w K mg base "_law_pairs" ["_law_found","_law_due"] 2 (mM K _) f36 _:=⟨(Ax (P:=l.prog) (w:=w) (base:=base) CA F36 fS aK cj aE aO eP).up,b36,k36,PySem.W.mg_of X G a36⟩
 have jx:Def l.prog w K mg base "_law_flipped" ["_law_pairs_here","_law_last"] 1 (md K _) f37 _:=⟨(Aj (P:=l.prog) (w:=w) (base:=base) CA F37 bo).up,b37,k37,PySem.W.mg_of X G a37⟩
 have uv:Def l.prog w K mg base "_law_bows" ["_law_bows_here"] 8 (pW K _) f38 _:=⟨(BQ (P:=l.prog) (w:=w) (base:=base) CA F38 pk gU jx cj aE).up,b38,k38,PySem.W.mg_of X G a38⟩
 have kq:Def l.prog w K mg base "_law_mate" ["_law_text","_law_at"] 1 (mr K _) f39 _:=⟨(Bd (P:=l.prog) (w:=w) (base:=base) CA F39 aO aE gn).up,b39,k39,PySem.W.mg_of X G a39⟩
 have uO:Def l.prog w K mg base "_law_bows_of" ["_law_text"] 2 (rL K _) f40 _:=⟨(Bn (P:=l.prog) (w:=w) (base:=base) CA F40 kq aO aE).up,b40,k40,PySem.W.mg_of X G a40⟩
 have uW:aS l.prog w K mg base ["self","word","least"] 1 (qm K _) f41 _:=⟨(AD (P:=l.prog) (w:=w) (base:=base) CA F41).up,b41⟩
 have xX:aS l.prog w K mg base ["self","word"] 3 (uG K _) f42 _:=⟨(CG (P:=l.prog) (w:=w) (base:=base) CA F42 uW).up,b42⟩
 have ur:aS l.prog w K mg base ["self"] 5 (qK K _) f43 _:=⟨(B6 (P:=l.prog) (w:=w) (base:=base) CA F43 xX).up,b43⟩
 have vH:Def l.prog w K mg base "comes_off_a_stack" ["numbers"] 1 (p4 K _) f44 _:=⟨(BF (P:=l.prog) (w:=w) (base:=base) CA F44).up,b44,k44,PySem.W.mg_of X G a44⟩
 have ua:aS l.prog w K mg base ["self","thing"] 2 (qx K _) f45 _:=⟨(AY (P:=l.prog) (w:=w) (base:=base) CA F45 j9 vH).up,b45⟩
 have xN:aS l.prog w K mg base ["self","thing"] 3 (vJ K _) f46 _:=⟨(CC (P:=l.prog) (w:=w) (base:=base) CA F46 ua).up,b46⟩
 have pB:Def l.prog w K mg base "turns_mirror" ["thing"] 7 (rF K _) f47 _:=⟨(AJ (P:=l.prog) (w:=w) (base:=base) CA F47 ur xN aE g8).up,b47,k47,PySem.W.mg_of X G a47⟩
 have m4:Def l.prog w K mg base "_law_numbers" ["_law_found","_law_due"] 2 (rR K _) f48 _:=⟨(BJ (P:=l.prog) (w:=w) (base:=base) CA F48 fS aK cj aE aO).up,b48,k48,PySem.W.mg_of X G a48⟩
 have uD:Def l.prog w K mg base "_law_turns" ["_law_row"] 8 (rE K _) f49 _:=⟨(zY (P:=l.prog) (w:=w) (base:=base) CA F49 pB m4 cj aE aO).up,b49,k49,PySem.W.mg_of X G a49⟩
 have vg:Def l.prog w K mg base "_law_turns_of" ["_law_text"] 2 (qZ K _) f50 _:=⟨(BX (P:=l.prog) (w:=w) (base:=base) CA F50 kq bo aO aE).up,b50,k50,PySem.W.mg_of X G a50⟩
 have uz:aS l.prog w K mg base ["self","word","least"] 1 (qv K _) f51 _:=⟨(BB (P:=l.prog) (w:=w) (base:=base) CA F51).up,b51⟩
 have yb:aS l.prog w K mg base ["self","word"] 3 (uZ K _) f52 _:=⟨(CI (P:=l.prog) (w:=w) (base:=base) CA F52 uz).up,b52⟩
 have ve:aS l.prog w K mg base ["self"] 5 (qQ K _) f53 _:=⟨(AW (P:=l.prog) (w:=w) (base:=base) CA F53 yb).up,b53⟩
 have vw:Def l.prog w K mg base "may_be_cut" ["corners","a","b"] 1 (p7 K _) f54 _:=⟨(BK (P:=l.prog) (w:=w) (base:=base) CA F54).up,b54,k54,PySem.W.mg_of X G a54⟩
 have uw:aS l.prog w K mg base ["self","thing"] 2 (rf K _) f55 _:=⟨(Bs (P:=l.prog) (w:=w) (base:=base) CA F55 jt vw aE jQ bo vA j5).up,b55⟩
 have yI:aS l.prog w K mg base ["self","thing"] 3 (uH K _) f56 _:=⟨(Dh (P:=l.prog) (w:=w) (base:=base) CA F56 uw).up,b56⟩
 have pz:Def l.prog w K mg base "floor_mirror" ["thing"] 7 (qI K _) f57 _:=⟨(Bm (P:=l.prog) (w:=w) (base:=base) CA F57 ve yI kl).up,b57,k57,PySem.W.mg_of X G a57⟩
 have mS:Def l.prog w K mg base "_law_floor" ["_law_found","_law_due"] 3 (rQ K _) f58 _:=⟨(Bo (P:=l.prog) (w:=w) (base:=base) CA F58 fS gU aK eP aE).up,b58,k58,PySem.W.mg_of X G a58⟩
 have vq:Def l.prog w K mg base "_law_floors" ["_law_floor_here"] 8 (qt K _) f59 _:=⟨(Cg (P:=l.prog) (w:=w) (base:=base) CA F59 pz jx mS cj).up,b59,k59,PySem.W.mg_of X G a59⟩
 have vR:Def l.prog w K mg base "_law_floor_by" ["_law_script","_law_size","_law_turn"] 3 (rH K _) f60 _:=⟨(AK (P:=l.prog) (w:=w) (base:=base) CA F60 kI aE bo).up,b60,k60,PySem.W.mg_of X G a60⟩
 exact zZ (P:=l.prog) (w:=w) (base:=base) CA F61 uc pO vb pj pG vd uR uv uO uD vg vq vR
theorem walk {l:PySem.W.OpenLaw} {q:Program} {loose:List Str} {XP:(Str->Option Value)->Heap->Prop} {YP:World->Heap->Prop} {d:DefRec} {K:Params->PySem.W.Frag} (hn:l.most=some 63) (hdf:d.params.defaults=[])
  (hY:∀ (w:World) (h:Heap),YP w h->(K w.params).In h)
  (F:∀ (w:World) (mg:Str->Option Value) (fa:Addr) (h:Heap),(K w.params).In h->h.Ns mainGlobals mg->mg d.name=some (.ref fa) ->
   ∃ fd:FuncData,(∀ (s:Shared) (u:Value),BindsTo s fd ⟨[u],[]⟩ [("_law_script",u)])/\∀ base:Heap,(K w.params).In base->base.Ns mainGlobals mg->az l.prog w (K w.params) mg base aZ 44 fa fd ["_law_script"] (B2 (K w.params))) :
  PySem.W.WalkO q loose XP YP l.row.toRowW d [] (fun f vs=>PySem.call f vs) :=
 L2.walk_of (n:=63) (k:=44) (x:="_law_script") (CX:=fun _=>aZ) (sp:=fun w=>B2 (K w.params)) hn (by decide) hdf ⟨rfl,by decide,by decide⟩ hY F (fun _ _ a ns hl _ hS=>⟨a,ns,rfl,hS,hl,fun _=>rfl⟩) fun _ _ _ _ _ z=>z
end Ck
open L2
namespace Ck
open PySem PySem.W PySem.Calls PyProof.Rows
noncomputable def hB:List Stmt:=behindTheImports PySem.Challenge.pw_countkin_k40_mirrors
noncomputable def hE:Env:={ scope:=PySem.Challenge.pw_countkin_k40_mirrors.main.scope,locals:=mainNs,globals:=mainNs,cells:=[],code:=(.ref 13),frame:=some 14 }
noncomputable def hC:Code:=.body hB hE
noncomputable def hTree (P:Params):BT:=(.node (boot_o_0 P) (.node (boot_o_1 P) (.node (boot_o_3 P) (.node (boot_o_7 P) .nil .nil) (.node ⟨(.type "tuple"),none,(.seq #[] 0),#[]⟩ .nil .nil)) (.node (boot_o_5 P) (.node (boot_o_9 P) .nil .nil) (.node ⟨(.type "code"),none,(.fields #[(.str "<module>" 182),(.str "<module>" 183),(.str "/claim/cut.py" 184),(.int 1 0),(.int 0 0),(.int 0 0),(.int 0 0),(.int 0 0),(.ref 11),(.bool false),(.int 181 0),(.ref 12),.none,.none,.none,.none,(.int 185 0),(.int 1 0),(.str "/claim/cut.py" 186)]),#[]⟩ .nil .nil))) (.node (boot_o_2 P) (.node (boot_o_4 P) (.node (boot_o_8 P) .nil .nil) (.node ⟨.none,none,(.fields #[]),#[]⟩ .nil .nil)) (.node (boot_o_6 P) (.node (boot_o_10 P) .nil .nil) (.node ⟨(.type "frame"),none,.plain,#[(some (.ref 13)),(some (.ref 3)),(some (.ref 3)),none,(some (.str "__main__" 164)),none,(some (.ref 0))]⟩ .nil .nil))))
noncomputable def hS (w:World) (os:OsState):SharedT:=⟨hTree w.params,15,({}:Life),Array.mk [],⟨0,0,0,0⟩,187,os⟩
noncomputable def hQ:Program:={ PySem.Challenge.pw_countkin_k40_mirrors with main:={ PySem.Challenge.pw_countkin_k40_mirrors.main with body:=[top 56] } }
noncomputable def hL:List Str:=(Str.ofString "_wall"::Str.ofString "flat"::Str.ofString "each_once"::Str.ofString "any_cross"::Str.ofString "pairs_anew"::Str.ofString "KinError"::Str.ofString "NoThing"::Str.ofString "Family"::Str.ofString "SplitFamily"::Str.ofString "Bows"::Str.ofString "Floors"::Str.ofString "may_be_cut"::Str.ofString "Turns"::Str.ofString "comes_off_a_stack"::Str.ofString "closes"::Str.ofString "Brackets"::Str.ofString "Twins"::Str.ofString "brackets_mirror"::Str.ofString "bows_mirror"::Str.ofString "mirrored_pairs"::Str.ofString "twins_mirror"::Str.ofString "mirrored_twins"::Str.ofString "floor_mirror"::Str.ofString "turns_mirror"::Str.ofString "_law_cell_at"::Str.ofString "_law_whole"::Str.ofString "_law_mix"::Str.ofString "_law_draws"::Str.ofString "_law_text_by"::Str.ofString "_law_floor_by"::Str.ofString "_law_numbers"::Str.ofString "_law_pairs"::Str.ofString "_law_floor"::Str.ofString "_law_twins_by"::Str.ofString "_law_same_twins"::Str.ofString "_law_mate"::Str.ofString "_law_bows_of"::Str.ofString "_law_turns_of"::Str.ofString "_law_mirror"::Str.ofString "_law_over"::Str.ofString "_law_flipped"::Str.ofString "_law_texts"::Str.ofString "_law_bows"::Str.ofString "_law_floors"::Str.ofString "_law_turns"::[])
noncomputable def kD (P:Params) (x:Str) (n:Tok) (v:Value):DictEntry:=⟨PyData.keyHash P x,.str x n,v⟩
noncomputable def kF (a b:Str) (s:Stmt) (m:Str) (n:Tok) (c:Addr):Obj:=⟨.type "function",none,.func (fnOf a b (ak s) (aj s) (ae s) .none .none .none (.str m n) none (.ref c) .none),#[]⟩
noncomputable def kC (a b:Str) (t:Nat) (l n:Int) (r q x y z w:Value) (e:Nat):Obj:=⟨.type "code",none,.fields #[.str a t,.str b (t+1),.str "/claim/cut.py" (t+2),.int l 0,.int n 0,.int 0 0,.int 0 0,.int 3 0,r,.bool true,.int 181 0,q,x,y,z,w,.int (Int.ofNat e) 0,.int l 0,.str "/claim/cut.py" (e+1)],#[]⟩
noncomputable def hK:Params->Frag:=fun P=>(nat_lit 2,⟨.none,none,(.dict #[] 0),#[]⟩)::(nat_lit 3,⟨(.type "dict"),none,(.dict (List.toArray (kD P "__name__" 165 (.str "law_countkin_k40_mirrors" 879)::kD P "__doc__" 166 .none::kD P "__package__" 167 .none::kD P "__loader__" 168 (.builtin "__main__.__loader__#opaque")::kD P "__spec__" 169 .none::kD P "__annotations__" 170 (.ref 6)::kD P "__builtins__" 171 (.ref 4)::kD P "__file__" 173 (.str "/claim/cut.py" 172)::kD P "__cached__" 174 .none::kD P "_wall" 193 (.ref 21)::kD P "flat" 204 (.ref 28)::kD P "each_once" 211 (.ref 35)::kD P "any_cross" 222 (.ref 42)::kD P "pairs_anew" 228 (.ref 47)::kD P "KinError" 248 (.ref 57)::kD P "NoThing" 264 (.ref 70)::kD P "Family" 379 (.ref 159)::kD P "SplitFamily" 471 (.ref 236)::kD P "Bows" 534 (.ref 288)::kD P "Floors" 597 (.ref 340)::kD P "may_be_cut" 606 (.ref 349)::kD P "Turns" 671 (.ref 401)::kD P "comes_off_a_stack" 681 (.ref 410)::kD P "closes" 692 (.ref 417)::kD P "Brackets" 757 (.ref 469)::kD P "Twins" 825 (.ref 523)::kD P "brackets_mirror" 833 (.ref 530)::kD P "bows_mirror" 840 (.ref 537)::kD P "mirrored_pairs" 846 (.ref 542)::kD P "twins_mirror" 853 (.ref 549)::kD P "mirrored_twins" 860 (.ref 556)::kD P "floor_mirror" 867 (.ref 563)::kD P "turns_mirror" 878 (.ref 570)::kD P "_law_cell_at" 888 (.ref 577)::kD P "_law_whole" 895 (.ref 584)::kD P "_law_mix" 904 (.ref 591)::kD P "_law_draws" 910 (.ref 596)::kD P "_law_text_by" 926 (.ref 603)::kD P "_law_floor_by" 943 (.ref 610)::kD P "_law_numbers" 952 (.ref 617)::kD P "_law_pairs" 961 (.ref 624)::kD P "_law_floor" 969 (.ref 631)::kD P "_law_twins_by" 979 (.ref 638)::kD P "_law_same_twins" 988 (.ref 645)::kD P "_law_mate" 998 (.ref 652)::kD P "_law_bows_of" 1004 (.ref 657)::kD P "_law_turns_of" 1010 (.ref 662)::kD P "_law_mirror" 1019 (.ref 669)::kD P "_law_over" 1026 (.ref 676)::kD P "_law_flipped" 1032 (.ref 681)::kD P "_law_texts" 1041 (.ref 688)::kD P "_law_bows" 1050 (.ref 695)::kD P "_law_floors" 1060 (.ref 702)::kD P "_law_turns" 1066 (.ref 707)::kD P "law" 1076 (.ref 714)::[])) 55),#[]⟩)::(nat_lit 27,(kC "flat" "flat" 196 5 1 (.ref 22) (.ref 23) .none (.ref 24) (.ref 25) (.ref 26) 202))::(nat_lit 28,(kF "flat" "flat" (top 2) "countkin.common" 194 27))::(nat_lit 34,(kC "each_once" "each_once" 205 10 1 (.ref 29) (.ref 30) .none (.ref 31) (.ref 32) (.ref 33) 209))::(nat_lit 35,(kF "each_once" "each_once" (top 3) "countkin.common" 194 34))::(nat_lit 41,(kC "any_cross" "any_cross" 212 12 1 (.ref 36) (.ref 37) .none (.ref 38) (.ref 39) (.ref 40) 220))::(nat_lit 42,(kF "any_cross" "any_cross" (top 4) "countkin.common" 194 41))::(nat_lit 46,(kC "pairs_anew" "pairs_anew" 223 18 1 (.ref 43) (.ref 44) .none .none .none (.ref 45) 226))::(nat_lit 47,(kF "pairs_anew" "pairs_anew" (top 5) "countkin.common" 194 46))::(nat_lit 56,⟨(.type "dict"),none,(.dict #[kD P "__module__" 238 (.str "countkin.errors" 229),kD P "__firstlineno__" 242 (.int 21 241),kD P "__static_attributes__" 243 (.ref 55),kD P "__weakref__" 245 (.ref 58),kD P "__doc__" 246 .none] 3),#[]⟩)::(nat_lit 57,⟨(.type "type"),none,(.cls ⟨"KinError",[(.type "ValueError")],[(.ref 57),(.type "ValueError"),(.type "Exception"),(.type "BaseException"),(.type "object")],56,"KinError",true,[],[(.ref 70)],false,none,false⟩),#[(some (.ref 48)),none,(some (.str "KinError" 231)),(some (.str "KinError" 239)),(some (.builtin "ValueError.__new__")),(some (.bool true))]⟩)::(nat_lit 58,⟨(.type "getset_descriptor"),none,(.fields #[(.str "__weakref__" 244),(.ref 57),(.builtin "ExceptionGroup.__weakref__"),.none]),#[]⟩)::(nat_lit 69,⟨(.type "dict"),none,(.dict #[kD P "__module__" 256 (.str "countkin.errors" 229),kD P "__firstlineno__" 260 (.int 23 259),kD P "__static_attributes__" 261 (.ref 68),kD P "__doc__" 262 .none] 2),#[]⟩)::(nat_lit 70,⟨(.type "type"),none,(.cls ⟨"NoThing",[(.ref 57)],[(.ref 70),(.ref 57),(.type "ValueError"),(.type "Exception"),(.type "BaseException"),(.type "object")],69,"NoThing",true,[],[],false,none,false⟩),#[(some (.ref 61)),none,(some (.str "NoThing" 249)),(some (.str "NoThing" 257)),(some (.builtin "ValueError.__new__")),(some (.bool true))]⟩)::(nat_lit 85,(kC "__init__" "Family.__init__" 279 28 3 (.ref 80) (.ref 81) .none (.ref 82) (.ref 83) (.ref 84) 285))::(nat_lit 86,(kF "__init__" "Family.__init__" (inClass (top 10) 0) "countkin.kin" 265 85))::(nat_lit 134,(kC "refuse_other" "Family.refuse_other" 337 50 2 (.ref 129) (.ref 130) .none (.ref 131) (.ref 132) (.ref 133) 342))::(nat_lit 135,(kF "refuse_other" "Family.refuse_other" (inClass (top 10) 7) "countkin.kin" 265 134))::(nat_lit 158,⟨(.type "dict"),none,(.dict #[kD P "__module__" 274 (.str "countkin.kin" 265),kD P "__firstlineno__" 278 (.int 26 277),kD P "__init__" 287 (.ref 86),kD P "size_of" 295 (.ref 93),kD P "is_one" 303 (.ref 100),kD P "unchecked_many" 311 (.ref 107),kD P "unchecked_number" 319 (.ref 114),kD P "unchecked_thing" 328 (.ref 121),kD P "many" 336 (.ref 128),kD P "refuse_other" 344 (.ref 135),kD P "number_of" 352 (.ref 142),kD P "thing_of" 361 (.ref 149),kD P "next_of" 369 (.ref 156),kD P "__static_attributes__" 372 (.ref 157),kD P "__dict__" 374 (.ref 160),kD P "__weakref__" 376 (.ref 161),kD P "__doc__" 377 .none] 4),#[]⟩)::(nat_lit 159,⟨(.type "type"),none,(.cls ⟨"Family",[(.type "object")],[(.ref 159),(.type "object")],158,"Family",true,[],[(.ref 236)],false,none,false⟩),#[none,none,(some (.str "Family" 267)),(some (.str "Family" 275)),(some (.builtin "object.__new__")),(some (.bool true))]⟩)::(nat_lit 160,⟨(.type "getset_descriptor"),none,(.fields #[(.str "__dict__" 373),(.ref 159),(.builtin "function.__dict__"),(.builtin "function.__dict__#set")]),#[]⟩)::(nat_lit 161,⟨(.type "getset_descriptor"),none,(.fields #[(.str "__weakref__" 375),(.ref 159),(.builtin "ExceptionGroup.__weakref__"),.none]),#[]⟩)::(nat_lit 176,(kC "__init__" "SplitFamily.__init__" 392 64 2 (.ref 171) (.ref 172) .none (.ref 173) (.ref 174) (.ref 175) 397))::(nat_lit 177,(kF "__init__" "SplitFamily.__init__" (inClass (top 11) 0) "countkin.kin" 265 176))::(nat_lit 235,⟨(.type "dict"),none,(.dict #[kD P "__module__" 387 (.str "countkin.kin" 265),kD P "__firstlineno__" 391 (.int 62 390),kD P "__init__" 399 (.ref 177),kD P "bare" 406 (.ref 184),kD P "parted" 414 (.ref 191),kD P "joined" 423 (.ref 198),kD P "unchecked_many" 431 (.ref 205),kD P "unchecked_number" 439 (.ref 212),kD P "unchecked_thing" 448 (.ref 219),kD P "number_by_parts" 457 (.ref 226),kD P "thing_by_parts" 467 (.ref 233),kD P "__static_attributes__" 468 (.ref 234),kD P "__doc__" 469 .none] 2),#[]⟩)::(nat_lit 236,⟨(.type "type"),none,(.cls ⟨"SplitFamily",[(.ref 159)],[(.ref 236),(.ref 159),(.type "object")],235,"SplitFamily",true,[],[(.ref 288),(.ref 340),(.ref 401),(.ref 469),(.ref 523)],false,none,false⟩),#[(some (.ref 164)),none,(some (.str "SplitFamily" 380)),(some (.str "SplitFamily" 388)),(some (.builtin "object.__new__")),(some (.bool true))]⟩)::(nat_lit 251,(kC "__init__" "Bows.__init__" 486 93 1 (.ref 246) (.ref 247) .none (.ref 248) (.ref 249) (.ref 250) 490))::(nat_lit 252,(kF "__init__" "Bows.__init__" (inClass (top 13) 0) "countkin.bends" 472 251))::(nat_lit 263,(kC "is_one" "Bows.is_one" 501 99 2 (.ref 260) (.ref 261) .none .none .none (.ref 262) 504))::(nat_lit 264,(kF "is_one" "Bows.is_one" (inClass (top 13) 2) "countkin.bends" 472 263))::(nat_lit 287,⟨(.type "dict"),none,(.dict #[kD P "__module__" 481 (.str "countkin.bends" 472),kD P "__firstlineno__" 485 (.int 91 484),kD P "__init__" 492 (.ref 252),kD P "size_of" 500 (.ref 259),kD P "is_one" 506 (.ref 264),kD P "bare" 513 (.ref 271),kD P "parted" 521 (.ref 278),kD P "joined" 530 (.ref 285),kD P "__static_attributes__" 531 (.ref 286),kD P "__doc__" 532 .none] 2),#[]⟩)::(nat_lit 288,⟨(.type "type"),none,(.cls ⟨"Bows",[(.ref 236)],[(.ref 288),(.ref 236),(.ref 159),(.type "object")],287,"Bows",true,[],[],false,none,false⟩),#[(some (.ref 239)),none,(some (.str "Bows" 474)),(some (.str "Bows" 482)),(some (.builtin "object.__new__")),(some (.bool true))]⟩)::(nat_lit 303,(kC "__init__" "Floors.__init__" 549 115 1 (.ref 298) (.ref 299) .none (.ref 300) (.ref 301) (.ref 302) 553))::(nat_lit 304,(kF "__init__" "Floors.__init__" (inClass (top 15) 0) "countkin.floors" 535 303))::(nat_lit 315,(kC "is_one" "Floors.is_one" 564 121 2 (.ref 312) (.ref 313) .none .none .none (.ref 314) 567))::(nat_lit 316,(kF "is_one" "Floors.is_one" (inClass (top 15) 2) "countkin.floors" 535 315))::(nat_lit 339,⟨(.type "dict"),none,(.dict #[kD P "__module__" 544 (.str "countkin.floors" 535),kD P "__firstlineno__" 548 (.int 113 547),kD P "__init__" 555 (.ref 304),kD P "size_of" 563 (.ref 311),kD P "is_one" 569 (.ref 316),kD P "bare" 576 (.ref 323),kD P "parted" 584 (.ref 330),kD P "joined" 593 (.ref 337),kD P "__static_attributes__" 594 (.ref 338),kD P "__doc__" 595 .none] 2),#[]⟩)::(nat_lit 340,⟨(.type "type"),none,(.cls ⟨"Floors",[(.ref 236)],[(.ref 340),(.ref 236),(.ref 159),(.type "object")],339,"Floors",true,[],[],false,none,false⟩),#[(some (.ref 291)),none,(some (.str "Floors" 537)),(some (.str "Floors" 545)),(some (.builtin "object.__new__")),(some (.bool true))]⟩)::(nat_lit 348,(kC "may_be_cut" "may_be_cut" 598 138 3 (.ref 343) (.ref 344) .none (.ref 345) (.ref 346) (.ref 347) 604))::(nat_lit 349,(kF "may_be_cut" "may_be_cut" (top 16) "countkin.floors" 535 348))::(nat_lit 362,(kC "__init__" "Turns.__init__" 621 143 1 (.ref 357) (.ref 358) .none (.ref 359) (.ref 360) (.ref 361) 625))::(nat_lit 363,(kF "__init__" "Turns.__init__" (inClass (top 18) 0) "countkin.rows" 607 362))::(nat_lit 376,(kC "is_one" "Turns.is_one" 636 149 2 (.ref 371) (.ref 372) .none (.ref 373) (.ref 374) (.ref 375) 641))::(nat_lit 377,(kF "is_one" "Turns.is_one" (inClass (top 18) 2) "countkin.rows" 607 376))::(nat_lit 400,⟨(.type "dict"),none,(.dict #[kD P "__module__" 616 (.str "countkin.rows" 607),kD P "__firstlineno__" 620 (.int 141 619),kD P "__init__" 627 (.ref 363),kD P "size_of" 635 (.ref 370),kD P "is_one" 643 (.ref 377),kD P "bare" 650 (.ref 384),kD P "parted" 658 (.ref 391),kD P "joined" 667 (.ref 398),kD P "__static_attributes__" 668 (.ref 399),kD P "__doc__" 669 .none] 2),#[]⟩)::(nat_lit 401,⟨(.type "type"),none,(.cls ⟨"Turns",[(.ref 236)],[(.ref 401),(.ref 236),(.ref 159),(.type "object")],400,"Turns",true,[],[],false,none,false⟩),#[(some (.ref 350)),none,(some (.str "Turns" 609)),(some (.str "Turns" 617)),(some (.builtin "object.__new__")),(some (.bool true))]⟩)::(nat_lit 409,(kC "comes_off_a_stack" "comes_off_a_stack" 672 160 1 (.ref 404) (.ref 405) .none (.ref 406) (.ref 407) (.ref 408) 679))::(nat_lit 410,(kF "comes_off_a_stack" "comes_off_a_stack" (top 19) "countkin.rows" 607 409))::(nat_lit 416,(kC "closes" "closes" 684 171 1 (.ref 411) (.ref 412) .none (.ref 413) (.ref 414) (.ref 415) 690))::(nat_lit 417,(kF "closes" "closes" (top 21) "countkin.steps" 682 416))::(nat_lit 430,(kC "__init__" "Brackets.__init__" 707 184 1 (.ref 425) (.ref 426) .none (.ref 427) (.ref 428) (.ref 429) 711))::(nat_lit 431,(kF "__init__" "Brackets.__init__" (inClass (top 23) 0) "countkin.signs" 693 430))::(nat_lit 444,(kC "is_one" "Brackets.is_one" 722 190 2 (.ref 439) (.ref 440) .none (.ref 441) (.ref 442) (.ref 443) 727))::(nat_lit 445,(kF "is_one" "Brackets.is_one" (inClass (top 23) 2) "countkin.signs" 693 444))::(nat_lit 468,⟨(.type "dict"),none,(.dict #[kD P "__module__" 702 (.str "countkin.signs" 693),kD P "__firstlineno__" 706 (.int 182 705),kD P "__init__" 713 (.ref 431),kD P "size_of" 721 (.ref 438),kD P "is_one" 729 (.ref 445),kD P "bare" 736 (.ref 452),kD P "parted" 744 (.ref 459),kD P "joined" 753 (.ref 466),kD P "__static_attributes__" 754 (.ref 467),kD P "__doc__" 755 .none] 2),#[]⟩)::(nat_lit 469,⟨(.type "type"),none,(.cls ⟨"Brackets",[(.ref 236)],[(.ref 469),(.ref 236),(.ref 159),(.type "object")],468,"Brackets",true,[],[],false,none,false⟩),#[(some (.ref 418)),none,(some (.str "Brackets" 695)),(some (.str "Brackets" 703)),(some (.builtin "object.__new__")),(some (.bool true))]⟩)::(nat_lit 484,(kC "__init__" "Twins.__init__" 772 204 1 (.ref 479) (.ref 480) .none (.ref 481) (.ref 482) (.ref 483) 776))::(nat_lit 485,(kF "__init__" "Twins.__init__" (inClass (top 25) 0) "countkin.twigs" 758 484))::(nat_lit 498,(kC "is_one" "Twins.is_one" 790 217 2 (.ref 493) (.ref 494) .none (.ref 495) (.ref 496) (.ref 497) 795))::(nat_lit 499,(kF "is_one" "Twins.is_one" (inClass (top 25) 2) "countkin.twigs" 758 498))::(nat_lit 522,⟨(.type "dict"),none,(.dict #[kD P "__module__" 767 (.str "countkin.twigs" 758),kD P "__firstlineno__" 771 (.int 202 770),kD P "__init__" 778 (.ref 485),kD P "size_of" 789 (.ref 492),kD P "is_one" 797 (.ref 499),kD P "bare" 804 (.ref 506),kD P "parted" 812 (.ref 513),kD P "joined" 821 (.ref 520),kD P "__static_attributes__" 822 (.ref 521),kD P "__doc__" 823 .none] 2),#[]⟩)::(nat_lit 523,⟨(.type "type"),none,(.cls ⟨"Twins",[(.ref 236)],[(.ref 523),(.ref 236),(.ref 159),(.type "object")],522,"Twins",true,[],[],false,none,false⟩),#[(some (.ref 472)),none,(some (.str "Twins" 760)),(some (.str "Twins" 768)),(some (.builtin "object.__new__")),(some (.bool true))]⟩)::(nat_lit 529,(kC "brackets_mirror" "brackets_mirror" 828 229 1 (.ref 526) (.ref 527) .none .none .none (.ref 528) 831))::(nat_lit 530,(kF "brackets_mirror" "brackets_mirror" (top 27) "countkin.mirrors" 826 529))::(nat_lit 536,(kC "bows_mirror" "bows_mirror" 834 232 1 (.ref 531) (.ref 532) .none (.ref 533) (.ref 534) (.ref 535) 838))::(nat_lit 537,(kF "bows_mirror" "bows_mirror" (top 28) "countkin.mirrors" 826 536))::(nat_lit 541,(kC "mirrored_pairs" "mirrored_pairs" 841 235 2 (.ref 538) (.ref 539) .none .none .none (.ref 540) 844))::(nat_lit 542,(kF "mirrored_pairs" "mirrored_pairs" (top 29) "countkin.mirrors" 826 541))::(nat_lit 548,(kC "twins_mirror" "twins_mirror" 847 237 1 (.ref 543) (.ref 544) .none (.ref 545) (.ref 546) (.ref 547) 851))::(nat_lit 549,(kF "twins_mirror" "twins_mirror" (top 30) "countkin.mirrors" 826 548))::(nat_lit 555,(kC "mirrored_twins" "mirrored_twins" 854 240 1 (.ref 550) (.ref 551) .none (.ref 552) (.ref 553) (.ref 554) 858))::(nat_lit 556,(kF "mirrored_twins" "mirrored_twins" (top 31) "countkin.mirrors" 826 555))::(nat_lit 562,(kC "floor_mirror" "floor_mirror" 861 244 1 (.ref 557) (.ref 558) .none (.ref 559) (.ref 560) (.ref 561) 865))::(nat_lit 563,(kF "floor_mirror" "floor_mirror" (top 32) "countkin.mirrors" 826 562))::(nat_lit 569,(kC "turns_mirror" "turns_mirror" 868 247 1 (.ref 564) (.ref 565) .none (.ref 566) (.ref 567) (.ref 568) 876))::(nat_lit 570,(kF "turns_mirror" "turns_mirror" (top 33) "countkin.mirrors" 826 569))::(nat_lit 576,(kC "_law_cell_at" "_law_cell_at" 881 255 2 (.ref 571) (.ref 572) .none (.ref 573) (.ref 574) (.ref 575) 886))::(nat_lit 577,(kF "_law_cell_at" "_law_cell_at" (top 35) "law_countkin_k40_mirrors" 879 576))::(nat_lit 583,(kC "_law_whole" "_law_whole" 889 259 1 (.ref 578) (.ref 579) .none (.ref 580) (.ref 581) (.ref 582) 893))::(nat_lit 584,(kF "_law_whole" "_law_whole" (top 36) "law_countkin_k40_mirrors" 879 583))::(nat_lit 590,(kC "_law_mix" "_law_mix" 896 261 2 (.ref 585) (.ref 586) .none (.ref 587) (.ref 588) (.ref 589) 902))::(nat_lit 591,(kF "_law_mix" "_law_mix" (top 37) "law_countkin_k40_mirrors" 879 590))::(nat_lit 595,(kC "_law_draws" "_law_draws" 905 264 3 (.ref 592) (.ref 593) .none .none .none (.ref 594) 908))::(nat_lit 596,(kF "_law_draws" "_law_draws" (top 38) "law_countkin_k40_mirrors" 879 595))::(nat_lit 602,(kC "_law_text_by" "_law_text_by" 911 278 3 (.ref 597) (.ref 598) .none (.ref 599) (.ref 600) (.ref 601) 924))::(nat_lit 603,(kF "_law_text_by" "_law_text_by" (top 39) "law_countkin_k40_mirrors" 879 602))::(nat_lit 609,(kC "_law_floor_by" "_law_floor_by" 927 296 3 (.ref 604) (.ref 605) .none (.ref 606) (.ref 607) (.ref 608) 941))::(nat_lit 610,(kF "_law_floor_by" "_law_floor_by" (top 40) "law_countkin_k40_mirrors" 879 609))::(nat_lit 616,(kC "_law_numbers" "_law_numbers" 944 316 2 (.ref 611) (.ref 612) .none (.ref 613) (.ref 614) (.ref 615) 950))::(nat_lit 617,(kF "_law_numbers" "_law_numbers" (top 41) "law_countkin_k40_mirrors" 879 616))::(nat_lit 623,(kC "_law_pairs" "_law_pairs" 953 323 2 (.ref 618) (.ref 619) .none (.ref 620) (.ref 621) (.ref 622) 959))::(nat_lit 624,(kF "_law_pairs" "_law_pairs" (top 42) "law_countkin_k40_mirrors" 879 623))::(nat_lit 630,(kC "_law_floor" "_law_floor" 962 332 2 (.ref 625) (.ref 626) .none (.ref 627) (.ref 628) (.ref 629) 967))::(nat_lit 631,(kF "_law_floor" "_law_floor" (top 43) "law_countkin_k40_mirrors" 879 630))::(nat_lit 637,(kC "_law_twins_by" "_law_twins_by" 970 336 1 (.ref 632) (.ref 633) .none (.ref 634) (.ref 635) (.ref 636) 977))::(nat_lit 638,(kF "_law_twins_by" "_law_twins_by" (top 44) "law_countkin_k40_mirrors" 879 637))::(nat_lit 644,(kC "_law_same_twins" "_law_same_twins" 980 346 2 (.ref 639) (.ref 640) .none (.ref 641) (.ref 642) (.ref 643) 986))::(nat_lit 645,(kF "_law_same_twins" "_law_same_twins" (top 45) "law_countkin_k40_mirrors" 879 644))::(nat_lit 651,(kC "_law_mate" "_law_mate" 989 353 2 (.ref 646) (.ref 647) .none (.ref 648) (.ref 649) (.ref 650) 996))::(nat_lit 652,(kF "_law_mate" "_law_mate" (top 46) "law_countkin_k40_mirrors" 879 651))::(nat_lit 656,(kC "_law_bows_of" "_law_bows_of" 999 360 1 (.ref 653) (.ref 654) .none .none .none (.ref 655) 1002))::(nat_lit 657,(kF "_law_bows_of" "_law_bows_of" (top 47) "law_countkin_k40_mirrors" 879 656))::(nat_lit 661,(kC "_law_turns_of" "_law_turns_of" 1005 362 1 (.ref 658) (.ref 659) .none .none .none (.ref 660) 1008))::(nat_lit 662,(kF "_law_turns_of" "_law_turns_of" (top 48) "law_countkin_k40_mirrors" 879 661))::(nat_lit 668,(kC "_law_mirror" "_law_mirror" 1011 365 1 (.ref 663) (.ref 664) .none (.ref 665) (.ref 666) (.ref 667) 1017))::(nat_lit 669,(kF "_law_mirror" "_law_mirror" (top 49) "law_countkin_k40_mirrors" 879 668))::(nat_lit 675,(kC "_law_over" "_law_over" 1020 370 1 (.ref 670) (.ref 671) .none (.ref 672) (.ref 673) (.ref 674) 1024))::(nat_lit 676,(kF "_law_over" "_law_over" (top 50) "law_countkin_k40_mirrors" 879 675))::(nat_lit 680,(kC "_law_flipped" "_law_flipped" 1027 374 2 (.ref 677) (.ref 678) .none .none .none (.ref 679) 1030))::(nat_lit 681,(kF "_law_flipped" "_law_flipped" (top 51) "law_countkin_k40_mirrors" 879 680))::(nat_lit 687,(kC "_law_texts" "_law_texts" 1033 376 1 (.ref 682) (.ref 683) .none (.ref 684) (.ref 685) (.ref 686) 1039))::(nat_lit 688,(kF "_law_texts" "_law_texts" (top 52) "law_countkin_k40_mirrors" 879 687))::(nat_lit 694,(kC "_law_bows" "_law_bows" 1042 382 1 (.ref 689) (.ref 690) .none (.ref 691) (.ref 692) (.ref 693) 1048))::(nat_lit 695,(kF "_law_bows" "_law_bows" (top 53) "law_countkin_k40_mirrors" 879 694))::(nat_lit 701,(kC "_law_floors" "_law_floors" 1051 389 1 (.ref 696) (.ref 697) .none (.ref 698) (.ref 699) (.ref 700) 1058))::(nat_lit 702,(kF "_law_floors" "_law_floors" (top 54) "law_countkin_k40_mirrors" 879 701))::(nat_lit 706,(kC "_law_turns" "_law_turns" 1061 397 1 (.ref 703) (.ref 704) .none .none .none (.ref 705) 1064))::(nat_lit 707,(kF "_law_turns" "_law_turns" (top 55) "law_countkin_k40_mirrors" 879 706))::(nat_lit 713,(kC "law" "law" 1067 406 1 (.ref 708) (.ref 709) .none (.ref 710) (.ref 711) (.ref 712) 1074))::(nat_lit 714,(kF "law" "law" (top 56) "law_countkin_k40_mirrors" 879 713))::[]
noncomputable def hA:List Addr:=(2::3::27::28::34::35::41::42::46::47::56::57::58::69::70::85::86::134::135::158::159::160::161::176::177::235::236::251::252::263::264::287::288::303::304::315::316::339::340::348::349::362::363::376::377::400::401::409::410::416::417::430::431::444::445::468::469::484::485::498::499::522::523::529::530::536::537::541::542::548::549::555::556::562::563::569::570::576::577::583::584::590::591::595::596::602::603::609::610::616::617::623::624::630::631::637::638::644::645::651::652::656::657::661::662::668::669::675::676::680::681::687::688::694::695::701::702::706::707::713::714::[])
noncomputable def hM:List Bool:=(false::false::true::true::false::false::false::false::false::false::false::false::false::false::false::false::false::false::false::false::false::false::false::false::false::false::false::true::true::false::false::false::false::false::true::true::false::false::false::false::false::true::true::false::false::false::true::true::false::false::false::false::false::false::false::false::true::true::true::false::false::false::false::false::false::false::false::false::false::true::true::false::false::false::false::false::false::false::false::false::false::false::false::false::false::true::true::false::false::false::false::false::false::false::false::false::false::false::false::false::false::false::false::false::false::false::false::false::false::false::false::false::false::false::false::false::false::false::false::false::false::false::false::false::false::false::false::false::false::false::false::false::false::false::true::true::false::false::false::false::false::false::false::false::false::false::false::false::false::false::false::false::false::false::false::false::false::false::true::true::true::true::false::false::false::false::false::false::false::false::false::false::false::false::false::false::true::true::false::false::false::false::false::false::false::false::false::false::false::false::false::false::false::false::false::false::false::false::false::false::false::false::false::false::false::false::false::false::false::false::false::false::false::false::false::false::false::false::false::false::false::false::false::false::false::false::false::false::false::false::false::false::false::false::false::true::true::false::false::false::false::false::false::false::false::false::false::false::false::false::false::true::true::false::false::false::false::false::false::false::false::false::false::true::true::false::false::false::false::false::false::false::false::false::false::false::false::false::false::false::false::false::false::false::false::false::false::true::true::false::false::false::false::false::false::false::false::false::false::false::false::false::false::true::true::false::false::false::false::false::false::false::false::false::false::true::true::false::false::false::false::false::false::false::false::false::false::false::false::false::false::false::false::false::false::false::false::false::false::true::true::false::false::false::false::false::false::false::true::true::false::false::false::false::false::false::false::false::false::false::false::false::true::true::false::false::false::false::false::false::false::false::false::false::false::false::true::true::false::false::false::false::false::false::false::false::false::false::false::false::false::false::false::false::false::false::false::false::false::false::true::true::false::false::false::false::false::false::false::true::true::false::false::false::false::false::true::true::false::false::false::false::false::false::false::false::false::false::false::false::true::true::false::false::false::false::false::false::false::false::false::false::false::false::true::true::false::false::false::false::false::false::false::false::false::false::false::false::false::false::false::false::false::false::false::false::false::false::true::true::false::false::false::false::false::false::false::false::false::false::false::false::false::false::true::true::false::false::false::false::false::false::false::false::false::false::false::false::true::true::false::false::false::false::false::false::false::false::false::false::false::false::false::false::false::false::false::false::false::false::false::false::true::true::false::false::false::false::false::true::true::false::false::false::false::false::true::true::false::false::false::true::true::false::false::false::false::false::true::true::false::false::false::false::false::true::true::false::false::false::false::false::true::true::false::false::false::false::false::true::true::false::false::false::false::false::true::true::false::false::false::false::false::true::true::false::false::false::false::false::true::true::false::false::false::true::true::false::false::false::false::false::true::true::false::false::false::false::false::true::true::false::false::false::false::false::true::true::false::false::false::false::false::true::true::false::false::false::false::false::true::true::false::false::false::false::false::true::true::false::false::false::false::false::true::true::false::false::false::false::false::true::true::false::false::false::true::true::false::false::false::true::true::false::false::false::false::false::true::true::false::false::false::false::false::true::true::false::false::false::true::true::false::false::false::false::false::true::true::false::false::false::false::false::true::true::false::false::false::false::false::true::true::false::false::false::true::true::false::false::false::false::false::true::true::[])
theorem hAM:hA=lQ hM 0:=by kernel_rfl
noncomputable abbrev hX:Shared->Bool:=(fun s=>xlAt hQ [] s&&recOk (RowW.records (OpenRow.toRowW (OpenLaw.row PySem.Challenge.rw_countkin_k40_mirrors))) s)
theorem hKA:∀ P:Params,hA=(hK P).map (·.1):=fun _=>by kernel_rfl
noncomputable abbrev hH:Hook:=kHook hK hA hKA
noncomputable def hLook (P:Params) (s:Shared):=((staticsOk (importedModules PySem.Challenge.pw_countkin_k40_mirrors.main.body) (boot_heap P) s.heap&&namesBound PySem.Challenge.pw_countkin_k40_mirrors s.heap&&gensDone s&&laidKept (boot_heap P) s.heap),openSeen hQ hL (importedModules PySem.Challenge.pw_countkin_k40_mirrors.main.body) hX true s,fU s.heap.objs.toList hM)
noncomputable def hPreF (w:World) (os:OsState):=topGo treeTable PySem.Challenge.pw_countkin_k40_mirrors w 11 (some (.ref 6)) 12 ⟨boot_heap w.params,Array.mk [],boot_drawn,boot_toks,os⟩ (topStub PySem.Challenge.pw_countkin_k40_mirrors)
noncomputable def hPreG (w:World) (os:OsState):Option (Shared × Thread):=some ((hS w os).abs,⟨denote treeTable hC,hC,⟨0,0,0,0⟩,[topFrame ⟨0,0,0,0⟩]⟩)
noncomputable def hBlkF (w:World) (os:OsState):=segRun treeTable PySem.Challenge.pw_countkin_k40_mirrors w 11 (some (.ref 6)) 1 1 (hS w os).abs (blockOf hB hE hC ⟨0,0,0,0⟩ [topFrame ⟨0,0,0,0⟩])
noncomputable def hBlkG (w:World) (os:OsState):Option (Flow × Shared × Code × Pos):=some (.next,(hS w os).abs,hC,⟨0,0,0,0⟩)
noncomputable def hRunF (w:World) (os:OsState):=(segRunT treeTable PySem.Challenge.pw_countkin_k40_mirrors w 11 (some (.ref 6)) 1 4742 (hS w os) (piecesOf hB hE hC ⟨0,0,0,0⟩ [topFrame ⟨0,0,0,0⟩])).map (nM treeTable PySem.Challenge.pw_countkin_k40_mirrors w 11 (some (.ref 6)) ⟨0,0,0,0⟩ hC 2 (hLook w.params))
noncomputable def hRunG (w:World) (_:OsState):=some (Flow.next,hC,some (true,openGood hQ hL,(hK w.params).map fun p=>some p.2))
noncomputable def hSizF (w:World):=((boot_heap w.params).isNs mainGlobals&&(Array.mk []:Array GenState).size == 0,(boot_heap w.params).objs.size,(boot_heap w.params).nsMap mainGlobals "__annotations__")
noncomputable def hSizG (_:World):Bool × Nat × Option Value:=(true,11,(some (.ref 6)))
theorem hSeed:(fun _ _ _ _ _ _ _ _=>true) hPreF hPreG hBlkF hBlkG hRunF hRunG hSizF hSizG=true:=by k_qdec
theorem hPre:hPreF=hPreG:=Eq.trans PySem.W.Fast.te5317814654954331368 (Eq.trans (by kernel_rfl) (Eq.symm PySem.W.Fast.te14277440360295502494))
theorem hBlk:hBlkF=hBlkG:=Eq.trans PySem.W.Fast.te2033988648308832629 (Eq.trans (by kernel_rfl) (Eq.symm PySem.W.Fast.te1798457917166677164))
theorem hRun:hRunF=hRunG:=Eq.trans PySem.W.Fast.te6412348297585774662 (Eq.trans (by kernel_rfl) (Eq.symm PySem.W.Fast.te15447895654253735931))
theorem hSiz:hSizF=hSizG:=Eq.trans PySem.W.Fast.te13693962943478796877 (by kernel_rfl)
theorem hLeft:LeftO PySem.Challenge.pw_countkin_k40_mirrors hQ hL hX (Hook.obs hH) (Hook.val hH) 9608 :=
 vy (boot_open (by kernel_rfl) (by decide) (fun _=>by kernel_rfl)) (fun w=>congrFun hSiz w)
  (fun w os=>by
   obtain ⟨e,r,l⟩:=wG (b:=hB) (env:=hE) (L:=hLook w.params) rfl (congrFun (congrFun hPre w) os) (congrFun (congrFun hBlk w) os) (congrFun (congrFun hRun w) os)
   exact ⟨e,r,(congrArg (fun z=>(_,_,z)) (zh hAM e.heap)).trans l⟩) (by decide)
end Ck
open PySem PySem.W PyProof.Rows
set_option maxRecDepth 100000 in
set_option maxHeartbeats 0 in
theorem PySem.Challenge.cw_countkin_k40_mirrors_holds : PySem.Challenge.rw_countkin_k40_mirrors.Holds := by
 w_on; o_law
 refine holds_open (q:=Ck.hQ) (loose:=Ck.hL) (Xt:=Ck.hX) (XP:=XL Ck.hQ []) (Yf:=Hook.obs (kHook Ck.hK Ck.hA Ck.hKA)) (Ya:=Hook.val (kHook Ck.hK Ck.hA Ck.hKA)) (YP:=Hook.says (kHook Ck.hK Ck.hA Ck.hKA)) (N:=9608) Ck.hLeft (Hook.of (kHook Ck.hK Ck.hA Ck.hKA)) (Hook.keeps (kHook Ck.hK Ck.hA Ck.hKA))
  (fun s e=>xl_of s (Bool.and_eq_true_iff.mp e).1) XL.keeps (by rfl) (by rfl) (by rfl) (fun s e=>recFacts_of (Bool.and_eq_true_iff.mp e).2) (by rfl) (by first | assumption | decide +kernel) (by decide +kernel) ⟨rfl,rfl,rfl,rfl,rfl,by decide +kernel⟩ ?hw ?hc
 case hw=>w_witness2
 k_fill
 refine Ck.walk (l:=PySem.Challenge.rw_countkin_k40_mirrors) rfl rfl (fun w h Y=>PySem.W.kIn_of Y) ?F
 case F =>
  intro w mg fa h KX G hmg
  refine' Ck.all_mk KX G hmg ?lr ?fM ?iU ?hG ?nU ?lB ?iS ?dS ?fz ?di ?eQ ?ee ?gf ?dW ?fL ?dN ?fc ?lV ?gZ ?nr ?lM ?je ?cb ?bZ ?bY ?c0 ?cZ ?cW ?bO ?bQ ?bN ?cH ?cD ?cC ?cq ?cu ?cp ?dh ?dg ?dj ?cc ?bX ?bW ?cY ?de ?cV ?bT ?bU ?bV ?cO ?cP ?cM ?a1 ?l1 ?c1 ?k1 ?a2 ?l2 ?c2 ?k2 ?a3 ?l3 ?c3 ?k3 ?a4 ?l4 ?c4 ?k4 ?a5 ?l5 ?c5 ?k5 ?l6 ?c6 ?k6 ?i6 ?l7 ?c7 ?k7 ?i7 ?l8 ?c8 ?k8 ?i8 ?l9 ?c9 ?k9 ?i9 ?l10 ?c10 ?k10 ?i10 ?a11 ?l11 ?c11 ?k11 ?a12 ?l12 ?c12 ?k12 ?a13 ?l13 ?c13 ?k13 ?a14 ?l14 ?c14 ?k14 ?l15 ?c15 ?k15 ?i15 ?l16 ?c16 ?k16 ?i16 ?l17 ?c17 ?k17 ?i17 ?a18 ?l18 ?c18 ?k18 ?l19 ?c19 ?k19 ?i19 ?l20 ?c20 ?k20 ?i20 ?a21 ?l21 ?c21 ?k21 ?a22 ?l22 ?c22 ?k22 ?a23 ?l23 ?c23 ?k23 ?l24 ?c24 ?k24 ?i24 ?l25 ?c25 ?k25 ?i25 ?l26 ?c26 ?k26 ?i26 ?a27 ?l27 ?c27 ?k27 ?a28 ?l28 ?c28 ?k28 ?a29 ?l29 ?c29 ?k29 ?l30 ?c30 ?k30 ?i30 ?l31 ?c31 ?k31 ?i31 ?a32 ?l32 ?c32 ?k32 ?a33 ?l33 ?c33 ?k33 ?a34 ?l34 ?c34 ?k34 ?a35 ?l35 ?c35 ?k35 ?a36 ?l36 ?c36 ?k36 ?a37 ?l37 ?c37 ?k37 ?a38 ?l38 ?c38 ?k38 ?a39 ?l39 ?c39 ?k39 ?a40 ?l40 ?c40 ?k40 ?l41 ?c41 ?k41 ?i41 ?l42 ?c42 ?k42 ?i42 ?l43 ?c43 ?k43 ?i43 ?a44 ?l44 ?c44 ?k44 ?l45 ?c45 ?k45 ?i45 ?l46 ?c46 ?k46 ?i46 ?a47 ?l47 ?c47 ?k47 ?a48 ?l48 ?c48 ?k48 ?a49 ?l49 ?c49 ?k49 ?a50 ?l50 ?c50 ?k50 ?l51 ?c51 ?k51 ?i51 ?l52 ?c52 ?k52 ?i52 ?l53 ?c53 ?k53 ?i53 ?a54 ?l54 ?c54 ?k54 ?l55 ?c55 ?k55 ?i55 ?l56 ?c56 ?k56 ?i56 ?a57 ?l57 ?c57 ?k57 ?a58 ?l58 ?c58 ?k58 ?a59 ?l59 ?c59 ?k59 ?a60 ?l60 ?c60 ?k60 ?a61 ?l61 ?c61 ?k61 ?pg_Twins ?hd_Twins ?po_Twins ?sa_Twins ?pg_Brackets ?hd_Brackets ?po_Brackets ?sa_Brackets ?pg_Bows ?hd_Bows ?po_Bows ?sa_Bows ?pg_Turns ?hd_Turns ?po_Turns ?sa_Turns ?pg_Floors ?hd_Floors ?po_Floors ?sa_Floors ?mk_Twins ?kc_Twins ?mk_Brackets ?kc_Brackets ?mk_Bows ?kc_Bows ?mk_Turns ?kc_Turns ?mk_Floors ?kc_Floors ?d5 ?dO ?cU ?cK ?eC ?d4 ?d6 ?dJ ?dG ?du ?z_range ?z_len ?z_isinstance ?z_tuple ?z_reversed ?z_int ?z_str ?z_sorted ?z_list ?z_all ?z_max ?z_min ?z_bool ?z_enumerate ?z_set
  (case lr=>k_is)
  (case fM=>k_is)
  (case iU=>k_is)
  (case hG=>k_is)
  (case nU=>k_is)
  (case lB=>k_is)
  (case iS=>k_is)
  (case dS=>k_is)
  (case fz=>k_is)
  (case di=>k_is)
  (case eQ=>k_is)
  (case ee=>k_is)
  (case gf=>k_is)
  (case dW=>k_is)
  (case fL=>k_is)
  (case dN=>k_is)
  (case fc=>k_is)
  (case lV=>k_is)
  (case gZ=>k_is)
  (case nr=>k_is)
  (case lM=>k_is)
  (case je=>k_is)
  (case cb=>k_is)
  (case bZ=>k_is)
  (case bY=>k_is)
  (case c0=>k_is)
  (case cZ=>k_is)
  (case cW=>k_is)
  (case bO=>k_is)
  (case bQ=>k_is)
  (case bN=>k_is)
  (case cH=>k_is)
  (case cD=>k_is)
  (case cC=>k_is)
  (case cq=>k_is)
  (case cu=>k_is)
  (case cp=>k_is)
  (case dh=>k_is)
  (case dg=>k_is)
  (case dj=>k_is)
  (case cc=>k_is)
  (case bX=>k_is)
  (case bW=>k_is)
  (case cY=>k_is)
  (case de=>k_is)
  (case cV=>k_is)
  (case bT=>k_is)
  (case bU=>k_is)
  (case bV=>k_is)
  (case cO=>k_is)
  (case cP=>k_is)
  (case cM=>k_is)
  (case a1=>k_is)
  (case l1=>k_is)
  (case c1=>k_is)
  (case k1=>k_is)
  (case a2=>k_is)
  (case l2=>k_is)
  (case c2=>k_is)
  (case k2=>k_is)
  (case a3=>k_is)
  (case l3=>k_is)
  (case c3=>k_is)
  (case k3=>k_is)
  (case a4=>k_is)
  (case l4=>k_is)
  (case c4=>k_is)
  (case k4=>k_is)
  (case a5=>k_is)
  (case l5=>k_is)
  (case c5=>k_is)
  (case k5=>k_is)
  (case l6=>k_is)
  (case c6=>k_is)
  (case k6=>k_is)
  (case i6=>k_is)
  (case l7=>k_is)
  (case c7=>k_is)
  (case k7=>k_is)
  (case i7=>k_is)
  (case l8=>k_is)
  (case c8=>k_is)
  (case k8=>k_is)
  (case i8=>k_is)
  (case l9=>k_is)
  (case c9=>k_is)
  (case k9=>k_is)
  (case i9=>k_is)
  (case l10=>k_is)
  (case c10=>k_is)
  (case k10=>k_is)
  (case i10=>k_is)
  (case a11=>k_is)
  (case l11=>k_is)
  (case c11=>k_is)
  (case k11=>k_is)
  (case a12=>k_is)
  (case l12=>k_is)
  (case c12=>k_is)
  (case k12=>k_is)
  (case a13=>k_is)
  (case l13=>k_is)
  (case c13=>k_is)
  (case k13=>k_is)
  (case a14=>k_is)
  (case l14=>k_is)
  (case c14=>k_is)
  (case k14=>k_is)
  (case l15=>k_is)
  (case c15=>k_is)
  (case k15=>k_is)
  (case i15=>k_is)
  (case l16=>k_is)
  (case c16=>k_is)
  (case k16=>k_is)
  (case i16=>k_is)
  (case l17=>k_is)
  (case c17=>k_is)
  (case k17=>k_is)
  (case i17=>k_is)
  (case a18=>k_is)
  (case l18=>k_is)
  (case c18=>k_is)
  (case k18=>k_is)
  (case l19=>k_is)
  (case c19=>k_is)
  (case k19=>k_is)
  (case i19=>k_is)
  (case l20=>k_is)
  (case c20=>k_is)
  (case k20=>k_is)
  (case i20=>k_is)
  (case a21=>k_is)
  (case l21=>k_is)
  (case c21=>k_is)
  (case k21=>k_is)
  (case a22=>k_is)
  (case l22=>k_is)
  (case c22=>k_is)
  (case k22=>k_is)
  (case a23=>k_is)
  (case l23=>k_is)
  (case c23=>k_is)
  (case k23=>k_is)
  (case l24=>k_is)
  (case c24=>k_is)
  (case k24=>k_is)
  (case i24=>k_is)
  (case l25=>k_is)
  (case c25=>k_is)
  (case k25=>k_is)
  (case i25=>k_is)
  (case l26=>k_is)
  (case c26=>k_is)
  (case k26=>k_is)
  (case i26=>k_is)
  (case a27=>k_is)
  (case l27=>k_is)
  (case c27=>k_is)
  (case k27=>k_is)
  (case a28=>k_is)
  (case l28=>k_is)
  (case c28=>k_is)
  (case k28=>k_is)
  (case a29=>k_is)
  (case l29=>k_is)
  (case c29=>k_is)
  (case k29=>k_is)
  (case l30=>k_is)
  (case c30=>k_is)
  (case k30=>k_is)
  (case i30=>k_is)
  (case l31=>k_is)
  (case c31=>k_is)
  (case k31=>k_is)
  (case i31=>k_is)
  (case a32=>k_is)
  (case l32=>k_is)
  (case c32=>k_is)
  (case k32=>k_is)
  (case a33=>k_is)
  (case l33=>k_is)
  (case c33=>k_is)
  (case k33=>k_is)
  (case a34=>k_is)
  (case l34=>k_is)
  (case c34=>k_is)
  (case k34=>k_is)
  (case a35=>k_is)
  (case l35=>k_is)
  (case c35=>k_is)
  (case k35=>k_is)
  (case a36=>k_is)
  (case l36=>k_is)
  (case c36=>k_is)
  (case k36=>k_is)
  (case a37=>k_is)
  (case l37=>k_is)
  (case c37=>k_is)
  (case k37=>k_is)
  (case a38=>k_is)
  (case l38=>k_is)
  (case c38=>k_is)
  (case k38=>k_is)
  (case a39=>k_is)
  (case l39=>k_is)
  (case c39=>k_is)
  (case k39=>k_is)
  (case a40=>k_is)
  (case l40=>k_is)
  (case c40=>k_is)
  (case k40=>k_is)
  (case l41=>k_is)
  (case c41=>k_is)
  (case k41=>k_is)
  (case i41=>k_is)
  (case l42=>k_is)
  (case c42=>k_is)
  (case k42=>k_is)
  (case i42=>k_is)
  (case l43=>k_is)
  (case c43=>k_is)
  (case k43=>k_is)
  (case i43=>k_is)
  (case a44=>k_is)
  (case l44=>k_is)
  (case c44=>k_is)
  (case k44=>k_is)
  (case l45=>k_is)
  (case c45=>k_is)
  (case k45=>k_is)
  (case i45=>k_is)
  (case l46=>k_is)
  (case c46=>k_is)
  (case k46=>k_is)
  (case i46=>k_is)
  (case a47=>k_is)
  (case l47=>k_is)
  (case c47=>k_is)
  (case k47=>k_is)
  (case a48=>k_is)
  (case l48=>k_is)
  (case c48=>k_is)
  (case k48=>k_is)
  (case a49=>k_is)
  (case l49=>k_is)
  (case c49=>k_is)
  (case k49=>k_is)
  (case a50=>k_is)
  (case l50=>k_is)
  (case c50=>k_is)
  (case k50=>k_is)
  (case l51=>k_is)
  (case c51=>k_is)
  (case k51=>k_is)
  (case i51=>k_is)
  (case l52=>k_is)
  (case c52=>k_is)
  (case k52=>k_is)
  (case i52=>k_is)
  (case l53=>k_is)
  (case c53=>k_is)
  (case k53=>k_is)
  (case i53=>k_is)
  (case a54=>k_is)
  (case l54=>k_is)
  (case c54=>k_is)
  (case k54=>k_is)
  (case l55=>k_is)
  (case c55=>k_is)
  (case k55=>k_is)
  (case i55=>k_is)
  (case l56=>k_is)
  (case c56=>k_is)
  (case k56=>k_is)
  (case i56=>k_is)
  (case a57=>k_is)
  (case l57=>k_is)
  (case c57=>k_is)
  (case k57=>k_is)
  (case a58=>k_is)
  (case l58=>k_is)
  (case c58=>k_is)
  (case k58=>k_is)
  (case a59=>k_is)
  (case l59=>k_is)
  (case c59=>k_is)
  (case k59=>k_is)
  (case a60=>k_is)
  (case l60=>k_is)
  (case c60=>k_is)
  (case k60=>k_is)
  (case a61=>k_is)
  (case l61=>k_is)
  (case c61=>k_is)
  (case k61=>k_is)
  (case pg_Twins=>k_is)
  (case hd_Twins=>k_is)
  (case po_Twins=>k_is)
  (case sa_Twins=>k_is)
  (case pg_Brackets=>k_is)
  (case hd_Brackets=>k_is)
  (case po_Brackets=>k_is)
  (case sa_Brackets=>k_is)
  (case pg_Bows=>k_is)
  (case hd_Bows=>k_is)
  (case po_Bows=>k_is)
  (case sa_Bows=>k_is)
  (case pg_Turns=>k_is)
  (case hd_Turns=>k_is)
  (case po_Turns=>k_is)
  (case sa_Turns=>k_is)
  (case pg_Floors=>k_is)
  (case hd_Floors=>k_is)
  (case po_Floors=>k_is)
  (case sa_Floors=>k_is)
  (case mk_Twins=>k_is)
  (case kc_Twins=>k_is)
  (case mk_Brackets=>k_is)
  (case kc_Brackets=>k_is)
  (case mk_Bows=>k_is)
  (case kc_Bows=>k_is)
  (case mk_Turns=>k_is)
  (case kc_Turns=>k_is)
  (case mk_Floors=>k_is)
  (case kc_Floors=>k_is)
  (case d5=>k_is)
  (case dO=>k_is)
  (case cU=>k_is)
  (case cK=>k_is)
  (case eC=>k_is)
  (case d4=>k_is)
  (case d6=>k_is)
  (case dJ=>k_is)
  (case dG=>k_is)
  (case du=>k_is)
  (case z_range=>k_is)
  (case z_len=>k_is)
  (case z_isinstance=>k_is)
  (case z_tuple=>k_is)
  (case z_reversed=>k_is)
  (case z_int=>k_is)
  (case z_str=>k_is)
  (case z_sorted=>k_is)
  (case z_list=>k_is)
  (case z_all=>k_is)
  (case z_max=>k_is)
  (case z_min=>k_is)
  (case z_bool=>k_is)
  (case z_enumerate=>k_is)
  (case z_set=>k_is)
