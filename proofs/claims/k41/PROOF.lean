import PyProof.Rows.All
import Wide.All
import OpenK.AllK
import Wide.FinOn
import Lean
import PyProof.EqAt
import PyProof.EqKinds
import PyProof.TupleCall
import KE.KMinBuiltin
import KE.KRevIter
import KE.KRevSl
import KE.KSortTup
import KE.KTryMore
import Open.Pieces
import OpenK.KQuick
import OpenK.KWalk
import PyProof.CollectWalk
import PyProof.DictWalks
import PyProof.EnumMake
import PyProof.ExcAttrAll.ValueError
import PyProof.FitsBits
import PyProof.ListRange
import PyProof.NeKinds
import PyProof.Rows.SetFrom
import PyProof.Rows.SortRuns
import PyProof.Rows.StrInSeq3
import PyProof.SetRoads
import PyProof.TupleKey
import PyProof.ZipIter
import PySem.Challenge.RW_countkin_k41_mirrors_meet
set_option Elab.async false
set_option linter.all false
set_option maxRecDepth 100000
namespace L2
open PySem PySem.Spec PyProof.Rows
noncomputable abbrev Key:=Sum Int Str
noncomputable def Ae:Key->Value->Bool
  | .inl k,v=>Value.isInt k v
  | .inr x,v=>Value.isStrOf x v
noncomputable def EL (w:World):Key->Int
  | .inl k=>hashInt k
  | .inr x=>hashStr w x
theorem cf:∀ {k:Key} {v:Value},Ae k v=true->(∃ i t,k=Sum.inl i/\v=Value.int i t)\/(∃ x t,k=Sum.inr x/\v=Value.str x t)
  | .inl i,v,h=>by
    obtain ⟨t,e⟩:=Value.isInt_shape (k:=i) (v:=v) h
    exact .inl ⟨i,t,rfl,e⟩
  | .inr x,v,h=>by
    obtain ⟨t,e⟩:=Value.isStrOf_shape (x:=x) (v:=v) h
    exact .inr ⟨x,t,rfl,e⟩
theorem CH (a b:Int):decide ((Sum.inl a:Key)=Sum.inl b)=(a == b):=by
  by_cases e:a=b
  · subst e; simp
  · have h:¬ (Sum.inl a:Key)=Sum.inl b:=fun q=>e (Sum.inl.inj q)
    rw [decide_eq_false h]
    exact (beq_eq_false_iff_ne.mpr e).symm
theorem Cm (a b:Str):decide ((Sum.inr a:Key)=Sum.inr b)=decide (a=b):=by
  by_cases e:a=b
  · subst e; simp
  · have h:¬ (Sum.inr a:Key)=Sum.inr b:=fun q=>e (Sum.inr.inj q)
    rw [decide_eq_false h,decide_eq_false e]
theorem BS (a:Int) (b:Str):decide ((Sum.inl a:Key)=Sum.inr b)=false:=decide_eq_false (fun q=>nomatch q)
theorem Dq (a:Str) (b:Int):decide ((Sum.inr a:Key)=Sum.inl b)=false:=decide_eq_false (fun q=>nomatch q)
noncomputable def uQ (prog:Program) (w:World):PySem.KeyKind prog w Key where
  is:=Ae
  hash:=EL w
  inj:=fun v a b ha hb=>by
    rcases cf ha with ⟨i,t,rfl,rfl⟩ | ⟨x,t,rfl,rfl⟩
    · rcases cf hb with ⟨j,u,rfl,e⟩ | ⟨y,u,rfl,e⟩
      · injection e with e1 _; rw [e1]
      · exact nomatch e
    · rcases cf hb with ⟨j,u,rfl,e⟩ | ⟨y,u,rfl,e⟩
      · exact nomatch e
      · injection e with e1 _; rw [e1]
  byValue:=fun k v h=>by
    rcases cf h with ⟨i,t,rfl,rfl⟩ | ⟨x,t,rfl,rfl⟩<;>rfl
  pyHash:=fun hv h=>by
    rcases cf hv with ⟨i,t,rfl,rfl⟩ | ⟨x,t,rfl,rfl⟩
    · exact wpAny_pyHash_int h
    · exact wpAny_pyHash_str h
  eqBool:=fun hu hv h=>by
    rcases cf hu with ⟨i,t,rfl,rfl⟩ | ⟨x,t,rfl,rfl⟩
    · rcases cf hv with ⟨j,u,rfl,rfl⟩ | ⟨y,u,rfl,rfl⟩
      · rw [CH] at h; exact wpAny_eqBool_int h
      · rw [BS] at h; exact SeqAt.EqAt.int_str i t y u _ _ _ _ h
    · rcases cf hv with ⟨j,u,rfl,rfl⟩ | ⟨y,u,rfl,rfl⟩
      · rw [Dq] at h; exact SeqAt.EqAt.str_int x t j u _ _ _ _ h
      · rw [Cm] at h; exact wpAny_eqBool_str h
  «strs»:=fun k x t v h=>by
    rcases cf h with ⟨i,u,rfl,e⟩ | ⟨y,u,rfl,e⟩
    · exact nomatch e
    · injection e with e1 _
      subst e1
      cases v<;>rfl
end L2
namespace L2
open PySem PySem.Spec PyProof.Rows
inductive V where
  | non | bl (b:Bool) | int (i:Int) | str (x:Str) | byt (b:Array UInt8) | flt (b:UInt64) | ref (a:Addr) | ty (n:String)
  deriving DecidableEq
noncomputable def RelV:V->Value->Prop
  | .non,u=>u=Value.none
  | .bl b,u=>u=Value.bool b
  | .int i,u=>∃ t,u=Value.int i t
  | .str x,u=>∃ t,u=Value.str x t
  | .byt b,u=>∃ t,u=Value.bytes b t
  | .flt b,u=>∃ t,u=Value.float b t
  | .ref a,u=>u=Value.ref a
  | .ty n,u=>u=Value.type n
noncomputable abbrev Vals:List V->List Value->Prop:=Paired RelV
theorem Vals.length {xs:List V} {us:List Value} (r:Vals xs us):xs.length=us.length:=Paired.length r
theorem Vals.get:∀ {xs:List V} {us:List Value} {i:Nat} {x:V},Vals xs us->xs[i]? = some x->∃ u,us[i]? = some u/\RelV x u
  | _,_,_,_,.nil,e=>by simp at e
  | _,_,0,_,.cons r _,e=>by simp at e; subst e; exact ⟨_,rfl,r⟩
  | _,_,i+1,x,.cons _ t,e=>by
    obtain ⟨u,h1,h2⟩:=Vals.get (i:=i) (x:=x) t (by simpa using e)
    exact ⟨u,by simpa using h1,h2⟩
theorem Vals.set {x:V} {u:Value} (r:RelV x u):∀ {xs:List V} {us:List Value} (i:Nat),Vals xs us->Vals (xs.set i x) (us.set i u)
  | _,_,_,.nil=>.nil
  | _,_,0,.cons _ t=>.cons r t
  | _,_,i+1,.cons q t=>.cons q (Vals.set r i t)
theorem Vals.append:∀ {xs ys:List V} {us ws:List Value},Vals xs us->Vals ys ws->Vals (xs++ys) (us++ws)
  | _,_,_,_,.nil,s=>s
  | _,_,_,_,.cons r t,s=>.cons r (Vals.append t s)
theorem Vals.take:∀ {xs:List V} {us:List Value} (n:Nat),Vals xs us->Vals (xs.take n) (us.take n)
  | _,_,0,_=>.nil
  | _,_,_+1,.nil=>.nil
  | _,_,n+1,.cons r t=>.cons r (Vals.take n t)
theorem Vals.drop:∀ {xs:List V} {us:List Value} (n:Nat),Vals xs us->Vals (xs.drop n) (us.drop n)
  | _,_,0,r=>r
  | _,_,_+1,.nil=>.nil
  | _,_,n+1,.cons _ t=>Vals.drop n t
noncomputable def mJ:Option V->Option Value->Prop
  | some v,some u=>RelV v u
  | none,none=>True
  | _,_=>False
noncomputable def KV {κ:Type}:List (κ × V)->List (κ × Value)->Prop:=Paired fun (p:κ × V) (q:κ × Value)=>p.1=q.1/\RelV p.2 q.2
noncomputable def kV:Key->V
  | .inl i=>.int i
  | .inr x=>.str x
inductive HO where
  | lst (xs:List V)
  | tup (xs:List V)
  | dK (kvs:List (Key × V)) | dT (kvs:List (List Key × V))
  | set (S:Int->Bool) (n:Nat)
  | ins (C dx:Addr) (fs:List (Str × V))
  | own (x:Addr)
  | xd (fs:List (Str × V))
  | met (f x:Addr)
  | rng (lo hi:Int)
  | frz (o:Obj) (u:HO)
  | tbl (ps:Array Value)
  | ext (φ:Heap->Prop)
noncomputable abbrev Hp:=Addr->Option HO
noncomputable def upd (H:Hp) (a:Addr) (o:HO):Hp:=fun b=>if b=a then some o else H b
theorem upd_same {H:Hp} {a:Addr} {o:HO}:upd H a o a=some o:=by unfold upd; rw [if_pos rfl]
theorem upd_ne {H:Hp} {a b:Addr} {o:HO} (h:b≠a):upd H a o b=H b:=by unfold upd; rw [if_neg h]
theorem gy {H:Hp} {a:Addr} {o u:HO}:upd (upd H a o) a u=upd H a u:=by
  funext b; unfold upd; split<;>rfl
theorem DM {H:Hp} {a b:Addr} {o u:HO} (h:H a=some o) (h':H b=some u) (d:o≠u):a≠b:=by
  intro e; subst e; rw [h] at h'; exact d (Option.some.inj h')
theorem ak {H:Hp} {a b:Addr} {o:HO} (h:H a=some o) (h':H b=none):a≠b:=by
  intro e; subst e; rw [h] at h'; cases h'
section
variable (P:Program) (w:World)
noncomputable def cw (H:Hp) (h:Heap) (a:Addr):HO->Prop
  | .lst xs=>xs.length<=sizeLine/\∃ (its:List Value) (n:Nat),Vals xs its/\h.get? a=some { cls:=.type "list",data:=.seq its.toArray n }
  | .tup xs=>xs.length<=sizeLine/\∃ its:List Value,Vals xs its/\IsTup h a its.toArray
  | .dK kvs=>kvs.length<=sizeLine/\(a == sysModules)=false/\∃ vs,KV kvs vs/\h.DictOf (uQ P w) a vs
  | .dT kvs=>kvs.length<=sizeLine/\(a == sysModules)=false/\∃ xs:List (List Key × Addr × Value),
      Paired (fun (p:List Key × V) (q:List Key × Addr × Value)=>p.1=q.1/\H q.2.1=some (.tup (p.1.map kV))/\RelV p.2 q.2.2) kvs xs /\
      ∃ o es ep,h.get? a=some o/\o.ExactDict/\o.data = .dict es ep/\es.toList=xs.map (entryOfKey (tupleKind (uQ P w)))/\(xs.map (·.1)).Nodup
  | .set S n=>h.SetOf (intKind P w) a S n
  | .ins C dx fs=>H dx=some (.own a)/\fs.length<=1000/\dx≠a/\h.get? a=some (PySem.W.instObj C dx) /\
      ∃ mA,h.Ns1 dx mA/\(∀ f,mJ (fs.lookup f) (mA f))/\PySem.Within mA (fs.map (·.1))
  | .own _=>∃ o,h.get? a=some o
  | .xd fs=>∃ mA,h.Ns1 a mA/\∀ f,mJ (fs.lookup f) (mA f)
  | .rng lo hi=>∃ t u v,h.get? a=some { cls:=.type "range",data:=.fields #[.int lo t,.int hi u,.int 1 v] }
  | .frz o u=>h.get? a=some o/\cw H h a u
  | .tbl ps=>h.get? a=some { cls:=.none,data:=.fields ps }
  | .met f x=>h.get? a=some (PySem.W.methodObj (.ref f) (.ref x))
  | .ext φ=>φ h/\(∃ o,h.get? a=some o)/\∀ h1 h2:Heap,φ h1->(∀ o,h1.get? a=some o->h2.get? a=some o)->φ h2
def dj (H:Hp) (h:Heap):Prop:=∀ a o,H a=some o->cw P w H h a o
end
section
variable {P:Program} {w:World} {H H':Hp} {h h':Heap} {a:Addr} {o:HO}
theorem cw.lt (x:cw P w H h a o):a < h.objs.size:=by
  cases o with
  | lst xs=>obtain ⟨_,_,_,_,e⟩:=x; exact Heap.lt_size e
  | tup xs=>obtain ⟨_,_,_,p⟩:=x; exact p.lt
  | dK kvs=>obtain ⟨_,_,_,_,o,_,_,e,_⟩:=x; exact Heap.lt_size e
  | dT kvs=>obtain ⟨_,_,_,_,o,_,_,e,_⟩:=x; exact Heap.lt_size e
  | set S n=>obtain ⟨o,_,_,_,e,_⟩:=x; exact Heap.lt_size e
  | ins C dx fs=>obtain ⟨_,_,_,e,_⟩:=x; exact Heap.lt_size e
  | own y=>obtain ⟨_,e⟩:=x; exact Heap.lt_size e
  | xd fs=>obtain ⟨_,⟨_,_,_,e,_⟩,_⟩:=x; exact Heap.lt_size e
  | rng lo hi=>obtain ⟨_,_,_,e⟩:=x; exact Heap.lt_size e
  | frz ob u=>obtain ⟨e,_⟩:=x; exact Heap.lt_size e
  | tbl ps=>exact Heap.lt_size (show h.get? a=some _ from x)
  | met f y=>exact Heap.lt_size (show h.get? a=some _ from x)
  | ext φ=>obtain ⟨_,⟨_,e⟩,_⟩:=x; exact Heap.lt_size e
theorem Paired.mapP {α β:Type} {F G:α->β->Prop}:∀ {l₁:List α} {l₂:List β},Paired F l₁ l₂->(∀ a b,F a b->G a b)->Paired G l₁ l₂
  | _,_,.nil,_=>.nil
  | _,_,.cons r t,f=>.cons (f _ _ r) (Paired.mapP t f)
theorem cw.stay (x:cw P w H h a o) (k:∀ b u,(b=a\/H b=some (.own a))->h.get? b=some u->h'.get? b=some u)
    (ho:∀ b,H b=some (.own a)->H' b=some (.own a)) (ht:∀ b xs,H b=some (.tup xs)->H' b=some (.tup xs)):cw P w H' h' a o:=by
  induction o with
  | lst xs=>obtain ⟨z,its,n,r,e⟩:=x; exact ⟨z,its,n,r,k _ _ (.inl rfl) e⟩
  | tup xs=>obtain ⟨z,its,r,ob,e,c⟩:=x; exact ⟨z,its,r,ob,k _ _ (.inl rfl) e,c⟩
  | dK kvs=>obtain ⟨z,y,vs,r,ob,es,ep,e,c⟩:=x; exact ⟨z,y,vs,r,ob,es,ep,k _ _ (.inl rfl) e,c⟩
  | dT kvs =>
    obtain ⟨z,y,xs,r,ob,es,ep,e,c⟩:=x
    exact ⟨z,y,xs,Paired.mapP r fun p q z=>⟨z.1,ht _ _ z.2.1,z.2.2⟩,ob,es,ep,k _ _ (.inl rfl) e,c⟩
  | set S n=>obtain ⟨ob,es,ep,t,e,c⟩:=x; exact ⟨ob,es,ep,t,k _ _ (.inl rfl) e,c⟩
  | ins C dx fs =>
    obtain ⟨d,z,ne,e,mA,⟨od,es,ep,e2,c⟩,r⟩:=x
    exact ⟨ho _ d,z,ne,k _ _ (.inl rfl) e,mA,⟨od,es,ep,k _ _ (.inr d) e2,c⟩,r⟩
  | own y=>obtain ⟨ob,e⟩:=x; exact ⟨ob,k _ _ (.inl rfl) e⟩
  | xd fs=>obtain ⟨mA,⟨od,es,ep,e,c⟩,r⟩:=x; exact ⟨mA,⟨od,es,ep,k _ _ (.inl rfl) e,c⟩,r⟩
  | rng lo hi=>obtain ⟨t,u,v,e⟩:=x; exact ⟨t,u,v,k _ _ (.inl rfl) e⟩
  | frz ob u ih=>obtain ⟨e,q⟩:=x; exact ⟨k _ _ (.inl rfl) e,ih q⟩
  | tbl ps =>
    have e:h.get? a=some { cls:=.none,data:=.fields ps }:=x
    show h'.get? a=some { cls:=.none,data:=.fields ps }
    exact k a _ (.inl rfl) e
  | met f y =>
    have e:h.get? a=some (PySem.W.methodObj (.ref f) (.ref y)):=x
    show h'.get? a=some (PySem.W.methodObj (.ref f) (.ref y))
    exact k a _ (.inl rfl) e
  | ext φ=>obtain ⟨p,⟨o,e⟩,st⟩:=x; exact ⟨st _ _ p fun o q=>k _ _ (.inl rfl) q,⟨o,k _ _ (.inl rfl) e⟩,st⟩
theorem dj.lt (x:dj P w H h) (e:H a=some o):a < h.objs.size:=(x a o e).lt
theorem dj.fresh (x:dj P w H h) (e:h.objs.size<=a):H a=none:=by
  cases q:H a with
  | none=>rfl
  | some u=>exact absurd (Nat.lt_of_lt_of_le (x.lt q) e) (Nat.lt_irrefl _)
theorem dj.kept (x:dj P w H h) (k:∀ b u,h.get? b=some u->h'.get? b=some u):dj P w H h':=fun a o e =>
  (x a o e).stay (fun b u _ q=>k b u q) (fun _ q=>q) fun _ _ q=>q
theorem dj.laid (x:dj P w H h) (k:∀ b u,h.get? b=some u->h'.get? b=some u) (hp:h.objs.size<=a) (new:cw P w (upd H a o) h' a o):dj P w (upd H a o) h':=fun b u e=>by
  have hn:=x.fresh hp
  by_cases hb:b=a
  · subst hb; rw [upd_same] at e; cases e; exact new
  · rw [upd_ne hb] at e
    exact (x b u e).stay (fun c v _ q=>k c v q) (fun c q=>by rw [upd_ne (ak q hn)]; exact q) fun c xs q=>by rw [upd_ne (ak q hn)]; exact q
end
def Rd (H:Hp) (a:Addr) (u:HO):Prop:=H a=some u\/∃ o,H a=some (.frz o u)
theorem Rd.ok {P:Program} {w:World} {H:Hp} {h:Heap} {a:Addr} {u:HO} (r:Rd H a u) (x:dj P w H h):cw P w H h a u:=by
  rcases r with r | ⟨o,r⟩
  · exact x a u r
  · obtain ⟨_,q⟩:=x a _ r
    exact q
noncomputable def Ak:Option HO->Prop
  | some (.lst _)=>True
  | some (.dK _)=>True
  | some (.dT _)=>True
  | some (.set _ _)=>True
  | some (.ins _ _ _)=>True
  | some (.ext _)=>True
  | _=>False
section
variable {P:Program} {w:World} {H:Hp} {h h':Heap} {x e:Addr} {o':HO}
theorem dj.write (ok:dj P w H h) (mu:Ak (H x)) (he:e=x\/H e=some (.own x)) (k:∀ b u,b≠e->h.get? b=some u->h'.get? b=some u) (heo:∃ u,h'.get? e=some u)
    (new:cw P w (upd H x o') h' x o'):dj P w (upd H x o') h':=fun b u q=>by
  have nown:∀ c y,H c=some (.own y)->c≠x:=fun c y r z=>by subst z; rw [r] at mu; exact mu
  have ntup:∀ c xs,H c=some (.tup xs)->c≠x:=fun c xs r z=>by subst z; rw [r] at mu; exact mu
  by_cases hb:b=x
  · subst hb; rw [upd_same] at q; cases q; exact new
  · rw [upd_ne hb] at q
    by_cases hbe:b=e
    · have q':H b=some (.own x):=by
        rcases he with z | z
        · exact absurd (hbe.trans z) hb
        · rw [hbe]; exact z
      rw [q] at q'; cases q'
      obtain ⟨v,hv⟩:=heo
      exact ⟨v,by rw [hbe]; exact hv⟩
    · refine (ok b u q).stay (fun c v hc r=>k c v ?_ r) (fun c r=>by rw [upd_ne (nown c b r)]; exact r) fun c xs r=>by rw [upd_ne (ntup c xs r)]; exact r
      rcases hc with rfl | hc
      · exact hbe
      · rintro rfl
        rcases he with z | z
        · exact nown c b hc z
        · rw [hc] at z; cases z; exact hb rfl
end
structure Un (fs ex:List Addr) (H H':Hp) (h h':Heap):Prop where
  keep:∀ b o,h.get? b=some o->H b=none->b∉fs->b∉ex->h'.get? b=some o
  slot:∀ b o,h.get? b=some o->H b=none->b∈fs->b∉ex->∃ sl,h'.get? b=some { o with slots:=sl }
  free:∀ b o,h.get? b=some o->H b=none->b∉ex->H' b=none
  there:∀ b o,h.get? b=some o->b∉ex->∃ o',h'.get? b=some o'
  tups:∀ b xs,H b=some (.tup xs)->H' b=some (.tup xs)
  frzs:∀ b o u,H b=some (.frz o u)->H' b=some (.frz o u)
  tbls:∀ b ps,H b=some (.tbl ps)->∃ more,H' b=some (.tbl (ps++more))
section
variable {fs fs' ex ex':List Addr} {H H1 H2:Hp} {h h1 h2 h':Heap} {a x e:Addr} {o:HO}
theorem Un.any (u:Un fs ex H H1 h h1) {b:Addr} {ob:Obj} (q:h.get? b=some ob) (n:H b=none) (hx:b∉ex):∃ sl,h1.get? b=some { ob with slots:=sl }:=by
  by_cases hb:b∈fs
  · exact u.slot b ob q n hb hx
  · exact ⟨ob.slots,u.keep b ob q n hb hx⟩
theorem Un.kept (k:∀ b u,h.get? b=some u->h'.get? b=some u):Un fs ex H H h h' :=
  ⟨fun b ob q _ _ _=>k b ob q,fun b ob q _ _ _=>⟨ob.slots,k b ob q⟩,fun _ _ _ n _=>n,fun b ob q _=>⟨ob,k b ob q⟩,fun _ _ q=>q,fun _ _ _ q=>q,fun _ ps q=>⟨#[],by rw [q]; simp⟩⟩
theorem Un.refl:Un fs ex H H h h:=Un.kept fun _ _ q=>q
theorem Un.laid (k:∀ b u,h.get? b=some u->h'.get? b=some u) (hp:h.objs.size<=a) (hn:H a=none):Un fs ex H (upd H a o) h h' where
  keep:=fun b u q _ _ _=>k b u q
  slot:=fun b u q _ _ _=>⟨u.slots,k b u q⟩
  free:=fun b u q n _=>by rw [upd_ne (Nat.ne_of_lt (Nat.lt_of_lt_of_le (Heap.lt_size q) hp))]; exact n
  there:=fun b u q _=>⟨u,k b u q⟩
  tups:=fun b xs q=>by rw [upd_ne (ak q hn)]; exact q
  frzs:=fun b u xs q=>by rw [upd_ne (ak q hn)]; exact q
  tbls:=fun b ps q=>⟨#[],by rw [upd_ne (ak q hn),q]; simp⟩
theorem Un.write (mu:Ak (H x)) (he:e=x\/H e=some (.own x)) (k:∀ b u,b≠e->h.get? b=some u->h'.get? b=some u) (heo:∃ u,h'.get? e=some u):Un fs ex H (upd H x o) h h':=by
  have hx:∀ b,H b=none->b≠x:=fun b n z=>by subst z; rw [n] at mu; exact mu
  have hb:∀ b,H b=none->b≠e:=fun b n z=>by
    subst z
    rcases he with r | r
    · exact hx b n r
    · rw [n] at r; cases r
  have hm:∀ b u,H b=some u->¬ Ak (some u)->b≠x:=fun b u q nm z=>by subst z; rw [q] at mu; exact nm mu
  refine ⟨fun b u q n _ _=>k b u (hb b n) q,fun b u q n _ _=>⟨u.slots,k b u (hb b n) q⟩,fun b u q n _=>by rw [upd_ne (hx b n)]; exact n,fun b u q _=>?_,
    fun b xs q=>by rw [upd_ne (hm b _ q fun z=>z)]; exact q,fun b u xs q=>by rw [upd_ne (hm b _ q fun z=>z)]; exact q,fun b ps q=>⟨#[],by rw [upd_ne (hm b _ q fun z=>z),q]; simp⟩⟩
  by_cases hbe:b=e
  · subst hbe; exact heo
  · exact ⟨u,k b u hbe q⟩
end
noncomputable def Aa (h:Heap) (H:Hp):List Addr:=(List.range h.objs.size).filter fun a=>(H a).isSome
noncomputable def ja (h:Heap) (H:Hp):Heap:=PySem.W.hideAll h (Aa h H)
theorem yx (h:Heap) (H:Hp):(ja h H).objs.size=h.objs.size:=PySem.W.hideAll_size _ _
theorem zT {h:Heap} {H:Hp} {b:Addr} {o:Obj} (e:h.get? b=some o) (n:H b=none):(ja h H).get? b=some o :=
  PySem.W.hideAll_get _ e fun hm=>by
    have q:(H b).isSome=true:=(List.mem_filter.mp hm).2
    rw [n] at q; simp at q
theorem AX {h:Heap} {H:Hp} {b:Addr} {o:Obj} (e:(ja h H).get? b=some o):h.get? b=some o/\H b=none:=by
  have e':h.get? b=some o:=PySem.W.of_hideAll (Aa h H) e
  refine ⟨e',?_⟩
  cases q:H b with
  | none=>rfl
  | some x =>
    have hm:b∈Aa h H:=List.mem_filter.mpr ⟨List.mem_range.mpr (Heap.lt_size e'),by simp [q]⟩
    have z:(ja h H).get? b=none:=PySem.W.hideAll_none (Aa h H) hm
    rw [z] at e; cases e
noncomputable def AL (g h:Heap) (L:Addr):List (Addr × Obj):=(List.range h.objs.size).filterMap fun a=>if a=L\/(g.get? a).isSome=true then none else (h.get? a).map fun o=>(a,o)
noncomputable def rest (g h:Heap) (L d:Addr):List (Addr × Obj):=(AL g h L).filter fun p=>decide (p.1≠d)
end L2
namespace L2
open PySem PySem.Spec PyProof.Rows
structure Mod (K:PySem.W.Frag) (mg:Str->Option Value) (base:Heap):Prop where
  kin:K.In base
  glob:base.Ns mainGlobals mg
  blt:∃ mb,base.Ns builtinsNs mb/\∀ x:Str,x≠"__name__"->mb x=bootBuiltins x
  nolimit:base.NoLimit
structure Cx where
  prog:Program
  w:World
  K:PySem.W.Frag
  mg:Str->Option Value
  base:Heap
  A:Around
  N:List Str
  s₀:Shared
  H₀:Hp
  env:Env
  outer:List Env
  stack:List Env
  ex:List Addr
  fn:Str->Bool
  calm:Bool
  pn:List (Addr × Obj)
  xe:Value->Shared->Prop
noncomputable def iE (l:List Env):List Addr:=l.filterMap (·.frame)
noncomputable abbrev Cx.fs (X:Cx):List Addr:=iE X.outer
def Al (sc:Scope) (x:Str):Prop:=sc.names.lookup x=some .local\/sc.names.lookup x=some .cell\/sc.names.lookup x=some .free
def Loc (sc:Scope) (x:Str):Prop:=sc.names.lookup x=some .local\/sc.names.lookup x=some .cell
def Look (env:Env) (h:Heap) (m:Str->Option Value) (x:Str) (u:Value):Prop :=
  (env.kindOf x=some .local/\m x=some u)\/((env.kindOf x=some .cell\/env.kindOf x=some .free)/\∃ c,env.cells.lookup x=some c/\h.IsCell c (some u))
structure Cx.Ok (X:Cx):Prop where
  mod:Mod X.K X.mg X.base
  kind:X.env.scope.kind = .function
  glob:X.env.globals=mainGlobals
  blt:X.env.builtins=builtinsNs
  above:X.s₀.heap.objs.size<=X.env.locals
  inj:∀ x y c,X.env.cells.lookup x=some c->X.env.cells.lookup y=some c->x=y
  has:∀ x,(X.env.kindOf x=some .cell\/X.env.kindOf x=some .free)->∃ c,X.env.cells.lookup x=some c
  cab:∀ x c,X.fn x=true->X.env.cells.lookup x=some c->X.s₀.heap.objs.size<=c
  hd:X.calm=true->X.A.handled=none
  frames:X.A.frames=some X.stack
  stk:X.stack=X.outer\/(X.stack=X.env::X.outer/\X.env.frame=some X.env.locals)
  exf:∀ b∈X.ex,b≠X.env.locals/\∀ x c,X.env.cells.lookup x=some c->c≠b
  bs:∀ b o,X.base.get? b=some o->X.s₀.heap.get? b=some o/\X.H₀ b=none
  bsz:X.base.objs.size<=X.s₀.heap.objs.size
  noex:∀ b o,X.base.get? b=some o->b∉X.ex
  exfs:∀ b∈X.ex,b∉X.fs
  funs:X.s₀.heap.FunFrames X.base X.outer
  frf:∀ b∈X.fs,X.H₀ b=none
structure Inv (X:Cx) (pins:List (Addr × Obj)) (σ:List (Option V)) (H:Hp) (s:Shared):Prop where
  ok:X.Ok
  os:s.os=X.s₀.os
  bare:AllBare s.gens
  base:Un X.fs X.ex X.H₀ H X.s₀.heap s.heap
  loc:∃ m,s.heap.Ns X.env.locals m/\∀ (i:Nat) (x:Str) (v:V),X.N[i]? = some x->σ[i]? = some (some v)->Al X.env.scope x->∃ u,RelV v u/\Look X.env s.heap m x u
  cell:∀ x c,X.env.cells.lookup x=some c->∃ v,s.heap.IsCell c v
  free:H X.env.locals=none
  freeC:∀ x c,X.env.cells.lookup x=some c->H c=none
  pin:∀ p∈X.pn++pins,s.heap.get? p.1=some p.2/\H p.1=none/\p.1≠X.env.locals/\p.1∉X.fs/\∀ v,p.2.data≠.cell v
  hok:dj X.prog X.w H s.heap
  len:σ.length=X.N.length
section
variable {X:Cx} {pins:List (Addr × Obj)} {σ:List (Option V)} {H H':Hp} {s:Shared} {h':Heap}
theorem Cx.Ok.nofr (ok:X.Ok) {b:Addr} {o:Obj} (e:X.base.get? b=some o):b∉X.fs:=fun hb=>by
  have:=(ok.funs.mem hb).1
  rw [e] at this; cases this
theorem Inv.bs (I:Inv X pins σ H s):∀ b o,X.base.get? b=some o->s.heap.get? b=some o/\H b=none:=fun b o e =>
  ⟨I.base.keep b o (I.ok.bs b o e).1 (I.ok.bs b o e).2 (I.ok.nofr e) (I.ok.noex b o e),I.base.free b o (I.ok.bs b o e).1 (I.ok.bs b o e).2 (I.ok.noex b o e)⟩
theorem Inv.bk (I:Inv X pins σ H s):∀ b o,X.base.get? b=some o->s.heap.get? b=some o:=fun b o e=>(I.bs b o e).1
theorem Inv.mod (I:Inv X pins σ H s):Mod X.K X.mg X.base:=I.ok.mod
theorem Inv.kIn (I:Inv X pins σ H s):X.K.In s.heap:=I.ok.mod.kin.keeps I.bk
theorem Inv.fr (I:Inv X pins σ H s):∃ m,Fr X.base X.env.locals s.heap m :=
  let ⟨m,hn,_⟩:=I.loc
  ⟨m,hn,I.bk,Nat.le_trans I.ok.bsz I.ok.above⟩
theorem Inv.lt (I:Inv X pins σ H s):X.env.locals < s.heap.objs.size:=let ⟨_,hn,_⟩:=I.loc; hn.lt
theorem Inv.sz (I:Inv X pins σ H s):X.s₀.heap.objs.size<=s.heap.objs.size:=Nat.le_trans I.ok.above (Nat.le_of_lt I.lt)
theorem Inv.nofs (I:Inv X pins σ H s) {a:Addr} (h:s.heap.objs.size<=a):a∉X.fs:=fun hb=>by
  obtain ⟨_,o,ho,_⟩:=I.ok.funs.mem hb
  exact absurd (Nat.lt_of_lt_of_le (Heap.lt_size ho) (Nat.le_trans I.sz h)) (Nat.lt_irrefl _)
theorem Inv.cne (I:Inv X pins σ H s):∀ x c,X.env.cells.lookup x=some c->c≠X.env.locals:=fun x c e z=>by
  obtain ⟨v,o,ho,hd⟩:=I.cell x c e
  obtain ⟨m,⟨o',es,ep,ho',hd',_⟩,_⟩:=I.loc
  rw [z,ho'] at ho; cases ho; rw [hd'] at hd; cases hd
theorem Inv.funs (I:Inv X pins σ H s):s.heap.FunFrames X.base X.outer:=by
  have all:∀ (l:List Env),(∀ b∈iE l,b∈X.fs)->X.s₀.heap.FunFrames X.base l->s.heap.FunFrames X.base l:=by
    intro l
    induction l with
    | nil=>intro _ _; trivial
    | cons env r ih =>
      intro hs hl
      obtain ⟨hk,⟨L,o,hf,hn,ho,hd⟩,hr⟩:=hl
      have hL:L∈X.fs:=hs L (by unfold iE; rw [List.filterMap_cons,hf]; exact List.mem_cons_self)
      obtain ⟨sl,e⟩:=I.base.slot L o ho (I.ok.frf L hL) hL fun z=>I.ok.exfs L z hL
      exact ⟨hk,⟨L,_,hf,hn,e,hd⟩,ih (fun b hb=>hs b (by unfold iE; rw [List.filterMap_cons,hf]; exact List.mem_cons_of_mem _ hb)) hr⟩
  exact all X.outer (fun _ hb=>hb) I.ok.funs
theorem Inv.stack (I:Inv X pins σ H s):s.heap.FunFrames X.base X.stack:=by
  rcases I.ok.stk with e | ⟨e,hf⟩
  · rw [e]; exact I.funs
  · rw [e]
    obtain ⟨m,hn,_⟩:=I.loc
    refine .cons (by rw [I.ok.kind]; decide) hf hn ?_ I.funs
    exact Heap.get?_none_of_le (Nat.le_trans I.ok.bsz I.ok.above)
theorem Inv.stkSub (I:Inv X pins σ H s):∀ b∈iE X.stack,b∈X.env.locals::X.fs:=fun b hb=>by
  rcases I.ok.stk with e | ⟨e,hf⟩
  · rw [e] at hb; exact List.mem_cons_of_mem _ hb
  · rw [e] at hb
    unfold iE at hb
    rw [List.filterMap_cons,hf] at hb
    exact hb
theorem Inv.stkFree (I:Inv X pins σ H s):∀ b∈iE X.stack,H b=none:=fun b hb=>by
  rcases List.mem_cons.mp (I.stkSub b hb) with e | hb
  · rw [e]; exact I.free
  · obtain ⟨_,o,ho,_⟩:=I.ok.funs.mem hb
    exact I.base.free b o ho (I.ok.frf b hb) fun z=>I.ok.exfs b z hb
theorem Inv.step {g':Array GenState} {t':Nat} {d':Drawn} {ch:List Addr} (I:Inv X pins σ H s)
    (hch:∀ b∈ch,(b∈X.ex\/X.s₀.heap.objs.size<=b)/\b≠X.env.locals/\(∀ x c,X.env.cells.lookup x=some c->c≠b)/\∀ p∈X.pn++pins,p.1≠b)
    (keep:∀ b o,b≠X.env.locals->b∉X.fs->b∉ch->s.heap.get? b=some o->H b=none->h'.get? b=some o)
    (slot:∀ b o,b≠X.env.locals->b∈X.fs->b∉ch->s.heap.get? b=some o->H b=none->∃ sl,h'.get? b=some { o with slots:=sl }) (free:∀ b o,b∉ch->s.heap.get? b=some o->H b=none->H' b=none)
    (there:∀ b o,b∉ch->s.heap.get? b=some o->∃ o',h'.get? b=some o')
    (tups:∀ b xs,H b=some (.tup xs)->H' b=some (.tup xs)) (frzs:∀ b o u,H b=some (.frz o u)->H' b=some (.frz o u)) (tbls:∀ b ps,H b=some (.tbl ps)->∃ more,H' b=some (.tbl (ps++more)))
    (ns:∀ m,s.heap.Ns X.env.locals m->h'.Ns X.env.locals m) (hok:dj X.prog X.w H' h') (hg:AllBare g') :
    Inv X pins σ H' { s with heap:=h',gens:=g',drawn:=d',toks:=t' }:=by
  have neL:∀ b o,X.s₀.heap.get? b=some o->b≠X.env.locals:=fun b o e=>Nat.ne_of_lt (Nat.lt_of_lt_of_le (Heap.lt_size e) I.ok.above)
  have neC:∀ b o,X.s₀.heap.get? b=some o->b∉X.ex->b∉ch:=fun b o e hx hb=>by
    rcases (hch b hb).1 with z | z
    · exact hx z
    · exact absurd (Nat.lt_of_lt_of_le (Heap.lt_size e) z) (Nat.lt_irrefl _)
  have cellK:∀ x c,X.env.cells.lookup x=some c->∀ v,s.heap.IsCell c v->h'.IsCell c v:=fun x c e v ⟨o,ho,hd⟩=>by
    have nch:c∉ch:=fun z=>(hch c z).2.2.1 x c e rfl
    by_cases hc:c∈X.fs
    · obtain ⟨sl,q⟩:=slot c o (I.cne x c e) hc nch ho (I.freeC x c e)
      exact ⟨_,q,hd⟩
    · exact ⟨o,keep c o (I.cne x c e) hc nch ho (I.freeC x c e),hd⟩
  refine ⟨I.ok,I.os,hg,⟨fun b o e n hb hx=>?_,fun b o e n hb hx=>?_,fun b o e n hx=>?_,fun b o e hx=>?_,fun b xs e=>tups b xs (I.base.tups b xs e),fun b o xs e=>frzs b o xs (I.base.frzs b o xs e),fun b ps e=>?_⟩,?_,fun x c e=>?_,?_,fun x c e=>?_,fun p hp=>?_,hok,I.len⟩
  · exact keep b o (neL b o e) hb (neC b o e hx) (I.base.keep b o e n hb hx) (I.base.free b o e n hx)
  · obtain ⟨sl,e1⟩:=I.base.slot b o e n hb hx
    obtain ⟨sl',e2⟩:=slot b _ (neL b o e) hb (neC b o e hx) e1 (I.base.free b o e n hx)
    exact ⟨sl',e2⟩
  · obtain ⟨o',e1⟩:=I.base.there b o e hx
    exact free b o' (neC b o e hx) e1 (I.base.free b o e n hx)
  · obtain ⟨o',e1⟩:=I.base.there b o e hx
    exact there b o' (neC b o e hx) e1
  · obtain ⟨m1,e1⟩:=I.base.tbls b ps e
    obtain ⟨m2,e2⟩:=tbls b _ e1
    exact ⟨m1++m2,by rw [e2,Array.append_assoc]⟩
  · obtain ⟨m,hn,hl⟩:=I.loc
    refine ⟨m,ns m hn,fun i x v e1 e2 e3=>?_⟩
    obtain ⟨u,r,l⟩:=hl i x v e1 e2 e3
    refine ⟨u,r,?_⟩
    rcases l with l | ⟨k,c,e,z⟩
    · exact .inl l
    · exact .inr ⟨k,c,e,cellK x c e _ z⟩
  · obtain ⟨v,z⟩:=I.cell x c e
    exact ⟨v,cellK x c e v z⟩
  · obtain ⟨m,⟨o,_,_,ho,_⟩,_⟩:=I.loc
    exact free _ o (fun z=>(hch _ z).2.1 rfl) ho I.free
  · obtain ⟨v,o,ho,hd⟩:=I.cell x c e
    exact free c o (fun z=>(hch c z).2.2.1 x c e rfl) ho (I.freeC x c e)
  · obtain ⟨e,n,ne,nf,d⟩:=I.pin p hp
    have nch:p.1∉ch:=fun z=>(hch p.1 z).2.2.2 p hp rfl
    exact ⟨keep p.1 p.2 ne nf nch e n,free p.1 p.2 nch e n,ne,nf,d⟩
theorem Inv.un {t':Nat} (I:Inv X pins σ H s) (u:Un X.fs [] H H' s.heap h') (hok:dj X.prog X.w H' h'):Inv X pins σ H' { s with heap:=h',toks:=t' }:=by
  obtain ⟨m,⟨o,es,ep,ho,r⟩,_⟩:=id I.loc
  obtain ⟨sl,hL⟩:=u.any ho I.free (by simp)
  exact I.step (g':=s.gens) (d':=s.drawn) (ch:=[]) (fun _ z=>nomatch z) (fun b o _ hb _ e n=>u.keep b o e n hb (by simp)) (fun b o _ hb _ e n=>u.slot b o e n hb (by simp)) (fun b o _ e n=>u.free b o e n (by simp)) (fun b o _ e=>u.there b o e (by simp)) u.tups u.frzs u.tbls (fun m' hm=>by
    obtain ⟨o',es',ep',ho',r'⟩:=hm
    rw [ho] at ho'; cases ho'
    exact ⟨_,es',ep',hL,r'⟩) hok I.bare
theorem Inv.call {g':Array GenState} {t':Nat} {d':Drawn} {ch:List Addr} (I:Inv X pins σ H s) (u:Un (iE X.stack) ch H H' s.heap h') (hok:dj X.prog X.w H' h') (hg:AllBare g')
    (hch:∀ b∈ch,(b∈X.ex\/X.s₀.heap.objs.size<=b)/\b≠X.env.locals/\(∀ x c,X.env.cells.lookup x=some c->c≠b)/\∀ p∈X.pn++pins,p.1≠b) :
    Inv X pins σ H' { s with heap:=h',gens:=g',drawn:=d',toks:=t' }:=by
  obtain ⟨m,⟨o,es,ep,ho,r⟩,_⟩:=id I.loc
  obtain ⟨sl,hL⟩:=u.any ho I.free fun z=>(hch _ z).2.1 rfl
  exact I.step (ch:=ch) hch (fun b o hL hb hc e n=>u.keep b o e n (fun z=>(List.mem_cons.mp (I.stkSub b z)).elim hL hb) hc) (fun b o _ _ hc e n=>u.any e n hc) (fun b o hc e n=>u.free b o e n hc) (fun b o hc e=>u.there b o e hc) u.tups u.frzs u.tbls (fun m' hm=>by
    obtain ⟨o',es',ep',ho',r'⟩:=hm
    rw [ho] at ho'; cases ho'
    exact ⟨_,es',ep',hL,r'⟩) hok hg
theorem Inv.turned {t':Nat} {it:Addr} (I:Inv X pins σ H s) (k:∀ b o,b≠it->s.heap.get? b=some o->h'.get? b=some o) (hn:H it=none) (hL:it≠X.env.locals)
    (h1:it∈X.ex\/X.s₀.heap.objs.size<=it) (h2:∀ x c,X.env.cells.lookup x=some c->c≠it) (h3:∀ p∈X.pn++pins,p.1≠it):Inv X pins σ H { s with heap:=h',toks:=t' }:=by
  have nit:∀ b u,H b=some u->b≠it:=fun b u e z=>by rw [z,hn] at e; cases e
  refine I.step (g':=s.gens) (d':=s.drawn) (ch:=[it]) (fun b hb=>?_) (fun b o _ _ hc e _=>k b o (fun z=>hc (by simp [z])) e) (fun b o _ _ hc e _=>⟨o.slots,k b o (fun z=>hc (by simp [z])) e⟩) (fun _ _ _ _ n=>n)
    (fun b o hc e=>⟨o,k b o (fun z=>hc (by simp [z])) e⟩) (fun _ _ e=>e) (fun _ _ _ e=>e) (fun b ps e=>⟨#[],by rw [e]; simp⟩) (fun m hm=>?_) (fun b u e=>?_) I.bare
  · have e:b=it:=by simpa using hb
    subst e
    exact ⟨h1,hL,h2,h3⟩
  · obtain ⟨o,es,ep,ho,r⟩:=hm
    exact ⟨o,es,ep,k _ o (Ne.symm hL) ho,r⟩
  · refine (I.hok b u e).stay (fun c v hc q=>k c v ?_ q) (fun _ q=>q) fun _ _ q=>q
    rcases hc with z | z
    · rw [z]; exact nit b u e
    · exact nit c _ z
theorem Inv.tok (I:Inv X pins σ H s) (t:Nat):Inv X pins σ H { s with toks:=t }:=I.un (h':=s.heap) (t':=t) Un.refl I.hok
theorem Inv.kept {t':Nat} (I:Inv X pins σ H s) (k:∀ b u,s.heap.get? b=some u->h'.get? b=some u):Inv X pins σ H { s with heap:=h',toks:=t' }:=I.un (Un.kept k) (I.hok.kept k)
theorem Inv.laid {a:Addr} {o:HO} {t':Nat} (I:Inv X pins σ H s) (k:∀ b u,s.heap.get? b=some u->h'.get? b=some u) (hp:s.heap.objs.size<=a) (new:cw X.prog X.w (upd H a o) h' a o) :
    Inv X pins σ (upd H a o) { s with heap:=h',toks:=t' }:=I.un (Un.laid k hp (I.hok.fresh hp)) (I.hok.laid k hp new)
theorem Inv.write {x e:Addr} {o:HO} {t':Nat} (I:Inv X pins σ H s) (mu:Ak (H x)) (he:e=x\/H e=some (.own x)) (k:∀ b u,b≠e->s.heap.get? b=some u->h'.get? b=some u) (heo:∃ u,h'.get? e=some u)
    (new:cw X.prog X.w (upd H x o) h' x o):Inv X pins σ (upd H x o) { s with heap:=h',toks:=t' }:=I.un (Un.write mu he k heo) (I.hok.write mu he k heo new)
theorem Inv.weak {σ':List (Option V)} (I:Inv X pins σ H s) (hl:σ'.length=σ.length) (w:∀ (i:Nat) v,σ'[i]? = some (some v)->σ[i]? = some (some v)):Inv X pins σ' H s :=
  ⟨I.ok,I.os,I.bare,I.base,let ⟨m,hn,hl'⟩:=I.loc; ⟨m,hn,fun i x v e1 e2 e3=>hl' i x v e1 (w i v e2) e3⟩,I.cell,I.free,I.freeC,I.pin,I.hok,hl.trans I.len⟩
theorem Inv.pins_of {pins':List (Addr × Obj)} (I:Inv X pins σ H s) (h:∀ p∈pins',s.heap.get? p.1=some p.2/\H p.1=none/\p.1≠X.env.locals/\p.1∉X.fs/\∀ v,p.2.data≠.cell v):Inv X pins' σ H s :=
  ⟨I.ok,I.os,I.bare,I.base,I.loc,I.cell,I.free,I.freeC,fun p hp=>(List.mem_append.mp hp).elim (fun z=>I.pin p (List.mem_append_left _ z)) (h p),I.hok,I.len⟩
theorem rm {N:List Str} (hN:N.Nodup) {i j:Nat} {x:Str} (a:N[i]? = some x) (b:N[j]? = some x):i=j:=by
  obtain ⟨h1,e1⟩:=List.getElem?_eq_some_iff.mp a
  obtain ⟨h2,e2⟩:=List.getElem?_eq_some_iff.mp b
  exact (List.getElem_inj hN).mp (e1.trans e2.symm)
theorem pM {M:Model} {A:Around} {E:Value->Shared->Prop} {i:Nat} {x:Str} {v:V} {u:Value} {Q:Unit->Shared->Prop} (I:Inv X pins σ H s) (hN:X.N.Nodup) (hi:X.N[i]? = some x) (hx:Loc X.env.scope x) (r:RelV v u)
    (h:∀ s',Inv X pins (σ.set i (some v)) H s'->(∃ a,Heap.SameBut a s.heap s'.heap/\(a=X.env.locals\/X.env.cells.lookup x=some a))->Q () s') (hf:X.fn x=true\/X.env.scope.names.lookup x=some .local:=by first | exact .inl rfl | exact .inr rfl | assumption):wpAny M A (storeName X.env x u) Q E s:=by
  obtain ⟨m,hn,hl⟩:=id I.loc
  have hcls:(X.env.scope.kind == .class || (X.env.scope.kind == .module&&X.env.locals != X.env.globals))=false:=by rw [I.ok.kind]; rfl
  have hiσ:i < σ.length:=by rw [I.len]; exact (List.getElem?_eq_some_iff.mp hi).1
  have cne:=I.cne
  have tracked:∀ {a:Addr} {h':Heap},(∃ o,s.heap.get? a=some o/\H a=none)->Heap.SameBut a s.heap h'->dj X.prog X.w H h':=fun {a h'} ha hs b ob e=>by
    obtain ⟨_,_,hfree⟩:=ha
    refine (I.hok b ob e).stay (fun c w' hc q=>(hs.2 c ?_).trans q) (fun _ q=>q) fun _ _ q=>q
    rintro rfl
    rcases hc with rfl | hc
    · rw [hfree] at e; cases e
    · rw [hfree] at hc; cases hc
  rcases hx with hk | hk
  · refine wpAny_storeName_local hk hn (fun h' hn' hs=>?_) hcls
    obtain ⟨oL,_,_,hoL,_⟩:=id hn
    refine h _ ⟨I.ok,I.os,I.bare,⟨fun b o e n hb hx=>?_,fun b o e n hb hx=>?_,I.base.free,fun b o e hx=>?_,I.base.tups,I.base.frzs,I.base.tbls⟩,⟨_,hn',fun j y v' e1 e2 e3=>?_⟩,fun y c e=>?_,I.free,I.freeC,fun p hp=>?_,tracked ⟨oL,hoL,I.free⟩ hs,by simpa using I.len⟩ ⟨_,hs,.inl rfl⟩
    · exact (hs.2 b (Nat.ne_of_lt (Nat.lt_of_lt_of_le (Heap.lt_size e) I.ok.above))).trans (I.base.keep b o e n hb hx)
    · obtain ⟨sl,e1⟩:=I.base.slot b o e n hb hx
      exact ⟨sl,(hs.2 b (Nat.ne_of_lt (Nat.lt_of_lt_of_le (Heap.lt_size e) I.ok.above))).trans e1⟩
    · obtain ⟨o',e1⟩:=I.base.there b o e hx
      exact ⟨o',(hs.2 b (Nat.ne_of_lt (Nat.lt_of_lt_of_le (Heap.lt_size e) I.ok.above))).trans e1⟩
    · by_cases hj:j=i
      · subst hj
        rw [hi] at e1; cases e1
        rw [List.getElem?_set_self hiσ] at e2
        cases e2
        exact ⟨u,r,.inl ⟨hk,by simp⟩⟩
      · rw [List.getElem?_set_ne (Ne.symm hj)] at e2
        obtain ⟨u',r',q⟩:=hl j y v' e1 e2 e3
        refine ⟨u',r',?_⟩
        rcases q with ⟨k,e⟩ | ⟨k,c,e,z⟩
        · refine .inl ⟨k,?_⟩
          have:y≠x:=fun e=>hj (rm hN e1 (e▸hi))
          simp [this,e]
        · exact .inr ⟨k,c,e,z.sameBut hs (cne y c e)⟩
    · obtain ⟨w',z⟩:=I.cell y c e
      exact ⟨w',z.sameBut hs (cne y c e)⟩
    · obtain ⟨e,n,ne,nf,d⟩:=I.pin p hp
      exact ⟨(hs.2 p.1 ne).trans e,n,ne,nf,d⟩
  · have hfn:X.fn x=true:=by
      rcases hf with z | z
      · exact z
      · rw [z] at hk; cases hk
    obtain ⟨c,hc⟩:=I.ok.has x (.inl hk)
    obtain ⟨w',z⟩:=I.cell x c hc
    refine wpAny_storeName_cell I.ok.kind hk hc z (fun h' hc' hs=>?_)
    obtain ⟨oc,hoc,hocd⟩:=id z
    refine h { s with heap:=h' } ⟨I.ok,I.os,I.bare,⟨fun b o e n hb hx=>?_,fun b o e n hb hx=>?_,I.base.free,fun b o e hx=>?_,I.base.tups,I.base.frzs,I.base.tbls⟩,⟨m,hn.sameBut hs (Ne.symm (cne x c hc)),fun j y v' e1 e2 e3=>?_⟩,fun y c' e=>?_,I.free,I.freeC,fun p hp=>?_,tracked ⟨oc,hoc,I.freeC x c hc⟩ hs,by simpa using I.len⟩ ⟨c,hs,.inr hc⟩
    · exact (hs.2 b (Nat.ne_of_lt (Nat.lt_of_lt_of_le (Heap.lt_size e) (I.ok.cab x c hfn hc)))).trans (I.base.keep b o e n hb hx)
    · obtain ⟨sl,e1⟩:=I.base.slot b o e n hb hx
      exact ⟨sl,(hs.2 b (Nat.ne_of_lt (Nat.lt_of_lt_of_le (Heap.lt_size e) (I.ok.cab x c hfn hc)))).trans e1⟩
    · obtain ⟨o',e1⟩:=I.base.there b o e hx
      exact ⟨o',(hs.2 b (Nat.ne_of_lt (Nat.lt_of_lt_of_le (Heap.lt_size e) (I.ok.cab x c hfn hc)))).trans e1⟩
    · by_cases hj:j=i
      · subst hj
        rw [hi] at e1; cases e1
        rw [List.getElem?_set_self hiσ] at e2
        cases e2
        exact ⟨u,r,.inr ⟨.inl hk,c,hc,hc'⟩⟩
      · rw [List.getElem?_set_ne (Ne.symm hj)] at e2
        obtain ⟨u',r',q⟩:=hl j y v' e1 e2 e3
        refine ⟨u',r',?_⟩
        rcases q with q | ⟨k,c',e,z'⟩
        · exact .inl q
        · refine .inr ⟨k,c',e,z'.sameBut hs ?_⟩
          rintro rfl
          exact hj (rm hN e1 (I.ok.inj _ _ _ e hc▸hi))
    · by_cases hcc:c'=c
      · subst hcc; exact ⟨_,hc'⟩
      · obtain ⟨w2,z2⟩:=I.cell y c' e
        exact ⟨w2,z2.sameBut hs hcc⟩
    · obtain ⟨e,n,ne,nf,d⟩:=I.pin p hp
      refine ⟨(hs.2 p.1 ?_).trans e,n,ne,nf,d⟩
      intro q
      rw [q,hoc] at e
      have q':oc=p.2:=Option.some.inj e
      exact d w' (by rw [<- q']; exact hocd)
theorem mF {M:Model} {A:Around} {E:Value->Shared->Prop} {i:Nat} {x:Str} {v:V} {u:Value} {Q:Unit->Shared->Prop} (I:Inv X pins σ H s) (hN:X.N.Nodup) (hi:X.N[i]? = some x) (hx:Loc X.env.scope x) (r:RelV v u)
    (h:∀ s',Inv X pins (σ.set i (some v)) H s'->Q () s') (hf:X.fn x=true\/X.env.scope.names.lookup x=some .local:=by first | exact .inl rfl | exact .inr rfl | assumption):wpAny M A (storeName X.env x u) Q E s :=
  pM I hN hi hx r (fun s' I' _=>h s' I') hf
theorem Inv.call' {s':Shared} {ch:List Addr} (I:Inv X pins σ H s) (ho:s'.os=s.os) (u:Un (iE X.stack) ch H H' s.heap s'.heap) (hok:dj X.prog X.w H' s'.heap) (hg:AllBare s'.gens)
    (hch:∀ b∈ch,(b∈X.ex\/X.s₀.heap.objs.size<=b)/\b≠X.env.locals/\(∀ x c,X.env.cells.lookup x=some c->c≠b)/\∀ p∈X.pn++pins,p.1≠b):Inv X pins σ H' s':=by
  obtain ⟨h',g',d',t',o'⟩:=s'
  have e:o'=s.os:=ho
  subst e
  exact I.call (g':=g') (t':=t') (d':=d') u hok hg hch
end
noncomputable abbrev XK:=Value->Option Addr->Hp->Prop
noncomputable abbrev St:=List (Option V)
noncomputable abbrev VK:=V->Hp->Prop
noncomputable abbrev TE:=St->Hp->VK->Prop
noncomputable abbrev TT:=St->Hp->(Bool->Hp->Prop)->Prop
noncomputable abbrev TA:=St->Hp->(List V->Hp->Prop)->Prop
structure Ends where
  nx:St->Hp->Prop
  rt:VK
  bk:St->Hp->Prop:=fun _ _=>False
  ct:St->Hp->Prop:=fun _ _=>False
noncomputable abbrev TS:=Ends->St->Hp->Prop
def EP (X:Cx) (pins:List (Addr × Obj)) (σ:St) (Q:VK) (u:Value) (s':Shared):Prop:=∃ v H',Inv X pins σ H' s'/\RelV v u/\Q v H'
def TP (X:Cx) (pins:List (Addr × Obj)) (σ:St) (Q:Bool->Hp->Prop) (b:Bool) (s':Shared):Prop:=∃ H',Inv X pins σ H' s'/\Q b H'
def AP (X:Cx) (pins:List (Addr × Obj)) (σ:St) (Q:List V->Hp->Prop) (us:List Value) (s':Shared):Prop:=∃ vs H',Inv X pins σ H' s'/\Vals vs us/\Q vs H'
def SP (X:Cx) (pins:List (Addr × Obj)) (D:Ends) (f:Flow) (s':Shared):Prop :=
  match f with
  | .next=>∃ σ' H',Inv X pins σ' H' s'/\D.nx σ' H'
  | .brk=>∃ σ' H',Inv X pins σ' H' s'/\D.bk σ' H'
  | .cont=>∃ σ' H',Inv X pins σ' H' s'/\D.ct σ' H'
  | .ret u=>∃ v σ' H',Inv X pins σ' H' s'/\RelV v u/\D.rt v H'
def PE (X:Cx) (e:Expr) (t:TE):Prop :=
  ∀ (pins:List (Addr × Obj)) (s:Shared) (σ:St) (H:Hp) (Q:VK),Inv X pins σ H s->t σ H Q->wpAny (model X.prog X.w) X.A (eval e X.env) (EP X pins σ Q) X.xe s
def PT (X:Cx) (e:Expr) (t:TT):Prop :=
  ∀ (pins:List (Addr × Obj)) (s:Shared) (σ:St) (H:Hp) (Q:Bool->Hp->Prop),Inv X pins σ H s->t σ H Q->wpAny (model X.prog X.w) X.A (isTrue e X.env (eval e X.env)) (TP X pins σ Q) X.xe s
def PW (X:Cx) (e:Expr) (t:TT):Prop :=
  ∀ (whole:Sem Value) (pins:List (Addr × Obj)) (s:Shared) (σ:St) (H:Hp) (Q:Bool->Hp->Prop),Inv X pins σ H s->t σ H Q->wpAny (model X.prog X.w) X.A (isTrue e X.env whole) (TP X pins σ Q) X.xe s
theorem PW.pt {X:Cx} {e:Expr} {t:TT} (h:PW X e t):PT X e t:=h _
def PA (X:Cx) (es:List Expr) (t:TA):Prop :=
  ∀ (pos:Pos) (pins:List (Addr × Obj)) (s:Shared) (σ:St) (H:Hp) (Q:List V->Hp->Prop),Inv X pins σ H s->t σ H Q->wpAny (model X.prog X.w) X.A (spliced (backTo pos (starEach es X.env))) (AP X pins σ Q) X.xe s
def PS (X:Cx) (st:Stmt) (t:TS):Prop :=
  ∀ (pins:List (Addr × Obj)) (s:Shared) (σ:St) (H:Hp) (D:Ends),Inv X pins σ H s->t D σ H->wpAny (model X.prog X.w) X.A (exec st X.env) (SP X pins D) X.xe s
def gG (X:Cx) (st:List Stmt) (t:TS):Prop :=
  ∀ (pins:List (Addr × Obj)) (s:Shared) (σ:St) (H:Hp) (D:Ends),Inv X pins σ H s->t D σ H->wpAny (model X.prog X.w) X.A (execs st X.env) (SP X pins D) X.xe s
theorem aH {α:Type} {t:Sem α} {Q Q':α->Shared->Prop} {M:Model} {A:Around} {E:Value->Shared->Prop} {s:Shared} (h:wpAny M A t Q E s) (hQ:∀ a s,Q a s->Q' a s):wpAny M A t Q' E s:=wpAny_mono h hQ fun _ _ x=>x
end L2
namespace L2
open PySem PySem.Spec PyProof.Rows
section
variable {X:Cx}
theorem bin {a b:Expr} {ta tb:TE} (ha:PE X a ta) (hb:PE X b tb) {pins:List (Addr × Obj)} {s:Shared} {σ:St} {H:Hp} {R:V->V->Hp->Prop} (I:Inv X pins σ H s) (h:ta σ H fun x H1=>tb σ H1 fun y H2=>R x y H2)
    {α:Type} {Q:α->Shared->Prop} {f:Value->Value->Sem α}
    (hf:∀ v u s2 x y H2,Inv X pins σ H2 s2->RelV x v->RelV y u->R x y H2->wpAny (model X.prog X.w) X.A (f v u) Q X.xe s2) :
    wpAny (model X.prog X.w) X.A (eval a X.env) (fun v s₁=>wpAny (model X.prog X.w) X.A (eval b X.env) (fun u s₂=>wpAny (model X.prog X.w) X.A (f v u) Q X.xe s₂) X.xe s₁) X.xe s:=by
  refine aH (ha pins s σ H _ I h) fun v s1 ⟨x,H1,I1,r1,q1⟩=>?_
  refine aH (hb pins s1 σ H1 _ I1 q1) fun u s2 ⟨y,H2,I2,r2,q2⟩=>?_
  exact hf v u s2 x y H2 I2 r1 r2 q2
noncomputable def BG (i:Nat):TE:=fun σ H Q=>∃ v,σ[i]? = some (some v)/\Q v H
noncomputable def tC (v:V):TE:=fun _ H Q=>Q v H
theorem B4 {i:Nat} {x:Str} {pos:Pos} (hN:X.N[i]? = some x) (hv:Al X.env.scope x) (hd:(x == ("__debug__" : Str))=false:=by decide) (hcd:(x == ("__classdict__" : Str))=false:=by decide):PE X (.Name x pos) (BG i):=by
  intro pins s σ H Q I h
  obtain ⟨v,e,h⟩:=h
  obtain ⟨m,hn,hl⟩:=I.loc
  obtain ⟨u,r,l⟩:=hl i x v hN e hv
  have fin:EP X pins σ Q u s:=⟨v,H,I,r,h⟩
  rcases l with ⟨hk,hm⟩ | ⟨hk,c,hc,hcell⟩
  · exact wpAny_Name (wpAny_loadName_local I.ok.kind hk hn hm fin) hd
  · rcases hk with hk | hk
    · exact wpAny_Name (wpAny_loadName_cell I.ok.kind hk hc hcell fin) hd
    · exact wpAny_Name (wpAny_loadName_free I.ok.kind hk hc hcell fin hcd) hd
theorem aj {i j pos}:PE X (.Constant (.int i) j pos) (tC (.int i)):=fun _ _ _ H _ I h=>wpAny_Constant_int ⟨.int i,H,I.tok _,⟨_,rfl⟩,h⟩
theorem bX {b j pos}:PE X (.Constant (.bool b) j pos) (tC (.bl b)):=fun _ _ _ H _ I h=>Constant_bool ⟨.bl b,H,I,rfl,h⟩
theorem bh {x j pos}:PE X (.Constant (.str x) j pos) (tC (.str x)):=fun _ _ _ H _ I h=>Calls.Constant_str ⟨.str x,H,I.tok _,⟨_,rfl⟩,h⟩
def Gl (X:Cx) (x:Str):Prop:=X.env.kindOf x=some .globalImplicit
theorem om {E:Value->Shared->Prop} {pins:List (Addr × Obj)} {s:Shared} {σ:St} {H:Hp} {x:Str} {u:Value} {pos:Pos} {Q:Value->Shared->Prop} (I:Inv X pins σ H s) (hg:Gl X x) (hm:X.mg x=some u) (h:Q u s)
    (hd:(x == ("__debug__" : Str))=false:=by decide):wpAny (model X.prog X.w) X.A (eval (.Name x pos) X.env) Q E s :=
  Calls.Name_function_global I.ok.kind hg (Calls.loadGlobal_global (by rw [I.ok.glob]; exact I.mod.glob.keeps I.bk) hm h) hd
theorem cV {E:Value->Shared->Prop} {pins:List (Addr × Obj)} {s:Shared} {σ:St} {H:Hp} {x:Str} {u:Value} {pos:Pos} {Q:Value->Shared->Prop} (I:Inv X pins σ H s) (hg:Gl X x) (hm:X.mg x=none) (hv:bootBuiltins x=some u) (h:Q u s)
    (hn:x≠"__name__":=by decide) (hd:(x == ("__debug__" : Str))=false:=by decide):wpAny (model X.prog X.w) X.A (eval (.Name x pos) X.env) Q E s:=by
  obtain ⟨mb,h1,h2⟩:=I.mod.blt
  exact Calls.Name_function_global I.ok.kind hg (Calls.loadGlobal_builtin (by rw [I.ok.glob]; exact I.mod.glob.keeps I.bk) hm (by rw [I.ok.blt]; exact h1.keeps I.bk) ((h2 x hn).trans hv) h) hd
theorem gz {x:Str} {v:V} {u:Value} {pos:Pos} (hg:Gl X x) (hm:X.mg x=none) (hv:bootBuiltins x=some u) (r:RelV v u) (hn:x≠"__name__":=by decide) (hd:(x == ("__debug__" : Str))=false:=by decide):PE X (.Name x pos) (tC v) :=
  fun _ _ _ H _ I h=>cV I hg hm hv ⟨v,H,I,r,h⟩ hn hd
variable {a b:Expr} {ta tb:TE} {pos:Pos}
def PC (X:Cx) (op:CmpOp) (a b:Expr) (t:TE):Prop :=
  ∀ (pins:List (Addr × Obj)) (s:Shared) (σ:St) (H:Hp) (Q:VK),Inv X pins σ H s->t σ H Q ->
    wpAny (model X.prog X.w) X.A (eval a X.env) (fun v s₁=>wpAny (model X.prog X.w) X.A (eval b X.env) (fun u s₂=>wpAny (model X.prog X.w) X.A (compareOp op v u) (EP X pins σ Q) X.xe s₂) X.xe s₁) X.xe s
theorem yV (b:Expr) {op:CmpOp} (h:op≠.In) (h2:op≠.NotIn):behindInMarks op b=false:=by
  have e1:(op == CmpOp.In)=false:=by cases op<;>first | rfl | exact absurd rfl h
  have e2:(op == CmpOp.NotIn)=false:=by cases op<;>first | rfl | exact absurd rfl h2
  cases b<;>simp [behindInMarks,e1,e2]
noncomputable def tB (t:TE):TT:=fun σ H Q=>t σ H fun x H1=>∃ c,x = .bl c/\Q c H1
theorem Fx {op:CmpOp} {t:TE} (h:PC X op a b t) (h1:behindInMarks op b=false:=by first | exact yV _ (by decide) (by decide) | rfl):PT X (.Compare a [op] [b] pos) (tB t):=by
  intro pins s σ H Q I hw
  refine wpAny_isTrue_Compare1 (aH (h pins s σ H _ I hw) fun v s1 h1=>aH h1 fun u s2 h2=>aH h2 fun c s3 ⟨x,H1,I1,r1,q1⟩=>?_) h1
  obtain ⟨d,rfl,q⟩:=q1
  cases r1
  exact wpAny_truthy_bool ⟨H1,I1,q⟩
theorem bS {e:Expr} {t:TE} (h:PE X e t) (he:∀ whole,isTrue e X.env whole=(do let v <- whole; standAt e.pos; holding [v] (truthy v)):=by intro _; rfl):PT X e (tB t):=by
  intro pins s σ H Q I hw
  refine isTrue_plain (aH (h pins s σ H _ I hw) fun v s1 ⟨x,H1,I1,r1,q1⟩=>?_) (he _)
  obtain ⟨d,rfl,q⟩:=q1
  cases r1
  exact wpAny_truthy_bool ⟨H1,I1,q⟩
variable {tA tB':TT} {rest:List Expr}
noncomputable def Fd (t u:TT):TT:=fun σ H Q=>t σ H fun c H1=>if c=true then u σ H1 Q else Q false H1
noncomputable def Fv (t u:TT):TT:=fun σ H Q=>t σ H fun c H1=>if c=true then Q true H1 else u σ H1 Q
noncomputable def E2 (t:TT):TT:=fun σ H Q=>t σ H fun c H1=>Q (!c) H1
theorem vd (ha:PT X a tA):PW X (.BoolOp .And [a] pos) tA:=by
  intro wh pins s σ H Q I h
  refine isTrue_and (aH (ha pins s σ H Q I h) fun c s1 e=>?_)
  cases c with
  | true=>exact isTrue_and_nil e
  | false=>exact e
theorem dS (ha:PT X a tA):PW X (.BoolOp .Or [a] pos) tA:=by
  intro wh pins s σ H Q I h
  refine isTrue_or (aH (ha pins s σ H Q I h) fun c s1 e=>?_)
  cases c with
  | false=>exact isTrue_or_nil e
  | true=>exact e
theorem xZ (ha:PT X a tA) (hb:PW X (.BoolOp .And (b::rest) pos) tB'):PW X (.BoolOp .And (a::b::rest) pos) (Fd tA tB'):=by
  intro wh pins s σ H Q I h
  refine isTrue_and (aH (ha pins s σ H _ I h) fun c s1 ⟨H1,I1,q1⟩=>?_)
  cases c with
  | true=>exact hb wh pins s1 σ H1 Q I1 q1
  | false=>exact ⟨H1,I1,q1⟩
theorem dO (ha:PT X a tA) (hb:PW X (.BoolOp .Or (b::rest) pos) tB'):PW X (.BoolOp .Or (a::b::rest) pos) (Fv tA tB'):=by
  intro wh pins s σ H Q I h
  refine isTrue_or (aH (ha pins s σ H _ I h) fun c s1 ⟨H1,I1,q1⟩=>?_)
  cases c with
  | true=>exact ⟨H1,I1,q1⟩
  | false=>exact hb wh pins s1 σ H1 Q I1 q1
theorem bZ (ha:PT X a tA):PT X (.UnaryOp .Not a pos) (E2 tA):=by
  intro pins s σ H Q I h
  exact isTrue_not (ha pins s σ H (fun c H1=>Q (!c) H1) I h)
noncomputable def DP (ta tb:TE):TE:=fun σ H Q=>ta σ H fun x H1=>∃ c,x = .bl c/\if c=true then tb σ H1 Q else Q (.bl false) H1
noncomputable def ED (ta:TE):TE:=fun σ H Q=>ta σ H fun x H1=>∃ c,x = .bl c/\Q (.bl (!c)) H1
theorem nO {op} {t:TE} (h:PE X a t):PE X (.BoolOp op [a] pos) t:=fun pins s σ H Q I hw=>BoolOp_one (h pins s σ H Q I hw)
theorem jG (ha:PE X a ta) (hb:PE X (.BoolOp .And (b::rest) pos) tb):PE X (.BoolOp .And (a::b::rest) pos) (DP ta tb):=by
  intro pins s σ H Q I h
  refine BoolOp_and (aH (ha pins s σ H _ I h) fun v s1 ⟨x,H1,I1,r1,q1⟩=>?_)
  obtain ⟨c,rfl,q1⟩:=q1
  cases r1
  refine wpAny_truthy_bool ?_
  cases c with
  | true=>exact hb pins s1 σ H1 Q I1 q1
  | false=>exact ⟨.bl false,H1,I1,rfl,q1⟩
theorem yK (ha:PE X a ta):PE X (.UnaryOp .Not a pos) (ED ta):=by
  intro pins s σ H Q I h
  refine UnaryOp_ (aH (ha pins s σ H _ I h) fun v s1 ⟨x,H1,I1,r1,q1⟩=>?_)
  obtain ⟨c,rfl,q1⟩:=q1
  cases r1
  exact not_of (wpAny_truthy_bool ⟨.bl (!c),H1,I1,rfl,q1⟩)
noncomputable def Fs (t:TT) (ta tb:TE):TE:=fun σ H Q=>t σ H fun c H1=>if c=true then ta σ H1 Q else tb σ H1 Q
theorem y6 {c:Expr} (hc:PT X c tA) (ha:PE X a ta) (hb:PE X b tb):PE X (.IfExp c a b pos) (Fs tA ta tb):=by
  intro pins s σ H Q I h
  refine wpAny_IfExp (aH (hc pins s σ H _ I h) fun d s1 ⟨H1,I1,q1⟩=>?_)
  cases d with
  | true=>exact ha pins s1 σ H1 Q I1 q1
  | false=>exact hb pins s1 σ H1 Q I1 q1
end
end L2
namespace L2
open PySem PySem.Spec PyProof.Rows
def au (K:PySem.W.Frag) (H:Hp) (a:Addr) (xs:List V):Prop :=
  Rd H a (.lst xs) \/
    ∃ (o:Obj) (its:Array Value) (n:Nat),K.lookup a=some o/\o.cls = .type "list"/\o.dict=none/\o.data = .seq its n/\its.size<=sizeLine/\Vals xs its.toList
def aT (K:PySem.W.Frag) (H:Hp) (a:Addr) (xs:List V):Prop :=
  Rd H a (.tup xs) \/
    ∃ (o:Obj) (its:Array Value) (n:Nat),K.lookup a=some o/\o.cls = .type "tuple"/\o.data = .seq its n/\its.size<=sizeLine/\Vals xs its.toList
noncomputable def E5:Value->Option V
  | .none=>some .non
  | .bool b=>some (.bl b)
  | .int i _=>some (.int i)
  | .str x _=>some (.str x)
  | .bytes b _=>some (.byt b)
  | .float b _=>some (.flt b)
  | .ref a=>some (.ref a)
  | .type n=>some (.ty n)
  | _=>none
theorem RelV.abs {x:V} {u:Value} (r:RelV x u):E5 u=some x:=by
  cases x with
  | non=>cases r; rfl
  | bl _=>cases r; rfl
  | int _=>obtain ⟨t,rfl⟩:=r; rfl
  | str _=>obtain ⟨t,rfl⟩:=r; rfl
  | byt _=>obtain ⟨t,rfl⟩:=r; rfl
  | flt _=>obtain ⟨t,rfl⟩:=r; rfl
  | ref _=>cases r; rfl
  | ty _=>cases r; rfl
theorem RelV.inj {x y:V} {u:Value} (r:RelV x u) (q:RelV y u):x=y:=Option.some.inj (r.abs.symm.trans q.abs)
theorem Vals.inj:∀ {xs ys:List V} {us:List Value},Vals xs us->Vals ys us->xs=ys
  | _,_,_,.nil,.nil=>rfl
  | _,_,_,.cons r t,.cons r' t'=>by rw [r.inj r',Vals.inj t t']
section
variable {X:Cx} {pins:List (Addr × Obj)} {σ:St} {H:Hp} {s:Shared} {a:Addr} {xs ys:List V}
theorem au.of {K:PySem.W.Frag} (h:H a=some (.lst xs)):au K H a xs:=.inl (.inl h)
theorem aT.of {K:PySem.W.Frag} (h:H a=some (.tup xs)):aT K H a xs:=.inl (.inl h)
theorem Inv.list (I:Inv X pins σ H s) (h:au X.K H a xs):∃ its:List Value,Vals xs its/\PlainL s.heap a its.toArray/\xs.length<=sizeLine:=by
  rcases h with h | ⟨o,its,n,hk,hc,hd,hs,hz,r⟩
  · obtain ⟨z,its,n,r,e⟩:=h.ok I.hok
    exact ⟨its,r,⟨_,n,e,rfl,rfl,rfl⟩,z⟩
  · refine ⟨its.toList,r,⟨o,n,I.kIn a o hk,hc,hd,by simpa using hs⟩,?_⟩
    have e:=r.length
    simp only [Array.length_toList] at e
    lia
theorem Inv.tuple (I:Inv X pins σ H s) (h:aT X.K H a xs):∃ its:List Value,Vals xs its/\IsTup s.heap a its.toArray/\xs.length<=sizeLine:=by
  rcases h with h | ⟨o,its,n,hk,hc,hs,hz,r⟩
  · obtain ⟨z,its,r,p⟩:=h.ok I.hok
    exact ⟨its,r,p,z⟩
  · refine ⟨its.toList,r,⟨o,I.kIn a o hk,hc,n,by simpa using hs⟩,?_⟩
    have e:=r.length
    simp only [Array.length_toList] at e
    lia
theorem Inv.list_inj (I:Inv X pins σ H s) (h:au X.K H a xs) (h':au X.K H a ys):xs=ys:=by
  obtain ⟨its,r,⟨o,n,e,_,_,d⟩,_⟩:=I.list h
  obtain ⟨its',r',⟨o',n',e',_,_,d'⟩,_⟩:=I.list h'
  rw [e] at e'; cases e'
  rw [d] at d'
  injection d' with d1 _
  have:its=its':=by simpa using congrArg Array.toList d1
  subst this
  exact r.inj r'
end
noncomputable abbrev Cx.wish (X:Cx) (E:Value->Shared->Prop):Cx:={ X with xe:=E }
noncomputable abbrev Cx.nox (X:Cx):Cx:=X.wish fun _ _=>False
theorem Cx.Ok.wish {X:Cx} (ok:X.Ok) (E:Value->Shared->Prop):(X.wish E).Ok :=
  ⟨ok.mod,ok.kind,ok.glob,ok.blt,ok.above,ok.inj,ok.has,ok.cab,ok.hd,ok.frames,ok.stk,ok.exf,ok.bs,ok.bsz,ok.noex,ok.exfs,ok.funs,ok.frf⟩
theorem Cx.Ok.unwish {X:Cx} {E:Value->Shared->Prop} (ok:(X.wish E).Ok):X.Ok :=
  ⟨ok.mod,ok.kind,ok.glob,ok.blt,ok.above,ok.inj,ok.has,ok.cab,ok.hd,ok.frames,ok.stk,ok.exf,ok.bs,ok.bsz,ok.noex,ok.exfs,ok.funs,ok.frf⟩
section
variable {X:Cx} {pins:List (Addr × Obj)} {σ:St} {H:Hp} {s:Shared} {E:Value->Shared->Prop}
theorem Inv.wish (I:Inv X pins σ H s) (E:Value->Shared->Prop):Inv (X.wish E) pins σ H s:=⟨I.ok.wish E,I.os,I.bare,I.base,I.loc,I.cell,I.free,I.freeC,I.pin,I.hok,I.len⟩
theorem Inv.unwish (I:Inv (X.wish E) pins σ H s):Inv X pins σ H s:=⟨I.ok.unwish,I.os,I.bare,I.base,I.loc,I.cell,I.free,I.freeC,I.pin,I.hok,I.len⟩
theorem SP.unwish {D:Ends} {f:Flow} {s':Shared} (h:SP (X.wish E) pins D f s'):SP X pins D f s':=by
  cases f with
  | next=>obtain ⟨σ',H',I,q⟩:=h; exact ⟨σ',H',I.unwish,q⟩
  | brk=>obtain ⟨σ',H',I,q⟩:=h; exact ⟨σ',H',I.unwish,q⟩
  | cont=>obtain ⟨σ',H',I,q⟩:=h; exact ⟨σ',H',I.unwish,q⟩
  | ret u=>obtain ⟨v,σ',H',I,r,q⟩:=h; exact ⟨v,σ',H',I.unwish,r,q⟩
theorem gG.nox {st:List Stmt} {t:TS} (h:gG X.nox st t):gG X st t:=fun pins s σ H D I hw =>
  wpAny_mono (h pins s σ H D (I.wish _) hw) (fun _ _ q=>q.unwish) fun _ _ z=>False.elim z
end
section
variable {X:Cx} {st:Stmt} {rest:List Stmt} {t u:TS} {e:Expr} {te:TE} {pos:Pos}
noncomputable def EA:TS:=fun D σ H=>D.nx σ H
noncomputable def ER (t u:TS):TS:=fun D σ H=>t { D with nx:=u D } σ H
theorem aN:gG X [] EA:=fun _ _ σ H _ I h=>wpAny_execs_nil ⟨σ,H,I,h⟩
theorem ai (h1:PS X st t) (h2:gG X rest u):gG X (st::rest) (ER t u):=by
  intro pins s σ H D I h
  refine wpAny_execs_cons (aH (h1 pins s σ H { D with nx:=u D } I h) fun f s1 q=>?_)
  cases f with
  | next =>
    obtain ⟨σ',H',I',q⟩:=q
    exact h2 pins s1 σ' H' D I' q
  | ret v=>exact q
  | brk=>exact q
  | cont=>exact q
theorem ag (h1:PS X st t):gG X [st] t:=by
  intro pins s σ H D I h
  refine wpAny_execs_cons (aH (h1 pins s σ H D I h) fun f s1 q=>?_)
  cases f with
  | next=>exact wpAny_execs_nil q
  | ret v=>exact q
  | brk=>exact q
  | cont=>exact q
theorem Inv.quiet {pins:List (Addr × Obj)} {σ:St} {H:Hp} {s:Shared} (I:Inv X pins σ H s):interactive X.env=false:=by simp [interactive,I.ok.kind]
noncomputable def DT (te:TE):TS:=fun D σ H=>te σ H fun _ H1=>D.nx σ H1
theorem aI (he:PE X e te) (hs:swapsWith e none pos.line X.env=pure false:=by rfl):PS X (.Expr e pos) (DT te):=by
  intro pins s σ H D I h
  exact wpAny_Expr_any (aH (he pins s σ H _ I h) fun v s1 ⟨x,H1,I1,r1,q1⟩=>⟨σ,H1,I1,q1⟩) I.quiet hs
noncomputable def Fi (te:TE):TS:=fun D σ H=>te σ H D.rt
theorem av (he:PE X e te):PS X (.Return (some e) pos) (Fi te):=by
  intro pins s σ H D I h
  exact wpAny_Return_some (aH (he pins s σ H _ I h) fun v s1 ⟨x,H1,I1,r1,q1⟩=>⟨x,σ,H1,I1,r1,q1⟩)
noncomputable def EU (c:TT) (t u:TS):TS:=fun D σ H=>c σ H fun b H1=>if b=true then t D σ H1 else u D σ H1
theorem aV {c:Expr} {a b:List Stmt} {tc:TT} (hc:PT X c tc) (ha:gG X a t) (hb:gG X b u):PS X (.If c a b pos) (EU tc t u):=by
  intro pins s σ H D I h
  refine wpAny_If (aH (hc pins s σ H _ I h) fun d s1 ⟨H1,I1,q1⟩=>?_)
  cases d with
  | true=>exact ha pins s1 σ H1 D I1 q1
  | false=>exact hb pins s1 σ H1 D I1 q1
noncomputable def BV:TS:=fun _ _ _=>False
theorem gR:PS X st BV:=fun _ _ _ _ _ _ h=>h.elim
end
noncomputable abbrev TG:=V->St->Hp->(St->Hp->Prop)->Prop
noncomputable abbrev pC:=List V->St->Hp->(St->Hp->Prop)->Prop
def PG (X:Cx) (target:Expr) (t:TG):Prop :=
  ∀ (pins:List (Addr × Obj)) (s:Shared) (σ:St) (H:Hp) (v:V) (u:Value) (Q:St->Hp->Prop),Inv X pins σ H s->RelV v u->t v σ H Q ->
    wpAny (model X.prog X.w) X.A (assign target X.env u) (fun _ s'=>∃ σ' H',Inv X pins σ' H' s'/\Q σ' H') X.xe s
def yS (X:Cx) (ts:List Expr) (t:pC):Prop :=
  ∀ (pins:List (Addr × Obj)) (s:Shared) (σ:St) (H:Hp) (vs:List V) (us:List Value) (Q:St->Hp->Prop),Inv X pins σ H s->Vals vs us->t vs σ H Q ->
    wpAny (model X.prog X.w) X.A (assignInOrder ((assignEach ts X.env).map (·.2)) us) (fun _ s'=>∃ σ' H',Inv X pins σ' H' s'/\Q σ' H') X.xe s
noncomputable abbrev zf:=V->V->V->Hp->(Hp->Prop)->Prop
def fv (X:Cx) (t:zf):Prop :=
  ∀ (pins:List (Addr × Obj)) (s:Shared) (σ:St) (H:Hp) (o i v:V) (ov iv u:Value) (Q:Hp->Prop),Inv X pins σ H s->RelV o ov->RelV i iv->RelV v u->t o i v H Q ->
    wpAny (model X.prog X.w) X.A (setItem ov iv u) (fun _ s'=>∃ H',Inv X pins σ H' s'/\Q H') X.xe s
noncomputable abbrev z9:=V->V->Hp->VK->Prop
def BQ (X:Cx) (op:Operator) (t:z9):Prop :=
  ∀ (pins:List (Addr × Obj)) (s:Shared) (σ:St) (H:Hp) (x y:V) (v u:Value) (Q:VK),Inv X pins σ H s->RelV x v->RelV y u->t x y H Q ->
    wpAny (model X.prog X.w) X.A (inplaceOp op v u) (EP X pins σ Q) X.xe s
section
variable {X:Cx} {pos:Pos}
noncomputable def Ag (i:Nat):TG:=fun v σ H Q=>Q (σ.set i (some v)) H
theorem aO {i:Nat} {x:Str} (hN:X.N.Nodup) (hi:X.N[i]? = some x) (hx:Loc X.env.scope x) (hf:X.fn x=true\/X.env.scope.names.lookup x=some .local:=by first | exact .inl rfl | exact .inr rfl | assumption):PG X (.Name x pos) (Ag i):=by
  intro pins s σ H v u Q I r h
  exact wpAny_assign_Name (mF I hN hi hx r (fun s' I'=>⟨_,H,I',h⟩) hf)
noncomputable def Fb:pC:=fun vs σ H Q=>vs=[]/\Q σ H
noncomputable def Ea (t:TG) (u:pC):pC:=fun vs σ H Q=>∃ v r,vs=v::r/\t v σ H fun σ' H'=>u r σ' H' Q
theorem eD:yS X [] Fb:=by
  intro pins s σ H vs us Q I r h
  obtain ⟨e,h⟩:=h
  subst e
  cases r
  exact assignInOrder_nil ⟨σ,H,I,h⟩
theorem bQ {e:Expr} {es:List Expr} {t:TG} {u:pC} (h1:PG X e t) (h2:yS X es u)
    (hs:(assignEach (e::es) X.env).map (·.2)=assign e X.env::(assignEach es X.env).map (·.2):=by rfl):yS X (e::es) (Ea t u):=by
  intro pins s σ H vs us Q I r h
  obtain ⟨v,vr,e1,h⟩:=h
  subst e1
  cases r with
  | cons r rr =>
    rw [hs]
    refine assignInOrder_cons (aH (h1 pins s σ H _ _ _ I r h) fun _ s1 ⟨σ1,H1,I1,q1⟩=>?_)
    exact h2 pins s1 σ1 H1 _ _ Q I1 rr q1
noncomputable def Cr (K:PySem.W.Frag) (n:Nat) (t:pC):TG:=fun v σ H Q=>∃ a xs,v = .ref a/\aT K H a xs/\xs.length=n/\t xs σ H Q
theorem jA {es:List Expr} {k:Nat} {t:pC} {n:Nat} (hc:X.calm=true) (h:yS X es t)
    (hn:(assignEach es X.env).length=n:=by rfl) (hst:(assignEach es X.env).findIdx? (·.1)=none:=by rfl):PG X (.Tuple es k pos) (Cr X.K n t):=by
  intro pins s σ H v u Q I r hw
  obtain ⟨a,xs,e1,hq,hl,hw⟩:=hw
  subst e1
  cases r
  obtain ⟨its,rv,ht,hz⟩:=I.tuple hq
  refine assign_Tuple_tuple (I.ok.hd hc) ht (by simp [hn,<- hl,rv.length]) hst fun h' hx=>?_
  have I1:Inv X pins σ H { s with heap:=h' }:=I.kept (t':=s.toks) fun b o e=>hx b o (Nat.ne_of_lt (Heap.lt_size e)) e
  exact h pins _ σ H xs _ Q I1 (by simpa using rv) hw
noncomputable def E6 (to ti:TE) (t:zf):TG:=fun v σ H Q=>to σ H fun o H1=>ti σ H1 fun i H2=>t o i v H2 fun H3=>Q σ H3
theorem xC {o i:Expr} {to ti:TE} {t:zf} (ho:PE X o to) (hi:PE X i ti) (hs:fv X t)
    (ha:∀ v,assign (.Subscript o i pos) X.env v=(do
      let ov <- holding [v] (eval o X.env)
      let iv <- holding [v,ov] (eval i X.env)
      standAt pos
      holding [v,ov,iv] (setItem ov iv v)
      release [v,ov,iv] []):=by intro _; rfl):PG X (.Subscript o i pos) (E6 to ti t):=by
  intro pins s σ H v u Q I r h
  rw [ha]
  refine wpAny_bind (wpAny_holding (aH (ho pins s σ H _ I h) fun ov s1 ⟨x,H1,I1,r1,q1⟩=>?_))
  refine wpAny_bind (wpAny_holding (aH (hi pins s1 σ H1 _ I1 q1) fun iv s2 ⟨y,H2,I2,r2,q2⟩=>?_))
  refine wpAny_bind (wpAny_standAt (wpAny_bind (wpAny_holding (aH (hs pins s2 σ H2 x y v ov iv u _ I2 r1 r2 r q2) fun _ s3 ⟨H3,I3,q3⟩=>?_))))
  exact wpAny_release ⟨σ,H3,I3,q3⟩
noncomputable def Cz (te:TE) (g:TG):TS:=fun D σ H=>te σ H fun x H1=>g x σ H1 D.nx
theorem ye {tg e:Expr} {te:TE} {g:TG} (he:PE X e te) (hg:PG X tg g) (hs:swapsWithSole [tg] e pos.line X.env=pure false:=by rfl) (hw:swappedStores [tg] e X.env=pure none:=by rfl)
    (h1:(assignEach [tg] X.env).map (·.2)=[assign tg X.env]:=by rfl):PS X (.Assign [tg] e pos) (Cz te g):=by
  intro pins s σ H D I h
  refine wpAny_Assign_stores (aH (he pins s σ H _ I h) fun v s1 ⟨x,H1,I1,r1,q1⟩=>?_) hs hw
  rw [h1]
  exact aH (hg pins s1 σ H1 x v _ I1 r1 q1) fun _ s2 q=>q
theorem aB {i:Nat} {x:Str} {e:Expr} {te:TE} {pos':Pos} (hN:X.N.Nodup) (hi:X.N[i]? = some x) (hx:Loc X.env.scope x) (he:PE X e te) (hs:swapsWith e (some (.Name x pos')) pos.line X.env=pure false:=by rfl) (hf:X.fn x=true\/X.env.scope.names.lookup x=some .local:=by first | exact .inl rfl | exact .inr rfl | assumption) :
    PS X (.Assign [.Name x pos'] e pos) (Cz te (Ag i)):=by
  intro pins s σ H D I h
  refine wpAny_Assign_Name (aH (he pins s σ H _ I h) fun v s1 ⟨y,H1,I1,r1,q1⟩=>?_) hs
  exact mF I1 hN hi hx r1 (fun s2 I2=>⟨_,H1,I2,q1⟩) hf
noncomputable def EM (i:Nat) (te:TE) (ti:z9):TS:=fun D σ H=>∃ x,σ[i]? = some (some x)/\te σ H fun y H1=>ti x y H1 fun z H2=>D.nx (σ.set i (some z)) H2
theorem nH {i:Nat} {x:Str} {e:Expr} {te:TE} {op:Operator} {ti:z9} {pos':Pos} (hN:X.N.Nodup) (hi:X.N[i]? = some x) (hx:Loc X.env.scope x) (he:PE X e te) (ho:BQ X op ti) (hf:X.fn x=true\/X.env.scope.names.lookup x=some .local:=by first | exact .inl rfl | exact .inr rfl | assumption) :
    PS X (.AugAssign (.Name x pos') op e pos) (EM i te ti):=by
  intro pins s σ H D I h
  obtain ⟨v,e1,h⟩:=h
  obtain ⟨m,hn,hl⟩:=I.loc
  have vis:Al X.env.scope x:=by rcases hx with k | k; exact .inl k; exact .inr (.inl k)
  obtain ⟨u,r,l⟩:=hl i x v hi e1 vis
  refine wpAny_AugAssign_Name ?_
  have go:wpAny (model X.prog X.w) X.A (eval e X.env) (fun w s₂=>wpAny (model X.prog X.w) X.A (inplaceOp op u w) (fun r s₃=>wpAny (model X.prog X.w) X.A (storeName X.env x r) (fun _=>SP X pins D .next) X.xe s₃) X.xe s₂) X.xe s:=by
    refine aH (he pins s σ H _ I h) fun w s1 ⟨y,H1,I1,r1,q1⟩=>?_
    refine aH (ho pins s1 σ H1 v y u w _ I1 r r1 q1) fun z s2 ⟨zv,H2,I2,r2,q2⟩=>?_
    exact mF I2 hN hi hx r2 (fun s3 I3=>⟨_,H2,I3,q2⟩) hf
  rcases l with ⟨hk,hm⟩ | ⟨hk,c,hc,hcell⟩
  · exact wpAny_loadName_local I.ok.kind hk hn hm go
  · rcases hk with hk | hk
    · exact wpAny_loadName_cell I.ok.kind hk hc hcell go
    · rcases hx with k | k
      · have:X.env.scope.names.lookup x=some .free:=hk
        rw [k] at this; cases this
      · have:X.env.scope.names.lookup x=some .free:=hk
        rw [k] at this; cases this
noncomputable def EE (f:Int->Int->Int):z9:=fun x y H Q=>∃ i j,x = .int i/\y = .int j/\Q (.int (f i j)) H
theorem sR:BQ X .Add (EE fun i j=>i+j):=by
  intro pins s σ H x y v u Q I r1 r2 h
  obtain ⟨i,j,e1,e2,q⟩:=h
  subst e1; subst e2
  obtain ⟨t,rfl⟩:=r1
  obtain ⟨t',rfl⟩:=r2
  exact iadd_int ⟨.int _,H,I.tok _,⟨_,rfl⟩,q⟩
theorem CY:BQ X .Sub (EE fun i j=>i - j):=by
  intro pins s σ H x y v u Q I r1 r2 h
  obtain ⟨i,j,e1,e2,q⟩:=h
  subst e1; subst e2
  obtain ⟨t,rfl⟩:=r1
  obtain ⟨t',rfl⟩:=r2
  exact isub_int ⟨.int _,H,I.tok _,⟨_,rfl⟩,q⟩
end
section
variable {X:Cx} {pos:Pos}
noncomputable def Bj (c:TT) (tb:TS):TS:=fun D σ H=>∃ W:Nat->St->Hp->Prop,(∃ m,W m σ H)/\∀ m σ H,W m σ H ->
  c σ H fun b H1=>if b=true then ∃ N:St->Hp->Prop,(∀ σ' H',N σ' H'->∃ m',m' < m/\W m' σ' H')/\tb { D with nx:=N,ct:=N,bk:=D.nx } σ H1 else D.nx σ H1
theorem sU {c:Expr} {body:List Stmt} {tc:TT} {tb:TS} (hp:PassesOwn (model X.prog X.w) X.A X.env X.xe) (hc:PT X c tc) (hb:gG X body tb):PS X (.While c body [] pos) (Bj tc tb):=by
  intro pins s σ H D I h
  obtain ⟨W,⟨m0,w0⟩,turn⟩:=h
  refine wpAny_While (codeAny_whileLoop (fun n s'=>∃ σ' H',Inv X pins σ' H' s'/\W n σ' H') ?_ m0 ⟨σ,H,I,w0⟩)
  rintro n s1 ⟨σ1,H1,I1,w1⟩
  refine wpAny_passesOwn hp (aH (hc pins s1 σ1 H1 _ I1 (turn n σ1 H1 w1)) fun b s2 ⟨H2,I2,q2⟩=>?_)
  cases b with
  | true =>
    obtain ⟨N,hN,q2⟩:=q2
    rw [if_pos rfl]
    refine wpAny_passesOwn hp (aH (hb pins s2 σ1 H2 _ I2 q2) fun f s3 q3=>?_)
    cases f with
    | next =>
      obtain ⟨σ3,H3,I3,n3⟩:=q3
      obtain ⟨m',hm,w3⟩:=hN σ3 H3 n3
      exact ⟨m',hm,σ3,H3,I3,w3⟩
    | cont =>
      obtain ⟨σ3,H3,I3,n3⟩:=q3
      obtain ⟨m',hm,w3⟩:=hN σ3 H3 n3
      exact ⟨m',hm,σ3,H3,I3,w3⟩
    | brk=>exact q3
    | ret v=>exact q3
  | false =>
    rw [if_neg Bool.false_ne_true]
    exact wpAny_execs_nil ⟨σ1,H2,I2,q2⟩
end
structure It where
  go:Nat->Hp->Prop
  yld:Nat->Hp->V->Hp->Prop
  stop:Nat->Hp->Prop
def gP (X:Cx) (pins:List (Addr × Obj)) (H:Hp) (b:Addr):Prop :=
  H b=none/\b≠X.env.locals/\b∉X.fs/\(b∈X.ex\/X.s₀.heap.objs.size<=b)/\(∀ x c,X.env.cells.lookup x=some c->c≠b)/\∀ p∈X.pn++pins,p.1≠b
theorem Inv.fpOk {X:Cx} {pins:List (Addr × Obj)} {σ:St} {H H':Hp} {s:Shared} {b:Addr} (I:Inv X pins σ H s) (hb:s.heap.objs.size<=b) (hn:H' b=none):gP X pins H' b:=by
  refine ⟨hn,Nat.ne_of_gt (Nat.lt_of_lt_of_le I.lt hb),I.nofs hb,.inr (Nat.le_trans I.sz hb),fun x c e z=>?_,fun p hp z=>?_⟩
  · obtain ⟨v,q⟩:=I.cell x c e
    exact absurd (Nat.lt_of_lt_of_le q.lt (by rw [z]; exact hb)) (Nat.lt_irrefl _)
  · exact absurd (Nat.lt_of_lt_of_le (Heap.lt_size (I.pin p hp).1) (by rw [z]; exact hb)) (Nat.lt_irrefl _)
structure Turn (P:Program) (w:World) (K:PySem.W.Frag) (tg:Expr) (J:It) (fp:List Addr) (it:Addr) (tn:Nat->Heap->Prop):Prop where
  mem:it∈fp
  obj:∀ i h,tn i h->∀ b∈fp,∃ o,h.get? b=some o/\∀ v,o.data≠.cell v
  keep:∀ i h h',tn i h->(∀ b∈fp,∀ o,h.get? b=some o->h'.get? b=some o)->tn i h'
  item:∀ (X:Cx),X.prog=P->X.w=w->X.K=K->X.calm=true->∀ (i:Nat) (pins:List (Addr × Obj)) (s:Shared) (σ:St) (H:Hp) (E:Value->Shared->Prop),Inv X pins σ H s->(∀ b∈fp,gP X pins H b)->tn i s.heap->J.go i H ->
    wpAny (model P w) X.A (pyNext (.ref it)) (fun r s1=>∃ u,r=some u /\
      wpAny (model P w) X.A (letOwnedTupleGo tg (.ref it) u) (fun _ s2=>∃ x H',Inv X pins σ H' s2/\RelV x u/\J.yld i H x H'/\tn (i+1) s2.heap/\∀ b∈fp,H' b=none) E s1) E s
  done:∀ (X:Cx),X.prog=P->X.w=w->X.K=K->X.calm=true->∀ (i:Nat) (pins:List (Addr × Obj)) (s:Shared) (σ:St) (H:Hp) (E:Value->Shared->Prop),Inv X pins σ H s->(∀ b∈fp,gP X pins H b)->tn i s.heap->J.stop i H ->
    wpAny (model P w) X.A (pyNext (.ref it)) (fun r s1=>r=none/\Inv X pins σ H s1) E s
  self:∀ (A:Around) (i:Nat) (s:Shared) (Q:Value->Shared->Prop) (E:Value->Shared->Prop),tn i s.heap->Q (.ref it) s->wpAny (model P w) A (pyIter (.ref it)) Q E s
noncomputable abbrev TI:=St->Hp->(It->Hp->Prop)->Prop
def An (X:Cx) (pins:List (Addr × Obj)) (σ:St) (tg:Expr) (R:It->Hp->Prop) (itv:Value) (s2:Shared):Prop :=
  ∃ (it:Addr) (fp:List Addr) (tn:Nat->Heap->Prop) (J:It) (H':Hp),itv = .ref it/\Inv X pins σ H' s2/\Turn X.prog X.w X.K tg J fp it tn/\tn 0 s2.heap/\(∀ b∈fp,gP X pins H' b)/\R J H'
def PI (X:Cx) (tg iter:Expr) (wi:TI):Prop :=
  ∀ (pins:List (Addr × Obj)) (s:Shared) (σ:St) (H:Hp) (R:It->Hp->Prop),Inv X pins σ H s->wi σ H R ->
    wpAny (model X.prog X.w) X.A (eval iter X.env) (fun v s1=>wpAny (model X.prog X.w) X.A (pyIter v) (An X pins σ tg R) X.xe s1) X.xe s
theorem mU {M:Model} {A:Around} {E:Value->Shared->Prop} {s:Shared} {tg:Expr} {it:Addr} {u:Value} {o:Obj} {n:String} {vs:Array Value} {Q:Unit->Shared->Prop} (ho:s.heap.get? it=some o) (hc:o.cls = .type n) (hd:o.data = .fields vs)
    (hn:["enumerate","zip","dict_itemiterator","dict_reverseitemiterator","odict_iterator","itertools.zip_longest","itertools.pairwise"].contains n=false) (hQ:Q () s):wpAny M A (letOwnedTupleGo tg (.ref it) u) Q E s:=by
  unfold letOwnedTupleGo
  cases tg<;>first
    | exact wpAny_pure hQ
    | (cases u<;>first
        | exact wpAny_pure hQ
        | (refine wpAny_bind (wpAny_load ho ?_)
           rw [hc,hd]
           show wpAny M A (if (["enumerate","zip","dict_itemiterator","dict_reverseitemiterator","odict_iterator","itertools.zip_longest","itertools.pairwise"].contains n&&vs[0]? == some (rawInt _))=true then _ else _) Q E s
           rw [if_neg (by intro h; rw [hn,Bool.false_and] at h; cases h)]
           exact wpAny_pure hQ))
noncomputable def tT (K:PySem.W.Frag) (a:Addr):It :=
  ⟨fun i H=>∃ xs x,au K H a xs/\xs[i]? = some x,fun i H x H'=>H'=H/\∀ xs,au K H a xs->xs[i]? = some x,fun i H=>∃ xs,au K H a xs/\xs.length<=i⟩
noncomputable def pD (lo:Int) (n:Nat):It:=⟨fun i _=>i < n,fun i H x H'=>H'=H/\x = .int (lo+i),fun i _=>n<=i⟩
theorem yu {P:Program} {w:World} {K:PySem.W.Frag} {tg:Expr} (a it:Addr):Turn P w K tg (tT K a) [it] it (fun i h=>h.IsListIter it a i) where
  mem:=by simp
  obj:=fun i h st b hb=>by
    have e:b=it:=by simpa using hb
    subst e
    obtain ⟨o,e,c,d⟩:=st
    exact ⟨o,e,fun v z=>by rw [d] at z; cases z⟩
  keep:=fun i h h' st k=>st.at fun o e=>k it (by simp) o e
  item:=by
    intro X hP hw hK hc i pins s σ H E I hf st hg
    subst hP hw hK
    obtain ⟨xs,x,hq,hx⟩:=hg
    obtain ⟨its,rv,p,hz⟩:=I.list hq
    obtain ⟨u,hu,ru⟩:=rv.get hx
    obtain ⟨f0,f1,f2,f3,f4,f5⟩:=hf it (by simp)
    refine wpAny_pyNext_list_item st p.isList (x:=u) (by simpa using hu) fun h' st' sb=>?_
    have I1:Inv X pins σ H { s with heap:=h' }:=I.turned (t':=s.toks) (fun b o hb e=>(sb.2 b hb).trans e) f0 f1 f3 f4 f5
    obtain ⟨o,e,c,d⟩:=id st'
    exact ⟨u,rfl,mU (s:={ s with heap:=h' }) e c d (by decide) ⟨x,H,I1,ru,⟨rfl,fun ys hy=>by rw [I.list_inj hy hq]; exact hx⟩,st',fun b hb=>(hf b hb).1⟩⟩
  done:=by
    intro X hP hw hK hc i pins s σ H E I hf st hg
    subst hP hw hK
    obtain ⟨xs,hq,hx⟩:=hg
    obtain ⟨its,rv,p,hz⟩:=I.list hq
    obtain ⟨f0,f1,f2,f3,f4,f5⟩:=hf it (by simp)
    have hl:=rv.length
    exact wpAny_pyNext_list_end (I.ok.hd hc) st p.isList (by simp; lia) fun h' eb=>⟨rfl,I.turned (t':=s.toks) (fun b o hb e=>eb b o hb e) f0 f1 f3 f4 f5⟩
  self:=fun _ _ _ _ _ st h=>wpAny_pyIter_listiter st h
theorem wu {P:Program} {w:World} {K:PySem.W.Frag} {tg:Expr} (it:Addr) (lo:Int) (n:Nat):Turn P w K tg (pD lo n) [it] it (fun i h=>IsRangeIter h it (lo+(i:Nat)*1) ((n:Int) - (i:Nat)) 1) where
  mem:=by simp
  obj:=fun i h st b hb=>by
    have e:b=it:=by simpa using hb
    subst e
    exact ⟨_,st,fun v z=>by
      have z':Data.fields _=Data.cell v:=z
      cases z'⟩
  keep:=fun i h h' st k=>k it (by simp) _ st
  item:=by
    intro X hP hw hK hc i pins s σ H E I hf st hg
    subst hP hw hK
    obtain ⟨f0,f1,f2,f3,f4,f5⟩:=hf it (by simp)
    have W:=Walks.range (prog:=X.prog) (w:=X.w) (I.ok.hd hc) it lo 1 n
    refine W.item i s _ _ hg st fun v h' tk hv st' kk=>?_
    obtain ⟨t,rfl⟩:=hv
    have I1:Inv X pins σ H { s with heap:=h',toks:=tk }:=I.turned (fun b o hb e=>kk b o (by simpa using hb) e) f0 f1 f3 f4 f5
    refine ⟨_,rfl,mU (s:={ s with heap:=h',toks:=tk }) (n:="range_iterator") st' rfl rfl (by decide) ⟨.int (lo+i),H,I1,⟨t,?_⟩,⟨rfl,rfl⟩,st',fun b hb=>(hf b hb).1⟩⟩
    rw [Int.mul_one]
  done:=by
    intro X hP hw hK hc i pins s σ H E I hf st hg
    subst hP hw hK
    obtain ⟨f0,f1,f2,f3,f4,f5⟩:=hf it (by simp)
    exact wpAny_pyNext_range_end (I.ok.hd hc) st (by have:n<=i:=hg; lia) fun h' eb=>⟨rfl,I.turned (t':=s.toks) (fun b o hb e=>eb b o hb e) f0 f1 f3 f4 f5⟩
  self:=fun _ _ _ _ _ st h=>wpAny_pyIter_rangeiter st h
end L2
namespace L2
open PySem PySem.Spec PyProof.Rows
section
variable {X:Cx} {tg:Expr}
noncomputable def Ez (K:PySem.W.Frag) (tl:TE):TI:=fun σ H R=>tl σ H fun x H1=>∃ a,x = .ref a/\(∃ xs,au K H1 a xs)/\R (tT K a) H1
theorem cQ {l:Expr} {tl:TE} (hl:PE X l tl):PI X tg l (Ez X.K tl):=by
  intro pins s σ H R I h
  refine aH (hl pins s σ H _ I h) fun v s1 ⟨x,H1,I1,r1,q1⟩=>?_
  obtain ⟨a,e,⟨xs,hq⟩,q⟩:=q1
  subst e
  cases r1
  obtain ⟨its,rv,p,hz⟩:=I1.list hq
  refine wpAny_pyIter_list p.isList ?_
  refine ⟨s1.heap.objs.size,[s1.heap.objs.size],_,_,H1,rfl,I1.kept (t':=s1.toks) fun b o e=>Heap.get?_push_of_some _ e,yu a _,⟨_,Heap.get?_push_size _ rfl,rfl,rfl⟩,fun b hb=>?_,q⟩
  have e:b=s1.heap.objs.size:=by simpa using hb
  subst e
  exact I1.fpOk (Nat.le_refl _) (I1.hok.fresh (Nat.le_refl _))
theorem qV {pins:List (Addr × Obj)} {σ:St} {H:Hp} {s:Shared} {R:It->Hp->Prop} {E:Value->Shared->Prop} {lo hi:Int} {t u v:Tok} {tk:Nat} (I:Inv X pins σ H s) (h1 : -(2 ^ 62)<=lo) (h2:lo < 2 ^ 62) (h3 : -(2 ^ 62)<=hi) (h4:hi < 2 ^ 62)
    (q:R (pD lo (hi - lo).toNat) H):wpAny (model X.prog X.w) X.A (pyIter (.ref s.heap.objs.size)) (An X pins σ tg R) E { s with heap:=s.heap.push { cls:=.type "range",data:=.fields #[.int lo t,.int hi u,.int 1 v] },toks:=tk }:=by
  refine wpAny_pyIter_range (IsRange.new ..) (small_one h1 h2 h3 h4) ?_
  have I1:Inv X pins σ H { s with heap:=s.heap.push { cls:=.type "range",data:=.fields #[.int lo t,.int hi u,.int 1 v] },toks:=tk }:=I.kept fun b o e=>Heap.get?_push_of_some _ e
  refine ⟨(s.heap.push { cls:=.type "range",data:=.fields #[.int lo t,.int hi u,.int 1 v] }).objs.size,[(s.heap.push { cls:=.type "range",data:=.fields #[.int lo t,.int hi u,.int 1 v] }).objs.size],_,_,H,rfl,
    I1.kept (t':=tk) fun b o e=>Heap.get?_push_of_some _ e,wu _ lo (hi - lo).toNat,?_,fun b hb=>?_,q⟩
  · have e1:lo+((0:Nat):Int)*1=lo:=by simp
    have e2:(((hi - lo).toNat:Nat):Int) - ((0:Nat):Int)=Builtin.Range.rangeSize lo hi 1:=by rw [rangeSize_one]; split<;>lia
    show IsRangeIter _ _ (lo+((0:Nat):Int)*1) ((((hi - lo).toNat:Nat):Int) - ((0:Nat):Int)) 1
    rw [e1,e2]
    exact Heap.get?_push_size _ rfl
  · have e:b=(s.heap.push { cls:=.type "range",data:=.fields #[.int lo t,.int hi u,.int 1 v] }).objs.size:=by simpa using hb
    subst e
    exact I1.fpOk (Nat.le_refl _) (I1.hok.fresh (Nat.le_refl _))
noncomputable def EC (ta:TA):TI:=fun σ H R=>ta σ H fun vs H1=>∃ j:Int,vs=[.int j]/\-(2 ^ 62)<=j/\j < 2 ^ 62/\R (pD 0 j.toNat) H1
noncomputable def D5 (ta:TA):TI:=fun σ H R=>ta σ H fun vs H1=>∃ i j:Int,vs=[.int i,.int j]/\(-(2 ^ 62)<=i/\i < 2 ^ 62/\-(2 ^ 62)<=j/\j < 2 ^ 62)/\R (pD i (j - i).toNat) H1
theorem dJ {a:Expr} {ta:TA} {p pos:Pos} (hg:Gl X "range") (hm:X.mg "range" = none) (ha:PA X [a] ta) (hs:starEach [a] X.env=[(false,eval a X.env)]:=by rfl):PI X tg (.Call (.Name "range" p) [a] [] pos) (EC ta):=by
  intro pins s σ H R I h
  refine Call_ (cV I hg hm boot_range (PyProof.Rows.callWith_type1 (aH (ha pos pins s σ H _ I h) fun us s1 ⟨vs,H1,I1,r1,q1⟩=>?_) hs rfl))
  obtain ⟨j,e,q1,q2,q⟩:=q1
  subst e
  cases r1 with
  | cons r rr =>
    cases rr
    obtain ⟨t,rfl⟩:=r
    exact call_range_1 (qV I1 (by lia) (by lia) q1 q2 (by simpa using q))
theorem yd {a b:Expr} {ta:TA} {p pos:Pos} (hg:Gl X "range") (hm:X.mg "range" = none) (ha:PA X [a,b] ta) (hs:starEach [a,b] X.env=[(false,eval a X.env),(false,eval b X.env)]:=by rfl) (hs2:starEach [b] X.env=[(false,eval b X.env)]:=by rfl) :
    PI X tg (.Call (.Name "range" p) [a,b] [] pos) (D5 ta):=by
  intro pins s σ H R I h
  refine Call_ (cV I hg hm boot_range (PyProof.Rows.callWith_type1 (aH (ha pos pins s σ H _ I h) fun us s1 ⟨vs,H1,I1,r1,q1⟩=>?_) (by rw [hs,hs2]) (by rw [hs2]; rfl)))
  obtain ⟨i,j,e,⟨q1,q2,q3,q4⟩,q⟩:=q1
  subst e
  cases r1 with
  | cons r rr =>
    cases rr with
    | cons r' rr =>
      cases rr
      obtain ⟨t,rfl⟩:=r
      obtain ⟨t',rfl⟩:=r'
      exact call_range_2 (qV I1 q1 q2 q3 q4 q)
noncomputable def Fe (wi:TI) (g:TG) (tb:TS):TS:=fun D σ H=>wi σ H fun J H1=>∃ W:Nat->Nat->St->Hp->Prop,(∃ m,W 0 m σ H1)/\∀ i m σ H,W i m σ H ->
  (J.stop i H/\D.nx σ H)\/(J.go i H/\∃ N:St->Hp->Prop,(∀ σ' H',N σ' H'->∃ m',m' < m/\W (i+1) m' σ' H')/\∀ x H',J.yld i H x H'->g x σ H' fun σ2 H2=>tb { D with nx:=N,ct:=N,bk:=D.nx } σ2 H2)
noncomputable def jD (fp:List Addr) (h:Heap):List (Addr × Obj):=fp.filterMap fun b=>(h.get? b).map fun o=>(b,o)
theorem gj {fp:List Addr} {h:Heap} {b:Addr} {o:Obj} (hb:b∈fp) (e:h.get? b=some o):(b,o)∈jD fp h:=List.mem_filterMap.mpr ⟨b,hb,by rw [e]; rfl⟩
theorem xG {fp:List Addr} {h:Heap} {p:Addr × Obj} (hp:p∈jD fp h):p.1∈fp/\h.get? p.1=some p.2:=by
  obtain ⟨b,hb,e⟩:=List.mem_filterMap.mp hp
  cases q:h.get? b with
  | none=>rw [q] at e; cases e
  | some o =>
    rw [q] at e
    have e':(b,o)=p:=Option.some.inj e
    subst e'
    exact ⟨hb,q⟩
theorem Inv.pinned {pins:List (Addr × Obj)} {σ:St} {H:Hp} {s:Shared} {fp:List Addr} (I:Inv X pins σ H s) (hf:∀ b∈fp,gP X pins H b) (ho:∀ b∈fp,∃ o,s.heap.get? b=some o/\∀ v,o.data≠.cell v):Inv X (pins++jD fp s.heap) σ H s :=
  I.pins_of fun p hp=>(List.mem_append.mp hp).elim (fun z=>I.pin p (List.mem_append_right _ z)) fun z=>by
    obtain ⟨hb,e⟩:=xG z
    obtain ⟨f0,f1,f2,_⟩:=hf p.1 hb
    obtain ⟨o,e',d⟩:=ho p.1 hb
    rw [e] at e'; cases e'
    exact ⟨e,f0,f1,f2,d⟩
theorem Inv.unpinned {pins pl:List (Addr × Obj)} {σ:St} {H:Hp} {s:Shared} (I:Inv X (pins++pl) σ H s):Inv X pins σ H s:=I.pins_of fun p hp=>I.pin p (List.mem_append_right _ (List.mem_append_left _ hp))
theorem ck {iter:Expr} {body:List Stmt} {wi:TI} {g:TG} {tb:TS} {pos:Pos} (hp:PassesOwn (model X.prog X.w) X.A X.env X.xe) (hc:X.calm=true) (hi:PI X tg iter wi) (hg:PG X tg g) (hb:gG X body tb)
    (hs:∀ x,foldedSetIterable iter X.env x=pure x:=by intro _; rfl):PS X (.For tg iter body [] pos) (Fe wi g tb):=by
  intro pins s σ H D I h
  refine wpAny_For (aH (hi pins s σ H _ I h) fun v s1 h1=>aH h1 fun itv s2 h2=>?_) hs
  obtain ⟨it,fp,tn,J,H2,e,I2,T,st2,f2,W,⟨m0,w0⟩,turn⟩:=h2
  subst e
  -- what stays true of the iterator's objects through the loop
  have stat:∀ {H':Hp},(∀ b∈fp,H' b=none)->∀ b∈fp,gP X pins H' b:=fun hn b hb=>⟨hn b hb,(f2 b hb).2⟩
  refine codeAny_forLoop_any (fun n s'=>∃ i σ' H',Inv X pins σ' H' s'/\tn i s'.heap/\(∀ b∈fp,H' b=none)/\W i n σ' H') ?_ m0 ⟨0,σ,H2,I2,st2,fun b hb=>(f2 b hb).1,w0⟩
  rintro n s3 ⟨i,σ3,H3,I3,st3,fr3,w3⟩
  rcases turn i n σ3 H3 w3 with ⟨stop,qn⟩ | ⟨go,N,hN,step⟩
  · refine wpAny_passesOwn hp (aH (T.done X rfl rfl rfl hc i pins s3 σ3 H3 X.xe I3 (stat fr3) st3 stop) fun r s4 ⟨hr,I4⟩=>?_)
    subst hr
    exact wpAny_execs_nil ⟨σ3,H3,I4,qn⟩
  · refine wpAny_passesOwn hp (aH (T.item X rfl rfl rfl hc i pins s3 σ3 H3 X.xe I3 (stat fr3) st3 go) fun r s4 ⟨u,hr,h4⟩=>?_)
    subst hr
    refine wpAny_passesOwn hp (aH h4 fun _ s5 ⟨x,H5,I5,r5,y5,st5,fr5⟩=>?_)
    have I5':=I5.pinned (stat fr5) (T.obj _ _ st5)
    refine wpAny_passesOwn hp (aH (hg _ s5 σ3 H5 x u _ I5' r5 (step x H5 y5)) fun _ s6 ⟨σ6,H6,I6,q6⟩=>?_)
    refine wpAny_passesOwn hp (aH (hb _ s6 σ6 H6 _ I6 q6) fun f s7 q7=>?_)
    have again:∀ {σ7:St} {H7:Hp},Inv X (pins++jD fp s5.heap) σ7 H7 s7->N σ7 H7->∃ m,m < n/\∃ i σ' H',Inv X pins σ' H' s7/\tn i s7.heap/\(∀ b∈fp,H' b=none)/\W i m σ' H':=fun {σ7 H7} I7 n7=>by
      obtain ⟨m',hm,w7⟩:=hN σ7 H7 n7
      refine ⟨m',hm,i+1,σ7,H7,I7.unpinned,T.keep _ _ _ st5 fun b hb o e=>(I7.pin (b,o) (List.mem_append_right _ (List.mem_append_right _ (gj hb e)))).1,fun b hb=>?_,w7⟩
      obtain ⟨o,e,d⟩:=T.obj _ _ st5 b hb
      exact (I7.pin (b,o) (List.mem_append_right _ (List.mem_append_right _ (gj hb e)))).2.1
    cases f with
    | next=>obtain ⟨σ7,H7,I7,n7⟩:=q7; exact again I7 n7
    | cont=>obtain ⟨σ7,H7,I7,n7⟩:=q7; exact again I7 n7
    | brk=>obtain ⟨σ7,H7,I7,q7⟩:=q7; exact ⟨σ7,H7,I7.unpinned,q7⟩
    | ret v=>obtain ⟨x7,σ7,H7,I7,r7,q7⟩:=q7; exact ⟨x7,σ7,H7,I7.unpinned,r7,q7⟩
end
theorem gT {K:PySem.W.Frag} {a:Addr} {xs:List V} {g:TG} {tb:TS} {D:Ends} {σ:St} {H:Hp} (Pv:Nat->St->Hp->Prop) (h0:Pv 0 σ H) (hl:∀ i σ H,i<=xs.length->Pv i σ H->au K H a xs)
    (hs:∀ i x σ H,xs[i]? = some x->Pv i σ H->g x σ H fun σ2 H2=>tb { D with nx:=Pv (i+1),ct:=Pv (i+1),bk:=D.nx } σ2 H2) (hd:∀ σ H,Pv xs.length σ H->D.nx σ H) :
    ∃ W:Nat->Nat->St->Hp->Prop,(∃ m,W 0 m σ H)/\∀ i m σ H,W i m σ H ->
      ((tT K a).stop i H/\D.nx σ H)\/((tT K a).go i H/\∃ N:St->Hp->Prop,(∀ σ' H',N σ' H'->∃ m',m' < m/\W (i+1) m' σ' H')/\∀ x H',(tT K a).yld i H x H'->g x σ H' fun σ2 H2=>tb { D with nx:=N,ct:=N,bk:=D.nx } σ2 H2):=by
  refine ⟨fun i m σ H=>m=xs.length - i/\i<=xs.length/\Pv i σ H,⟨xs.length,by simp,Nat.zero_le _,h0⟩,?_⟩
  rintro i m σ H ⟨rfl,hi,p⟩
  have q:=hl i σ H hi p
  by_cases hlt:i < xs.length
  · refine .inr ⟨⟨xs,xs[i],q,by simp [hlt]⟩,Pv (i+1),fun σ' H' p'=>⟨xs.length - (i+1),by lia,rfl,hlt,p'⟩,fun x H' y=>?_⟩
    obtain ⟨e,y⟩:=y
    subst e
    exact hs i x σ _ (y xs q) p
  · have e:i=xs.length:=by lia
    subst e
    exact .inl ⟨⟨xs,q,Nat.le_refl _⟩,hd σ H p⟩
theorem d9 {lo:Int} {n:Nat} {g:TG} {tb:TS} {D:Ends} {σ:St} {H:Hp} (Pv:Nat->St->Hp->Prop) (h0:Pv 0 σ H)
    (hs:∀ i σ H,i < n->Pv i σ H->g (.int (lo+i)) σ H fun σ2 H2=>tb { D with nx:=Pv (i+1),ct:=Pv (i+1),bk:=D.nx } σ2 H2) (hd:∀ σ H,Pv n σ H->D.nx σ H) :
    ∃ W:Nat->Nat->St->Hp->Prop,(∃ m,W 0 m σ H)/\∀ i m σ H,W i m σ H ->
      ((pD lo n).stop i H/\D.nx σ H)\/((pD lo n).go i H/\∃ N:St->Hp->Prop,(∀ σ' H',N σ' H'->∃ m',m' < m/\W (i+1) m' σ' H')/\∀ x H',(pD lo n).yld i H x H'->g x σ H' fun σ2 H2=>tb { D with nx:=N,ct:=N,bk:=D.nx } σ2 H2):=by
  refine ⟨fun i m σ H=>m=n - i/\i<=n/\Pv i σ H,⟨n,by simp,Nat.zero_le _,h0⟩,?_⟩
  rintro i m σ H ⟨rfl,hi,p⟩
  by_cases hlt:i < n
  · refine .inr ⟨hlt,Pv (i+1),fun σ' H' p'=>⟨n - (i+1),by lia,rfl,hlt,p'⟩,fun x H' y=>?_⟩
    obtain ⟨e,y⟩:=y
    subst e y
    exact hs i σ _ hlt p
  · have e:i=n:=by lia
    subst e
    exact .inl ⟨Nat.le_refl _,hd σ H p⟩
end L2
namespace L2
open PySem PySem.Spec PyProof.Rows
noncomputable abbrev R2:=V->V->Hp->VK->Prop
def cp (X:Cx) (f:Value->Value->Sem Value) (r:R2):Prop :=
  ∀ (pins:List (Addr × Obj)) (s:Shared) (σ:St) (H:Hp) (x y:V) (v u:Value) (Q:VK),Inv X pins σ H s->RelV x v->RelV y u->r x y H Q ->
    wpAny (model X.prog X.w) X.A (f v u) (EP X pins σ Q) X.xe s
def C5 (X:Cx) (f:Value->Sem Value) (r:V->Hp->VK->Prop):Prop :=
  ∀ (pins:List (Addr × Obj)) (s:Shared) (σ:St) (H:Hp) (x:V) (v:Value) (Q:VK),Inv X pins σ H s->RelV x v->r x H Q ->
    wpAny (model X.prog X.w) X.A (f v) (EP X pins σ Q) X.xe s
def dY (X:Cx) (f:Value) (r:List V->Hp->VK->Prop):Prop :=
  ∀ (pins:List (Addr × Obj)) (s:Shared) (σ:St) (H:Hp) (xs:List V) (us:List Value) (Q:VK),Inv X pins σ H s->Vals xs us->r xs H Q ->
    wpAny (model X.prog X.w) X.A (call f us) (EP X pins σ Q) X.xe s
noncomputable def Ac (r:R2) (ta tb:TE):TE:=fun σ H Q=>ta σ H fun x H1=>tb σ H1 fun y H2=>r x y H2 Q
noncomputable def Fn (r:V->Hp->VK->Prop) (ta:TE):TE:=fun σ H Q=>ta σ H fun x H1=>r x H1 Q
noncomputable def rI (C:Int->Int->Prop) (g:Int->Int->V):R2:=fun x y H Q=>∃ i j,x = .int i/\y = .int j/\C i j/\Q (g i j) H
noncomputable def rT (g:Int->Int->V):R2:=fun x y H Q=>∃ i j,x = .int i/\y = .int j/\Q (g i j) H
noncomputable def rU (g:Int->V):V->Hp->VK->Prop:=fun x H Q=>∃ i,x = .int i/\Q (g i) H
section
variable {X:Cx} {a b c:Expr} {ta tb tc:TE} {pos:Pos}
theorem zm (ha:PE X a ta) (hb:PE X b tb) {pins:List (Addr × Obj)} {s:Shared} {σ:St} {H:Hp} {R:V->V->Hp->Prop} (I:Inv X pins σ H s)
    (h:ta σ H fun x H1=>tb σ H1 fun y H2=>R x y H2) {Q:Value->Shared->Prop} {f:Value->Value->Sem Value}
    (hf:∀ v u s2 x y H2,Inv X pins σ H2 s2->RelV x v->RelV y u->R x y H2->wpAny (model X.prog X.w) X.A (f v u) Q X.xe s2) :
    wpAny (model X.prog X.w) X.A (eval a X.env) (fun v s₁=>wpAny (model X.prog X.w) X.A (eval b X.env) (fun u s₂=>wpAny (model X.prog X.w) X.A (f v u) Q X.xe s₂) X.xe s₁) X.xe s:=by
  refine aH (ha pins s σ H _ I h) fun v s1 ⟨x,H1,I1,r1,q1⟩=>?_
  refine aH (hb pins s1 σ H1 _ I1 q1) fun u s2 ⟨y,H2,I2,r2,q2⟩=>?_
  exact hf v u s2 x y H2 I2 r1 r2 q2
theorem aD {op:Operator} {r:R2} (ho:cp X (binaryOp op) r) (ha:PE X a ta) (hb:PE X b tb):PE X (.BinOp a op b pos) (Ac r ta tb):=by
  intro pins s σ H Q I h
  exact wpAny_BinOp (zm ha hb I h fun v u s2 x y H2 I2 rx ry q=>ho pins s2 σ H2 x y v u Q I2 rx ry q)
theorem jc {op:UnaryOp} {r:V->Hp->VK->Prop} (ho:C5 X (unaryOp op) r) (ha:PE X a ta):PE X (.UnaryOp op a pos) (Fn r ta):=by
  intro pins s σ H Q I h
  exact UnaryOp_ (aH (ha pins s σ H _ I h) fun v s1 ⟨x,H1,I1,r1,q1⟩=>ho pins s1 σ H1 x v Q I1 r1 q1)
theorem Ab {f:Value->Value->Sem Value} {C:Int->Int->Prop} {g:Int->Int->Int}
    (rule:∀ (i j:Int) (t u:Tok) (s:Shared) (Q:Value->Shared->Prop) (E:Value->Shared->Prop),C i j->Q (.int (g i j) s.toks) { s with toks:=s.toks+1 }->wpAny (model X.prog X.w) X.A (f (.int i t) (.int j u)) Q E s) :
    cp X f (rI C fun i j=>.int (g i j)):=by
  intro pins s σ H x y v u Q I rx ry h
  obtain ⟨i,j,rfl,rfl,hc,q⟩:=h
  obtain ⟨t,rfl⟩:=rx
  obtain ⟨t',rfl⟩:=ry
  exact rule i j t t' s _ _ hc ⟨.int (g i j),H,I.tok _,⟨_,rfl⟩,q⟩
theorem C0 {f:Value->Value->Sem Value} {g:Int->Int->Int}
    (rule:∀ (i j:Int) (t u:Tok) (s:Shared) (Q:Value->Shared->Prop) (E:Value->Shared->Prop),Q (.int (g i j) s.toks) { s with toks:=s.toks+1 }->wpAny (model X.prog X.w) X.A (f (.int i t) (.int j u)) Q E s) :
    cp X f (rT fun i j=>.int (g i j)):=by
  intro pins s σ H x y v u Q I rx ry h
  obtain ⟨i,j,rfl,rfl,q⟩:=h
  obtain ⟨t,rfl⟩:=rx
  obtain ⟨t',rfl⟩:=ry
  exact rule i j t t' s _ _ ⟨.int (g i j),H,I.tok _,⟨_,rfl⟩,q⟩
theorem zP {f:Value->Value->Sem Value} {g:Int->Int->Bool}
    (rule:∀ (i j:Int) (t u:Tok) (s:Shared) (Q:Value->Shared->Prop) (E:Value->Shared->Prop),Q (.bool (g i j)) s->wpAny (model X.prog X.w) X.A (f (.int i t) (.int j u)) Q E s) :
    cp X f (rT fun i j=>.bl (g i j)):=by
  intro pins s σ H x y v u Q I rx ry h
  obtain ⟨i,j,rfl,rfl,q⟩:=h
  obtain ⟨t,rfl⟩:=rx
  obtain ⟨t',rfl⟩:=ry
  exact rule i j t t' s _ _ ⟨.bl (g i j),H,I,rfl,q⟩
def E7 (i j:Int):Prop:=0 < j/\j < 1073741824
def y0 (i j:Int):Prop:=(-(2 ^ 64) < i/\i < 2 ^ 64)\/(-(2 ^ 64) < j/\j < 2 ^ 64)
theorem y0.ok {i j:Int} (h:y0 i j):IntMulOk i j:=by
  rcases h with ⟨h1,h2⟩ | ⟨h1,h2⟩
  · exact .of_left (intBits_le_64 h1 h2)
  · exact .of_right (intBits_le_64 h1 h2)
theorem cj:cp X (binaryOp .Add) (rT fun i j=>.int (i+j)):=C0 fun _ _ _ _ _ _ _ q=>add_int q
theorem cG:cp X (binaryOp .Sub) (rT fun i j=>.int (i - j)):=C0 fun _ _ _ _ _ _ _ q=>sub_int q
theorem dF:cp X (binaryOp .Mult) (rI y0 fun i j=>.int (i*j)):=Ab fun _ _ _ _ _ _ _ hc q=>mul_int q hc.ok
theorem Fj:cp X (binaryOp .FloorDiv) (rI E7 fun i j=>.int (i / j)):=Ab fun i j _ _ _ _ _ hc q=>by
  have h1:(0:Int) < j:=hc.1
  have h2:j < 1073741824:=hc.2
  exact floordiv_int (by lia) (by rw [Int.fdiv_eq_ediv_of_nonneg i (by lia)]; exact q) (.inl (PyProof.noPylong_small (by lia)))
theorem cW:cp X (binaryOp .Mod) (rI (fun _ j=>0 < j) fun i j=>.int (i % j)):=Ab fun i j _ _ _ _ _ hc q=>by
  have h1:(0:Int) < j:=hc
  exact mod_int' (by lia) (by rw [Int.fmod_eq_emod_of_nonneg i (by lia)]; exact q)
theorem Fm {f:Value->Sem Value} {g:Int->Int}
    (rule:∀ (i:Int) (t:Tok) (s:Shared) (Q:Value->Shared->Prop) (E:Value->Shared->Prop),Q (.int (g i) s.toks) { s with toks:=s.toks+1 }->wpAny (model X.prog X.w) X.A (f (.int i t)) Q E s) :
    C5 X f (rU fun i=>.int (g i)):=by
  intro pins s σ H x v Q I rx h
  obtain ⟨i,rfl,q⟩:=h
  obtain ⟨t,rfl⟩:=rx
  exact rule i t s _ _ ⟨.int (g i),H,I.tok _,⟨_,rfl⟩,q⟩
theorem gU:C5 X (unaryOp .USub) (rU fun i=>.int (-i)):=Fm fun _ _ _ _ _ q=>neg_int q
end
noncomputable def CW:V->V->Bool
  | .non,.non=>true | .non,.int _=>true | .int _,.non=>true | .non,.bl _=>true | .bl _,.non=>true | .non,.str _=>true | .str _,.non=>true
  | .int _,.int _=>true | .bl _,.bl _=>true | .str _,.str _=>true | .byt _,.byt _=>true
  | .int _,.str _=>true | .str _,.int _=>true | .bl _,.str _=>true | .str _,.bl _=>true
  | _,_=>false
noncomputable def Ft:R2:=fun x y H Q=>CW x y=true/\Q (.bl (decide (x=y))) H
noncomputable def Fp:R2:=fun x y H Q=>CW x y=true/\Q (.bl (!decide (x=y))) H
theorem vz {i j:Int}:decide (V.int i=V.int j)=(i == j):=by
  rw [Bool.eq_iff_iff]
  simp
theorem yF {i j:Bool}:decide (V.bl i=V.bl j)=(i == j):=by
  rw [Bool.eq_iff_iff]
  simp
theorem vo {i j:Str}:decide (V.str i=V.str j)=(i == j):=by
  rw [Bool.eq_iff_iff]
  simp
theorem vy {i j:Array UInt8}:decide (V.byt i=V.byt j)=(i.toList == j.toList):=by
  rw [Bool.eq_iff_iff]
  cases i
  cases j
  simp
section
variable {X:Cx} {a b c:Expr} {ta tb tc:TE} {pos:Pos}
theorem bt {pins:List (Addr × Obj)} {σ:St} {H:Hp} {s:Shared} {Q:VK} {k k':Bool} (I:Inv X pins σ H s) (q:Q (.bl k) H) (e:k=k'):EP X pins σ Q (.bool k') s:=by
  subst e
  exact ⟨.bl k,H,I,rfl,q⟩
theorem cc:cp X (compareOp .Eq) Ft:=by
  intro pins s σ H x y v u Q I rx ry h
  obtain ⟨hs,q⟩:=h
  cases x with
  | non =>
    cases rx
    cases y with
    | non=>cases ry; exact PySem.EqNone.eq_none_none (bt I q (by simp))
    | bl j=>cases ry; exact PySem.EqNone.eq_none_bool (bt I q (by simp))
    | int j=>obtain ⟨t',rfl⟩:=ry; exact PySem.EqNone.eq_none_int (bt I q (by simp))
    | str j=>obtain ⟨t',rfl⟩:=ry; exact PySem.EqNone.eq_none_str (bt I q (by simp))
    | _=>exact absurd (show false=true from hs) Bool.false_ne_true
  | bl i =>
    cases rx
    cases y with
    | non=>cases ry; exact PySem.EqNone.eq_bool_none (bt I q (by simp))
    | bl j=>cases ry; exact eq_bool (bt I q yF)
    | str j=>obtain ⟨t',rfl⟩:=ry; exact PySem.EqMixed.eq_bool_str (bt I q (by simp))
    | _=>exact absurd (show false=true from hs) Bool.false_ne_true
  | int i =>
    obtain ⟨t,rfl⟩:=rx
    cases y with
    | non=>cases ry; exact PySem.EqNone.eq_int_none (bt I q (by simp))
    | int j=>obtain ⟨t',rfl⟩:=ry; exact eq_int (bt I q vz)
    | str j=>obtain ⟨t',rfl⟩:=ry; exact PySem.EqMixed.eq_int_str (bt I q (by simp))
    | _=>exact absurd (show false=true from hs) Bool.false_ne_true
  | str i =>
    obtain ⟨t,rfl⟩:=rx
    cases y with
    | non=>cases ry; exact PySem.EqNone.eq_str_none (bt I q (by simp))
    | bl j=>cases ry; exact PySem.EqMixed.eq_str_bool (bt I q (by simp))
    | int j=>obtain ⟨t',rfl⟩:=ry; exact PySem.EqMixed.eq_str_int (bt I q (by simp))
    | str j=>obtain ⟨t',rfl⟩:=ry; exact eq_str (bt I q vo)
    | _=>exact absurd (show false=true from hs) Bool.false_ne_true
  | byt i =>
    obtain ⟨t,rfl⟩:=rx
    cases y with
    | byt j=>obtain ⟨t',rfl⟩:=ry; exact PySem.W.eq_bytes (bt I q vy)
    | _=>exact absurd (show false=true from hs) Bool.false_ne_true
  | _=>cases y<;>exact absurd (show false=true from hs) Bool.false_ne_true
theorem gq:cp X (compareOp .NotEq) Fp:=by
  intro pins s σ H x y v u Q I rx ry h
  obtain ⟨hs,q⟩:=h
  cases x with
  | non =>
    cases rx
    cases y with
    | non=>cases ry; exact PySem.EqNone.ne_none_none (bt I q (by simp))
    | bl j=>cases ry; exact PySem.EqNone.ne_none_bool (bt I q (by simp))
    | int j=>obtain ⟨t',rfl⟩:=ry; exact PySem.EqNone.ne_none_int (bt I q (by simp))
    | str j=>obtain ⟨t',rfl⟩:=ry; exact PySem.EqNone.ne_none_str (bt I q (by simp))
    | _=>exact absurd (show false=true from hs) Bool.false_ne_true
  | bl i =>
    cases rx
    cases y with
    | non=>cases ry; exact PySem.EqNone.ne_bool_none (bt I q (by simp))
    | bl j=>cases ry; exact ne_bool (bt I q (congrArg not yF))
    | str j=>obtain ⟨t',rfl⟩:=ry; exact PySem.EqMixed.ne_bool_str (bt I q (by simp))
    | _=>exact absurd (show false=true from hs) Bool.false_ne_true
  | int i =>
    obtain ⟨t,rfl⟩:=rx
    cases y with
    | non=>cases ry; exact PySem.EqNone.ne_int_none (bt I q (by simp))
    | int j=>obtain ⟨t',rfl⟩:=ry; exact ne_int (bt I q (congrArg not vz))
    | str j=>obtain ⟨t',rfl⟩:=ry; exact PySem.EqMixed.ne_int_str (bt I q (by simp))
    | _=>exact absurd (show false=true from hs) Bool.false_ne_true
  | str i =>
    obtain ⟨t,rfl⟩:=rx
    cases y with
    | non=>cases ry; exact PySem.EqNone.ne_str_none (bt I q (by simp))
    | bl j=>cases ry; exact PySem.EqMixed.ne_str_bool (bt I q (by simp))
    | int j=>obtain ⟨t',rfl⟩:=ry; exact PySem.EqMixed.ne_str_int (bt I q (by simp))
    | str j=>obtain ⟨t',rfl⟩:=ry; exact ne_str (bt I q (congrArg not vo))
    | _=>exact absurd (show false=true from hs) Bool.false_ne_true
  | byt i =>
    obtain ⟨t,rfl⟩:=rx
    cases y with
    | byt j=>obtain ⟨t',rfl⟩:=ry; exact PySem.W.ne_bytes (bt I q (congrArg not vy))
    | _=>exact absurd (show false=true from hs) Bool.false_ne_true
  | _=>cases y<;>exact absurd (show false=true from hs) Bool.false_ne_true
theorem gi:cp X (compareOp .Lt) (rT fun i j=>.bl (decide (i < j))):=zP fun _ _ _ _ _ _ _ q=>lt_int q
theorem z0:cp X (compareOp .LtE) (rT fun i j=>.bl (decide (i<=j))):=zP fun _ _ _ _ _ _ _ q=>le_int q
theorem Am:cp X (compareOp .Gt) (rT fun i j=>.bl (decide (j < i))):=zP fun _ _ _ _ _ _ _ q=>gt_int q
theorem cp.or {f:Value->Value->Sem Value} {r r':R2} (h:cp X f r) (h':cp X f r'):cp X f (fun x y H Q=>r x y H Q\/r' x y H Q):=by
  intro pins s σ H x y v u Q I rx ry q
  rcases q with q | q
  · exact h pins s σ H x y v u Q I rx ry q
  · exact h' pins s σ H x y v u Q I rx ry q
theorem aF (b:Expr) {op:CmpOp} (h:op≠.In:=by decide) (h2:op≠.NotIn:=by decide):behindInMarks op b=false:=by
  have e1:(op == CmpOp.In)=false:=by cases op<;>first | rfl | exact absurd rfl h
  have e2:(op == CmpOp.NotIn)=false:=by cases op<;>first | rfl | exact absurd rfl h2
  cases b<;>simp [behindInMarks,e1,e2]
theorem dw {op:CmpOp} {r:R2} (ho:cp X (compareOp op) r) (ha:PE X a ta) (hb:PE X b tb) (hm:behindInMarks op b=false):PE X (.Compare a [op] [b] pos) (Ac r ta tb):=by
  intro pins s σ H Q I h
  exact wpAny_Compare1 (zm ha hb I h fun v u s2 x y H2 I2 rx ry q=>ho pins s2 σ H2 x y v u Q I2 rx ry q) hm
noncomputable def Ah (t:TE):TT:=fun σ H Q=>t σ H fun x H'=>∃ k,x = .bl k/\Q k H'
theorem aG {op:CmpOp} {r:R2} (ho:cp X (compareOp op) r) (ha:PE X a ta) (hb:PE X b tb) (hm:behindInMarks op b=false):PT X (.Compare a [op] [b] pos) (Ah (Ac r ta tb)):=by
  intro pins s σ H Q I h
  refine wpAny_isTrue_Compare1 (aH (ha pins s σ H _ I h) fun v s1 ⟨x,H1,I1,r1,q1⟩=>aH (hb pins s1 σ H1 _ I1 q1) fun u s2 ⟨y,H2,I2,r2,q2⟩ =>
    aH (ho pins s2 σ H2 x y v u _ I2 r1 r2 q2) fun c s3 ⟨z,H3,I3,r3,k,e,q3⟩=>?_) hm
  subst e
  cases r3
  exact wpAny_truthy_bool ⟨H3,I3,q3⟩
noncomputable def C7 (r r':R2) (ta tb tc:TE):TE:=fun σ H Q=>ta σ H fun x H1=>tb σ H1 fun y H2=>r x y H2 fun z H3=>∃ k,z = .bl k /\
  (if k=true then tc σ H3 fun w' H4=>r' y w' H4 Q else Q (.bl false) H3)
theorem zY {op op':CmpOp} {r r':R2} (ho:cp X (compareOp op) r) (ho':cp X (compareOp op') r') (ha:PE X a ta) (hb:PE X b tb) (hc:PE X c tc)
    (hm:lastMarks [op,op'] [b,c]=false:=by with_unfolding_all rfl):PE X (.Compare a [op,op'] [b,c] pos) (C7 r r' ta tb tc):=by
  intro pins s σ H Q I h
  refine Compare_chain (aH (ha pins s σ H _ I h) fun v s1 ⟨x,H1,I1,r1,q1⟩=>chain_link (aH (hb pins s1 σ H1 _ I1 q1) fun u s2 ⟨y,H2,I2,r2,q2⟩ =>
    aH (ho pins s2 σ H2 x y v u _ I2 r1 r2 q2) fun d s3 ⟨z,H3,I3,r3,k,e,q3⟩=>?_)) hm
  subst e
  cases r3
  refine wpAny_truthy_bool ?_
  cases k with
  | false=>exact ite_ff ⟨.bl false,H3,I3,rfl,q3⟩
  | true=>exact ite_tt (chain_last (aH (hc pins s3 σ H3 _ I3 q3) fun w' s4 ⟨z',H4,I4,r4,q4⟩=>ho' pins s4 σ H4 y z' u w' Q I4 r2 r4 q4))
theorem iL:(sizeLine:Nat) < 2 ^ 63:=by rw [sizeLine_eq]; decide
theorem xc:cp X (binaryOp .Add) (fun x y H Q=>∃ i j,x = .str i/\y = .str j/\i.length+j.length<=sizeLine/\Q (.str (i++j)) H):=by
  intro pins s σ H x y v u Q I rx ry h
  obtain ⟨i,j,rfl,rfl,hz,q⟩:=h
  obtain ⟨t,rfl⟩:=rx
  obtain ⟨t',rfl⟩:=ry
  exact add_str (fun t' tk=>⟨.str (i++j),H,I.tok _,⟨_,rfl⟩,q⟩) hz
theorem vals1 {x:V} {us:List Value} (r:Vals [x] us):∃ u,us=[u]/\RelV x u:=by
  cases r with
  | cons r1 r2=>cases r2; exact ⟨_,rfl,r1⟩
theorem vals2 {x y:V} {us:List Value} (r:Vals [x,y] us):∃ u w',us=[u,w']/\RelV x u/\RelV y w':=by
  cases r with
  | cons r1 r2 =>
    cases r2 with
    | cons r3 r4=>cases r4; exact ⟨_,_,rfl,r1,r3⟩
theorem pY (hc:X.calm=true):dY X (.builtin "max") (fun xs H Q=>∃ i j,xs=[.int i,.int j]/\Q (.int (if j > i then j else i)) H):=by
  intro pins s σ H xs us Q I r h
  obtain ⟨i,j,rfl,q⟩:=h
  obtain ⟨u,w',rfl,⟨t,rfl⟩,⟨t',rfl⟩⟩:=vals2 r
  refine max_two_ints (I.ok.hd hc) fun h' tk k=>⟨_,H,I.kept k,?_,q⟩
  by_cases hj:j > i
  · rw [if_pos hj,if_pos hj]; exact ⟨_,rfl⟩
  · rw [if_neg hj,if_neg hj]; exact ⟨_,rfl⟩
theorem xJ (hc:X.calm=true):dY X (.builtin "min") (fun xs H Q=>∃ i j,xs=[.int i,.int j]/\Q (.int (if j < i then j else i)) H):=by
  intro pins s σ H xs us Q I r h
  obtain ⟨i,j,rfl,q⟩:=h
  obtain ⟨u,w',rfl,⟨t,rfl⟩,⟨t',rfl⟩⟩:=vals2 r
  refine min_two_ints (I.ok.hd hc) fun h' tk k=>⟨_,H,I.kept k,?_,q⟩
  by_cases hj:j < i
  · rw [if_pos hj,if_pos hj]; exact ⟨_,rfl⟩
  · rw [if_neg hj,if_neg hj]; exact ⟨_,rfl⟩
theorem pO:dY X (.type "int") (fun xs H Q=>(∃ i,xs=[.int i]/\Q (.int i) H)\/∃ k,xs=[.bl k]/\Q (.int (if k then 1 else 0)) H):=by
  intro pins s σ H xs us Q I r h
  rcases h with ⟨i,rfl,q⟩ | ⟨k,rfl,q⟩
  · obtain ⟨u,rfl,t,rfl⟩:=vals1 r
    exact call_int_int ⟨.int i,H,I,⟨_,rfl⟩,q⟩
  · obtain ⟨u,rfl,r1⟩:=vals1 r
    cases r1
    exact call_int_bool ⟨.int (if k then 1 else 0),H,I.tok _,⟨_,rfl⟩,q⟩
end
end L2
namespace L2
open PySem PySem.Spec PyProof.Rows
structure oM (h:Heap) (x dx C:Addr) (mA:Str->Option Value):Prop where
  obj:h.get? x=some (PySem.W.instObj C dx)
  ns:h.Ns1 dx mA
  ne:dx≠x
theorem yv {h:Heap} {dx:Addr} {mA:Str->Option Value} (n:h.Ns1 dx mA):∃ od,h.get? dx=some od/\∀ name,PySem.W.lookIn name od=some (mA name):=by
  obtain ⟨o,es,ep,ho,hd,hk,_,hm⟩:=n
  refine ⟨o,ho,fun name=>?_⟩
  have e:=hm name
  unfold nsFind findBy at e
  rw [<- Array.find?_toList] at e
  unfold PySem.W.lookIn
  rw [hd]
  dsimp only
  split
  · rename_i y q
    rw [q] at e
    exact congrArg some e
  · rename_i q
    rw [q] at e
    have a:es.toList.any (·.refKey)=false:=by
      rw [List.any_eq_false]
      intro y hy
      obtain ⟨z,t,hkey⟩:=hk y (Array.mem_toList_iff.mp hy)
      simp [DictEntry.refKey,hkey]
    have a':¬ es.toList.any (·.refKey)=true:=by rw [a]; exact Bool.false_ne_true
    rw [if_neg a']
    exact congrArg some e
theorem oM.look {h:Heap} {x dx C:Addr} {mA:Str->Option Value} (I:oM h x dx C mA):∃ od,PySem.W.InstAt h x (PySem.W.instObj C dx) C (some od)/\∀ name,PySem.W.lookIn name od=some (mA name) :=
  let ⟨od,ho,hl⟩:=yv I.ns
  ⟨od,⟨I.obj,rfl,rfl,ho⟩,hl⟩
section
variable {prog:Program} {w:World} {A:Around} {E:Value->Shared->Prop} {s:Shared} {K:PySem.W.Frag} {x dx C f:Addr} {mA:Str->Option Value} {name:Str} {v:Value}
theorem zS {pl:Sem Bool} {Q:Value × List Value->Shared->Prop} (X:K.In s.heap) (I:oM s.heap x dx C mA) (hg:PySem.W.plainGet K C name=true)
    (hf:PySem.W.findIn K (.ref C) name=some (some (.ref f))) (ht:PySem.W.isFn K (.ref f)=true) (hv:mA name=none) (h:Q (.ref f,[.ref x]) s) :
    wpAny (model prog w) A (getMethod (.ref x) name pl) Q E s:=by
  obtain ⟨od,J,hl⟩:=I.look
  exact PySem.W.method_fn X J (PySem.W.plainGet_of hg).1 (PySem.W.plainGet_of hg).2 hf (beq_iff_eq.mp ht) (by show (PySem.W.lookIn name od).map (·.isSome)=some false; rw [hl,hv]; rfl) h
theorem AW {ns:List Str} {Q:Unit->Shared->Prop} (X:K.In s.heap) (I:oM s.heap x dx C mA)
    (hs:PySem.W.findIn K (.ref C) "__setattr__" = some (some (.builtin "object.__setattr__"))) (hp:PySem.W.plainOver K C=true) (ht:PySem.W.takerIn K C name=some none) (hh:PySem.W.hasDictIn K C=true)
    (hw:PySem.Within mA ns) (hsz:ns.length<=sizeLine)
    (h:∀ h',oM h' x dx C (fun y=>if y=name then some v else mA y)->Heap.SameBut dx s.heap h'->Q () { s with heap:=h',toks:=s.toks+2 }) :
    wpAny (model prog w) A (setAttr (.ref x) name v) Q E s:=by
  obtain ⟨od,J,hl⟩:=I.look
  refine PySem.W.set_plain X J hs (PySem.W.osa_open (s:={ s with toks:=s.toks+1 }) (r:=none) X J hp ht fun b=>?_)
  obtain ⟨cd,hc,hd'⟩:=PySem.W.any_some hh
  have hx:s.heap.get? x=some ⟨.ref C,some dx,.plain,#[]⟩:=I.obj
  refine wpAny_bind (wpAny_pure (wpAny_bind (wpAny_bind (wpAny_loadPart hx (wpAny_bind (PySem.W.Looks.here (s:={ s with toks:=s.toks+1 }) (PySem.W.looks_clsIn X hc) ?_))))))
  rw [hd']
  refine wpAny_pure (a:=some dx) (wpAny_bind (wpAny_pure (wpAny_bind ?_)))
  refine wpAny_nsSet1 (s:={ s with toks:=s.toks+1 }) I.ns fun h' hn2 hs2=>?_
  obtain ⟨oD,esD,epD,hoD,hdD,hcD⟩:=hn2.count (PySem.Within.cons name v hw)
  refine wpAny_bind (wpAny_lookBehind hoD (by rw [hdD]; exact pastItsLine_dict (Nat.le_trans hcD (by rw [List.length_cons]; lia))) ?_)
  exact wpAny_pure (h _ ⟨(hs2.2 _ (Ne.symm I.ne)).trans I.obj,hn2,I.ne⟩ hs2)
theorem zH {R:Result->Shared->Prop} {vs:List Value} {kw:List (Str × Value)} (X:K.In s.heap) (hm:PySem.W.makesIn K C=true)
    (hi:PySem.W.findIn K (.ref C) "__init__" = some (some (.ref f))) (hf:PySem.W.typeIn K (.ref f)=some (.type "function"))
    (h:codeAny (model prog w) (A.under (.builtin "type.__call__" ⟨.ref C::vs,kw⟩)) (.call (.ref f) ⟨.ref (s.heap.objs.size+1)::vs,kw⟩) (PySem.W.InitBack (s.heap.objs.size+1) R)
      { s with heap:=(s.heap.push PySem.W.emptyDict).push (PySem.W.instObj C s.heap.objs.size) }) :
    codeAny (model prog w) A (.call (.ref C) ⟨vs,kw⟩) R s:=by
  obtain ⟨hh,g,d,t,os⟩:=s
  exact PySem.W.make_core (PySem.W.makes_of X hm) (PySem.W.looks_findIn X hi) (fun self=>PySem.W.bind_fn X self hf) (.inl rfl) h
end
noncomputable def dz (f:Str) (v:V):List (Str × V)->List (Str × V)
  | []=>[(f,v)]
  | (g,x)::r=>if g=f then (g,v)::r else (g,x)::dz f v r
theorem cK (f g:Str) (v:V):∀ fs:List (Str × V),(dz f v fs).lookup g=if g=f then some v else fs.lookup g
  | []=>by
    show List.lookup g [(f,v)]=_
    by_cases h:g=f
    · have hb:(g == f)=true:=beq_iff_eq.mpr h
      simp only [List.lookup,hb,if_pos h]
    · have hb:(g == f)=false:=beq_eq_false_iff_ne.mpr h
      simp only [List.lookup,hb,if_neg h]
  | (k,x)::r=>by
    have ih:=cK f g v r
    rw [show dz f v ((k,x)::r)=(if k=f then (k,v)::r else (k,x)::dz f v r) from rfl]
    by_cases hk:k=f
    · rw [if_pos hk]
      by_cases h:g=k
      · have hb:(g == k)=true:=beq_iff_eq.mpr h
        simp only [List.lookup,hb,if_pos (h.trans hk)]
      · have hb:(g == k)=false:=beq_eq_false_iff_ne.mpr h
        simp only [List.lookup,hb,if_neg (fun e:g=f=>h (e.trans hk.symm))]
    · rw [if_neg hk]
      by_cases h:g=k
      · have hb:(g == k)=true:=beq_iff_eq.mpr h
        simp only [List.lookup,hb,if_neg (fun e:g=f=>hk (h.symm.trans e))]
      · have hb:(g == k)=false:=beq_eq_false_iff_ne.mpr h
        simp only [List.lookup,hb]
        exact ih
theorem jB (f:Str) (v:V):∀ fs:List (Str × V),f∈(dz f v fs).map (·.1)/\∀ g,g∈fs.map (·.1)->g∈(dz f v fs).map (·.1)
  | []=>⟨by simp [dz],fun g h=>by simp at h⟩
  | (k,x)::r=>by
    obtain ⟨i1,i2⟩:=jB f v r
    rw [show dz f v ((k,x)::r)=(if k=f then (k,v)::r else (k,x)::dz f v r) from rfl]
    by_cases hk:k=f
    · rw [if_pos hk]
      subst hk
      exact ⟨by simp,fun g h=>by simpa using h⟩
    · rw [if_neg hk]
      refine ⟨?_,fun g h=>?_⟩
      · rw [List.map_cons]
        exact List.mem_cons_of_mem _ i1
      · rw [List.map_cons] at h |-
        rcases List.mem_cons.mp h with e | e
        · exact List.mem_cons.mpr (.inl e)
        · exact List.mem_cons_of_mem _ (i2 g e)
theorem mw (f:Str) (v:V):∀ fs:List (Str × V),(dz f v fs).length<=fs.length+1
  | []=>by simp [dz]
  | (k,x)::r=>by
    have ih:=mw f v r
    rw [show dz f v ((k,x)::r)=(if k=f then (k,v)::r else (k,x)::dz f v r) from rfl]
    by_cases hk:k=f
    · rw [if_pos hk,List.length_cons,List.length_cons]; lia
    · rw [if_neg hk,List.length_cons,List.length_cons]; lia
theorem mJ.none_of {o:Option Value} (r:mJ none o):o=none:=by
  cases o with
  | none=>rfl
  | some u=>exact (show False from r).elim
section
variable {P:Program} {w:World} {H H':Hp} {h h':Heap} {a C dx:Addr} {fs fs':List (Str × V)}
theorem oU (hok:dj P w H h) (e:H a=some (.ins C dx fs)):∃ mA,oM h a dx C mA/\(∀ f,mJ (fs.lookup f) (mA f))/\PySem.Within mA (fs.map (·.1))/\fs.length<=1000/\H dx=some (.own a):=by
  obtain ⟨d,z,ne,ob,mA,n,r,q⟩:=(show cw P w H h a (.ins C dx fs) from hok a _ e)
  exact ⟨mA,⟨ob,n,ne⟩,r,q,z,d⟩
end
structure g8 (K:PySem.W.Frag) (C:Addr):Prop where
  pg:PySem.W.plainGet K C Str.empty=true
  hd:PySem.W.hasDictIn K C=true
  po:PySem.W.plainOver K C=true
  sa:PySem.W.findIn K (.ref C) "__setattr__" = some (some (.builtin "object.__setattr__"))
theorem g8.get {K:PySem.W.Frag} {C:Addr} (c:g8 K C) (f:Str):PySem.W.plainGet K C f=true:=c.pg
def cI (K:PySem.W.Frag) (C:Addr) (f:Str):Prop:=PySem.W.findIn K (.ref C) f=some none
theorem cI.taker {K:PySem.W.Frag} {C:Addr} {f:Str} (n:cI K C f):PySem.W.takerIn K C f=some none:=by
  unfold PySem.W.takerIn
  rw [show PySem.W.findIn K (.ref C) f=some none from n]
  rfl
structure Meth (K:PySem.W.Frag) (C:Addr) (m:Str) (f:Addr):Prop where
  at_:PySem.W.findIn K (.ref C) m=some (some (.ref f))
  fn:PySem.W.isFn K (.ref f)=true
  kp:PySem.W.keepIn K (.ref f)=true
section
variable {X:Cx} {pins:List (Addr × Obj)} {σ:St} {H:Hp} {s:Shared} {a C dx:Addr} {fs:List (Str × V)} {f:Str} {v:V} {A:Around} {E:Value->Shared->Prop}
theorem nv {m:Str} {g:Addr} {pl:Sem Bool} {Q:Value × List Value->Shared->Prop} (I:Inv X pins σ H s) (e:H a=some (.ins C dx fs)) (c:g8 X.K C) (k:Meth X.K C m g) (l:fs.lookup m=none)
    (h:Q (.ref g,[.ref a]) s):wpAny (model X.prog X.w) A (getMethod (.ref a) m pl) Q E s:=by
  obtain ⟨mA,O,r,_,_,_⟩:=oU I.hok e
  have hn:mA m=none:=mJ.none_of (by rw [<- l]; exact r m)
  exact zS I.kIn O (c.get m) k.at_ k.fn hn h
theorem wJ {y:V} {u:Value} {Q:Unit->Shared->Prop} (I:Inv X pins σ H s) (e:H a=some (.ins C dx fs)) (c:g8 X.K C) (n:cI X.K C f) (hl:fs.length < 1000) (ry:RelV y u)
    (h:∀ s',Inv X pins σ (upd H a (.ins C dx (dz f y fs))) s'->Q () s'):wpAny (model X.prog X.w) A (setAttr (.ref a) f u) Q E s:=by
  obtain ⟨mA,O,r,wi,_,ho⟩:=oU I.hok e
  have hz:(fs.map (·.1)).length<=sizeLine:=by rw [List.length_map,sizeLine_eq]; lia
  refine AW I.kIn O c.sa c.po n.taker c.hd wi hz fun h' O' sb=>h _ ?_
  have hd:∃ o,h'.get? dx=some o:=let ⟨o,_,_,e',_⟩:=O'.ns; ⟨o,e'⟩
  refine I.write (x:=a) (e:=dx) (by rw [e]; exact True.intro) (.inr ho) (fun b q hb z=>(sb.2 b hb).trans z) hd ?_
  refine ⟨by rw [upd_ne O.ne]; exact ho,?_,O.ne,O'.obj,_,O'.ns,fun g=>?_,fun g hg=>?_⟩
  · have:=mw f y fs; lia
  · show mJ ((dz f y fs).lookup g) (if g=f then some u else mA g)
    rw [cK]
    by_cases q:g=f
    · rw [if_pos q,if_pos q]; exact ry
    · rw [if_neg q,if_neg q]; exact r g
  · by_cases q:g=f
    · rw [q]; exact (jB f y fs).1
    · refine (jB f y fs).2 g (wi g fun z=>hg ?_)
      show (if g=f then some u else mA g)=none
      rw [if_neg q]; exact z
theorem Inv.made (I:Inv X pins σ H s):Inv X pins σ (upd (upd H s.heap.objs.size (.own (s.heap.objs.size+1))) (s.heap.objs.size+1) (.ins C s.heap.objs.size []))
    { s with heap:=(s.heap.push PySem.W.emptyDict).push (PySem.W.instObj C s.heap.objs.size) }:=by
  have e1:(s.heap.push PySem.W.emptyDict).get? s.heap.objs.size=some PySem.W.emptyDict:=Heap.get?_push_size s.heap rfl
  have e2:((s.heap.push PySem.W.emptyDict).push (PySem.W.instObj C s.heap.objs.size)).get? (s.heap.objs.size+1)=some (PySem.W.instObj C s.heap.objs.size):=by
    have:=Heap.get?_push_size (s.heap.push PySem.W.emptyDict) (o:=PySem.W.instObj C s.heap.objs.size) rfl
    rwa [Heap.size_push] at this
  have e3:(s.heap.push PySem.W.emptyDict).Ns s.heap.objs.size (fun _=>none):=⟨PySem.W.emptyDict,#[],_,e1,rfl,(fun e he=>absurd he (by simp)),fun _=>rfl⟩
  have I1:=I.laid (a:=s.heap.objs.size) (o:=.own (s.heap.objs.size+1)) (h':=s.heap.push PySem.W.emptyDict) (t':=s.toks) (fun b u q=>Heap.get?_push_of_some _ q) (Nat.le_refl _) ⟨_,e1⟩
  refine I1.laid (a:=s.heap.objs.size+1) (o:=.ins C s.heap.objs.size []) (t':=s.toks) (fun b u q=>Heap.get?_push_of_some _ q) (Nat.le_of_eq (Heap.size_push _ _)) ?_
  have ne:s.heap.objs.size≠s.heap.objs.size+1:=Nat.ne_of_lt (Nat.lt_succ_self _)
  refine ⟨by rw [upd_ne ne,upd_same],Nat.zero_le _,ne,e2,fun _=>none,(Heap.Ns1.of_empty e3).at fun o q=>Heap.get?_push_of_some _ q,fun _=>True.intro,fun y hy=>absurd rfl hy⟩
end
noncomputable def EV (K:PySem.W.Frag) (ta tv:TE) (f:Str):TS:=fun D σ H=>tv σ H fun y H1=>ta σ H1 fun x H2=>∃ a C dx fs,x = .ref a/\H2 a=some (.ins C dx fs)/\g8 K C/\cI K C f/\fs.length < 1000 /\
  D.nx σ (upd H2 a (.ins C dx (dz f y fs)))
section
variable {X:Cx} {o e value:Expr} {f:Str} {pos pos' tpos:Pos} {ta tv:TE}
theorem dX (ha:PE X o ta) (hv:PE X value tv) (hs:swapsWith value (some (.Attribute o f pos')) pos.line X.env=pure false):PS X (.Assign [.Attribute o f pos'] value pos) (EV X.K ta tv f):=by
  intro pins s σ H D I h
  refine plainObj_wpAny_Assign_Attribute (aH (hv pins s σ H _ I h) fun u s1 ⟨y,H1,I1,ry,q⟩=>aH (ha pins s1 σ H1 _ I1 q) fun ov s2 ⟨x,H2,I2,rx,a,C,dx,fs,ex,ea,c,n,l,q2⟩=>?_) hs
  subst ex
  obtain rfl:ov=Value.ref a:=rx
  exact wJ I2 ea c n l ry fun s3 I3=>⟨σ,_,I3,q2⟩
theorem DK {pl:Sem Bool} {m:Str} {apos:Pos} {args:List Expr} {pins:List (Addr × Obj)} {s:Shared} {σ:St} {H:Hp} {Q:Value->Shared->Prop} {te:TE} (he:PE X e te) (I:Inv X pins σ H s)
    (h:te σ H fun x H1=>∃ a C dx fs g,x = .ref a/\H1 a=some (.ins C dx fs)/\g8 X.K C/\Meth X.K C m g/\fs.lookup m=none /\
      ∀ s1,Inv X pins σ H1 s1->wpAny (model X.prog X.w) X.A (callWith pos (.ref g) [.ref a] (backTo pos (starEach args X.env)) (backToKw pos (keywordEach [] X.env))) Q X.xe s1)
    (ht:eval (.Call (.Attribute e m apos) args [] pos) X.env=(do
      let ov <- eval e X.env
      standAt apos.atName
      let (f,first) <- holding [ov] (getMethod ov m pl)
      callWith pos f first (backTo pos (starEach args X.env)) (backToKw pos (keywordEach [] X.env)))) :
    wpAny (model X.prog X.w) X.A (eval (.Call (.Attribute e m apos) args [] pos) X.env) Q X.xe s:=by
  refine PySem.W.methodCall_KW (pl:=pl) (aH (he pins s σ H _ I h) fun u s1 ⟨x,H1,I1,rx,a,C,dx,fs,g,ex,ea,c,k,l,q⟩=>?_) ht
  subst ex
  obtain rfl:u=Value.ref a:=rx
  exact nv I1 ea c k l (q s1 I1)
end
section
variable {X:Cx} {pins:List (Addr × Obj)} {σ:St} {H:Hp} {s:Shared} {A:Around} {E:Value->Shared->Prop} {Q:Value->Shared->Prop} {c:Value} {b:Bool}
inductive eW (K:PySem.W.Frag) (H:Hp):V->Value->Prop where
  | non:eW K H .non (.type "NoneType")
  | bl (x:Bool):eW K H (.bl x) (.type "bool")
  | int (i:Int):eW K H (.int i) (.type "int")
  | str (x:Str):eW K H (.str x) (.type "str")
  | flt (x:UInt64):eW K H (.flt x) (.type "float")
  | lst {a:Addr} {xs:List V} (e:H a=some (.lst xs)):eW K H (.ref a) (.type "list")
  | frz {a:Addr} {o:Obj} {xs:List V} (e:H a=some (.frz o (.lst xs))):eW K H (.ref a) (.type "list")
  | tup {a:Addr} {xs:List V} (e:H a=some (.tup xs)):eW K H (.ref a) (.type "tuple")
  | dK {a:Addr} {kvs:List (Key × V)} (e:H a=some (.dK kvs)):eW K H (.ref a) (.type "dict")
  | dT {a:Addr} {kvs:List (List Key × V)} (e:H a=some (.dT kvs)):eW K H (.ref a) (.type "dict")
  | ins {a C dx:Addr} {fs:List (Str × V)} (e:H a=some (.ins C dx fs)) (cl:g8 K C) (ha:PySem.W.findIn K (.ref C) "__class__" = some (some (.builtin "object.__class__")))
      (hn:PySem.W.specialIn K (.builtin "object.__class__") "__get__" = some (some (.builtin "getset_descriptor.__get__"))) (htk:PySem.W.takesIn K (.builtin "object.__class__")=some true)
      (hm:PySem.W.mroIn K C (.type "object")=some true):eW K H (.ref a) (.ref C)
theorem xF {x:V} {u t:Value} (I:Inv X pins σ H s) (rx:RelV x u) (ty:eW X.K H x t) (e:PySem.W.kitOne X.K t c=some b) (h:∀ tk,Q (.bool b) { s with toks:=tk }) :
    wpAny (model X.prog X.w) A (call (.builtin "isinstance") [u,c]) Q E s:=by
  cases ty with
  | non=>cases (show u=Value.none from rx); exact PySem.W.kia_one PySem.W.kitx_none I.kIn True.intro e (fun z=>nomatch z) h
  | bl y=>cases (show u=Value.bool y from rx); exact PySem.W.kia_one PySem.W.kitx_bool I.kIn True.intro e (fun z=>nomatch z) h
  | int i=>obtain ⟨t,q⟩:=(show ∃ t,u=Value.int i t from rx); cases q; exact PySem.W.kia_one PySem.W.kitx_int I.kIn True.intro e (fun z=>nomatch z) h
  | str y=>obtain ⟨t,q⟩:=(show ∃ t,u=Value.str y t from rx); cases q; exact PySem.W.kia_one PySem.W.kitx_str I.kIn True.intro e (fun z=>nomatch z) h
  | flt y=>obtain ⟨t,q⟩:=(show ∃ t,u=Value.float y t from rx); cases q; exact PySem.W.kia_one PySem.W.kitx_float I.kIn True.intro e (fun z=>nomatch z) h
  | @lst a xs ea =>
    cases (show u=Value.ref a from rx)
    obtain ⟨_,_,n,_,h1⟩:=(show cw X.prog X.w H s.heap a (.lst xs) from I.hok a _ ea)
    exact PySem.W.kia_one PySem.W.kitx_list I.kIn ⟨_,h1,rfl⟩ e (fun z=>nomatch z) h
  | @frz a ob xs ea =>
    cases (show u=Value.ref a from rx)
    obtain ⟨_,_,_,n,_,h1⟩:=(show cw X.prog X.w H s.heap a (.frz ob (.lst xs)) from I.hok a _ ea)
    exact PySem.W.kia_one PySem.W.kitx_list I.kIn ⟨_,h1,rfl⟩ e (fun z=>nomatch z) h
  | @tup a xs ea =>
    cases (show u=Value.ref a from rx)
    obtain ⟨_,_,_,p⟩:=(show cw X.prog X.w H s.heap a (.tup xs) from I.hok a _ ea)
    obtain ⟨o,h1,h2,_⟩:=p
    exact PySem.W.kia_one PySem.W.kitx_tuple I.kIn ⟨o,h1,h2⟩ e (fun z=>nomatch z) h
  | @dK a kvs ea =>
    cases (show u=Value.ref a from rx)
    obtain ⟨_,_,vs,_,p⟩:=(show cw X.prog X.w H s.heap a (.dK kvs) from I.hok a _ ea)
    obtain ⟨o,es,ep,h1,h2,_⟩:=p
    exact PySem.W.kia_one PySem.W.kitx_dict I.kIn ⟨o,h1,h2.1⟩ e (fun z=>nomatch z) h
  | @dT a kvs ea =>
    cases (show u=Value.ref a from rx)
    obtain ⟨_,_,xs,_,o,es,ep,h1,h2,_⟩:=(show cw X.prog X.w H s.heap a (.dT kvs) from I.hok a _ ea)
    exact PySem.W.kia_one PySem.W.kitx_dict I.kIn ⟨o,h1,h2.1⟩ e (fun z=>nomatch z) h
  | @ins a C dx fs ea cl ha hn htk hm =>
    cases (show u=Value.ref a from rx)
    obtain ⟨mA,O,_⟩:=oU I.hok ea
    obtain ⟨od,J,_⟩:=O.look
    exact PySem.W.kia_one (PySem.W.kitx_own (cl.get _) cl.hd ha hn htk hm) I.kIn J e (fun z=>nomatch z) h
end
end L2
namespace L2
open PySem PySem.Spec PyProof.Rows
structure bV (k:Nat) (A:Around):Prop where
  hd:A.handled=none
  dp:A.depth+3*k+5 < recursionLimit
  un:A.units+16*k+200 < cLine
theorem bV.mono {j k:Nat} {A:Around} (r:bV k A) (h:j<=k):bV j A:=⟨r.hd,by have:=r.dp; lia,by have:=r.un; lia⟩
theorem bV.deeper {k:Nat} {A:Around} (r:bV (k+1) A) (env:Env):bV k (A.deeper env) :=
  ⟨r.hd,by have:=r.dp; show A.depth+1+3*k+5 < _; lia,by have:=r.un; show A.units+3+16*k+200 < _; lia⟩
theorem vC {A:Around} {C:Addr} {us:List Value} {kw:List (Str × Value)}:(A.under (.builtin "type.__call__" ⟨.ref C::us,kw⟩)).depth=A.depth+1:=by
  first | rfl | simp [Around.under,Code.weight,Code.isCreation,Code.isGuard,Code.isCaller,Code.frames,Code.isFrame,guardIds]
theorem wA {A:Around} {C:Addr} {us:List Value} {kw:List (Str × Value)}:(A.under (.builtin "type.__call__" ⟨.ref C::us,kw⟩)).units=A.units+1:=by
  first | rfl | simp [Around.under,Code.cUnits,Code.frames,Code.isFrame]
theorem bV.make {k:Nat} {A:Around} (r:bV (k+1) A) (C:Addr) (us:List Value) (kw:List (Str × Value)):bV k (A.under (.builtin "type.__call__" ⟨.ref C::us,kw⟩)) :=
  ⟨r.hd,by have:=r.dp; rw [vC]; lia,by have:=r.un; rw [wA]; lia⟩
theorem bV.depth {k:Nat} {A:Around} (r:bV k A):A.depth < recursionLimit:=by have:=r.dp; lia
theorem bV.units {k:Nat} {A:Around} (r:bV k A):A.units+64 < cLine:=by have:=r.un; lia
noncomputable def ze:TA:=fun _ H Q=>Q [] H
noncomputable def D9 (ta:TE) (tr:TA):TA:=fun σ H Q=>ta σ H fun x H1=>tr σ H1 fun xs H2=>Q (x::xs) H2
section
variable {X:Cx} {e:Expr} {es:List Expr} {te:TE} {t:TA} {pos:Pos}
theorem ab:PA X [] ze:=fun _ _ _ _ H Q I h=>Calls.spliced_nil ⟨[],H,I,.nil,h⟩
theorem aa (ha:PE X e te) (hr:PA X es t) (hs:starEach (e::es) X.env=(false,eval e X.env)::starEach es X.env:=by rfl):PA X (e::es) (D9 te t):=by
  intro pos pins s σ H Q I h
  rw [hs]
  show wpAny _ _ (spliced ((false,eval e X.env)::backTo pos (starEach es X.env))) _ _ s
  refine Calls.spliced_cons (aH (ha pins s σ H _ I h) fun u s1 ⟨x,H1,I1,r1,q1⟩=>?_)
  exact aH (hr pos pins s1 σ H1 _ I1 q1) fun us s2 ⟨xs,H2,I2,r2,q2⟩=>⟨x::xs,H2,I2,.cons r1 r2,q2⟩
noncomputable def EK (t:TA):TE:=fun σ H Q=>t σ H fun xs H1=>xs.length<=sizeLine/\∀ p,H1 p=none->Q (.ref p) (upd H1 p (.tup xs))
noncomputable def ET (t:TA):TE:=fun σ H Q=>t σ H fun xs H1=>xs.length<=sizeLine/\∀ p,H1 p=none->Q (.ref p) (upd H1 p (.lst xs))
theorem bz {x1} (h:PA X es t):PE X (.Tuple es x1 pos) (EK t):=by
  intro pins s σ H Q I hq
  refine wpAny_Tuple_spliced (aH (h pos pins s σ H _ I hq) fun us s1 ⟨xs,H1,I1,r,z,q⟩=>⟨by rw [<- r.length]; exact z,?_⟩)
  have hf:H1 s1.heap.objs.size=none:=I1.hok.fresh (Nat.le_refl _)
  refine ⟨.ref s1.heap.objs.size,upd H1 s1.heap.objs.size (.tup xs),I1.laid (t':=s1.toks) (fun b u e=>Heap.get?_push_of_some _ e) (Nat.le_refl _) ?_,rfl,q _ hf⟩
  exact ⟨z,us,r,⟨_,Heap.get?_push_size _ rfl,rfl,_,rfl⟩⟩
theorem bW (h:PA X es t):PE X (.List es pos) (ET t):=by
  intro pins s σ H Q I hq
  refine wpAny_List_spliced (aH (h pos pins s σ H _ I hq) fun us s1 ⟨xs,H1,I1,r,z,q⟩=>⟨by rw [<- r.length]; exact z,?_⟩)
  have hf:H1 s1.heap.objs.size=none:=I1.hok.fresh (Nat.le_refl _)
  refine ⟨.ref s1.heap.objs.size,upd H1 s1.heap.objs.size (.lst xs),I1.laid (t':=s1.toks) (fun b u e=>Heap.get?_push_of_some _ e) (Nat.le_refl _) ?_,rfl,q _ hf⟩
  exact ⟨z,us,0,r,Heap.get?_push_size _ rfl⟩
end
noncomputable abbrev Sp:=List V->Hp->VK->XK->Prop
noncomputable abbrev fW:=List Env->Hp->Shared->XK->Value->Shared->Prop
structure mM (P:Program) (w:World) (K:PySem.W.Frag) (mg:Str->Option Value) (base:Heap) (A:Around) (outer:List Env) (s:Shared) (H:Hp):Prop where
  frames:A.frames=some outer
  mod:Mod K mg base
  bs:∀ b o,base.get? b=some o->s.heap.get? b=some o/\H b=none
  bsz:base.objs.size<=s.heap.objs.size
  funs:s.heap.FunFrames base outer
  frf:∀ b∈iE outer,H b=none
  hok:dj P w H s.heap
  bare:AllBare s.gens
def CE (outer:List Env) (P:Program) (w:World) (H:Hp) (s:Shared) (Q:VK) (u:Value) (s':Shared):Prop :=
  ∃ v H',s'.os=s.os/\AllBare s'.gens/\Un (iE outer) [] H H' s.heap s'.heap/\dj P w H' s'.heap/\RelV v u/\Q v H'
def CR (CX:fW) (outer:List Env) (P:Program) (w:World) (H:Hp) (s:Shared) (Q:VK) (E:XK) (r:Result) (s':Shared):Prop :=
  match r with
  | .ok (.ret u)=>CE outer P w H s Q u s'
  | .ok _=>False
  | .error e=>CX outer H s E e s'
structure ax (P:Program) (w:World) (K:PySem.W.Frag) (mg:Str->Option Value) (base:Heap) (CX:fW) (k:Nat) (f:Addr) (fd:FuncData) (ps:List Str) (sp:Sp):Prop where
  len:∀ vs H Q E,sp vs H Q E->vs.length=ps.length
  run:∀ (A:Around) (outer:List Env) (s:Shared) (H:Hp) (args:Args) (us:List Value) (vs:List V) (Q:VK) (E:XK),bV k A->mM P w K mg base A outer s H->BindsTo s fd args (ps.zip us)->Vals vs us->sp vs H Q E ->
    codeAny (model P w) A (.call (.ref f) args) (CR CX outer P w H s Q E) s
theorem ax.mono {P:Program} {w:World} {K:PySem.W.Frag} {mg:Str->Option Value} {base:Heap} {CX:fW} {j k:Nat} {f:Addr} {fd:FuncData} {ps:List Str} {sp:Sp} (F:ax P w K mg base CX j f fd ps sp) (h:j<=k) :
    ax P w K mg base CX k f fd ps sp:=⟨F.len,fun A outer s H args us vs Q E hr=>F.run A outer s H args us vs Q E (hr.mono h)⟩
theorem mM.make {P:Program} {w:World} {K:PySem.W.Frag} {mg:Str->Option Value} {base:Heap} {A:Around} {outer:List Env} {s:Shared} {H:Hp} (e:mM P w K mg base A outer s H) (C:Addr) (us:List Value) (kw:List (Str × Value)) :
    mM P w K mg base (A.under (.builtin "type.__call__" ⟨.ref C::us,kw⟩)) outer s H:=⟨by first | exact e.frames | (simpa [Around.under,Code.envs,Code.isFrame,pushEnvs] using e.frames),e.mod,e.bs,e.bsz,e.funs,e.frf,e.hok,e.bare⟩
section
variable {X:Cx} {pins:List (Addr × Obj)} {σ:St} {H:Hp} {s s':Shared}
theorem Inv.env0 (I:Inv X pins σ H s):mM X.prog X.w X.K X.mg X.base X.A X.stack s H :=
  ⟨I.ok.frames,I.ok.mod,I.bs,Nat.le_trans I.ok.bsz I.sz,I.stack,I.stkFree,I.hok,I.bare⟩
theorem Inv.after {Q:VK} {u:Value} (I:Inv X pins σ H s) (h:CE X.stack X.prog X.w H s Q u s'):EP X pins σ Q u s':=by
  obtain ⟨v,H',os,bare,un,hok,r,q⟩:=h
  obtain ⟨hh,g,d,t,os'⟩:=s'
  obtain rfl:os'=s.os:=os
  exact ⟨v,H',I.call (h':=hh) (g':=g) (d':=d) (t':=t) (ch:=[]) un hok bare (fun b z=>absurd z (by simp)),r,q⟩
end
noncomputable def wM (sp:Sp) (dvs:List V) (E:XK) (t:TA):TE:=fun σ H Q=>t σ H fun vs H1=>sp (vs++dvs) H1 Q E
noncomputable def Ao (C:Addr) (m:Str) (sp:Sp) (dvs:List V) (E:XK) (ta:TE) (t:TA):TE:=fun σ H Q=>ta σ H fun x H1=>∃ a dx fs,x = .ref a/\H1 a=some (.ins C dx fs)/\fs.lookup m=none /\
  t σ H1 fun vs H2=>sp (x::(vs++dvs)) H2 Q E
noncomputable def Aq (C:Addr) (sp:Sp) (dvs:List V) (E:XK) (t:TA):TE:=fun σ H Q=>t σ H fun vs H1=>∀ x dx,H1 x=none->H1 dx=none->dx≠x ->
  sp (.ref x::(vs++dvs)) (upd (upd H1 dx (.own x)) x (.ins C dx [])) (fun v H2=>v = .non/\Q (.ref x) H2) E
def Binds (K:PySem.W.Frag) (fd:FuncData) (ps:List Str) (ds:List Value):Prop :=
  ∀ (s:Shared) (us:List Value),K.In s.heap->(us++ds).length=ps.length->BindsTo s fd ⟨us,[]⟩ (ps.zip (us++ds))
theorem Binds.all {K:PySem.W.Frag} {fd:FuncData} {ps:List Str} (h:∀ us:List Value,us.length=ps.length->bindArgs fd ⟨us,[]⟩=pure (ps.zip us)):Binds K fd ps []:=fun s us _ hl=>by
  rw [List.append_nil] at hl |-
  exact .of_eq (h us hl)
def Passes (CX:fW) (X:Cx) (E:XK):Prop:=∀ (pins:List (Addr × Obj)) (σ:St) (H:Hp) (s:Shared) (e:Value) (s':Shared),Inv X pins σ H s->CX X.stack H s E e s'->X.xe e s'
section
variable {X:Cx} {CX:fW} {k:Nat} {f C:Addr} {fd:FuncData} {ps:List Str} {sp:Sp} {dvs:List V} {ds:List Value} {E:XK} {x m:Str} {p pos apos:Pos} {e o:Expr} {es:List Expr} {ta:TE} {t:TA}
theorem r8 {pins:List (Addr × Obj)} {σ:St} {H:Hp} {s:Shared} {Q:VK} {us:List Value} {vs:List V} (F:ax X.prog X.w X.K X.mg X.base CX k f fd ps sp) (hr:bV k X.A) (hb:Binds X.K fd ps ds) (hd:Vals dvs ds) (hx:Passes CX X E)
    (I:Inv X pins σ H s) (r:Vals vs us) (h:sp (vs++dvs) H Q E):wpAny (model X.prog X.w) X.A (call (.ref f) us) (EP X pins σ Q) X.xe s:=by
  have r2:Vals (vs++dvs) (us++ds):=r.append hd
  have hl:(us++ds).length=ps.length:=by rw [<- r2.length]; exact F.len _ _ _ _ h
  refine wpAny_call (codeAny_mono (F.run X.A X.stack s H ⟨us,[]⟩ (us++ds) (vs++dvs) Q E hr I.env0 (hb s us I.kIn hl) r2 h) fun r s' hq=>?_)
  cases r with
  | error e=>exact hx pins σ H s e s' I hq
  | ok fl =>
    cases fl with
    | ret u=>exact I.after hq
    | next=>exact False.elim hq
    | brk=>exact False.elim hq
    | cont=>exact False.elim hq
theorem AN (F:ax X.prog X.w X.K X.mg X.base CX k f fd ps sp) (hr:bV k X.A) (hg:Gl X x) (hm:X.mg x=some (.ref f)) (hk:PySem.W.keepIn X.K (.ref f)=true) (hb:Binds X.K fd ps ds) (hd:Vals dvs ds) (hx:Passes CX X E)
    (ha:PA X (e::es) t) (hdb:(x == ("__debug__" : Str))=false:=by decide) (he:starEach (e::es) X.env=(false,eval e X.env)::starEach es X.env:=by rfl) (hpl:(backTo pos (starEach es X.env)).any (·.1)=false:=by rfl) :
    PE X (.Call (.Name x p) (e::es) [] pos) (wM sp dvs E t):=by
  intro pins s σ H Q I h
  refine wpAny_Call_Name_kw (om I hg hm ?_ hdb)
  refine PySem.W.callWith_K (h₀:=X.base) I.ok.mod.kin hk (aH (ha pos pins s σ H _ I h) fun us s1 ⟨vs,H1,I1,r,q⟩=>⟨I1.kIn,?_⟩) he hpl
  exact r8 F hr hb hd hx I1 r q
theorem Ar {pl:Sem Bool} (he:PE X o ta) (c:g8 X.K C) (hm:Meth X.K C m f) (F:ax X.prog X.w X.K X.mg X.base CX k f fd ps sp) (hr:bV k X.A) (hb:Binds X.K fd ps ds) (hd:Vals dvs ds) (hx:Passes CX X E) (ha:PA X (e::es) t)
    (hst:starEach (e::es) X.env=(false,eval e X.env)::starEach es X.env:=by rfl) (hpl:(backTo pos (starEach es X.env)).any (·.1)=false:=by rfl)
    (ht:eval (.Call (.Attribute o m apos) (e::es) [] pos) X.env=(do
      let ov <- eval o X.env
      standAt apos.atName
      let (f,first) <- holding [ov] (getMethod ov m pl)
      callWith pos f first (backTo pos (starEach (e::es) X.env)) (backToKw pos (keywordEach [] X.env))):=by rfl) :
    PE X (.Call (.Attribute o m apos) (e::es) [] pos) (Ao C m sp dvs E ta t):=by
  intro pins s σ H Q I h
  refine PySem.W.methodCall_KW (pl:=pl) (aH (he pins s σ H _ I h) fun u s1 ⟨x,H1,I1,rx,a,dx,fs,ex,ea,l,q⟩=>?_) ht
  subst ex
  obtain rfl:u=Value.ref a:=rx
  refine nv I1 ea c hm l ?_
  refine PySem.W.callWith_K (first:=[.ref a]) (h₀:=X.base) I.ok.mod.kin hm.kp (aH (ha pos pins s1 σ H1 _ I1 q) fun us s2 ⟨vs,H2,I2,r,q2⟩=>⟨I2.kIn,?_⟩) hst hpl
  exact r8 (us:=.ref a::us) (vs:=.ref a::vs) F hr hb hd hx I2 (.cons rfl r) q2
structure Mk (K:PySem.W.Frag) (C f:Addr):Prop where
  makes:PySem.W.makesIn K C=true
  init:PySem.W.findIn K (.ref C) "__init__" = some (some (.ref f))
  fn:PySem.W.isFn K (.ref f)=true
  kp:PySem.W.keepIn K (.ref C)=true
theorem zl {pins:List (Addr × Obj)} {σ:St} {H:Hp} {s:Shared} {Q:VK} {us:List Value} {vs:List V} (M:Mk X.K C f) (F:ax X.prog X.w X.K X.mg X.base CX k f fd ps sp) (hr:bV (k+1) X.A) (hb:Binds X.K fd ps ds) (hd:Vals dvs ds)
    (hx:Passes CX X E) (I:Inv X pins σ H s) (r:Vals vs us)
    (h:∀ x dx,H x=none->H dx=none->dx≠x->sp (.ref x::(vs++dvs)) (upd (upd H dx (.own x)) x (.ins C dx [])) (fun v H2=>v = .non/\Q (.ref x) H2) E) :
    wpAny (model X.prog X.w) X.A (call (.ref C) us) (EP X pins σ Q) X.xe s:=by
  have hq:=h (s.heap.objs.size+1) s.heap.objs.size (I.hok.fresh (Nat.le_succ _)) (I.hok.fresh (Nat.le_refl _)) (Nat.ne_of_lt (Nat.lt_succ_self _))
  have I2:=Inv.made (C:=C) I
  have r2:Vals (V.ref (s.heap.objs.size+1)::(vs++dvs)) (Value.ref (s.heap.objs.size+1)::(us++ds)):=.cons rfl (r.append hd)
  have hl:(Value.ref (s.heap.objs.size+1)::us++ds).length=ps.length:=by
    have e:=r2.length
    rw [F.len _ _ _ _ hq] at e
    exact e.symm
  refine wpAny_call (zH (f:=f) I.kIn M.makes M.init (beq_iff_eq.mp M.fn) (codeAny_mono (F.run _ X.stack _ _ ⟨Value.ref (s.heap.objs.size+1)::us,[]⟩ (Value.ref (s.heap.objs.size+1)::(us++ds)) _ _ E (hr.make C us [])
    (I2.env0.make C us []) (hb _ (Value.ref (s.heap.objs.size+1)::us) I2.kIn hl) r2 hq) fun r s' hq'=>?_))
  cases r with
  | error e=>exact hx pins σ _ _ e s' I2 hq'
  | ok fl =>
    cases fl with
    | ret u =>
      obtain ⟨v,H',I3,rv,ev,q3⟩:=I2.after hq'
      subst ev
      exact ⟨rv,⟨V.ref (s.heap.objs.size+1),H',I3,rfl,q3⟩⟩
    | next=>exact False.elim hq'
    | brk=>exact False.elim hq'
    | cont=>exact False.elim hq'
theorem zE (M:Mk X.K C f) (F:ax X.prog X.w X.K X.mg X.base CX k f fd ps sp) (hr:bV (k+1) X.A) (hg:Gl X x) (hm:X.mg x=some (.ref C)) (hb:Binds X.K fd ps ds) (hd:Vals dvs ds) (hx:Passes CX X E)
    (hdb:(x == ("__debug__" : Str))=false:=by decide):PE X (.Call (.Name x p) [] [] pos) (Aq C sp dvs E ze):=by
  intro pins s σ H Q I h
  refine wpAny_Call_Name_kw (om I hg hm ?_ hdb)
  exact PySem.W.callWith_K0 I.kIn M.kp (zl (us:=[]) M F hr hb hd hx I .nil h)
end
section
variable {X:Cx} {CX:fW} {k:Nat} {f C:Addr} {fd:FuncData} {ps ks:List Str} {sp:Sp} {E:XK} {x m:Str} {p pos apos kpos:Pos} {e o:Expr} {es:List Expr} {kws:List Keyword} {te ta:TE} {t tk:TA} {nm:Option Str}
variable {g:List Value->List Value->List Value} {gV:List V->List V->List V}
end
structure ar (N P:List Str) (sc:Scope):Prop where
  kind:sc.kind = .function
  co:sc.isCoroutine=false
  gen:sc.isGenerator=false
  nd:N.Nodup
  pre:N.take P.length=P
  par:∀ x∈P,sc.names.lookup x=some .local\/sc.names.lookup x=some .cell
  nofree:∀ y∈sc.names,y.2≠.free
theorem pU {kindOf:Str->Option NameKind} {x:Str}:∀ {binds:List (Str × Value)} {m:Str->Option Value},(∀ v,(x,v)∉binds)->bindL kindOf binds m x=m x
  | [],_,_=>rfl
  | (n,v)::r,m,h=>by
    unfold bindL
    rw [pU fun w hw=>h w (List.mem_cons_of_mem _ hw)]
    split
    · have:x≠n:=by rintro rfl; exact h v List.mem_cons_self
      simp [this]
    · rfl
theorem pH {kindOf:Str->Option NameKind} {x:Str}:∀ {binds:List (Str × Value)} {m:Str->Option Value},(∀ v,(x,v)∉binds)->bindC kindOf binds m x=m x
  | [],_,_=>rfl
  | (n,v)::r,m,h=>by
    unfold bindC
    rw [pH fun w hw=>h w (List.mem_cons_of_mem _ hw)]
    split
    · rfl
    · have:x≠n:=by rintro rfl; exact h v List.mem_cons_self
      simp [this]
theorem o9 {kindOf:Str->Option NameKind} {x:Str} {v:Value}:∀ {P:List Str} {vs:List Value} {i:Nat} {m:Str->Option Value},P.Nodup->P[i]? = some x->vs[i]? = some v->kindOf x=some .local ->
    bindL kindOf (P.zip vs) m x=some v
  | [],_,_,_,_,h,_,_=>by simp at h
  | _::_,[],_,_,_,_,h,_=>by simp at h
  | p::P,w::vs,0,m,nd,h1,h2,hk=>by
    simp at h1 h2; subst h1; subst h2
    show bindL kindOf ((p,w)::P.zip vs) m p=_
    unfold bindL
    rw [pU fun v hv=>(List.nodup_cons.mp nd).1 (List.of_mem_zip hv).1,if_pos hk]
    simp
  | p::P,w::vs,i+1,m,nd,h1,h2,hk=>by
    show bindL kindOf ((p,w)::P.zip vs) m x=_
    unfold bindL
    exact o9 (i:=i) (List.nodup_cons.mp nd).2 (by simpa using h1) (by simpa using h2) hk
theorem o8 {kindOf:Str->Option NameKind} {x:Str} {v:Value}:∀ {P:List Str} {vs:List Value} {i:Nat} {m:Str->Option Value},P.Nodup->P[i]? = some x->vs[i]? = some v->kindOf x≠some .local ->
    bindC kindOf (P.zip vs) m x=some v
  | [],_,_,_,_,h,_,_=>by simp at h
  | _::_,[],_,_,_,_,h,_=>by simp at h
  | p::P,w::vs,0,m,nd,h1,h2,hk=>by
    simp at h1 h2; subst h1; subst h2
    show bindC kindOf ((p,w)::P.zip vs) m p=_
    unfold bindC
    rw [pH fun v hv=>(List.nodup_cons.mp nd).1 (List.of_mem_zip hv).1,if_neg hk]
    simp
  | p::P,w::vs,i+1,m,nd,h1,h2,hk=>by
    show bindC kindOf ((p,w)::P.zip vs) m x=_
    unfold bindC
    exact o8 (i:=i) (List.nodup_cons.mp nd).2 (by simpa using h1) (by simpa using h2) hk
noncomputable def start (N:List Str) (vs:List V):St:=vs.map some++List.replicate (N.length - vs.length) none
noncomputable def oi (CX:fW) (P:Program) (w:World) (K:PySem.W.Frag) (mg:Str->Option Value) (base:Heap) (N:List Str) (qual:Str) (scope:Scope) (f:Addr) (cd:Value) (A:Around) (outer:List Env) (s:Shared) (H:Hp) (E:XK):Cx where
  prog:=P
  w:=w
  K:=K
  mg:=mg
  base:=base
  A:=A.deeper (envOfC qual scope s.heap.objs.size f cd)
  N:=N
  s₀:=s
  H₀:=H
  env:=envOfC qual scope s.heap.objs.size f cd
  outer:=outer
  stack:=envOfC qual scope s.heap.objs.size f cd::outer
  ex:=[]
  calm:=true
  fn:=fun _=>true
  pn:=[]
  xe:=fun e s'=>wpAny (model P w) (A.deeper (envOfC qual scope s.heap.objs.size f cd)) (leaving (envOfC qual scope s.heap.objs.size f cd) e) (fun _ s''=>CX outer H s E e s'') (fun e' s''=>CX outer H s E e' s'') s'
theorem qW {sc:Scope} {n:Nat} {x:Str} (h:sc.names.lookup x=some .cell):∃ c,(cellsFrom n sc.names []).lookup x=some c:=by
  have q:=PySem.W.cellsFrom_some sc.names n [] (.inl h)
  exact Option.isSome_iff_exists.mp q
theorem yA {CX:fW} {P:Program} {w:World} {K:PySem.W.Frag} {mg:Str->Option Value} {base:Heap} {N ps:List Str} {qual:Str} {scope:Scope} {f:Addr} {cd:Value} {A:Around} {outer:List Env} {s s1:Shared} {H:Hp} {E:XK} {us:List Value} {vs:List V}
    (S:ar N ps scope) (hd:A.handled=none) (e0:mM P w K mg base A outer s H) (hl:vs.length=ps.length) (r:Vals vs us)
    (x:InCallC s s.heap.objs.size (bindL (envOfC qual scope s.heap.objs.size f cd).kindOf (ps.zip us) fun _=>none) (cellsFrom (s.heap.objs.size+1) scope.names []) (bindC (envOfC qual scope s.heap.objs.size f cd).kindOf (ps.zip us) fun _=>none) s1) :
    Inv (oi CX P w K mg base N qual scope f cd A outer s H E) [] (start N vs) H s1:=by
  have hpl:ps.length<=N.length:=by have:=congrArg List.length S.pre; rw [List.length_take] at this; lia
  obtain ⟨h1,tk,rfl,hk⟩:=x.done
  have noA:∀ b:Addr,b∉(oi CX P w K mg base N qual scope f cd A outer s H E).ex:=fun b z=>absurd (show b∈([]:List Addr) from z) (by simp)
  refine ⟨⟨e0.mod,S.kind,rfl,rfl,Nat.le_refl _,fun y z c h1 h2=>?_,fun y hy=>?_,fun y c _ h=>?_,fun _=>hd,Around.frames_deeper e0.frames,.inr ⟨rfl,rfl⟩,fun b z=>absurd z (noA b),e0.bs,e0.bsz,fun b _ _=>noA b,fun b z=>absurd z (noA b),e0.funs,e0.frf⟩,
    rfl,e0.bare,Un.kept hk,⟨_,x.toInCall.ns,fun i y v h1 h2 h3=>?_⟩,fun y c h=>⟨_,x.cell y c h⟩,e0.hok.fresh (Nat.le_refl _),fun y c h=>?_,fun p hp=>absurd (show p∈([]:List (Addr × Obj)) from hp) (by simp),e0.hok.kept hk,?_⟩
  · exact name_of_addr x.apart (PySem.mem_of_lookup h1) (PySem.mem_of_lookup h2)
  · have hy:scope.names.lookup y=some .cell\/scope.names.lookup y=some .free:=hy
    rcases hy with hy | hy
    · exact qW hy
    · exact absurd rfl (S.nofree _ (PySem.mem_of_lookup hy))
  · exact Nat.le_of_lt (x.above y c (PySem.mem_of_lookup h))
  · have hi:i < vs.length:=by
      unfold start at h2
      by_cases hi:i < vs.length
      · exact hi
      · rw [List.getElem?_append_right (by simpa using hi)] at h2
        rw [List.getElem?_replicate] at h2
        split at h2<;>cases h2
    have ha:vs[i]? = some v:=by
      unfold start at h2
      rw [List.getElem?_append_left (by simpa using hi),List.getElem?_map] at h2
      cases e:vs[i]? with
      | none=>rw [e] at h2; cases h2
      | some a=>rw [e] at h2; cases h2; rfl
    obtain ⟨u,hu,rv⟩:=r.get ha
    have hp:ps[i]? = some y:=by
      rw [<- S.pre,List.getElem?_take_of_lt (by lia)]; exact h1
    have ndP:ps.Nodup:=by rw [<- S.pre]; exact S.nd.sublist (List.take_sublist _ _)
    refine ⟨u,rv,?_⟩
    rcases S.par y (List.mem_of_getElem? hp) with k | k
    · exact .inl ⟨k,o9 ndP hp hu k⟩
    · obtain ⟨c,e⟩:=qW (n:=s.heap.objs.size+1) k
      refine .inr ⟨.inl k,c,e,?_⟩
      have q:=x.cell y c e
      rw [o8 ndP hp hu (by show scope.names.lookup y≠_; rw [k]; decide)] at q
      exact q
  · exact e0.hok.fresh (Nat.le_of_lt (x.above y c (PySem.mem_of_lookup h)))
  · unfold start
    show _=N.length
    rw [List.length_append,List.length_map,List.length_replicate]
    lia
theorem DU {CX:fW} {P:Program} {w:World} {K:PySem.W.Frag} {mg:Str->Option Value} {base:Heap} {k:Nat} {f:Addr} {name qual:Str} {params:Arguments} {body:List Stmt} {scope:Scope} {dV kV doc pm cdv ct oc:Value} {an od:Option Addr}
    {osl:Array (Option Value)} {N ps:List Str} {sp:Sp} (lk:K.lookup f=some ⟨oc,od,.func (PySem.W.fnOf name qual params body scope dV kV doc pm an cdv ct),osl⟩) (hcd:PySem.W.codeIn K cdv qual=true) (S:ar N ps scope)
    (len:∀ vs H Q E,sp vs H Q E->vs.length=ps.length)
    (hbody:∀ (A:Around) (outer:List Env) (s:Shared) (H:Hp) (vs:List V) (Q:VK) (E:XK),bV k (A.deeper (envOfC qual scope s.heap.objs.size f cdv))->sp vs H Q E ->
      ∃ t,gG (oi CX P w K mg base N qual scope f cdv A outer s H E) body t/\t { nx:=fun _ H'=>Q .non H',rt:=Q } (start N vs) H) :
    ax P w K mg base CX (k+1) f (PySem.W.fnOf name qual params body scope dV kV doc pm an cdv ct) ps sp:=by
  refine ⟨len,fun A outer s H args us vs Q E hr e0 hb r hsp=>?_⟩
  have hl:=len _ _ _ _ hsp
  have KX:K.In s.heap:=e0.mod.kin.keeps fun b o e=>(e0.bs b o e).1
  have lim:s.heap.NoLimit:=e0.mod.nolimit.keeps fun b o e=>(e0.bs b o e).1
  have hkind:∀ y∈ps.zip us,scope.names.lookup y.1=some .local\/(scope.names.lookup y.1=some .cell/\((cellsFrom (s.heap.objs.size+1) scope.names []).lookup y.1).isSome=true):=fun ⟨n,v⟩ hy=>by
    rcases S.par n (List.of_mem_zip hy).1 with q | q
    · exact .inl q
    · exact .inr ⟨q,PySem.W.cellsFrom_some _ _ _ (.inl q)⟩
  refine codeAny_call_function hr.depth (KX _ _ lk) rfl S.co S.gen rfl (PySem.W.codeRec_of KX hcd) (hb _ _ _ _ ?_)
  refine wpAny_newFunctionEnv_cells S.kind hkind fun env he s1 x=>?_
  subst he
  refine ⟨lim.keeps x.toInCall.keep,codeAny_func ?_⟩
  obtain ⟨t,ht,hq⟩:=hbody A outer s H vs Q E (hr.deeper _) hsp
  have I:Inv (oi CX P w K mg base N qual scope f cdv A outer s H E) [] (start N vs) H s1:=yA S hr.hd e0 hl r x
  refine wpAny_mono (ht [] s1 (start N vs) H _ I hq) (fun fl s' hs=>?_) fun e s' hs=>hs
  have fin:∀ {σ':St} {H':Hp} {v:V} {u:Value},Inv (oi CX P w K mg base N qual scope f cdv A outer s H E) [] σ' H' s'->RelV v u->Q v H'->CE outer P w H s Q u s' :=
    fun {σ' H' v u} J rv q=>⟨v,H',J.os,J.bare,J.base,J.hok,rv,q⟩
  cases fl with
  | ret u =>
    obtain ⟨v,σ',H',J,rv,q⟩:=hs
    exact fin J rv q
  | next =>
    obtain ⟨σ',H',J,q⟩:=hs
    exact fin (v:=V.non) (u:=Value.none) J rfl q
  | brk =>
    obtain ⟨_,_,_,q⟩:=hs
    exact False.elim q
  | cont =>
    obtain ⟨_,_,_,q⟩:=hs
    exact False.elim q
end L2
namespace L2
open PySem PySem.Spec PyProof.Rows
section
variable {X:Cx} {x:Str} {p pos:Pos} {e:Expr} {es:List Expr} {t:TA} {id T:String} {r:List V->Hp->VK->Prop}
noncomputable def EJ (r:List V->Hp->VK->Prop) (t:TA):TE:=fun σ H Q=>t σ H fun vs H1=>r vs H1 Q
theorem aC (hc:dY X (.builtin id) r) (hg:Gl X x) (hm:X.mg x=none) (hv:bootBuiltins x=some (.builtin id)) (ha:PA X (e::es) t) (hn:x≠"__name__":=by decide) (hdb:(x == ("__debug__" : Str))=false:=by decide)
    (he:starEach (e::es) X.env=(false,eval e X.env)::starEach es X.env:=by rfl) (hpl:(backTo pos (starEach es X.env)).any (·.1)=false:=by rfl):PE X (.Call (.Name x p) (e::es) [] pos) (EJ r t):=by
  intro pins s σ H Q I h
  refine wpAny_Call_Name_kw (cV I hg hm hv ?_ hn hdb)
  exact PyProof.Rows.callWith_builtin1 (aH (ha pos pins s σ H _ I h) fun us s1 ⟨vs,H1,I1,r1,q1⟩=>hc pins s1 σ H1 vs us Q I1 r1 q1) he hpl
theorem pA (hc:dY X (.type T) r) (hg:Gl X x) (hm:X.mg x=none) (hv:bootBuiltins x=some (.type T)) (ha:PA X (e::es) t) (hn:x≠"__name__":=by decide) (hdb:(x == ("__debug__" : Str))=false:=by decide)
    (he:starEach (e::es) X.env=(false,eval e X.env)::starEach es X.env:=by rfl) (hpl:(backTo pos (starEach es X.env)).any (·.1)=false:=by rfl):PE X (.Call (.Name x p) (e::es) [] pos) (EJ r t):=by
  intro pins s σ H Q I h
  refine wpAny_Call_Name_kw (cV I hg hm hv ?_ hn hdb)
  exact PyProof.Rows.callWith_type1 (aH (ha pos pins s σ H _ I h) fun us s1 ⟨vs,H1,I1,r1,q1⟩=>hc pins s1 σ H1 vs us Q I1 r1 q1) he hpl
end
end L2
namespace HT
open PySem PyProof.Rows
section
open PySem.SeqAt
open PySem.AutoSeq1 (wpAny_loadPart')
open PySem.MeetsSeq PySem.MeetsSeq2 PySem.MeetsSeq3
end
section
variable {prog:Program} {w:World} {A:Around} {E:Value->Shared->Prop} {s:Shared}
noncomputable def sIx (n d:Nat):Option Int->Nat
  | none=>d
  | some v=>if v < 0 then (v+(n:Int)).toNat else min v.toNat n
theorem sIx_none (n d:Nat):sIx n d none=d:=rfl
end
end HT
namespace L2
open PySem PySem.Spec PyProof.Rows
noncomputable abbrev TO:=St->Hp->(Option Int->Hp->Prop)->Prop
def PO (X:Cx) (e:Option Expr) (t:TO):Prop :=
  ∀ (pins:List (Addr × Obj)) (s:Shared) (σ:St) (H:Hp) (Q:Option Int->Hp->Prop),Inv X pins σ H s->t σ H Q ->
    wpAny (model X.prog X.w) X.A (evalPart e X.env) (fun u s'=>∃ o H',Inv X pins σ H' s'/\IsPart u o/\Q o H') X.xe s
noncomputable def AI:TO:=fun _ H Q=>Q none H
noncomputable def Er (t:TE):TO:=fun σ H Q=>t σ H fun x H1=>∃ i,x = .int i/\Q (some i) H1
theorem intsAre_of {ns:List Int}:∀ {us:List Value},Vals (ns.map V.int) us->IntsAre us ns:=by
  induction ns with
  | nil=>intro us r; rw [List.map_nil] at r; cases r; exact .nil
  | cons n ns ih =>
    intro us r
    rw [List.map_cons] at r
    cases r with
    | cons r1 r2 =>
      obtain ⟨t,e⟩:=r1
      subst e
      exact .cons n t (ih r2)
section
variable {X:Cx} {e:Expr} {te:TE} {lo hi:Option Expr} {tl th:TO} {pos p2:Pos}
theorem lM:PO X none AI:=by
  intro pins s σ H Q I h
  rw [evalPart_none]
  exact wpAny_pure ⟨none,H,I,.none,h⟩
theorem j5 (h:PE X e te):PO X (some e) (Er te):=by
  intro pins s σ H Q I hw
  rw [evalPart_some]
  refine aH (h pins s σ H _ I hw) fun u s1 ⟨x,H1,I1,r1,q1⟩=>?_
  obtain ⟨i,rfl,q⟩:=q1
  obtain ⟨t,rfl⟩:=r1
  exact ⟨some i,H1,I1,.int i t,q⟩
def Bl (X:Cx) (r:V->Option Int->Option Int->Hp->VK->Prop):Prop :=
  ∀ (pins:List (Addr × Obj)) (s:Shared) (σ:St) (H:Hp) (x:V) (v vl vu:Value) (lo hi:Option Int) (sl:Addr) (Q:VK),Inv X pins σ H s->RelV x v->s.heap.IsSliceOf sl vl vu .none->IsPart vl lo->IsPart vu hi->r x lo hi H Q ->
    ∃ T id,typeLookup (.type T) "__getitem__" = pure (some (.builtin id))/\s.TypeIs v T/\wpAny (model X.prog X.w) X.A (getItem v (.ref sl)) (EP X pins σ Q) X.xe s
noncomputable def Fq (r:V->Option Int->Option Int->Hp->VK->Prop) (te:TE) (tl th:TO):TE:=fun σ H Q=>te σ H fun x H1=>tl σ H1 fun l H2=>th σ H2 fun u H3=>r x l u H3 Q
theorem jb {r:V->Option Int->Option Int->Hp->VK->Prop} (hr:Bl X r) (he:PE X e te) (hl:PO X lo tl) (hu:PO X hi th):PE X (.Subscript e (.Slice lo hi none p2) pos) (Fq r te tl th):=by
  intro pins s σ H Q I h
  refine Subscript_ (aH (he pins s σ H _ I h) fun v s1 ⟨x,H1,I1,r1,q1⟩=>?_)
  refine wpAny_Slice (aH (hl pins s1 σ H1 _ I1 q1) fun vl s2 ⟨l,H2,I2,pl,q2⟩=>aH (hu pins s2 σ H2 _ I2 q2) fun vu s3 ⟨u,H3,I3,pu,q3⟩=>?_)
  rw [evalPart_none]
  refine wpAny_pure ?_
  have I4:Inv X pins σ H3 { s3 with heap:=s3.heap.push { cls:=.type "slice",data:=.fields #[vl,vu,.none] } }:=I3.kept (t':=s3.toks) fun b ob q=>Heap.get?_push_of_some _ q
  obtain ⟨T,id,hT,ht,hg⟩:=hr pins { s3 with heap:=s3.heap.push { cls:=.type "slice",data:=.fields #[vl,vu,.none] } } σ H3 x v vl vu l u s3.heap.objs.size Q I4 r1 (Heap.IsSliceOf.new ..) pl pu q3
  show wpAny (model X.prog X.w) X.A (subscriptTail e (.Slice lo hi none p2) v (.ref s3.heap.objs.size)) (EP X pins σ Q) X.xe { s3 with heap:=s3.heap.push { cls:=.type "slice",data:=.fields #[vl,vu,.none] } }
  exact tail_any (ops:=[.ref s3.heap.objs.size,v]) ht hT hg (by with_unfolding_all rfl)
noncomputable def fU (xs:List V) (lo hi:Option Int):List V:=(xs.drop (HT.sIx xs.length 0 lo)).take (HT.sIx xs.length xs.length hi - HT.sIx xs.length 0 lo)
theorem ux (xs:List V) (lo hi:Option Int):(fU xs lo hi).length<=xs.length:=by
  unfold fU
  rw [List.length_take,List.length_drop]
  lia
end
end L2
namespace L2
open PySem PySem.Spec PyProof.Rows
noncomputable def jE (n:Nat) (i:Int):Option Nat:=if 0<=i then (if i < n then some i.toNat else none) else if -(n:Int)<=i then some (i+n).toNat else none
noncomputable def eR {α:Type} (xs:List α) (i:Int):Option α:=(jE xs.length i).bind fun j=>xs[j]?
theorem vB {n:Nat} {i:Int} {j:Nat} (h:jE n i=some j):seqIndex? i n=some j/\j < n/\-(n:Int)<=i/\i < n:=by
  unfold jE at h
  by_cases h0:0<=i
  · rw [if_pos h0] at h
    by_cases h1:i < n
    · rw [if_pos h1] at h
      have e:i.toNat=j:=Option.some.inj h
      exact ⟨by rw [seqIndex_of h0 h1,e],by lia,by lia,h1⟩
    · rw [if_neg h1] at h; cases h
  · rw [if_neg h0] at h
    by_cases h1 : -(n:Int)<=i
    · rw [if_pos h1] at h
      have e:(i+n).toNat=j:=Option.some.inj h
      exact ⟨by rw [seqIndex_neg (by lia) h1,e],by lia,h1,by lia⟩
    · rw [if_neg h1] at h; cases h
theorem oo {α:Type} {xs:List α} {i:Int} {v:α} (h:eR xs i=some v):∃ j,seqIndex? i xs.length=some j/\xs[j]? = some v/\j < xs.length/\-(xs.length:Int)<=i/\i < xs.length:=by
  unfold eR at h
  cases e:jE xs.length i with
  | none=>rw [e] at h; cases h
  | some j =>
    rw [e] at h
    obtain ⟨h1,h2,h3,h4⟩:=vB e
    exact ⟨j,h1,h,h2,h3,h4⟩
theorem j9 {α:Type} {xs:List α} {j:Nat} {v:α} (h:xs[j]? = some v):eR xs (j:Int)=some v:=by
  have hj:j < xs.length:=(List.getElem?_eq_some_iff.mp h).1
  have e:jE xs.length (j:Int)=some j:=by
    unfold jE
    rw [if_pos (by lia),if_pos (by lia)]; simp
  unfold eR; rw [e]; exact h
theorem y8 {α:Type} (xs:List α) (v:α):eR (xs++[v]) (-1)=some v:=by
  have hl:(xs++[v]).length=xs.length+1:=by simp
  have e:jE (xs++[v]).length (-1)=some xs.length:=by
    unfold jE
    rw [hl,if_neg (by decide),if_pos (by lia)]
    congr 1
    lia
  unfold eR
  rw [e]
  show (xs++[v])[xs.length]? = some v
  simp
def A4 (b:Expr):Prop:=∀ o i,subscripted b false o i=operate [o,i] (getItem o i)
def yw (X:Cx) (r:R2):Prop :=
  ∀ (value slice:Expr) (pins:List (Addr × Obj)) (s:Shared) (σ:St) (H:Hp) (x y:V) (v u:Value) (Q:VK),Inv X pins σ H s->RelV x v->RelV y u->r x y H Q ->
    subscripted slice false v u=operate [v,u] (getItem v u)->wpAny (model X.prog X.w) X.A (subscriptTail value slice v u) (EP X pins σ Q) X.xe s
def Dj (X:Cx) (id:String) (r:V->List V->Hp->VK->Prop):Prop :=
  ∀ (pins:List (Addr × Obj)) (s:Shared) (σ:St) (H:Hp) (x:V) (xs:List V) (v:Value) (us:List Value) (Q:VK),Inv X pins σ H s->RelV x v->Vals xs us->r x xs H Q ->
    wpAny (model X.prog X.w) X.A (call (.builtin id) (v::us)) (EP X pins σ Q) X.xe s
section
variable {X:Cx} {a b:Expr} {ta tb:TE} {pos:Pos}
theorem aK {r:R2} (hr:yw X r) (ha:PE X a ta) (hb:PE X b tb) (hs:A4 b):PE X (.Subscript a b pos) (Ac r ta tb):=by
  intro pins s σ H Q I h
  exact Subscript_ (zm ha hb I h fun v u s2 x y H2 I2 rx ry q=>hr a b pins s2 σ H2 x y v u Q I2 rx ry q (hs _ _))
noncomputable def EO (K:PySem.W.Frag):R2:=fun x y H Q=>∃ p xs i v,x = .ref p/\y = .int i/\au K H p xs/\eR xs i=some v/\Q v H
noncomputable def Bi (K:PySem.W.Frag):R2:=fun x y H Q=>∃ p xs i v,x = .ref p/\y = .int i/\aT K H p xs/\eR xs i=some v/\Q v H
noncomputable def Fh:R2:=fun x y H Q=>∃ z i c,x = .str z/\y = .int i/\z.length<=sizeLine/\eR z.cps.toList i=some c/\Q (.str ⟨#[c]⟩) H
theorem bO:yw X (EO X.K):=by
  intro value slice pins s σ H x y v u Q I rx ry h hs
  obtain ⟨p,xs,i,z,rfl,rfl,hq,he,q⟩:=h
  cases rx
  obtain ⟨t,rfl⟩:=ry
  obtain ⟨its,r,pl,hz⟩:=I.list hq
  obtain ⟨j,h1,h2,h3,h4,h5⟩:=oo he
  obtain ⟨w,ew,rw'⟩:=r.get h2
  have hl:=r.length
  have hn:=iL
  have fin:EP X pins σ Q w s:=⟨z,H,I,rw',q⟩
  by_cases h0:0<=i
  · have hj:i.toNat=j:=by
      rw [seqIndex_of h0 h5] at h1
      exact Option.some.inj h1
    exact item_listR pl.isList h0 (by lia) (by rw [hj]; simpa using ew) fin hs
  · have hj:(i+(its.toArray.size:Int)).toNat=j:=by
      rw [seqIndex_neg (by lia) h4] at h1
      rw [List.size_toArray,<- hl]
      exact Option.some.inj h1
    exact subscriptTail_builtinR (x:=w) pl.isList.typeIs slot_list_getitem.lookup
      (wpAny_getItem_list_neg (Q:=fun r s'=>r=w/\EP X pins σ Q r s') pl.isList (by lia) (by rw [List.size_toArray]<;>lia) (by lia) (by rw [hj]; simpa using ew) ⟨rfl,fin⟩) hs
theorem bD:yw X (Bi X.K):=by
  intro value slice pins s σ H x y v u Q I rx ry h hs
  obtain ⟨p,xs,i,z,rfl,rfl,hq,he,q⟩:=h
  cases rx
  obtain ⟨t,rfl⟩:=ry
  obtain ⟨its,r,pl,hz⟩:=I.tuple hq
  obtain ⟨j,h1,h2,h3,h4,h5⟩:=oo he
  obtain ⟨w,ew,rw'⟩:=r.get h2
  have hl:=r.length
  have hn:=iL
  have fin:EP X pins σ Q w s:=⟨z,H,I,rw',q⟩
  exact subscriptTail_builtinR (x:=w) pl.typeIs slot_tuple_getitem.lookup
    (getItem_tuple (j:=j) (Q:=fun r s'=>r=w/\EP X pins σ Q r s') pl (by lia) (by lia) (by rw [List.size_toArray,<- hl]; exact h1) (by simpa using ew) ⟨rfl,fin⟩) hs
theorem iz:yw X Fh:=by
  intro value slice pins s σ H x y v u Q I rx ry h hs
  obtain ⟨z,i,c,rfl,rfl,hz,he,q⟩:=h
  obtain ⟨t,rfl⟩:=rx
  obtain ⟨t',rfl⟩:=ry
  obtain ⟨j,h1,h2,h3,h4,h5⟩:=oo he
  have hl:z.cps.toList.length=z.length:=by simp [Str.length]
  rw [hl] at h1 h4 h5
  have hn:=iL
  exact tail_any (typeIs_str s z t) slot_str_getitem.lookup (getItem_str (c:=c) (by
    have e1:decide (i < -(2 ^ 63:Int))=false:=decide_eq_false (by lia)
    have e2:decide (i ≥ 2 ^ 63)=false:=decide_eq_false (by lia)
    rw [e1,e2,Bool.or_false]) (by rw [h1]; simpa using h2) ⟨.str ⟨#[c]⟩,H,I.tok _,⟨_,rfl⟩,q⟩) hs
theorem wH (its:List Value) (n j:Nat) (u:Value):Obj.mapSeq (·.setIfInBounds j u) { cls:=.type "list",data:=.seq its.toArray n }={ cls:=.type "list",data:=.seq (its.set j u).toArray n }:=by
  simp [Obj.mapSeq]
theorem Inv.lst {pins:List (Addr × Obj)} {σ:St} {H:Hp} {s:Shared} {p:Addr} {xs:List V} (I:Inv X pins σ H s) (h:H p=some (.lst xs)) :
    ∃ (its:List Value) (n:Nat),Vals xs its/\s.heap.get? p=some { cls:=.type "list",data:=.seq its.toArray n }/\xs.length<=sizeLine:=by
  obtain ⟨z,its,n,r,e⟩:=I.hok p _ h
  exact ⟨its,n,r,e,z⟩
theorem Inv.lstUpd {pins:List (Addr × Obj)} {σ:St} {H:Hp} {s:Shared} {p:Addr} {xs ys:List V} {its its':List Value} {n n':Nat} {f:Obj->Obj} (I:Inv X pins σ H s) (h:H p=some (.lst xs))
    (ho:s.heap.get? p=some { cls:=.type "list",data:=.seq its.toArray n }) (hf:f { cls:=.type "list",data:=.seq its.toArray n }={ cls:=.type "list",data:=.seq its'.toArray n' }) (r:Vals ys its') (hz:ys.length<=sizeLine) (t:Nat) :
    Inv X pins σ (upd H p (.lst ys)) { s with heap:=s.heap.update p f,toks:=t }:=by
  have e:(s.heap.update p f).get? p=some { cls:=.type "list",data:=.seq its'.toArray n' }:=by
    rw [Heap.get?_update_self f ho (by rw [hf]<;>rfl),hf]
  refine I.write (x:=p) (e:=p) (by rw [h]; trivial) (.inl rfl) (fun b u hb q=>(Heap.get?_update_other _ _ (Ne.symm hb)).trans q) ⟨_,e⟩ ?_
  exact ⟨hz,its',n',r,e⟩
noncomputable def D7:V->V->V->Hp->(Hp->Prop)->Prop:=fun o i v H Q=>∃ p xs k j,o = .ref p/\i = .int k/\H p=some (.lst xs)/\jE xs.length k=some j/\Q (upd H p (.lst (xs.set j v)))
theorem set_list:fv X D7:=by
  intro pins s σ H o i v ov iv u Q I ro ri rv h
  obtain ⟨p,xs,k,j,rfl,rfl,hp,hj,q⟩:=h
  cases ro
  obtain ⟨t,rfl⟩:=ri
  obtain ⟨its,n,r,ho,hz⟩:=I.lst hp
  obtain ⟨h1,h2,h3,h4⟩:=vB hj
  have hl:=r.length
  have hn:=iL
  have I':Inv X pins σ (upd H p (.lst (xs.set j v))) { s with heap:=s.heap.update p (Obj.mapSeq (·.setIfInBounds j u)) } :=
    I.lstUpd hp ho (wH its n j u) (r.set rv j) (by rw [List.length_set]; exact hz) s.toks
  by_cases h0:0<=k
  · have hk:k.toNat=j:=by
      rw [seqIndex_of h0 h4] at h1
      exact Option.some.inj h1
    exact PySem.W.ki_setAt ho h0 (by lia) (by rw [List.size_toArray,<- hl]; exact h4) (by rw [hk]; exact ⟨_,I',q⟩)
  · have hk:(k+(its.toArray.size:Int)).toNat=j:=by
      rw [seqIndex_neg (by lia) h3] at h1
      rw [List.size_toArray,<- hl]
      exact Option.some.inj h1
    exact PySem.W.ki_setBack ho (by lia) (by rw [List.size_toArray,<- hl]; exact h3) (by lia) (by rw [hk]; exact ⟨_,I',q⟩)
theorem tV (lo hi:Option Int) (n:Nat):(sliceBounds lo hi none n).1=((HT.sIx n 0 lo:Nat):Int)/\(sliceBounds lo hi none n).2.1=((HT.sIx n n hi:Nat):Int)/\(sliceBounds lo hi none n).2.2=1:=by
  refine ⟨?_,?_,rfl⟩
  · cases lo with
    | none=>simp [sliceBounds,HT.sIx]
    | some i =>
      simp only [sliceBounds,HT.sIx,Option.getD_none,show (1:Int) > 0 by decide,if_true]
      by_cases h:i < 0
      · simp only [h,if_true]<;>lia
      · simp only [h,if_false]<;>lia
  · cases hi with
    | none=>simp [sliceBounds,HT.sIx]
    | some i =>
      simp only [sliceBounds,HT.sIx,Option.getD_none,show (1:Int) > 0 by decide,if_true]
      by_cases h:i < 0
      · simp only [h,if_true]<;>lia
      · simp only [h,if_false]<;>lia
theorem qe (its:List Value) (lo hi:Option Int):slicePick its.toArray lo hi none=((its.drop (HT.sIx its.length 0 lo)).take (HT.sIx its.length its.length hi - HT.sIx its.length 0 lo)).toArray:=by
  obtain ⟨h1,h2,h3⟩:=tV lo hi its.toArray.size
  unfold slicePick
  rw [h1,h2,h3]
  simp only [sliceRange_one,pick_run,List.size_toArray]<;>rfl
noncomputable def EX (K:PySem.W.Frag):V->Option Int->Option Int->Hp->VK->Prop:=fun x lo hi H Q=>∃ a xs,x = .ref a/\au K H a xs/\∀ p,H p=none->Q (.ref p) (upd H p (.lst (fU xs lo hi)))
theorem og:Bl X (EX X.K):=by
  intro pins s σ H x v vl vu lo hi sl Q I rx hs pl pu h
  obtain ⟨a,xs,rfl,hx,q⟩:=h
  cases rx
  obtain ⟨its,r,ht,hz⟩:=I.list hx
  have hlen:=r.length
  refine ⟨"list",_,slot_list_getitem.lookup,ht.isList.typeIs,?_⟩
  refine wpAny_getItem_list_slice ht.isList hs pl pu .none (by simp) ?_ (by rw [List.size_toArray]<;>lia)
  rw [qe,<- hlen]
  refine ⟨.ref s.heap.objs.size,_,I.laid (t':=s.toks) (o:=.lst (fU xs lo hi)) (fun b ob q=>Heap.get?_push_of_some _ q) (Nat.le_refl _) ?_,rfl,q _ (I.hok.fresh (Nat.le_refl _))⟩
  exact ⟨Nat.le_trans (ux xs lo hi) hz,_,0,(r.drop (HT.sIx xs.length 0 lo)).take (HT.sIx xs.length xs.length hi - HT.sIx xs.length 0 lo),Heap.get?_push_size _ rfl⟩
noncomputable def gk:V->Bool
  | .non=>true
  | .bl _=>true
  | .int _=>true
  | .str _=>true
  | _=>false
noncomputable def nu:V->V->Bool
  | .non,.non=>true
  | .bl a,.bl b=>a == b
  | .bl a,.int b=>(if a then 1 else 0) == b
  | .int a,.bl b=>a == (if b then 1 else 0)
  | .int a,.int b=>a == b
  | .str a,.str b=>a == b
  | _,_=>false
theorem yk {A:Around} {s:Shared} {y x:V} {u v:Value} (ry:RelV y u) (rx:RelV x v) (fy:gk y=true) (fx:gk x=true):SeqAt.EqAt A s u v (nu y x):=by
  cases y with
  | non =>
    cases ry
    cases x with
    | non=>cases rx; exact SeqAt.EqAt.same _
    | bl b=>cases rx; exact SeqAt.EqAt.none_bool b
    | int b=>obtain ⟨t,rfl⟩:=rx; exact SeqAt.EqAt.none_int b t
    | str b=>obtain ⟨t,rfl⟩:=rx; exact SeqAt.EqAt.none_str b t
    | _=>exact absurd (show false=true from fx) Bool.false_ne_true
  | bl a =>
    cases ry
    cases x with
    | non=>cases rx; exact SeqAt.EqAt.bool_none a
    | bl b=>cases rx; exact SeqAt.EqAt.bool_bool a b
    | int b=>obtain ⟨t,rfl⟩:=rx; exact SeqAt.EqAt.bool_int a b t
    | str b=>obtain ⟨t,rfl⟩:=rx; exact SeqAt.EqAt.bool_str a b t
    | _=>exact absurd (show false=true from fx) Bool.false_ne_true
  | int a =>
    obtain ⟨t',rfl⟩:=ry
    cases x with
    | non=>cases rx; exact SeqAt.EqAt.int_none a t'
    | bl b=>cases rx; exact SeqAt.EqAt.int_bool a t' b
    | int b=>obtain ⟨t,rfl⟩:=rx; exact SeqAt.EqAt.int_int a t' b t
    | str b=>obtain ⟨t,rfl⟩:=rx; exact SeqAt.EqAt.int_str a t' b t
    | _=>exact absurd (show false=true from fx) Bool.false_ne_true
  | str a =>
    obtain ⟨t',rfl⟩:=ry
    cases x with
    | non=>cases rx; exact SeqAt.EqAt.str_none a t'
    | bl b=>cases rx; exact SeqAt.EqAt.str_bool a t' b
    | int b=>obtain ⟨t,rfl⟩:=rx; exact SeqAt.EqAt.str_int a t' b t
    | str b=>obtain ⟨t,rfl⟩:=rx; exact SeqAt.EqAt.str_str a t' b t
    | _=>exact absurd (show false=true from fx) Bool.false_ne_true
  | _=>exact absurd (show false=true from fy) Bool.false_ne_true
theorem aY:dY X (.builtin "len") (fun xs H Q=>∃ p ys,xs=[.ref p]/\(au X.K H p ys\/aT X.K H p ys)/\Q (.int ys.length) H):=by
  intro pins s σ H xs us Q I r h
  obtain ⟨p,ys,rfl,hq,q⟩:=h
  obtain ⟨u,rfl,rx⟩:=vals1 r
  cases rx
  have hn:=iL
  rcases hq with hq | hq
  · obtain ⟨its,r',pl,hz⟩:=I.list hq
    have hlen:=r'.length
    exact Calls.call_len_list pl.isList (by simp only [List.size_toArray]<;>lia) ⟨.int ys.length,H,I.tok _,⟨s.toks+1,by rw [List.size_toArray,hlen]⟩,q⟩
  · obtain ⟨its,r',pl,hz⟩:=I.tuple hq
    have hlen:=r'.length
    exact len_tuple pl (by simp only [List.size_toArray]<;>lia) ⟨.int ys.length,H,I.tok _,⟨s.toks+1,by rw [List.size_toArray,hlen]⟩,q⟩
theorem cP:dY X (.builtin "len") (fun xs H Q=>∃ z,xs=[.str z]/\z.length<=sizeLine/\Q (.int z.length) H):=by
  intro pins s σ H xs us Q I r h
  obtain ⟨z,rfl,hz,q⟩:=h
  obtain ⟨u,rfl,t,rfl⟩:=vals1 r
  have hn:=iL
  exact len_str (by lia) ⟨.int z.length,H,I.tok _,⟨_,rfl⟩,q⟩
def DH (K:PySem.W.Frag) (T:String) (x:V) (H:Hp):Prop:=match x with
  | .str _=>T = "str"
  | .int _=>T = "int"
  | .ref p=>(T = "list"/\∃ xs,au K H p xs)\/(T = "tuple"/\∃ o,K.lookup p=some o/\o.cls = .type "tuple"/\o.dict=none) \/
      (T = "dict"/\((∃ kvs,H p=some (.dK kvs))\/∃ kvs,H p=some (.dT kvs)))\/(T = "set"/\∃ S n,H p=some (.set S n))
  | _=>False
theorem xA {pins:List (Addr × Obj)} {σ:St} {H:Hp} {s:Shared} {T:String} {x:V} {v:Value} (I:Inv X pins σ H s) (r:RelV x v) (ty:DH X.K T x H) :
    s.TypeIs v T/\∀ a,v = .ref a->∃ ob,s.heap.get? a=some ob/\ob.dict=none:=by
  cases x with
  | str z =>
    obtain ⟨t,rfl⟩:=r
    cases (show T = "str" from ty)
    exact ⟨typeIs_str s z t,fun _ e=>nomatch e⟩
  | int i =>
    obtain ⟨t,rfl⟩:=r
    cases (show T = "int" from ty)
    exact ⟨typeIs_int s i t,fun _ e=>nomatch e⟩
  | ref p =>
    cases r
    rcases ty with ⟨rfl,xs,hq⟩ | ⟨rfl,o,hk,hc,hd⟩ | ⟨rfl,hk⟩ | ⟨rfl,S,n,hk⟩
    · obtain ⟨its,_,pl,_⟩:=I.list hq
      refine ⟨pl.isList.typeIs,fun a e=>?_⟩
      cases e
      obtain ⟨o,n,e,c,hd,_⟩:=pl
      exact ⟨o,e,hd⟩
    · refine ⟨⟨o,I.kIn p o hk,hc⟩,fun a e=>?_⟩
      cases e
      exact ⟨o,I.kIn _ o hk,hd⟩
    · have z:∃ o,s.heap.get? p=some o/\o.ExactDict:=by
        rcases hk with ⟨kvs,hk⟩ | ⟨kvs,hk⟩
        · obtain ⟨_,_,_,_,o,_,_,e,ex,_⟩:=I.hok p _ hk
          exact ⟨o,e,ex⟩
        · obtain ⟨_,_,_,_,o,_,_,e,ex,_⟩:=I.hok p _ hk
          exact ⟨o,e,ex⟩
      obtain ⟨o,e,ex⟩:=z
      refine ⟨⟨o,e,ex.1⟩,fun a e2=>?_⟩
      cases e2
      exact ⟨o,e,ex.2.1⟩
    · obtain ⟨o,_,_,_,e,ex,_⟩:=I.hok p _ hk
      refine ⟨⟨o,e,ex.1⟩,fun a e2=>?_⟩
      cases e2
      exact ⟨o,e,ex.2.1⟩
  | _=>exact False.elim ty
noncomputable def E3 (K:PySem.W.Frag) (T:String) (r:V->List V->Hp->VK->Prop) (to:TE):TE:=fun σ H Q=>to σ H fun x H1=>DH K T x H1/\r x [] H1 Q
noncomputable def EF (K:PySem.W.Frag) (T:String) (r:V->List V->Hp->VK->Prop) (to:TE) (t:TA):TE:=fun σ H Q=>to σ H fun x H1=>DH K T x H1/\t σ H1 fun xs H2=>r x xs H2 Q
variable {o e:Expr} {es:List Expr} {to:TE} {t:TA} {name:Str} {apos cpos:Pos} {T id:String} {r:V->List V->Hp->VK->Prop}
theorem ip (pa:PlainAttrs T) (slot:Slot T name id) (hty:typeOf (.builtin id)=pure (.type "method_descriptor")) (hm:Dj X id r) (ho:PE X o to)
    (hbase:attributeBase o name X.env (eval o X.env)=eval o X.env:=by rfl) (hline:(apos.endLine == cpos.line)=true:=by rfl):PE X (.Call (.Attribute o name apos) [] [] cpos) (E3 X.K T r to):=by
  intro pins s σ H Q I h
  refine wpAny_Call_method0_late hbase hline (aH (ho pins s σ H _ I h) fun v s1 ⟨x,H1,I1,r1,ty,q1⟩=>?_)
  obtain ⟨h1,h2⟩:=xA I1 r1 ty
  exact ⟨T,id,pa,slot,hty,h1,h2,Calls.callWith_builtin rfl (PySem.evalArgs_none (hm pins s1 σ H1 x [] v [] Q I1 r1 .nil q1))⟩
theorem cg (pa:PlainAttrs T) (slot:Slot T name id) (hty:typeOf (.builtin id)=pure (.type "method_descriptor")) (hm:Dj X id r) (ho:PE X o to) (ha:PA X (e::es) t)
    (hbase:attributeBase o name X.env (eval o X.env)=eval o X.env:=by rfl)
    (hfew:((backTo cpos (starEach (e::es) X.env)).all (fun x=>!x.1)&&(backToKw cpos (keywordEach [] X.env)).all (fun x=>x.1.isSome)
      && decide ((e::es).length+([]:List Keyword).length+(if ([]:List Keyword).isEmpty then 0 else 1) < 30))=true:=by rfl)
    (hline:(apos.endLine == cpos.line)=true:=by rfl) (hs:starEach (e::es) X.env=(false,eval e X.env)::starEach es X.env:=by rfl) (hplain:(backTo cpos (starEach es X.env)).any (·.1)=false:=by rfl) :
    PE X (.Call (.Attribute o name apos) (e::es) [] cpos) (EF X.K T r to t):=by
  intro pins s σ H Q I h
  refine wpAny_Call_method_late hbase hfew hline rfl (aH (ho pins s σ H _ I h) fun v s1 ⟨x,H1,I1,r1,ty,q1⟩=>?_)
  obtain ⟨h1,h2⟩:=xA I1 r1 ty
  refine ⟨T,id,pa,slot,hty,h1,h2,?_⟩
  have hA:=ha cpos pins s1 σ H1 _ I1 q1
  rw [hs] at hA |-
  refine Calls.callWith_builtin (by show (false || (backTo cpos (starEach es X.env)).any (·.1))=false; rw [hplain]<;>rfl) (Calls.evalArgs_plain ?_)
  exact aH hA fun us s2 ⟨vs,H2,I2,r2,q2⟩=>hm pins s2 σ H2 x vs v us Q I2 r1 r2 q2
end
end L2
namespace L2
open PySem PySem.Spec PyProof.Rows
def uw (X:Cx) (id:String) (r:V->List V->Hp->VK->Prop):Prop :=
  ∀ (pins:List (Addr × Obj)) (s:Shared) (σ:St) (H:Hp) (x:V) (xs:List V) (v:Value) (us:List Value) (Q:VK),Inv X pins σ H s->RelV x v->Vals xs us->r x xs H Q ->
    wpAny (model X.prog X.w) X.A (call (.builtin id) (v::us)) (EP X pins σ Q) X.xe s
theorem Vals.one:∀ {x:V} {us:List Value},Vals [x] us->∃ u,us=[u]/\RelV x u
  | _,_,.cons r .nil=>⟨_,rfl,r⟩
theorem Vals.zero:∀ {us:List Value},Vals [] us->us=[]
  | _,.nil=>rfl
theorem Vals.dropLast {xs:List V} {us:List Value} (h:Vals xs us):Vals xs.dropLast us.dropLast:=by
  induction h with
  | nil=>exact .nil
  | cons r t ih =>
    cases t with
    | nil=>exact .nil
    | cons q t'=>exact .cons r ih
theorem Vals.rep {xs:List V} {us:List Value} (h:Vals xs us):∀ k:Nat,Vals (List.replicate k xs).flatten (List.replicate k us).flatten
  | 0=>.nil
  | k+1=>by
    rw [List.replicate_succ,List.replicate_succ,List.flatten_cons,List.flatten_cons]
    exact Vals.append h (Vals.rep h k)
theorem vH {α:Type} (l:List α):l.eraseIdx (l.length - 1)=l.dropLast:=by
  induction l with
  | nil=>rfl
  | cons a r ih =>
    cases r with
    | nil=>rfl
    | cons b r =>
      have e:(a::b::r).length - 1=((b::r).length - 1)+1:=by
        have h1:(a::b::r).length=r.length+2:=rfl
        have h2:(b::r).length=r.length+1:=rfl
        lia
      rw [e,List.eraseIdx_cons_succ,ih]
      all_goals rfl
theorem foldl_rep (its:List Value):∀ (k:Nat) (acc:List Value),
    List.foldl (fun x1 x2=>x1++x2) acc.toArray (List.replicate k its.toArray)=(acc++(List.replicate k its).flatten).toArray
  | 0,acc=>by simp
  | k+1,acc=>by
    have e:acc.toArray++its.toArray=(acc++its).toArray:=by simp
    have e2:(acc++its)++(List.replicate k its).flatten=acc++(List.replicate (k+1) its).flatten:=by
      rw [List.replicate_succ,List.flatten_cons,List.append_assoc]
    rw [<- e2,<- foldl_rep its k (acc++its),<- e,List.replicate_succ,List.foldl_cons]
section
variable {X:Cx} {pins:List (Addr × Obj)} {σ:St} {H:Hp} {s:Shared} {l b:Addr} {xs ys zs:List V}
theorem Inv.lset {its its':List Value} {n:Nat} {f:Array Value->Array Value} {t':Nat} (I:Inv X pins σ H s) (hH:H l=some (.lst xs))
    (e:s.heap.get? l=some { cls:=.type "list",data:=.seq its.toArray n }) (hf:f its.toArray=its'.toArray) (hv:Vals ys its') (hz:ys.length<=sizeLine) :
    Inv X pins σ (upd H l (.lst ys)) { s with heap:=s.heap.update l (Obj.mapSeq f),toks:=t' }:=by
  have q:=PySem.IsL.update e f
  rw [hf] at q
  refine I.write (x:=l) (e:=l) (by rw [hH]; exact trivial) (.inl rfl) (fun b' u hb hu=>(Heap.get?_update_other s.heap (Obj.mapSeq f) (Ne.symm hb)).trans hu) ⟨_,q⟩ ?_
  exact ⟨hz,its',_,hv,q⟩
theorem Inv.lnew {its:List Value} {t':Nat} (I:Inv X pins σ H s) (hv:Vals ys its) (hz:ys.length<=sizeLine) :
    Inv X pins σ (upd H s.heap.objs.size (.lst ys)) { s with heap:=s.heap.push { cls:=.type "list",data:=.seq its.toArray },toks:=t' } :=
  I.laid (fun _ _ q=>Heap.get?_push_of_some _ q) (Nat.le_refl _) ⟨hz,its,0,hv,Heap.get?_push_size _ rfl⟩
theorem Inv.fresh (I:Inv X pins σ H s):H s.heap.objs.size=none:=I.hok.fresh (Nat.le_refl _)
theorem Inv.lstM (I:Inv X pins σ H s) (hH:H l=some (.lst xs)):xs.length<=sizeLine/\∃ (its:List Value) (n:Nat),Vals xs its/\xs.length=its.length/\s.heap.get? l=some { cls:=.type "list",data:=.seq its.toArray n }:=by
  obtain ⟨z,its,n,r,e⟩:=I.hok l _ hH
  exact ⟨z,its,n,r,r.length,e⟩
theorem mD {n:Nat} (h:n<=sizeLine):Builtin.List.listTooLong n=false:=by
  unfold Builtin.List.listTooLong
  exact decide_eq_false (by lia)
end
section
variable {X:Cx}
noncomputable def AF:V->List V->Hp->VK->Prop:=fun x vs H Q=>∃ l xs y,x = .ref l/\vs=[y]/\H l=some (.lst xs)/\xs.length < sizeLine/\Q .non (upd H l (.lst (xs++[y])))
theorem bJ:uw X "list.append" AF:=by
  intro pins s σ H x vs v us Q I rx rv h
  obtain ⟨l,xs,y,rfl,rfl,hH,hz,q⟩:=h
  cases rx
  obtain ⟨u,rfl,ru⟩:=rv.one
  obtain ⟨z,its,n,r,hl,e⟩:=I.lstM hH
  refine call_meets F.slot_list_append ⟨_,e,rfl⟩ F.entry_list_append (F.args_list_append_2 _ _) (PySem.list_append l its.toArray n u (by rw [List.size_toArray]; lia)) ⟨e,?_⟩
  refine ⟨.non,_,I.lset (its':=its++[u]) hH e (by simp) (r.append (.cons ru .nil)) ?_,rfl,q⟩
  rw [List.length_append,List.length_singleton]
  lia
noncomputable def vA:V->List V->Hp->VK->Prop:=fun x vs H Q=>∃ l b xs zs,x = .ref l/\vs=[.ref b]/\H l=some (.lst xs)/\H b=some (.lst zs)/\xs.length+zs.length<=sizeLine/\Q .non (upd H l (.lst (xs++zs)))
theorem pE:uw X "list.extend" vA:=by
  intro pins s σ H x vs v us Q I rx rv h
  obtain ⟨l,b,xs,zs,rfl,rfl,hH,hB,hz,q⟩:=h
  cases rx
  obtain ⟨u,rfl,ru⟩:=rv.one
  cases ru
  obtain ⟨z,its,n,r,hl,e⟩:=I.lstM hH
  obtain ⟨z2,its2,n2,r2,hl2,e2⟩:=I.lstM hB
  have hsz:its.toArray.size+its2.toArray.size<=sizeLine:=by rw [List.size_toArray,List.size_toArray]; lia
  have hlong:¬ (!its.toArray.isEmpty&&Builtin.List.listTooLong (its.toArray.size+its2.toArray.size))=true:=by
    rw [mD hsz,Bool.and_false]
    exact Bool.false_ne_true
  refine call_meets F.slot_list_extend ⟨_,e,rfl⟩ F.entry_list_extend (F.args_list_extend_2 _ _)
    (AutoSeq1.list_extend_list_list_0 l its.toArray n b its2.toArray n2 hlong (by rw [List.size_toArray]; lia) (by lia)) ⟨e,e2,?_⟩
  refine ⟨.non,_,I.lset (its':=its++its2) hH e (by simp) (r.append r2) ?_,rfl,q⟩
  rw [List.length_append]
  lia
noncomputable def E1:V->List V->Hp->VK->Prop:=fun x vs H Q=>∃ l xs y,x = .ref l/\vs=[]/\H l=some (.lst xs)/\xs[xs.length - 1]? = some y/\Q y (upd H l (.lst xs.dropLast))
theorem iM:uw X "list.pop" E1:=by
  intro pins s σ H x vs v us Q I rx rv h
  obtain ⟨l,xs,y,rfl,rfl,hH,hy,q⟩:=h
  cases rx
  have hus:=rv.zero
  subst hus
  obtain ⟨z,its,n,r,hl,e⟩:=I.lstM hH
  obtain ⟨u,hu,ru⟩:=r.get hy
  have hy':its.toArray[its.toArray.size - 1]? = some u:=by
    show its.toArray[its.length - 1]? = some u
    rw [<- Array.getElem?_toList,<- hl]
    exact hu
  refine call_meets F.slot_list_pop ⟨_,e,rfl⟩ F.entry_list_pop (F.args_list_pop_1 _) (MeetsSeq.list_pop_last l its.toArray n u hy' (by rw [List.size_toArray]; lia)) ⟨e,?_⟩
  refine ⟨y,_,I.lset (its':=its.dropLast) hH e ?_ r.dropLast ?_,ru,q⟩
  · show its.toArray.eraseIdxIfInBounds (its.toArray.size - 1)=its.dropLast.toArray
    rw [List.size_toArray,List.eraseIdxIfInBounds_toArray,vH]
  · rw [List.length_dropLast]
    lia
noncomputable def E4:R2:=fun x y H Q=>∃ l b xs zs,x = .ref l/\y = .ref b/\H l=some (.lst xs)/\H b=some (.lst zs)/\xs.length+zs.length<=sizeLine/\∀ p,H p=none->Q (.ref p) (upd H p (.lst (xs++zs)))
theorem rZ:cp X (binaryOp .Add) E4:=by
  intro pins s σ H x y v u Q I rx ry h
  obtain ⟨l,b,xs,zs,rfl,rfl,hH,hB,hz,q⟩:=h
  cases rx
  cases ry
  obtain ⟨z,its,n,r,hl,e⟩:=I.lstM hH
  obtain ⟨z2,its2,n2,r2,hl2,e2⟩:=I.lstM hB
  refine PySem.P.add_list e e2 ?_ (by rw [List.size_toArray,List.size_toArray]; lia)
  have ea:its.toArray++its2.toArray=(its++its2).toArray:=by simp
  rw [ea]
  exact ⟨.ref _,_,I.lnew (t':=s.toks) (r.append r2) (by rw [List.length_append]; lia),rfl,q _ I.fresh⟩
noncomputable def Ff:R2:=fun x y H Q=>∃ l k xs,x = .ref l/\y = .int k/\H l=some (.lst xs)/\-(2 ^ 63)<=k/\k < 2 ^ 63/\xs.length*k.toNat<=sizeLine /\
  ∀ p,H p=none->Q (.ref p) (upd H p (.lst (List.replicate k.toNat xs).flatten))
theorem len_rep {α:Type} (xs:List α) (k:Nat):(List.replicate k xs).flatten.length=k*xs.length:=by
  induction k with
  | zero=>simp
  | succ k ih=>rw [List.replicate_succ,List.flatten_cons,List.length_append,ih,Nat.succ_mul,Nat.add_comm]
theorem CQ:cp X (binaryOp .Mult) Ff:=by
  intro pins s σ H x y v u Q I rx ry h
  obtain ⟨l,k,xs,rfl,rfl,hH,h1,h2,hz,q⟩:=h
  cases rx
  obtain ⟨t,rfl⟩:=ry
  obtain ⟨z,its,n,r,hl,e⟩:=I.lstM hH
  have hlen:its.toArray.size*k.toNat<=sizeLine:=by rw [List.size_toArray,<- hl]; exact hz
  have hcap:¬ its.toArray.size*k.toNat > (2 ^ 63 - 1) / 8:=by
    have:(sizeLine:Nat)<=(2 ^ 63 - 1) / 8:=by decide
    lia
  have hfit:¬ (!Builtin.List.listFitsIndex k)=true:=by
    rw [fitsIndex_both h1 h2]
    exact Bool.false_ne_true
  have hlong:¬ Builtin.List.listTooLong (its.toArray.size*k.toNat)=true:=by
    rw [mD hlen]
    exact Bool.false_ne_true
  have hnew:List.foldl (fun x1 x2=>x1++x2) #[] (List.replicate (if its.toArray.isEmpty=true then 0 else k.toNat) its.toArray)=(List.replicate k.toNat its).flatten.toArray:=by
    have f0:∀ m:Nat,List.foldl (fun x1 x2=>x1++x2) #[] (List.replicate m its.toArray)=(List.replicate m its).flatten.toArray:=fun m=>by
      have:=foldl_rep its m []
      rw [List.nil_append] at this
      exact this
    rw [f0]
    cases its with
    | nil=>simp
    | cons a r'=>rw [if_neg (by simp)]
  refine wpAny_binaryOp_repeat_ref (T:="list") (U:="int") (by decide) ⟨_,e,rfl⟩ (fun s'=>typeIs_int s' k t) noFill_list_mul F.fills_int_mul F.slot_int_rmul repeat_list F.slot_int_index.lookup
    (call_meets F.slot_int_rmul (typeIs_int s k t) F.entry_int_rmul (F.args_int_rmul_2 _ _) (int___rmul___int_list k t l its.toArray n)
      ⟨e,rfl,⟨_,e,rfl⟩,call_meets F.slot_list_mul ⟨_,e,rfl⟩ F.entry_list_mul (F.args_list_mul_2 _ _) (AutoListH.list___mul___list_int_3 l its.toArray n k t hfit hcap hlong) ⟨e,?_⟩⟩)
  rw [hnew]
  exact ⟨.ref _,_,I.lnew (t':=s.toks) (r.rep k.toNat) (by rw [len_rep,Nat.mul_comm]; exact hz),rfl,q _ I.fresh⟩
end
section
variable {prog:Program} {w:World} {A:Around} {E:Value->Shared->Prop} {s:Shared}
set_option maxRecDepth 100000 in
end
section
variable {X:Cx}
end
end L2
namespace Att
open PySem PySem.W PySem.Calls PyProof.Rows
theorem nN {P:Params} {h:Heap}:∀ (ns:List Int) (vs:List Value),WellAll P h vs (ns.map WData.int)->IntsAre vs ns:=by
  intro ns
  induction ns with
  | nil =>
    intro vs w
    rw [List.map_nil] at w
    cases w
    exact .nil
  | cons n ns ih =>
    intro vs w
    rw [List.map_cons] at w
    cases w with
    | cons a b =>
      cases a
      exact .cons _ _ (ih _ b)
theorem yH {l:OpenLaw} {n:Nat} (hn:l.most=some n) {P:Params} {h:Heap} {args:List WData} {vals:List Value}
    (hpre:l.row.toRowW.claim.pre args=true) (hwl:WellAll P h vals args) :
    ∃ a vs ns,vals=[Value.ref a]/\args=[WData.list (ns.map WData.int)]/\h.get? a=some { cls:=.type "list",data:=.seq vs.toArray }/\IntsAre vs ns/\ns.length<=n:=by
  have hsh:WShape.hasAll [] args [.list .int]=true:=(pre_splitW hpre).1
  have hc:l.pre.holds [] { args:=args }=true:=(pre_splitW hpre).2
  obtain ⟨d,r,rfl,h1,h2⟩:=hasAllW_cons hsh
  obtain rfl:=hasAllW_nil h2
  obtain ⟨xs,rfl,h3⟩:=hasW_list h1
  obtain ⟨ns,rfl⟩:=items_int h3
  have hlen:ns.length<=n:=by
    unfold OpenLaw.pre at hc
    have h4:(WTm.not (.lt (.lit (.int (n:Int))) (.len (.arg 0)))).holds [] { args:=[.list (ns.map .int)] }=true:=by
      have h4:=(holds_andW hc).1
      rw [hn] at h4
      exact h4
    have h5:=condW_of h4 (w_not (w_lt w_lit (w_len_list (w_arg rfl))))
    rw [List.length_map] at h5
    refine Nat.le_of_not_lt fun q=>?_
    have q':(n:Int) < ((ns.length:Nat):Int):=by lia
    first
      | (rw [decide_eq_true q'] at h5; exact absurd h5 (by decide))
      | (simp at h5; lia)
  cases hwl with
  | cons w1 w2 =>
    cases w2
    cases w1 with
    | list ho hall=>exact ⟨_,_,ns,rfl,rfl,ho,nN ns _ hall,hlen⟩
theorem yQ (l:OpenLaw) (args:List WData):l.row.toRowW.claim.post args (.bool true) args=true :=
  postW_of (r:=l.row.toRowW) (X:=(true == true))
    (show WShape.has [] (.bool true) .bool=true by first | rfl | decide | simp [WShape.has,WShape.arms,WShape.armsAll])
    (show (WTm.eq .res (.lit (.bool true))).value [] { args:=args,res:=some (.bool true),after:=args }=some (.bool (true == true)) from w_eq_bool (w_res rfl) w_lit) rfl
theorem attach_call {l:OpenLaw} {n:Nat} {q:Program} {loose:List Str} {XP:(Str->Option Value)->Heap->Prop} {YP:World->Heap->Prop} {d:DefRec}
    (hn:l.most=some n) (hdf:d.params.defaults=[])
    (call:∀ (w:World) (s₀ s₁:Shared) (mg mb:Str->Option Value) (fa:Addr) (o:Obj) (pm cd doc:Value) (a:Addr) (vs:List Value) (ns:List Int),
      Ground q loose [] XP w s₀ mg mb s₁.heap->YP w s₁.heap ->
      s₁.heap.get? fa=some o->o.data = .func (docDef d.name d.params d.body d.scope pm cd doc)->s₁.heap.CodeRec cd d.name->mg d.name=some (.ref fa) ->
      s₁.heap.get? a=some { cls:=.type "list",data:=.seq vs.toArray }->IntsAre vs ns->ns.length<=n->s₁.gens = #[] ->
      codeAny (model l.prog w) callerA (.call (.ref fa) ⟨[.ref a],[]⟩) (fun r s'=>r = .ok (.ret (.bool true))/\OldK s₁.heap s'.heap/\s'.os=s₁.os/\AllBare s'.gens) s₁) :
    WalkO q loose XP YP l.row.toRowW d [] (fun f vs=>PySem.call f vs):=by
  intro w s₀ s₁ mg mb G Y fa o pm cd doc dV kV ho hd hcd hD hmg hg args vals as hpre hlay hrd hwl hlo
  obtain rfl:dV = .none:=Dflts.none hD hdf
  obtain rfl:kV = .none:=Dflts.noKw hD
  obtain ⟨a,vs,ns,rfl,rfl,hobj,hints,hlen⟩:=yH hn hpre hwl
  refine enter_call (codeAny_mono (call w s₀ s₁ mg mb fa o pm cd doc a vs ns G Y ho (fd_plain hd) hcd hmg hobj hints hlen hg) fun r s' hq=>?_)
  obtain ⟨rfl,h2,h3,h4⟩:=hq
  exact ⟨.inl ⟨.bool true,.bool true,[],rfl,fun _=>rfl,.bool true,yQ l _,fun _=>⟨List.Pairwise.nil,fun _ hm=>(nomatch hm)⟩⟩,h2,h3,h4⟩
section
variable {prog:Program} {w:World} {A:Around} {E:Value->Shared->Prop} {s:Shared} {K:Frag}
noncomputable def ledger (h:Heap) (L d:Addr):List (Addr × Obj):=(List.range h.objs.size).filterMap fun a=>if a=L\/a=d then none else (h.get? a).map fun o=>(a,o)
end
end Att
namespace L2
open PySem PySem.Spec PyProof.Rows
theorem pJ:∀ {vs:List Value} {ns:List Int},IntsAre vs ns->Vals (ns.map V.int) vs
  | _,_,.nil=>.nil
  | _,_,.cons n t h=>.cons ⟨t,rfl⟩ (pJ h)
def wa (H:Hp):Prop:=∀ b,H b=none\/∃ o xs,H b=some (.frz o (.lst xs))
theorem zh {P:Program} {w:World} {K:PySem.W.Frag} {mg mb:Str->Option Value} {CX:fW} {k:Nat} {fa a:Addr} {fd:FuncData} {x:Str} {sp:Sp} {s₁:Shared} {vs:List Value} {ns:List Int}
    (KX:K.In s₁.heap) (hns:s₁.heap.Ns mainGlobals mg) (hb:s₁.heap.Ns builtinsNs mb) (hbb:∀ x:Str,x≠"__name__"->mb x=bootBuiltins x) (hlim:s₁.heap.NoLimit) (hg:s₁.gens = #[])
    (ha:s₁.heap.get? a=some { cls:=.type "list",data:=.seq vs.toArray }) (hi:IntsAre vs ns) (hl:ns.length<=sizeLine) (hr:bV k callerA)
    (F:∀ base:Heap,K.In base->base.Ns mainGlobals mg->ax P w K mg base CX k fa fd [x] sp) (hbind:∀ (s:Shared) (u:Value),BindsTo s fd ⟨[u],[]⟩ [(x,u)])
    (hsp:∀ H:Hp,wa H->au K H a (ns.map V.int)->sp [.ref a] H (fun v _=>v = .bl true) fun _ _ _=>False)
    (hCX:∀ H e s',CX [] H s₁ (fun _ _ _=>False) e s'->False) :
    codeAny (model P w) callerA (.call (.ref fa) ⟨[.ref a],[]⟩) (fun r s'=>r = .ok (.ret (.bool true))/\OldK s₁.heap s'.heap/\s'.os=s₁.os/\AllBare s'.gens) s₁:=by
  have rv:=pJ hi
  have lenV:=hi.length
  -- from an abstract heap in which nothing but the script may be tracked
  have core:∀ H:Hp,wa H->au K H a (ns.map V.int)->dj P w H s₁.heap->(∀ b,H b≠none->b=a)->(H a≠none->K.lookup a=none) ->
      codeAny (model P w) callerA (.call (.ref fa) ⟨[.ref a],[]⟩) (fun r s'=>r = .ok (.ret (.bool true))/\OldK s₁.heap s'.heap/\s'.os=s₁.os/\AllBare s'.gens) s₁:=by
    intro H hO hS hok hA hK
    have base_of:∀ {b:Addr} {o:Obj},s₁.heap.get? b=some o->H b=none->(ja s₁.heap H).get? b=some o:=fun e n=>zT e n
    have noA:∀ {b:Addr} {o:Obj} {es:Array DictEntry} {ep:Nat},s₁.heap.get? b=some o->o.data = .dict es ep->H b=none:=fun {b o es ep} e d=>by
      cases q:H b with
      | none=>rfl
      | some u =>
        have e':b=a:=hA b (by rw [q]; simp)
        subst e'
        rw [ha] at e; cases e
        have d':Data.seq vs.toArray _=Data.dict es ep:=d
        cases d'
    have nsK:∀ {b:Addr} {m:Str->Option Value},s₁.heap.Ns b m->(ja s₁.heap H).Ns b m:=fun {b m} ⟨o,es,ep,e,d,r⟩=>⟨o,es,ep,base_of e (noA e d),d,r⟩
    have hKb:K.In (ja s₁.heap H):=fun b o e=>base_of (KX b o e) (by
      cases q:H b with
      | none=>rfl
      | some u =>
        have e':b=a:=hA b (by rw [q]; simp)
        subst e'
        rw [hK (by rw [q]; simp)] at e; cases e)
    have hM:Mod K mg (ja s₁.heap H):=⟨hKb,nsK hns,⟨mb,nsK hb,hbb⟩,let ⟨mc,h1,h2⟩:=hlim; ⟨mc,nsK h1,h2⟩⟩
    have e0:mM P w K mg (ja s₁.heap H) callerA [] s₁ H:=⟨rfl,hM,fun b o e=>AX e,Nat.le_of_eq (yx _ _),trivial,fun b hb=>absurd (show b∈([]:List Addr) from hb) (by simp),hok,.of_eq hg⟩
    refine codeAny_mono ((F _ hKb (nsK hns)).run callerA [] s₁ H ⟨[.ref a],[]⟩ [.ref a] [.ref a] _ _ hr e0 (hbind s₁ (.ref a)) (.cons rfl .nil) (hsp H hO hS)) fun r s' h=>?_
    cases r with
    | error e=>exact (hCX H e s' h).elim
    | ok fl =>
      cases fl with
      | next=>exact False.elim h
      | brk=>exact False.elim h
      | cont=>exact False.elim h
      | ret u =>
        obtain ⟨v,H',os,bare,un,hok',r',q⟩:=h
        have q':v = .bl true:=q
        subst q'
        obtain rfl:u=Value.bool true:=r'
        refine ⟨rfl,OldK.of_keep fun b o e=>?_,os,bare⟩
        cases q:H b with
        | none=>exact un.keep b o e q (by intro z; exact absurd (show b∈([]:List Addr) from z) (by simp)) (by simp)
        | some u =>
          rcases hO b with z | ⟨ob,xs,z⟩
          · rw [q] at z; cases z
          · have z2:=un.frzs b ob _ z
            obtain ⟨e1,_⟩:=hok b _ z
            obtain ⟨e2,_⟩:=hok' b _ z2
            rw [e] at e1; cases e1
            exact e2
  cases hk:K.lookup a with
  | some o =>
    -- the script is one of the module's own objects
    have e:=KX a o hk
    rw [ha] at e
    cases e
    refine core (fun _=>none) (fun _=>.inl rfl) (.inr ⟨_,vs.toArray,_,hk,rfl,rfl,rfl,by rw [List.size_toArray,lenV]; exact hl,by simpa using rv⟩) (fun b u z=>by have z':(none:Option HO)=some u:=z; cases z') (fun b z=>absurd rfl z) fun z=>absurd rfl z
  | none =>
    refine core (fun b=>if b=a then some (.frz { cls:=.type "list",data:=.seq vs.toArray } (.lst (ns.map V.int))) else none) (fun b=>?_) (.inl (.inr ⟨{ cls:=.type "list",data:=.seq vs.toArray },if_pos rfl⟩)) (fun b u z=>?_) (fun b z=>?_) fun _=>hk
    · by_cases hb:b=a
      · exact .inr ⟨_,_,if_pos hb⟩
      · exact .inl (if_neg hb)
    · by_cases hb:b=a
      · have z':=(if_pos hb).symm.trans z
        cases z'
        subst hb
        exact ⟨ha,by rw [List.length_map]; exact hl,vs,_,rv,ha⟩
      · have z':=(if_neg hb).symm.trans z
        cases z'
    · by_cases hb:b=a
      · exact hb
      · exact absurd (if_neg hb) z
end L2
namespace L2
open PySem PySem.Spec PyProof.Rows
noncomputable abbrev FA {K:PySem.W.Frag} {h:Heap} (_:K.In h):PySem.W.Frag:=K
theorem walk_of {l:W.OpenLaw} {n k:Nat} {q:Program} {loose:List Str} {XP:(Str->Option Value)->Heap->Prop} {YP:World->Heap->Prop} {d:DefRec} {K:Params->W.Frag} {CX:World->fW} {sp:World->Sp} {x:Str}
    (hn:l.most=some n) (hn2:n<=sizeLine) (hdf:d.params.defaults=[]) (hr:bV k callerA)
    (hY:∀ (w:World) (h:Heap),YP w h->(K w.params).In h)
    (F:∀ (w:World) (mg:Str->Option Value) (fa:Addr) (h:Heap),(K w.params).In h->h.Ns mainGlobals mg->mg d.name=some (.ref fa) ->
      ∃ fd:FuncData,(∀ (s:Shared) (u:Value),BindsTo s fd ⟨[u],[]⟩ [(x,u)]) /\
        ∀ base:Heap,(K w.params).In base->base.Ns mainGlobals mg->ax l.prog w (K w.params) mg base (CX w) k fa fd [x] (sp w))
    (hsp:∀ (w:World) (H:Hp) (a:Addr) (ns:List Int),ns.length<=n->wa H->au (K w.params) H a (ns.map V.int)->sp w [.ref a] H (fun v _=>v = .bl true) fun _ _ _=>False)
    (hCX:∀ (w:World) (H:Hp) (s:Shared) (e:Value) (s':Shared),CX w [] H s (fun _ _ _=>False) e s'->False) :
    W.WalkO q loose XP YP l.row.toRowW d [] (fun f vs=>PySem.call f vs):=by
  refine Att.attach_call hn hdf fun w s₀ s₁ mg mb fa o pm cd doc a vs ns G Y ho hd hcd hmg hobj hints hlen hg=>?_
  have KX:=hY w _ Y
  obtain ⟨fd,hb,hF⟩:=F w mg fa _ KX G.T.g hmg
  exact zh KX G.T.g G.T.b G.T.builtins G.T.nolimit hg hobj hints (Nat.le_trans hlen hn2) hr hF hb (fun H hO hS=>hsp w H a ns hlen hO hS) fun H e s'=>hCX w H s₁ e s'
end L2
namespace L2
open PySem PySem.Spec PyProof.Rows
noncomputable def inClass (s:Stmt) (j:Nat):Stmt:=match s with
  | .ClassDef _ _ _ body _ _ _ _ _ _ _=>body.getD j (.Pass ⟨0,0,0,0⟩)
  | _=>.Pass ⟨0,0,0,0⟩
noncomputable def aq (s:Stmt):Arguments:=match s with
  | .FunctionDef _ a _ _ _ _ _ _ _ _=>a
  | _=>{ posonlyargs:=[],args:=[],vararg:=none,kwonlyargs:=[],kw_defaults:=[],kwarg:=none,defaults:=[] }
noncomputable def ao (s:Stmt):List Stmt:=match s with
  | .FunctionDef _ _ b _ _ _ _ _ _ _=>b
  | _=>[]
noncomputable def ae (s:Stmt):Scope:=match s with
  | .FunctionDef _ _ _ _ _ _ sc _ _ _=>sc
  | _=>{ kind:=.function,names:=[],isGenerator:=false,isCoroutine:=false }
noncomputable abbrev bb:fW:=fun _ _ _ _ _ _=>False
noncomputable abbrev E0:XK:=fun _ _ _=>False
structure aX (K:W.Frag) (x qual:Str) (st:Stmt) (f:Addr) (fd:FuncData):Prop where
  ex:∃ (oc:Value) (od:Option Addr) (kV doc pm:Value) (an:Option Addr) (cdv ct:Value) (osl:Array (Option Value)),
    fd=W.fnOf x qual (aq st) (ao st) (ae st) .none kV doc pm an cdv ct/\K.lookup f=some ⟨oc,od,.func fd,osl⟩/\W.codeIn K cdv qual=true
  kp:W.keepIn K (.ref f)=true
section
variable {P:Program} {w:World} {K:W.Frag} {mg:Str->Option Value} {base:Heap}
theorem aX.ok {x qual:Str} {st:Stmt} {f:Addr} {fd:FuncData} {N ps:List Str} {k:Nat} {sp:Sp} (F:aX K x qual st f fd) (S:ar N ps (ae st)) (len:∀ vs H Q E,sp vs H Q E->vs.length=ps.length)
    (hbody:∀ (cdv:Value) (A:Around) (outer:List Env) (s:Shared) (H:Hp) (vs:List V) (Q:VK) (E:XK),bV k (A.deeper (envOfC qual (ae st) s.heap.objs.size f cdv))->sp vs H Q E ->
      ∃ t,gG (oi bb P w K mg base N qual (ae st) f cdv A outer s H E).nox (ao st) t/\t { nx:=fun _ H'=>Q .non H',rt:=Q } (start N vs) H):ax P w K mg base bb (k+1) f fd ps sp:=by
  obtain ⟨oc,od,kV,doc,pm,an,cdv,ct,osl,rfl,lk,hcd⟩:=F.ex
  refine DU lk hcd S len fun A outer s H vs Q E hr hsp=>?_
  obtain ⟨t,h,q⟩:=hbody cdv A outer s H vs Q E hr hsp
  exact ⟨t,h.nox,q⟩
theorem aX.binds {x qual:Str} {st:Stmt} {f:Addr} {fd:FuncData} {ps:List Str} (F:aX K x qual st f fd)
    (h:∀ (kV doc pm:Value) (an:Option Addr) (cdv ct:Value) (us:List Value),us.length=ps.length->bindArgs (W.fnOf x qual (aq st) (ao st) (ae st) .none kV doc pm an cdv ct) ⟨us,[]⟩=pure (ps.zip us)):Binds K fd ps []:=by
  obtain ⟨oc,od,kV,doc,pm,an,cdv,ct,osl,rfl,lk,hcd⟩:=F.ex
  exact .all (h kV doc pm an cdv ct)
theorem ay {x qual:Str} {st:Stmt} {f:Addr} {oc:Value} {od an:Option Addr} {osl:Array (Option Value)} {kV doc pm cdv ct:Value} (l:K.lookup f=some ⟨oc,od,.func (W.fnOf x qual (aq st) (ao st) (ae st) .none kV doc pm an cdv ct),osl⟩)
    (c:W.codeIn K cdv qual=true) (k:W.keepIn K (.ref f)=true):aX K x qual st f (W.fnOf x qual (aq st) (ao st) (ae st) .none kV doc pm an cdv ct):=⟨⟨oc,od,kV,doc,pm,an,cdv,ct,osl,rfl,l,c⟩,k⟩
end
theorem Em {A:Around} {k:Nat} (hr:bV k A):A.units+1 < cLine:=Nat.lt_of_le_of_lt (Nat.add_le_add_left (by decide:1<=64) _) hr.units
section
variable {X:Cx}
theorem pv (i:Nat) {x:Str} {pos:Pos} (hN:X.N[i]? = some x:=by rfl) (hv:Al X.env.scope x:=by first | exact Or.inl rfl | exact Or.inr (Or.inl rfl) | exact Or.inr (Or.inr rfl)) (hd:(x == ("__debug__" : Str))=false:=by decide)
    (hcd:(x == ("__classdict__" : Str))=false:=by decide):PE X (.Name x pos) (BG i):=B4 hN hv hd hcd
end
theorem bN {A B:Prop} (h:B):if false=true then A else B:=by
  rw [if_neg Bool.false_ne_true]
  exact h
theorem dB {A B:Prop} (h:A):if true=true then A else B:=by
  rw [if_pos rfl]
  exact h
theorem sQ {c A B:Prop} [Decidable c] (h1:c->A) (h2:¬ c->B):if c then A else B:=by
  by_cases h:c
  · rw [if_pos h]
    exact h1 h
  · rw [if_neg h]
    exact h2 h
theorem gx {c A B:Prop} [Decidable c] (hc:c) (h:B):if (!decide c)=true then A else B:=by
  rw [decide_eq_true hc]
  exact bN h
def af (H H':Hp):Prop:=∀ b o,H b=some o->H' b=some o
theorem af.refl (H:Hp):af H H:=fun _ _ h=>h
theorem af.trans {H H1 H2:Hp} (a:af H H1) (b:af H1 H2):af H H2:=fun c o h=>b c o (a c o h)
theorem af.free {H H':Hp} (e:af H H') {l:Addr} (h:H' l=Option.none):H l=Option.none:=by
  cases q:H l with
  | none=>rfl
  | some o =>
    rw [e l o q] at h
    cases h
theorem af.seq {K:W.Frag} {H H':Hp} {a:Addr} {xs:List V} (e:af H H') (h:au K H a xs):au K H' a xs:=by
  rcases h with (h | ⟨o,h⟩) | h
  · exact .inl (.inl (e _ _ h))
  · exact .inl (.inr ⟨o,e _ _ h⟩)
  · exact .inr h
end L2
set_option Elab.async false
set_option linter.all false
set_option maxRecDepth 100000
set_option maxHeartbeats 4000000
namespace L2
open PySem PySem.Spec PyProof.Rows
section
variable {X:Cx}
def Eo (i j:Int):Prop:=0 < j/\j.natAbs.log2 < 9000
theorem iS:cp X (binaryOp .FloorDiv) (rI Eo fun i j=>.int (i / j)):=Ab fun i j _ _ _ _ _ hc q=>by
  have h1:(0:Int) < j:=hc.1
  exact floordiv_int (by lia) (by rw [Int.fdiv_eq_ediv_of_nonneg i (by lia)]; exact q) (.inl (PyProof.noPylong_of_log2 hc.2))
theorem dv:dY X (.builtin "isinstance") (fun xs H Q=>∃ x c cv t b,xs=[x,c]/\(∀ u,RelV c u->u=cv)/\eW X.K H x t/\W.kitOne X.K t cv=some b/\Q (.bl b) H):=by
  intro pins s σ H xs us Q I r h
  obtain ⟨x,c,cv,t,b,rfl,hcv,ty,e,q⟩:=h
  obtain ⟨u,w',rfl,r1,r2⟩:=vals2 r
  rw [hcv w' r2]
  exact xF I r1 ty e fun tk=>⟨.bl b,H,I.tok _,rfl,q⟩
theorem lN {n:String}:∀ u,RelV (.ty n) u->u=Value.type n:=fun _ h=>h
noncomputable def dE (x:Str):It:=⟨fun i _=>i < x.cps.size,fun i H v H'=>H'=H/\∃ c,x.cps[i]? = some c/\v = .str ⟨#[c]⟩,fun i _=>i=x.cps.size⟩
theorem qZ {P:Program} {w:World} {K:W.Frag} {tg:Expr} (it:Addr) (ty:String) (x:Str) (t:Tok)
    (W:∀ A:Around,A.handled=none->Walks P w A it [it] [it] x.cps.size (SignAt x) (fun i h=>h.IsStrIter it ty x t i))
    (hty:["enumerate","zip","dict_itemiterator","dict_reverseitemiterator","odict_iterator","itertools.zip_longest","itertools.pairwise"].contains ty=false)
    (hself:∀ (A:Around) (i:Nat) (s:Shared) (Q:Value->Shared->Prop) (E:Value->Shared->Prop),s.heap.IsStrIter it ty x t i->Q (.ref it) s->wpAny (model P w) A (pyIter (.ref it)) Q E s) :
    Turn P w K tg (dE x) [it] it (fun i h=>h.IsStrIter it ty x t i) where
  mem:=by simp
  obj:=fun i h st b hb=>by
    have e:b=it:=by simpa using hb
    subst e
    obtain ⟨o,e,c,d⟩:=st
    exact ⟨o,e,fun v z=>by rw [d] at z; cases z⟩
  keep:=fun i h h' st k=>by
    obtain ⟨o,e,c,d⟩:=st
    exact ⟨o,k it (by simp) o e,c,d⟩
  item:=by
    intro X hP hw hK hc i pins s σ H E I hf st hg
    subst hP hw hK
    obtain ⟨f0,f1,f2,f3,f4,f5⟩:=hf it (by simp)
    refine (W X.A (I.ok.hd hc)).item i s _ _ hg st fun v h' tk hv st' kk=>?_
    obtain ⟨c,u,ec,rfl⟩:=hv
    have I1:Inv X pins σ H { s with heap:=h',toks:=tk }:=I.turned (fun b o hb e=>kk b o (by simpa using hb) e) f0 f1 f3 f4 f5
    obtain ⟨o,e,cl,d⟩:=id st'
    exact ⟨_,rfl,mU (s:={ s with heap:=h',toks:=tk }) e cl d hty ⟨.str ⟨#[c]⟩,H,I1,⟨_,rfl⟩,⟨rfl,c,ec,rfl⟩,st',fun b hb=>(hf b hb).1⟩⟩
  done:=by
    intro X hP hw hK hc i pins s σ H E I hf st hg
    subst hP hw hK
    obtain ⟨f0,f1,f2,f3,f4,f5⟩:=hf it (by simp)
    have hi:i=x.cps.size:=hg
    subst hi
    exact (W X.A (I.ok.hd hc)).done s _ _ st fun h' tk kk=>⟨rfl,I.turned (fun b o hb e=>kk b o (by simpa using hb) e) f0 f1 f3 f4 f5⟩
  self:=hself
noncomputable def Fg (tl:TE):TI:=fun σ H R=>tl σ H fun v H1=>∃ x,v = .str x/\R (dE x) H1
theorem qU {tg l:Expr} {tl:TE} (hl:PE X l tl):PI X tg l (Fg tl):=by
  intro pins s σ H R I h
  refine aH (hl pins s σ H _ I h) fun v s1 ⟨y,H1,I1,r1,q1⟩=>?_
  obtain ⟨x,e,q⟩:=q1
  subst e
  obtain ⟨t,rfl⟩:=r1
  have fin:∀ (o:Obj) (ty:String),(s1.heap.push o).IsStrIter s1.heap.objs.size ty x t 0->Turn X.prog X.w X.K tg (dE x) [s1.heap.objs.size] s1.heap.objs.size (fun i h=>h.IsStrIter s1.heap.objs.size ty x t i) ->
      An X pins σ tg R (.ref s1.heap.objs.size) { s1 with heap:=s1.heap.push o }:=fun o ty st T=>by
    refine ⟨s1.heap.objs.size,[s1.heap.objs.size],_,_,H1,rfl,I1.kept (t':=s1.toks) fun b o e=>Heap.get?_push_of_some _ e,T,st,fun b hb=>?_,q⟩
    have e:b=s1.heap.objs.size:=by simpa using hb
    subst e
    exact I1.fpOk (Nat.le_refl _) (I1.hok.fresh (Nat.le_refl _))
  cases ha:x.cps.all (· < 128)
  · exact wpAny_pyIter_wide ha (fin _ "str_iterator" ⟨_,Heap.get?_push_size _ rfl,rfl,rfl⟩ (qZ _ _ x t (fun A' hA=>Walks.strWide hA _ x t) (by decide) fun _ _ _ _ _ st h=>wpAny_pyIter_striter_wide st h))
  · exact wpAny_pyIter_ascii ha (fin _ "str_ascii_iterator" ⟨_,Heap.get?_push_size _ rfl,rfl,rfl⟩ (qZ _ _ x t (fun A' hA=>Walks.strAscii hA _ x t) (by decide) fun _ _ _ _ _ st h=>wpAny_pyIter_striter_ascii st h))
theorem o5 {x:Str} {g:TG} {tb:TS} {D:Ends} {σ:St} {H:Hp} (Pv:Nat->St->Hp->Prop) (h0:Pv 0 σ H)
    (hs:∀ i c σ H,x.cps[i]? = some c->Pv i σ H->g (.str ⟨#[c]⟩) σ H fun σ2 H2=>tb { D with nx:=Pv (i+1),ct:=Pv (i+1),bk:=D.nx } σ2 H2) (hd:∀ σ H,Pv x.cps.size σ H->D.nx σ H) :
    ∃ W:Nat->Nat->St->Hp->Prop,(∃ m,W 0 m σ H)/\∀ i m σ H,W i m σ H ->
      ((dE x).stop i H/\D.nx σ H)\/((dE x).go i H/\∃ N:St->Hp->Prop,(∀ σ' H',N σ' H'->∃ m',m' < m/\W (i+1) m' σ' H')/\∀ v H',(dE x).yld i H v H'->g v σ H' fun σ2 H2=>tb { D with nx:=N,ct:=N,bk:=D.nx } σ2 H2):=by
  refine ⟨fun i m σ H=>m=x.cps.size - i/\i<=x.cps.size/\Pv i σ H,⟨x.cps.size,by simp,Nat.zero_le _,h0⟩,?_⟩
  rintro i m σ H ⟨rfl,hi,p⟩
  by_cases hlt:i < x.cps.size
  · refine .inr ⟨hlt,Pv (i+1),fun σ' H' p'=>⟨x.cps.size - (i+1),by lia,rfl,hlt,p'⟩,fun v H' y=>?_⟩
    obtain ⟨e,c,ec,ev⟩:=y
    subst e ev
    exact hs i c σ _ ec p
  · have e:i=x.cps.size:=by lia
    subst e
    exact .inl ⟨rfl,hd σ H p⟩
noncomputable def ES:V->Option Int->Option Int->Hp->VK->Prop:=fun v lo hi H Q=>∃ x,v = .str x/\x.length<=sizeLine/\Q (.str (Txt.slice x lo hi)) H
theorem BO:Bl X ES:=by
  intro pins s σ H v vv vl vu lo hi sl Q I rx hs pl pu h
  obtain ⟨x,rfl,hz,q⟩:=h
  obtain ⟨t,rfl⟩:=rx
  refine ⟨"str",_,F.slot_str_getitem.lookup,typeIs_str _ _ _,?_⟩
  have fin:∀ (l u:Option (Int × Tok)),s.heap.IsSlice sl l u none->l.map (·.1)=lo->u.map (·.1)=hi->wpAny (model X.prog X.w) X.A (getItem (.str x t) (.ref sl)) (EP X pins σ Q) X.xe s:=fun l u hsl el eu=>by
    refine wpAny_getItem_str_slice (l:=l) (u:=u) (st:=none) hsl rfl ?_
    subst el eu
    exact post_val_or_str ⟨Nat.le_trans (Txt.slice_le x _ _) hz,fun t' k=>⟨.str (Txt.slice x (l.map (·.1)) (u.map (·.1))),H,I.tok _,⟨t',rfl⟩,q⟩⟩
  cases pl with
  | none =>
    cases pu with
    | none=>exact fin none none hs rfl rfl
    | int j uj=>exact fin none (some (j,uj)) hs rfl rfl
  | int i ui =>
    cases pu with
    | none=>exact fin (some (i,ui)) none hs rfl rfl
    | int j uj=>exact fin (some (i,ui)) (some (j,uj)) hs rfl rfl
theorem vV {ys:List Str}:∀ {us:List Value},Vals (ys.map V.str) us->StrsAre us ys:=by
  induction ys with
  | nil=>intro us r; rw [List.map_nil] at r; cases r; exact .nil
  | cons n ns ih =>
    intro us r
    rw [List.map_cons] at r
    cases r with
    | cons h t =>
      obtain ⟨tk,rfl⟩:=h
      exact .cons n tk (ih t)
noncomputable def rJoin (K:W.Frag):V->List V->Hp->VK->Prop:=fun x vs H Q=>∃ sep p ys,x = .str sep/\vs=[.ref p]/\au K H p (ys.map V.str)/\(ys.map (·.length)).sum+ys.length*sep.length<=16777216/\Q (.str (Txt.join sep ys)) H
theorem oO:uw X "str.join" (rJoin X.K):=by
  intro pins s σ H x xs v us Q I rx rs h
  obtain ⟨sep,p,ys,rfl,rfl,hl,hok,q⟩:=h
  obtain ⟨t,rfl⟩:=rx
  obtain ⟨u,rfl,ru⟩:=vals1 rs
  cases ru
  obtain ⟨its,r',pl,hz⟩:=I.list hl
  exact join_list pl.isList (vV r') hok fun t' k=>⟨.str (Txt.join sep ys),H,I.tok _,⟨_,rfl⟩,q⟩
end
theorem qf {α β:Type} {l:List α} {f:α->β->Sem (ForInStep β)} (g:β->α->β) (c:β) (h:∀ x∈l,∀ c,f x c=pure (.yield (g c x))) :
    forIn l c f=pure (l.foldl g c):=by
  induction l generalizing c with
  | nil=>rfl
  | cons x l ih =>
    rw [List.forIn_cons,h x List.mem_cons_self,pure_bind]
    exact ih _ fun y hy=>h y (List.mem_cons_of_mem _ hy)
noncomputable def qY (cells:List (Str × Addr)) (names:List (Str × NameKind)) (acc:List (Str × Addr)):List (Str × Addr) :=
  names.foldl (fun cs y=>if y.2 == .free then (y.1,(cells.lookup y.1).getD 0)::cs else cs) acc
theorem vD {scope:Scope} {env:Env} (h:∀ y∈scope.names,y.2 = .free->∃ c,env.cells.lookup y.1=some c):closureFor scope env=pure (qY env.cells scope.names []):=by
  simp only [closureFor]
  rw [qf (fun cs y=>if y.2 == .free then (y.1,(env.cells.lookup y.1).getD 0)::cs else cs) [] fun x hx c=>?_]
  · rfl
  · obtain ⟨n,k⟩:=x
    by_cases hk:k = .free
    · subst hk
      obtain ⟨a,ea⟩:=h (n,.free) hx rfl
      have ea':env.cells.lookup n=some a:=ea
      simp only [beq_self_eq_true,if_true,cellOf,ea',pure_bind,Option.getD_some]
    · have hb:(k == NameKind.free)=false:=by simpa using hk
      simp only [hb,Bool.false_eq_true,if_false]
theorem lookup_mem {α:Type}:∀ {l:List (Str × α)} {x:Str} {c:α},l.lookup x=some c->(x,c)∈l
  | [],_,_,h=>by simp at h
  | (y,d)::r,x,c,h=>by
    rw [List.lookup_cons] at h
    cases hx:x == y with
    | true =>
      rw [hx] at h
      have e:x=y:=by simpa using hx
      subst e
      cases h
      exact List.mem_cons_self
    | false =>
      rw [hx] at h
      exact List.mem_cons_of_mem _ (lookup_mem h)
theorem mem_lookup {α:Type}:∀ {l:List (Str × α)} {x:Str} {c:α},(x,c)∈l->∃ d,l.lookup x=some d
  | [],_,_,h=>by cases h
  | (y,d)::r,x,c,h=>by
    rw [List.lookup_cons]
    cases hx:x == y with
    | true=>exact ⟨d,rfl⟩
    | false =>
      rcases List.mem_cons.mp h with e | h
      · cases e; simp at hx
      · exact mem_lookup h
theorem mH {cells:List (Str × Addr)}:∀ {names:List (Str × NameKind)} {acc:List (Str × Addr)} {p:Str × Addr},p∈qY cells names acc↔p∈acc\/((p.1,NameKind.free)∈names/\p.2=(cells.lookup p.1).getD 0)
  | [],acc,p=>by simp [qY]
  | (n,k)::r,acc,p=>by
    show p∈qY cells r (if k == .free then (n,(cells.lookup n).getD 0)::acc else acc)↔_
    rw [mH (names:=r)]
    by_cases hk:k = .free
    · subst hk
      simp only [beq_self_eq_true,if_true,List.mem_cons]
      constructor
      · rintro ((rfl | h) | h)
        · exact .inr ⟨.inl rfl,rfl⟩
        · exact .inl h
        · exact .inr ⟨.inr h.1,h.2⟩
      · rintro (h | ⟨h | h,e⟩)
        · exact .inl (.inr h)
        · obtain ⟨a,b⟩:=p
          cases h
          exact .inl (.inl (by rw [show b=_ from e]))
        · exact .inr ⟨h,e⟩
    · have hb:(k == NameKind.free)=false:=by simpa using hk
      simp only [hb,Bool.false_eq_true,if_false,List.mem_cons]
      constructor
      · rintro (h | h)
        · exact .inl h
        · exact .inr ⟨.inr h.1,h.2⟩
      · rintro (h | ⟨h | h,e⟩)
        · exact .inl h
        · cases h; exact absurd rfl hk
        · exact .inr ⟨h,e⟩
theorem ie {scope:Scope} {env:Env} {x:Str} {k:NameKind} (h:(relabel scope env).names.lookup x=some k):∃ k',(x,k')∈scope.names/\(k'=k\/(k' = .free/\k = .cell)):=by
  have m:=lookup_mem h
  unfold relabel at m
  obtain ⟨⟨n,k'⟩,hm,e⟩:=List.mem_map.mp m
  dsimp only at e
  split at e
  · rename_i hc
    rw [Bool.and_eq_true,Bool.and_eq_true] at hc
    have e1:n=x:=congrArg Prod.fst e
    have e2:NameKind.cell=k:=congrArg Prod.snd e
    subst e1 e2
    exact ⟨k',hm,.inr ⟨by simpa using hc.1.1,rfl⟩⟩
  · have e1:n=x:=congrArg Prod.fst e
    have e2:k'=k:=congrArg Prod.snd e
    subst e1 e2
    exact ⟨k',hm,.inl rfl⟩
noncomputable def cu (X:Cx) (scope:Scope) (N:List Str) (cl:List (Str × Addr)) (C:Addr) (s:Shared) (H:Hp) (fp:List Addr) (xe:Value->Shared->Prop):Cx :=
  { X with N:=N,s₀:=s,H₀:=H,env:=compEnvC scope cl C X.env,outer:=X.stack,stack:=X.stack,ex:=fp,fn:=fun _=>false,pn:=[],xe:=xe }
inductive fR (X:Cx) (scope:Scope):List Str->List (Option Nat)->Prop where
  | nil:fR X scope [] []
  | own {x:Str} {N:List Str} {ix:List (Option Nat)} (r:fR X scope N ix):fR X scope (x::N) (none::ix)
  | cap {x:Str} {j:Nat} {N:List Str} {ix:List (Option Nat)} (h1:X.N[j]? = some x) (h2:X.env.kindOf x=some .cell) (h3:(relabel scope X.env).names.lookup x=some .cell) (r:fR X scope N ix):fR X scope (x::N) (some j::ix)
noncomputable def fz (ix:List (Option Nat)) (σ:St):St:=ix.map fun o=>match o with
  | none=>none
  | some j=>(σ[j]?).getD none
theorem fR.get {X:Cx} {scope:Scope} {σ:St}:∀ {N:List Str} {ix:List (Option Nat)},fR X scope N ix->∀ (i:Nat) (x:Str) (v:V),N[i]? = some x->(fz ix σ)[i]? = some (some v) ->
    ∃ j:Nat,X.N[j]? = some x/\σ[j]? = some (some v)/\X.env.kindOf x=some .cell/\(relabel scope X.env).names.lookup x=some .cell
  | _,_,.nil,i,x,v,h,_=>by simp at h
  | _,_,.own r,0,x,v,_,h=>by simp [fz] at h
  | _,_,.own r,i+1,x,v,h1,h2=>r.get i x v (by simpa using h1) (by simpa [fz] using h2)
  | _,_,.cap (j:=j) e1 e2 e3 r,0,x,v,h1,h2=>by
    simp at h1
    subst h1
    refine ⟨j,e1,?_,e2,e3⟩
    simp only [fz,List.map_cons,List.getElem?_cons_zero,Option.some.injEq] at h2
    cases q:σ[j]? with
    | none=>rw [q] at h2; cases h2
    | some o=>rw [q] at h2; simp only [Option.getD_some] at h2; rw [h2]
  | _,_,.cap e1 e2 e3 r,i+1,x,v,h1,h2=>r.get i x v (by simpa using h1) (by simpa [fz] using h2)
theorem fR.length {X:Cx} {scope:Scope} {N:List Str} {ix:List (Option Nat)} (h:fR X scope N ix):ix.length=N.length:=by
  induction h with
  | nil=>rfl
  | own _ ih=>simp [ih]
  | cap _ _ _ _ ih=>simp [ih]
def Ext (a b:St):Prop:=b.length=a.length/\∀ (i:Nat) v,a[i]? = some (some v)->b[i]? = some (some v)
theorem Ext.set {a:St} {i:Nat} {v:V} (h:a[i]? = some none):Ext a (a.set i (some v)):=by
  refine ⟨by simp,fun j w e=>?_⟩
  by_cases hj:j=i
  · subst hj; rw [h] at e; cases e
  · rw [List.getElem?_set_ne (Ne.symm hj)]; exact e
theorem Ext.trans {a b c:St} (h:Ext a b) (h':Ext b c):Ext a c:=⟨h'.1.trans h.1,fun i v e=>h'.2 i v (h.2 i v e)⟩
def yn (X:Cx) (ifs:List Expr) (t:TT):Prop :=
  ∀ (pins:List (Addr × Obj)) (s:Shared) (σ:St) (H:Hp) (Q:Bool->Hp->Prop),Inv X pins σ H s->t σ H Q ->
    wpAny (model X.prog X.w) X.A (forIn ifs true fun c r=>if r=true then do let ok <- isTrue c X.env (eval c X.env); pure (ForInStep.yield ok) else pure (ForInStep.yield r)) (TP X pins σ Q) X.xe s
noncomputable def Aj:TT:=fun _ H Q=>Q true H
theorem eV {X:Cx}:yn X [] Aj:=fun pins s σ H Q I h=>wpAny_tests_nil ⟨H,I,h⟩
theorem oH {X:Cx} {c:Expr} {t:TT} (h:PT X c t):yn X [c] t:=fun pins s σ H Q I q=>wpAny_tests_one (h pins s σ H Q I q)
def nr (J:It) (g:TG) (tt:TT) (te:TE) (σ0:St) (D:Addr) (Q:VK) (H1:Hp):Prop:=∃ W:Nat->Nat->List V->Hp->Prop,(∃ m,W 0 m [] (upd H1 D (.lst [])))/\∀ i m ys H,W i m ys H ->
  (J.stop i H/\Q (.ref D) H)\/(J.go i H/\∀ x H',J.yld i H x H'->g x σ0 H' fun σ2 H2=>Ext σ0 σ2/\tt σ2 H2 fun b H3 =>
    if b=true then te σ2 H3 fun v H4=>H4 D=some (.lst ys)/\ys.length < sizeLine/\∃ m',m' < m/\W (i+1) m' (ys++[v]) (upd H4 D (.lst (ys++[v]))) else ∃ m',m' < m/\W (i+1) m' ys H3)
noncomputable def wK (wi:TI) (g:TG) (tt:TT) (te:TE) (ix:List (Option Nat)):TE:=fun σ H Q=>wi σ H fun J H1=>∀ D,H1 D=none->nr J g tt te (fz ix σ) D Q H1
section
variable {prog:Program} {w:World} {A:Around} {R:Result->Shared->Prop} {s:Shared}
theorem xT {elt target iter:Expr} {ifs:List Expr} {scope:Scope} {pos:Pos} {it acc:Value} {env:Env} (I:Nat->Shared->Prop)
    (turn:∀ n s,I n s->wpAny (model prog w) A (pyNext it) (fun r s₁=>match r with
      | none=>R (.ok .next) s₁
      | some v=>wpAny (model prog w) A (letOwnedTupleGo target it v) (fun _ s₁'=>wpAny (model prog w) A (assign target env v) (fun _ s₂ =>
          wpAny (model prog w) A (forIn ifs true fun c r=>if r=true then do let ok <- isTrue c env (eval c env); pure (ForInStep.yield ok) else pure (ForInStep.yield r)) (fun ok s₃ =>
            if ok=true then wpAny (model prog w) A (eval elt env) (fun x s₄ =>
              wpAny (model prog w) A (call (.builtin "list.append") [acc,x]) (fun _ s₅=>∃ m,m < n/\I m s₅) (notedBy (model prog w) A env fun e s'=>R (.error e) s') s₄) (notedBy (model prog w) A env fun e s'=>R (.error e) s') s₃
            else ∃ m,m < n/\I m s₃) (notedBy (model prog w) A env fun e s'=>R (.error e) s') s₂) (notedBy (model prog w) A env fun e s'=>R (.error e) s') s₁') (notedBy (model prog w) A env fun e s'=>R (.error e) s') s₁) (notedBy (model prog w) A env fun e s'=>R (.error e) s') s)
    (n:Nat) (h:I n s):codeAny (model prog w) A (.compLoop (.ListComp elt [⟨target,iter,ifs,0⟩] scope pos) 0 it acc env) R s:=by
  refine codeAny_loop rfl I (fun n s hI=>?_) n h
  show wpAny _ A ((compTurn (.ListComp elt [⟨target,iter,ifs,0⟩] scope pos) 0 it acc env).onRaise (fun x=>do noteFrame x env; theTreesLotGoes x)) _ _ s
  refine wpAny_noted ?_
  rw [compTurn_list]
  refine wpAny_bind (wpAny_standAt (wpAny_bind (wpAny_mono (turn n s hI) (fun r s₁ h₁=>?_) fun _ _ h'=>h')))
  cases r with
  | none=>exact wpAny_pure h₁
  | some v =>
    refine wpAny_bind (wpAny_mono h₁ (fun _ s₁' h₁'=>?_) fun _ _ h'=>h')
    refine wpAny_bind (wpAny_mono h₁' (fun _ s₂ h₂=>wpAny_bind (wpAny_mono h₂ (fun ok s₃ h₃=>?_) fun _ _ h'=>h')) fun _ _ h'=>h')
    cases ok with
    | false=>exact wpAny_pure ⟨rfl,h₃⟩
    | true =>
      exact wpAny_bind (wpAny_bind (wpAny_mono h₃ (fun x s₄ h₄=>wpAny_bind (wpAny_mono h₄ (fun _ s₅ h₅=>wpAny_pure (wpAny_pure ⟨rfl,h₅⟩)) fun _ _ h'=>h')) fun _ _ h'=>h'))
end
section
variable {X:Cx}
noncomputable def uc (sc:Scope):Bool:=sc.names.all fun y=>y.2 != .cell
noncomputable def freeOk (sc:Scope) (env:Env):Bool:=sc.names.all fun y=>y.2 != .free || env.kindOf y.1 == some .cell
noncomputable def namesOk (sc:Scope):Bool:=sc.names.all fun y=>y.2 != .local || sc.names.lookup y.1 == some .local
structure iX (X:Cx) (pins:List (Addr × Obj)) (σ:St) (H:Hp) (C:Addr) (s:Shared):Prop where
  inv:Inv X pins σ H s
  ns:∃ m,s.heap.Ns C m
  free:H C=none
  loc:C≠X.env.locals
  young:X.s₀.heap.objs.size<=C
  cell:∀ x c,X.env.cells.lookup x=some c->c≠C
  pin:∀ p∈X.pn++pins,p.1≠C
theorem iX.gone {pins:List (Addr × Obj)} {σ:St} {H:Hp} {C:Addr} {s:Shared} (B:iX X pins σ H C s) {h':Heap} (hs:Heap.SameBut C s.heap h'):Inv X pins σ H { s with heap:=h' } :=
  B.inv.turned (t':=s.toks) (it:=C) (fun b o hb e=>hs.extBut b o hb e) B.free B.loc (.inr B.young) B.cell B.pin
theorem pB {elt tg iter:Expr} {ifs:List Expr} {scope:Scope} {pos pos':Pos} {N:List Str} {ix:List (Option Nat)} {wi:TI} {g:TG} {tt:TT} {te:TE} {use:Option (Value->Sem Unit)} {Qv:Value->Shared->Prop}
    (hc:X.calm=true) (hi:PI X tg iter wi) (hk:scope.kind = .function) (hcell0:uc scope=true) (hfree0:freeOk scope X.env=true) (hnames0:namesOk scope=true) (caps:fR X scope N ix)
    (hg:∀ cl C s H fp xe,PG (cu X scope N cl C s H fp xe) tg g) (ht:∀ cl C s H fp xe,yn (cu X scope N cl C s H fp xe) ifs tt) (he:∀ cl C s H fp xe,PE (cu X scope N cl C s H fp xe) elt te)
    (hs:∀ x,foldedSetIterable iter X.env x=pure x)
    {pins:List (Addr × Obj)} {s:Shared} {σ:St} {H:Hp} {Q:VK} (I:Inv X pins σ H s) (h:wK wi g tt te ix σ H Q)
    (fin:∀ (C D:Addr) (H6:Hp) (s6:Shared),iX X pins σ H6 C s6->Q (.ref D) H6->compPost (model X.prog X.w) X.A X.xe use Qv (.ref D) C (.ok .next) s6) :
    wpAny (model X.prog X.w) X.A (comprehension (.ListComp elt [⟨tg,iter,ifs,0⟩] scope pos) scope X.env pos' (newList []) false (eval iter X.env) use) Qv X.xe s:=by
  have hcell:∀ y∈scope.names,y.2≠.cell:=fun y hy e=>by
    have:=List.all_eq_true.mp hcell0 y hy
    rw [e] at this; exact absurd this (by decide)
  have hfree:∀ y∈scope.names,y.2 = .free->X.env.kindOf y.1=some .cell:=fun y hy e=>by
    have:=List.all_eq_true.mp hfree0 y hy
    rw [e] at this; simpa using this
  have hnames:∀ y∈scope.names,y.2 = .local->scope.names.lookup y.1=some .local:=fun y hy e=>by
    have:=List.all_eq_true.mp hnames0 y hy
    rw [e] at this; simpa using this
  have hcl:∀ y∈scope.names,y.2 = .free->∃ c,X.env.cells.lookup y.1=some c:=fun y hy e=>I.ok.has y.1 (.inl (hfree y hy e))
  refine wpAny_comprehension_free (use:=use) rfl hs (vD hcl) hk hnames ?_
  generalize ecl:qY X.env.cells scope.names []=cl
  -- the cells of the block are the def's
  have cl1:∀ x c,cl.lookup x=some c->X.env.cells.lookup x=some c:=fun x c e=>by
    have m:=lookup_mem e
    rw [<- ecl] at m
    rcases mH.mp m with z | ⟨z,z'⟩
    · cases z
    · obtain ⟨a,ea⟩:=hcl _ z rfl
      have ea':X.env.cells.lookup x=some a:=ea
      have z2:c=(X.env.cells.lookup x).getD 0:=z'
      rw [ea',Option.getD_some] at z2
      rw [ea',z2]
  have cl2:∀ x,(x,NameKind.free)∈scope.names->∃ c,cl.lookup x=some c:=fun x hx=>by
    have m:(x,(X.env.cells.lookup x).getD 0)∈cl:=by rw [<- ecl]; exact mH.mpr (.inr ⟨hx,rfl⟩)
    exact mem_lookup m
  refine aH (hi pins s σ H _ I h) fun v s1 h1=>aH h1 fun itv s2 h2=>?_
  obtain ⟨it,fp,tn,J,H2,e,I2,T,st2,f2,body⟩:=h2
  subst e
  refine wpAny_newObj_type (wpAny_newFunctionEnv hcell (by intro y hy; simp at hy) (fun h₁ hns₁ hsb₁=>?_) hk)
  dsimp only at hns₁ hsb₁ |-
  have hD:H2 s2.heap.objs.size=none:=I2.hok.fresh (Nat.le_refl _)
  obtain ⟨W,⟨m0,w0⟩,turn⟩:=body _ hD
  have I3:Inv X pins σ (upd H2 s2.heap.objs.size (.lst [])) { s2 with heap:=s2.heap.push { cls:=.type "list",dict:=none,data:=.seq ([]:List Value).toArray } } :=
    I2.laid (t':=s2.toks) (fun b o e=>Heap.get?_push_of_some _ e) (Nat.le_refl _) ⟨Nat.zero_le _,[],0,.nil,Heap.get?_push_size _ rfl⟩
  generalize hs3:({ s2 with heap:=s2.heap.push { cls:=.type "list",dict:=none,data:=.seq ([]:List Value).toArray } }:Shared)=s3 at I3
  have es3:s2.heap.push { cls:=.type "list",dict:=none,data:=.seq ([]:List Value).toArray }=s3.heap:=by rw [<- hs3]
  rw [es3] at hns₁ hsb₁ |-
  generalize hD':s2.heap.objs.size=D at *
  generalize hH3:upd H2 D (.lst [])=H3 at *
  have szC:s3.heap.objs.size=D+1:=by rw [<- es3,Heap.size_push,hD']
  -- what was,is
  have old:∀ b o,s3.heap.get? b=some o->h₁.get? b=some o:=fun b o e=>hsb₁.extBut b o (Nat.ne_of_lt (Heap.lt_size e)) (Heap.get?_push_of_some _ e)
  have fpl:∀ b∈fp,b < D:=fun b hb=>by
    obtain ⟨o,e,_⟩:=T.obj 0 _ st2 b hb
    rw [<- hD']; exact Heap.lt_size e
  have fpD:∀ b∈fp,H3 b=none:=fun b hb=>by
    rw [<- hH3,upd_ne (Nat.ne_of_lt (fpl b hb))]; exact (f2 b hb).1
  have fstk:∀ b∈fp,b∉iE X.stack:=fun b hb z=>by
    obtain ⟨_,f1,f3,_⟩:=f2 b hb
    rcases List.mem_cons.mp (I2.stkSub b z) with e | e
    · exact f1 e
    · exact f3 e
  let E':Value->Shared->Prop:=notedBy (model X.prog X.w) X.A (compEnvC scope cl s3.heap.objs.size X.env) fun e s'=>compPost (model X.prog X.w) X.A X.xe use Qv (.ref D) s3.heap.objs.size (.error e) s'
  have ok':(cu X scope N cl s3.heap.objs.size s3 H3 fp E').Ok:=by
    refine { mod:=I.ok.mod,kind:=?_,glob:=I.ok.glob,blt:=I.ok.blt,above:=Nat.le_refl _,inj:=?_,has:=?_,cab:=?_,hd:=I.ok.hd,frames:=I.ok.frames,stk:=.inl rfl,exf:=?_,bs:=I3.bs,bsz:=?_,noex:=?_,exfs:=fstk,funs:=I3.stack,frf:=I3.stkFree }
    · show (relabel scope X.env).kind = .function
      exact hk
    · exact fun x y c e1 e2=>I.ok.inj x y c (cl1 x c e1) (cl1 y c e2)
    · intro x hx
      have hx':(relabel scope X.env).names.lookup x=some .cell\/(relabel scope X.env).names.lookup x=some .free:=hx
      have:(x,NameKind.free)∈scope.names:=by
        rcases hx' with e | e
        · obtain ⟨k',hm,z | ⟨z,_⟩⟩:=ie e
          · subst z; exact absurd rfl (hcell _ hm)
          · subst z; exact hm
        · obtain ⟨k',hm,z | ⟨z,z'⟩⟩:=ie e
          · subst z; exact hm
          · cases z'
      exact cl2 x this
    · intro x c z; cases z
    · intro b hb
      refine ⟨fun z=>?_,fun x c e=>(f2 b hb).2.2.2.2.1 x c (cl1 x c e)⟩
      have lt:=fpl b hb
      have z':b=s3.heap.objs.size:=z
      rw [z',szC] at lt
      exact absurd lt (Nat.not_lt.mpr (Nat.le_succ D))
    · exact Nat.le_trans I3.ok.bsz I3.sz
    · intro b o e hb
      rcases (f2 b hb).2.2.2.1 with z | z
      · exact I.ok.noex b o e z
      · exact absurd (Nat.lt_of_lt_of_le (Heap.lt_size e) (Nat.le_trans I.ok.bsz z)) (Nat.lt_irrefl _)
  have I4:∀ tk,Inv (cu X scope N cl s3.heap.objs.size s3 H3 fp E') [] (fz ix σ) H3 { s3 with heap:=h₁,toks:=tk }:=fun tk=>by
    refine ⟨ok',rfl,I3.bare,Un.kept old,⟨_,hns₁,fun i x v e1 e2 e3=>?_⟩,fun x c e=>?_,?_,fun x c e=>I3.freeC x c (cl1 x c e),fun p hp=>(by cases hp),I3.hok.kept old,?_⟩
    · obtain ⟨j,j1,j2,j3,j4⟩:=caps.get i x v e1 e2
      obtain ⟨m,hn,hl⟩:=I3.loc
      obtain ⟨u,r,l⟩:=hl j x v j1 j2 (.inr (.inl j3))
      refine ⟨u,r,.inr ⟨.inl j4,?_⟩⟩
      rcases l with ⟨l,_⟩ | ⟨_,c,ec,hcell⟩
      · have l':X.env.kindOf x=some .local:=l
        rw [j3] at l'; cases l'
      · obtain ⟨k',hm,z | ⟨z,_⟩⟩:=ie j4
        · subst z; exact absurd rfl (‹∀ y∈scope.names,y.2≠.cell› _ hm)
        · subst z
          obtain ⟨c',ec'⟩:=cl2 x hm
          have:=cl1 x c' ec'
          rw [ec] at this; cases this
          obtain ⟨o,ho,hd⟩:=hcell
          exact ⟨c,ec',o,old _ _ ho,hd⟩
    · obtain ⟨v,o,ho,hd⟩:=I3.cell x c (cl1 x c e)
      exact ⟨v,o,old _ _ ho,hd⟩
    · exact I3.hok.fresh (Nat.le_refl _)
    · show (fz ix σ).length=N.length
      rw [<- caps.length]; simp [fz]
  have st4:tn 0 h₁:=T.keep 0 _ _ st2 fun b hb o e=>old b o (by rw [<- es3]; exact Heap.get?_push_of_some _ e)
  -- the block's end
  have fin6:∀ (s6:Shared) (H6:Hp),Inv (cu X scope N cl s3.heap.objs.size s3 H3 fp E') [] (fz ix σ) H6 s6->Q (.ref D) H6 ->
      compPost (model X.prog X.w) X.A X.xe use Qv (.ref D) s3.heap.objs.size (.ok .next) s6:=fun s6 H6 I6 q=>by
    obtain ⟨m,hn,_⟩:=I6.loc
    refine fin s3.heap.objs.size D H6 s6 ⟨I3.call' (s':=s6) (ch:=fp) I6.os I6.base I6.hok I6.bare ?_,⟨m,hn⟩,I6.free,?_,I3.sz,?_,?_⟩ q
    · intro b hb
      obtain ⟨_,f1,_,f3,f4,f5⟩:=f2 b hb
      exact ⟨f3,f1,f4,f5⟩
    · exact Nat.ne_of_gt I3.lt
    · intro x c e z
      obtain ⟨v,o,ho,_⟩:=I3.cell x c e
      exact absurd (Heap.lt_size ho) (by rw [z]; exact Nat.lt_irrefl _)
    · intro p hp z
      exact absurd (Heap.lt_size (I3.pin p hp).1) (by rw [z]; exact Nat.lt_irrefl _)
  -- the loop
  have loop:∀ s4:Shared,s4={ s3 with heap:=h₁,toks:=s2.toks+([]:List (Str × Value)).length } ->
      codeAny (model X.prog X.w) X.A (.compLoop (.ListComp elt [⟨tg,iter,ifs,0⟩] scope pos) 0 (.ref it) (.ref D) (compEnvC scope cl s3.heap.objs.size X.env)) (compPost (model X.prog X.w) X.A X.xe use Qv (.ref D) s3.heap.objs.size) s4:=by
    rintro s4 rfl
    refine xT (fun n s'=>∃ i ys H',Inv (cu X scope N cl s3.heap.objs.size s3 H3 fp E') [] (fz ix σ) H' s'/\tn i s'.heap/\(∀ b∈fp,H' b=none)/\W i n ys H') ?_ m0 ⟨0,[],H3,I4 _,st4,fpD,w0⟩
    rintro n s5 ⟨i,ys,H5,I5,st5,fr5,w5⟩
    have stat:∀ {H':Hp},(∀ b∈fp,H' b=none)->∀ b∈fp,gP (cu X scope N cl s3.heap.objs.size s3 H3 fp E') [] H' b:=fun hn b hb=>by
      refine ⟨hn b hb,fun z=>?_,fstk b hb,.inl hb,fun x c e=>(f2 b hb).2.2.2.2.1 x c (cl1 x c e),fun p hp=>(by cases hp)⟩
      have lt:=fpl b hb
      have z':b=s3.heap.objs.size:=z
      rw [z',szC] at lt
      exact absurd lt (Nat.not_lt.mpr (Nat.le_succ D))
    rcases turn i n ys H5 w5 with ⟨stop,q⟩ | ⟨go,step⟩
    · refine aH (T.done (cu X scope N cl s3.heap.objs.size s3 H3 fp E') rfl rfl rfl hc i [] s5 _ H5 E' I5 (stat fr5) st5 stop) fun r s6 ⟨hr,I6⟩=>?_
      subst hr
      exact fin6 s6 H5 I6 q
    · refine aH (T.item (cu X scope N cl s3.heap.objs.size s3 H3 fp E') rfl rfl rfl hc i [] s5 _ H5 E' I5 (stat fr5) st5 go) fun r s6 ⟨u,hr,h6⟩=>?_
      subst hr
      refine aH h6 fun _ s7 ⟨x,H7,I7,r7,y7,st7,fr7⟩=>?_
      have I7':=I7.pinned (stat fr7) (T.obj _ _ st7)
      refine aH (hg cl s3.heap.objs.size s3 H3 fp E' _ s7 _ H7 x u _ I7' r7 (step x H7 y7)) fun _ s8 ⟨σ8,H8,I8,ext,q8⟩=>?_
      have again:∀ {σ9:St} {H9:Hp} {s9:Shared} {m':Nat} {zs:List V},Ext (fz ix σ) σ9->Inv (cu X scope N cl s3.heap.objs.size s3 H3 fp E') ([]++jD fp s7.heap) σ9 H9 s9->m' < n->W (i+1) m' zs H9 ->
          ∃ m,m < n/\∃ i ys H',Inv (cu X scope N cl s3.heap.objs.size s3 H3 fp E') [] (fz ix σ) H' s9/\tn i s9.heap/\(∀ b∈fp,H' b=none)/\W i m ys H':=fun {σ9 H9 s9 m' zs} ex I9 hm w9=>by
        refine ⟨m',hm,i+1,zs,H9,(I9.unpinned).weak ex.1.symm ex.2,T.keep _ _ _ st7 fun b hb o e=>(I9.pin (b,o) (List.mem_append_right _ (List.mem_append_right _ (gj hb e)))).1,fun b hb=>?_,w9⟩
        obtain ⟨o,e,d⟩:=T.obj _ _ st7 b hb
        exact (I9.pin (b,o) (List.mem_append_right _ (List.mem_append_right _ (gj hb e)))).2.1
      refine aH (ht cl s3.heap.objs.size s3 H3 fp E' _ s8 σ8 H8 _ I8 q8) fun ok s9 ⟨H9,I9,q9⟩=>?_
      cases ok with
      | false =>
        obtain ⟨m',hm,w9⟩:=q9
        exact again ext I9 hm w9
      | true =>
        refine aH (he cl s3.heap.objs.size s3 H3 fp E' _ s9 σ8 H9 _ I9 q9) fun u10 s10 ⟨v10,H10,I10,r10,hDl,hlt,m',hm,w10⟩=>?_
        refine aH (bJ (X:=cu X scope N cl s3.heap.objs.size s3 H3 fp E') _ s10 σ8 H10 (.ref D) [v10] (.ref D) [u10] (fun _ H'=>H'=upd H10 D (.lst (ys++[v10]))) I10 rfl (.cons r10 .nil) ⟨D,ys,v10,rfl,rfl,hDl,hlt,rfl⟩) fun _ s11 ⟨_,H11,I11,_,e11⟩=>?_
        subst e11
        exact again ext I11 hm w10
  exact codeAny_compStart_list (loop _ (by rw [<- hs3])) (T.self _ 0 _ _ _ st4 (loop _ (by rw [<- hs3])))
theorem dP {elt tg iter:Expr} {ifs:List Expr} {scope:Scope} {pos:Pos} {N:List Str} {ix:List (Option Nat)} {wi:TI} {g:TG} {tt:TT} {te:TE}
    (hc:X.calm=true) (hi:PI X tg iter wi) (hk:scope.kind = .function) (hcell0:uc scope=true) (hfree0:freeOk scope X.env=true) (hnames0:namesOk scope=true) (caps:fR X scope N ix)
    (hg:∀ cl C s H fp xe,PG (cu X scope N cl C s H fp xe) tg g) (ht:∀ cl C s H fp xe,yn (cu X scope N cl C s H fp xe) ifs tt) (he:∀ cl C s H fp xe,PE (cu X scope N cl C s H fp xe) elt te)
    (hs:∀ x,foldedSetIterable iter X.env x=pure x:=by intro _; rfl) :
    PE X (.ListComp elt [⟨tg,iter,ifs,0⟩] scope pos) (wK wi g tt te ix):=by
  intro pins s σ H Q I h
  rw [eval_ListComp]
  refine pB (use:=none) hc hi hk hcell0 hfree0 hnames0 caps hg ht he hs I h fun C D H6 s6 B q=>?_
  obtain ⟨m,hn⟩:=B.ns
  exact ⟨m,hn,fun h' hsb=>⟨.ref D,H6,B.gone hsb,rfl,q⟩⟩
noncomputable def DY (i:Nat) (te:TE):TS:=fun D σ H=>te σ H fun x H1=>D.nx (σ.set i (some x)) H1
theorem v8 {i:Nat} {y:Str} {py:Pos} {spos:Pos} {elt tg iter:Expr} {ifs:List Expr} {scope:Scope} {pos:Pos} {N:List Str} {ix:List (Option Nat)} {wi:TI} {g:TG} {tt:TT} {te:TE}
    (hN:X.N.Nodup) (hi':X.N[i]? = some y) (hx:Loc X.env.scope y) (hsw:swapsWith (.ListComp elt [⟨tg,iter,ifs,0⟩] scope pos) (some (.Name y py)) spos.line X.env=pure true)
    (hc:X.calm=true) (hi:PI X tg iter wi) (hk:scope.kind = .function) (hcell0:uc scope=true) (hfree0:freeOk scope X.env=true) (hnames0:namesOk scope=true) (caps:fR X scope N ix)
    (hg:∀ cl C s H fp xe,PG (cu X scope N cl C s H fp xe) tg g) (ht:∀ cl C s H fp xe,yn (cu X scope N cl C s H fp xe) ifs tt) (he:∀ cl C s H fp xe,PE (cu X scope N cl C s H fp xe) elt te)
    (hs:∀ x,foldedSetIterable iter X.env x=pure x:=by intro _; rfl) (hf:X.fn y=true\/X.env.scope.names.lookup y=some .local:=by first | exact .inl rfl | exact .inr rfl | assumption) :
    PS X (.Assign [.Name y py] (.ListComp elt [⟨tg,iter,ifs,0⟩] scope pos) spos) (DY i (wK wi g tt te ix)):=by
  intro pins s σ H D I h
  rw [exec_Assign_Name_used _ _ _ _ hsw]
  refine wpAny_bind (wpAny_standAt (wpAny_bind ?_))
  show wpAny _ X.A (do let _ <- comprehension (.ListComp elt [⟨tg,iter,ifs,0⟩] scope pos) scope X.env _ (newList []) false (eval iter X.env) (some (assign (.Name y py) X.env))) _ _ s
  refine wpAny_bind (wpAny_mono (pB (use:=some (assign (.Name y py) X.env)) (Qv:=fun _ s'=>SP X pins D .next s') hc hi hk hcell0 hfree0 hnames0 caps hg ht he hs I h fun C a H6 s6 B q=>?_) (fun _ s' hq=>wpAny_pure (wpAny_pure hq)) fun _ _ e=>e)
  obtain ⟨m,hn⟩:=B.ns
  show wpAny _ X.A (assign (.Name y py) X.env (.ref a)) _ _ s6
  refine wpAny_assign_Name (pM B.inv hN hi' hx (v:=.ref a) rfl (fun s7 I7 ⟨z,hz,hz'⟩=>?_) hf)
  have hzC:C≠z:=by
    rcases hz' with e | e
    · rw [e]; exact B.loc
    · exact fun w=>B.cell y z e w.symm
  refine ⟨m,hn.sameBut hz hzC,fun h' hsb=>?_⟩
  have B7:iX X pins (σ.set i (some (.ref a))) H6 C s7:=⟨I7,⟨m,hn.sameBut hz hzC⟩,B.free,B.loc,B.young,B.cell,B.pin⟩
  exact ⟨_,H6,B7.gone hsb,q⟩
theorem xD {K:W.Frag} {a:Addr} {xs:List V} {g:TG} {tt:TT} {te:TE} {σ0:St} {H:Hp} {D:Addr} {Q:VK} (f:V->V) (hz:xs.length<=sizeLine) (hx:au K H a xs) (hD:H D=none)
    (hs:∀ (i:Nat) (x:V) (H':Hp) (R:VK) (R0:Hp->Prop),xs[i]? = some x->(∀ b,b≠D->H' b=H b)->R (f x) H'->g x σ0 H' fun σ2 H2=>Ext σ0 σ2/\tt σ2 H2 fun b H3=>if b=true then te σ2 H3 R else R0 H3)
    (hq:Q (.ref D) (upd H D (.lst (xs.map f)))) :
    nr (tT K a) g tt te σ0 D Q H:=by
  have stays:∀ ys:List V,au K (upd H D (.lst ys)) a xs:=fun ys=>by
    have sm:af H (upd H D (.lst ys)):=fun b u q=>by rw [upd_ne (ak q hD)]; exact q
    exact sm.seq hx
  refine ⟨fun i m ys H'=>m=xs.length - i/\i<=xs.length/\ys=(xs.take i).map f/\H'=upd H D (.lst ys),⟨xs.length,by simp,Nat.zero_le _,by simp,rfl⟩,?_⟩
  rintro i m ys H' ⟨rfl,hi,rfl,rfl⟩
  by_cases hlt:i < xs.length
  · refine .inr ⟨⟨xs,xs[i],stays _,by simp [hlt]⟩,fun x H'' y=>?_⟩
    obtain ⟨e,y⟩:=y
    subst e
    have ex:=y xs (stays _)
    refine hs i x _ _ _ ex (fun b hb=>upd_ne hb) ⟨upd_same,by simp; lia,xs.length - (i+1),by lia,rfl,hlt,?_,?_⟩
    · rw [List.take_add_one,ex,List.map_append]; rfl
    · rw [gy]
  · have e:i=xs.length:=by lia
    subst e
    refine .inl ⟨⟨xs,stays _,Nat.le_refl _⟩,?_⟩
    rw [List.take_length]
    exact hq
end
end L2
set_option Elab.async false
set_option linter.all false
set_option maxRecDepth 100000
set_option maxHeartbeats 4000000
namespace L2
open PySem PySem.Spec PyProof.Rows
section
variable {P:Program} {w:World} {H:Hp} {h h':Heap} {a:Addr} {o:HO}
end
def Tr (h:Heap) (e T:Addr) (cls:Value):Prop:=∃ oe vs oT ts a0,h.get? e=some oe/\oe.cls=cls/\vs[0]? = some a0/\oe.data = .fields vs/\vs[1]? = some (.ref T)/\T≠e/\h.get? T=some oT/\oT.data = .fields ts/\ts[3]? = some Value.none
section
variable {M:Model} {A:Around} {E:Value->Shared->Prop} {s:Shared} {Q:Unit->Shared->Prop} {base:Heap} {env:Env} {outer l:List Env} {L e T:Addr} {cls:Value}
end
section
variable {X:Cx} {pins:List (Addr × Obj)} {σ:St} {H:Hp} {s:Shared} {h':Heap} {ch:List Addr}
structure zZ (X:Cx) (pins:List (Addr × Obj)) (H:Hp) (b:Addr):Prop where
  new:X.s₀.heap.get? b=none
  free:H b=none
  loc:b≠X.env.locals
  cell:∀ x c,X.env.cells.lookup x=some c->c≠b
  pin:∀ p∈X.pn++pins,p.1≠b
end
noncomputable def iG (P:Program) (w:World):fW:=fun outer H s E e s'=>∃ (ea T:Addr) (cls:Value) (H':Hp),e = .ref ea/\s.heap.get? ea=none/\s.heap.get? T=none/\H' ea=none/\H' T=none/\Tr s'.heap ea T cls /\
  s'.os=s.os/\AllBare s'.gens/\Un (iE outer) [] H H' s.heap s'.heap/\dj P w H' s'.heap/\E cls none H'
theorem qB {P:Program} {w:World} {X:Cx}:Passes (iG P w) X E0:=fun _ _ _ _ _ _ _ ⟨_,_,_,_,_,_,_,_,_,_,_,_,_,_,q⟩=>q.elim
section
variable {P:Program} {w:World} {K:W.Frag} {mg:Str->Option Value} {base:Heap} {N:List Str} {qual:Str} {scope:Scope} {f:Addr} {cd:Value} {A:Around} {outer:List Env} {s:Shared} {H:Hp} {E:XK}
end
section
variable {P:Program} {w:World} {K:W.Frag} {mg:Str->Option Value} {base:Heap}
theorem ax.up {CX:fW} {k:Nat} {f:Addr} {fd:FuncData} {ps:List Str} {sp:Sp} (F:ax P w K mg base bb k f fd ps sp):ax P w K mg base CX k f fd ps sp :=
  ⟨F.len,fun A outer s H args us vs Q E hr he hb hv hs=>codeAny_mono (F.run A outer s H args us vs Q E hr he hb hv hs) fun r s' q=>by
    cases r with
    | error e=>exact False.elim q
    | ok fl=>cases fl<;>exact q⟩
end
section
variable {X:Cx} {pins:List (Addr × Obj)} {σ:St} {H:Hp} {s:Shared} {e:Addr}
end
end L2
set_option Elab.async false
set_option linter.all false
set_option maxRecDepth 100000
set_option maxHeartbeats 4000000
namespace L2
open PySem PySem.Spec PyProof.Rows
structure Def (P:Program) (w:World) (K:W.Frag) (mg:Str->Option Value) (base:Heap) (x:Str) (ps:List Str) (k:Nat) (sp:Sp) (f:Addr) (fd:FuncData):Prop where
  ok:ax P w K mg base (iG P w) k f fd ps sp
  b:Binds K fd ps []
  kp:W.keepIn K (.ref f)=true
  m:mg x=some (.ref f)
section
variable {X:Cx} {f:Addr} {fd:FuncData} {ps:List Str} {sp:Sp} {x:Str} {p pos:Pos} {e:Expr} {es:List Expr} {t:TA} {j k:Nat}
theorem az (D:Def X.prog X.w X.K X.mg X.base x ps j sp f fd) (hr:bV k X.A) (ha:PA X (e::es) t) (hjk:j<=k:=by decide) (hg:Gl X x:=by rfl)
    (hdb:(x == ("__debug__" : Str))=false:=by decide) (he:starEach (e::es) X.env=(false,eval e X.env)::starEach es X.env:=by rfl) (hpl:(backTo pos (starEach es X.env)).any (·.1)=false:=by rfl) :
    PE X (.Call (.Name x p) (e::es) [] pos) (wM sp [] E0 t):=AN D.ok (hr.mono hjk) hg D.m D.kp D.b .nil qB ha hdb he hpl
end
theorem cD:bootBuiltins "isinstance" = some (.builtin "isinstance"):=by decide +kernel
theorem tW:bootBuiltins "int" = some (.type "int"):=by decide +kernel
theorem Ax:bootBuiltins "bool" = some (.type "bool"):=by decide +kernel
theorem nZ:bootBuiltins "list" = some (.type "list"):=by decide +kernel
theorem sC:bootBuiltins "tuple" = some (.type "tuple"):=by decide +kernel
theorem BE:bootBuiltins "min" = some (.builtin "min"):=by decide +kernel
theorem xB:bootBuiltins "max" = some (.builtin "max"):=by decide +kernel
theorem bP:bootBuiltins "len" = some (.builtin "len"):=by decide +kernel
theorem af.upd {H H':Hp} (h:af H H') {p:Addr} (n:H p=none) (o:HO):af H (L2.upd H' p o):=fun b u q=>by
  rw [upd_ne (ak q n)]; exact h b u q
theorem af.new {H H':Hp} (h:af H H') {p:Addr} (n:H' p=none) (o:HO):af H (L2.upd H' p o):=h.trans fun b u q=>by
  rw [upd_ne (ak q n)]; exact q
theorem sz {n:Nat} (h:n<=1000000):n<=sizeLine:=Nat.le_trans h (by decide)
theorem hG {n:Nat} (h:n<=1000000):n < sizeLine:=Nat.lt_of_le_of_lt h (by decide)
theorem uJ {K:W.Frag}:W.kitOne K (.type "int") (.type "int")=some true:=by rfl
theorem je {K:W.Frag}:W.kitOne K (.type "list") (.type "list")=some true:=by rfl
theorem tS {K:W.Frag}:W.kitOne K (.type "int") (.type "bool")=some false:=by rfl
theorem e6 {ns:List Int} {i:Int} (h0:0<=i) (h1:i < (ns.length:Int)):eR (ns.map V.int) i=some (.int (ns.getD i.toNat 0)):=by
  have hk:i.toNat < ns.length:=by lia
  have ek:i=((i.toNat:Nat):Int):=by lia
  have q:eR (ns.map V.int) ((i.toNat:Nat):Int)=some (.int (ns.getD i.toNat 0)):=j9 (by rw [List.getElem?_map,List.getD_eq_getElem?_getD,List.getElem?_eq_getElem hk]<;>rfl)
  rw [<- ek] at q
  exact q
end L2
namespace L2
open PySem PySem.Spec PyProof.Rows
theorem uf {σ:St} {H:Hp} {F:Bool->Hp->Prop} (h:F true H):Aj σ H F:=h
theorem pm {j:Int} (h:0 < j):0 < j:=h
noncomputable def fw (ns:List Int) (lo hi:Option Int):List Int:=(ns.drop (HT.sIx ns.length 0 lo)).take (HT.sIx ns.length ns.length hi - HT.sIx ns.length 0 lo)
theorem mx (ns:List Int) (lo hi:Option Int):fU (ns.map V.int) lo hi=(fw ns lo hi).map V.int:=by
  unfold fU fw
  rw [List.length_map,List.map_take,List.map_drop]
theorem oX {ns:List Int} {i:Nat} {x:V} (h:(ns.map V.int)[i]? = some x):∃ c,x = .int c:=by
  rw [List.getElem?_map] at h
  cases e:ns[i]? with
  | none=>rw [e] at h; cases h
  | some c=>rw [e] at h; cases h; exact ⟨c,rfl⟩
end L2
namespace L2
open PySem PySem.Spec PyProof.Rows
noncomputable def Fc (t u:TS):TS:=fun D σ H=>∃ P:St->Hp->Prop,t { D with nx:=P } σ H/\∀ σ' H',P σ' H'->u D σ' H'
theorem vq {X:Cx} {st:Stmt} {rest:List Stmt} {t u:TS} (h1:PS X st t) (h2:gG X rest u):gG X (st::rest) (Fc t u):=by
  intro pins s σ H D I h
  obtain ⟨P,ha,hb⟩:=h
  refine wpAny_execs_cons (aH (h1 pins s σ H { D with nx:=P } I ha) fun f s1 q=>?_)
  cases f with
  | next =>
    obtain ⟨σ',H',I',q⟩:=q
    exact h2 pins s1 σ' H' D I' (hb σ' H' q)
  | ret v=>exact q
  | brk=>exact q
  | cont=>exact q
theorem hZ {b b':Bool} {A B:Prop} (e:b=b') (h:if b'=true then A else B):if b=true then A else B:=by rw [e]; exact h
theorem cJ {c A B:Prop} [Decidable c] (hc:c) (h:A):if decide c=true then A else B:=by rw [decide_eq_true hc]; exact dB h
theorem dA {c A B:Prop} [Decidable c] (hc:¬ c) (h:B):if decide c=true then A else B:=by rw [decide_eq_false hc]; exact bN h
theorem uT {n:Nat} {i:Int} (h0:0<=i) (h1:i < n):jE n i=some i.toNat:=by unfold jE; rw [if_pos h0,if_pos h1]
noncomputable def sgn (c:Nat):V:=.str ⟨#[c]⟩
theorem B0:(Str.ofString "(")=⟨#[40]⟩:=by decide +kernel
theorem Fy:(Str.ofString ")")=⟨#[41]⟩:=by decide +kernel
theorem m9:V.str (Str.ofString "(")=sgn 40:=by rw [B0]; rfl
theorem m5:V.str (Str.ofString ")")=sgn 41:=by rw [Fy]; rfl
theorem u7 {c d:Nat} (h:sgn c=sgn d):c=d:=by
  unfold sgn at h
  injection h with h
  injection h with h
  have h2:=congrArg Array.toList h
  simpa using h2
theorem jW (c:Nat):decide (V.str ⟨#[c]⟩=V.str (Str.ofString "("))=decide (c=40):=by
  rw [m9]
  show decide (sgn c=sgn 40)=_
  by_cases h:c=40
  · subst h; rw [decide_eq_true rfl,decide_eq_true rfl]
  · rw [decide_eq_false h,decide_eq_false fun z=>h (u7 z)]
theorem nC (c:Nat):decide (V.str ⟨#[c]⟩=V.str (Str.ofString ")"))=decide (c=41):=by
  rw [m5]
  show decide (sgn c=sgn 41)=_
  by_cases h:c=41
  · subst h; rw [decide_eq_true rfl,decide_eq_true rfl]
  · rw [decide_eq_false h,decide_eq_false fun z=>h (u7 z)]
theorem zK {x:Str} {i c:Nat} (h:x.cps[i]? = some c):x.cps.toList.drop i=c::x.cps.toList.drop (i+1):=by
  have h':x.cps.toList[i]? = some c:=by simpa using h
  obtain ⟨hi,e⟩:=List.getElem?_eq_some_iff.mp h'
  rw [List.drop_eq_getElem_cons hi,e]
theorem zC (x:Str):x.cps.toList.drop x.cps.size=[]:=List.drop_eq_nil_of_le (by simp)
theorem AO (x:Str):x.cps.toList.length=x.length:=by simp [Str.length]
theorem pI (sep:Str) (hs:sep.cps = #[]):∀ (ys:List Str) (acc:Array Nat),(ys.foldl (fun acc p=>acc++sep.cps++p.cps) acc).toList=acc.toList++(ys.map (·.cps.toList)).flatten
  | [],acc=>by simp
  | y::r,acc=>by
    rw [List.foldl_cons,pI sep hs r]
    simp [hs]
theorem vI (sep:Str) (hs:sep.cps = #[]) (ys:List Str):(Txt.join sep ys).cps.toList=(ys.map (·.cps.toList)).flatten:=by
  unfold Txt.join Builtin.Str.glued
  show ((ys.drop 1).foldl (fun acc p=>acc++sep.cps++p.cps) (ys.headD Str.empty).cps).toList=_
  rw [pI sep hs]
  cases ys with
  | nil=>rfl
  | cons y r=>simp
theorem p7:(Str.ofString "").cps = #[]:=by decide +kernel
noncomputable def mX (c:Nat):Str:=⟨#[c]⟩
theorem vk (l:List Nat):l.map sgn=(l.map mX).map V.str:=by rw [List.map_map]; rfl
theorem rH:∀ l:List Nat,((l.map mX).map (·.cps.toList)).flatten=l
  | []=>rfl
  | c::r=>by rw [List.map_cons,List.map_cons,List.flatten_cons,rH r]; rfl
theorem iW (l:List Nat):(Txt.join (Str.ofString "") (l.map mX)).cps.toList=l:=by rw [vI _ p7,rH]
theorem j8:∀ l:List Nat,((l.map mX).map (·.length)).sum=l.length
  | []=>rfl
  | c::r=>by
    rw [List.map_cons,List.map_cons,List.sum_cons,j8 r,List.length_cons]
    show 1+r.length=r.length+1
    lia
theorem sD {x:Str} {l:List Nat} (h:x.cps.toList=l):x.length=l.length:=by rw [<- AO,h]
theorem uF (ns:List Int) (lo hi:Option Int):(fw ns lo hi).length<=ns.length:=by
  unfold fw; rw [List.length_take,List.length_drop]; lia
theorem yD (ns:List Int) {t:Int} (h:0<=t):fw ns (some t) none=ns.drop t.toNat:=by
  unfold fw
  have e1:HT.sIx ns.length 0 (some t)=min t.toNat ns.length:=by
    show (if t < 0 then _ else _)=_
    rw [if_neg (by lia)]
  rw [e1,HT.sIx_none]
  by_cases hl:t.toNat<=ns.length
  · rw [Nat.min_eq_left hl]; exact List.take_of_length_le (by simp)
  · rw [Nat.min_eq_right (by lia),List.drop_eq_nil_of_le (Nat.le_refl _),List.drop_eq_nil_of_le (by lia)]; simp
end L2
namespace Ck
noncomputable def z5:Nat->List Int
  | 0=>[1]
  | k+1=>z5 k++[((List.range (k+1)).map fun j=>(z5 k).getD j 0*(z5 k).getD (k - j) 0).sum]
noncomputable def sh (k:Nat):Int:=(z5 k).getD k 0
end Ck
namespace Ck
noncomputable def r:Nat->Nat->Int
  | 0,_=>1
  | _+1,0=>0
  | u+1,d+1=>if d < u then 0 else r u (d+1)+r (u+1) d
noncomputable def row (n u:Nat):List Int:=(List.range (n+1 - u)).map fun i=>r u (u+i)
noncomputable def pw (a:Int):Nat->Int
  | 0=>1
  | k+1=>pw a k*a
end Ck
namespace Ck
noncomputable def clo:Nat->List Nat->Bool
  | k,[]=>k == 0
  | k,c::t=>if c=40 then clo (k+1) t else if c=41 then (match k with | 0=>false | k+1=>clo k t) else false
theorem cT (k:Nat) (t:List Nat):clo k (40::t)=clo (k+1) t:=by
  conv=>lhs; unfold clo
  rw [if_pos rfl]
theorem cq (k:Nat) (t:List Nat):clo (k+1) (41::t)=clo k t:=by
  conv=>lhs; unfold clo
  rw [if_neg (by decide),if_pos rfl]
theorem dI (t:List Nat):clo 0 (41::t)=false:=by
  unfold clo
  rw [if_neg (by decide),if_pos rfl]
theorem cZ {k c:Nat} {t:List Nat} (h1:¬ c=40) (h2:¬ c=41):clo k (c::t)=false:=by
  unfold clo
  rw [if_neg h1,if_neg h2]
theorem ee (k:Nat):clo k []=(k == 0):=by unfold clo; rfl
inductive Good:Nat->Nat->List Nat->Prop
  | nil:Good 0 0 []
  | up {u d:Nat} {t:List Nat} (h:Good u d t) (le:u+1<=d):Good (u+1) d (40::t)
  | down {u d:Nat} {t:List Nat} (h:Good u d t) (le:u<=d):Good u (d+1) (41::t)
theorem Good.length {u d:Nat} {t:List Nat} (h:Good u d t):t.length=u+d:=by
  induction h with
  | nil=>rfl
  | up _ _ ih=>rw [List.length_cons,ih]; lia
  | down _ _ ih=>rw [List.length_cons,ih]; lia
theorem hW:∀ (t:List Nat) (k:Nat),clo k t=true->∃ u,Good u (u+k) t
  | [],k,h=>by
    have e:k=0:=by simpa [clo] using h
    subst e
    exact ⟨0,.nil⟩
  | c::t,k,h=>by
    unfold clo at h
    by_cases h1:c=40
    · rw [if_pos h1] at h
      obtain ⟨u,g⟩:=hW t (k+1) h
      subst h1
      refine ⟨u+1,?_⟩
      rw [show u+1+k=u+(k+1) by lia]
      exact .up g (by lia)
    · rw [if_neg h1] at h
      by_cases h2:c=41
      · rw [if_pos h2] at h
        cases k with
        | zero=>cases h
        | succ k =>
          obtain ⟨u,g⟩:=hW t k h
          subst h2
          exact ⟨u,Good.down g (Nat.le_add_right u k)⟩
      · rw [if_neg h2] at h; cases h
noncomputable def lt:List Nat->List Nat->Bool
  | c::s,e::t=>if c=e then lt s t else c == 40
  | _,_=>false
end Ck
set_option Elab.async false
set_option linter.all false
set_option maxRecDepth 100000
set_option maxHeartbeats 4000000
namespace Ck
open PySem
theorem bE (x:Str):x.cps.toList.length=x.length:=by simp [Str.length]
noncomputable def ix (n d:Nat):Option Int->Nat
  | none=>d
  | some v=>if v < 0 then (v+(n:Int)).toNat else min v.toNat n
theorem nM (l:List Nat):∀ (k a:Nat),((List.range k).map fun j=>a+j).filterMap (fun j=>l[j]?)=(l.drop a).take k
  | 0,a=>by simp
  | k+1,a=>by
    rw [List.range_succ,List.map_append,List.filterMap_append,nM l k a,List.take_add_one]
    congr 1
    rw [List.getElem?_drop]
    cases h:l[a+k]?<;>simp [h]
theorem jf (lo hi:Option Int) (n:Nat):Builtin.Str.strSliceIndices lo hi 1 n=(List.range (ix n n hi - ix n 0 lo)).map fun j=>ix n 0 lo+j:=by
  have key:∀ (a b:Nat),sliceRange (a:Int) (b:Int) 1=(List.range (b - a)).map fun j=>a+j:=by
    intro a b
    unfold sliceRange
    simp only [show (1:Int) > 0 by decide,if_true,Int.ediv_one]
    have e:(if (a:Int) < (b:Int) then (b:Int) - (a:Int)+1 - 1 else 0).toNat=b - a:=by split<;>lia
    rw [e]
    refine List.map_congr_left fun j _=>?_
    lia
  unfold Builtin.Str.strSliceIndices
  have elo:(match lo with | none=>(0:Int) | some i=>max 0 (min (if i < 0 then i+(n:Int) else i) (n:Int)))=((ix n 0 lo:Nat):Int):=by
    cases lo with
    | none=>rfl
    | some i =>
      show max 0 (min (if i < 0 then i+(n:Int) else i) (n:Int))=(((if i < 0 then (i+(n:Int)).toNat else min i.toNat n):Nat):Int)
      split<;>lia
  have ehi:(match hi with | none=>(n:Int) | some i=>max 0 (min (if i < 0 then i+(n:Int) else i) (n:Int)))=((ix n n hi:Nat):Int):=by
    cases hi with
    | none=>rfl
    | some i =>
      show max 0 (min (if i < 0 then i+(n:Int) else i) (n:Int))=(((if i < 0 then (i+(n:Int)).toNat else min i.toNat n):Nat):Int)
      split<;>lia
  rw [<- key,<- elo,<- ehi]
  cases lo<;>cases hi<;>simp<;>rfl
theorem uA (x:Str) (lo hi:Option Int):(Txt.slice x lo hi).cps.toList=(x.cps.toList.drop (ix x.length 0 lo)).take (ix x.length x.length hi - ix x.length 0 lo):=by
  have e:((Builtin.Str.strSliceIndices lo hi 1 x.length).filterMap (x.cps[·]?))=(x.cps.toList.drop (ix x.length 0 lo)).take (ix x.length x.length hi - ix x.length 0 lo):=by
    rw [jf,<- nM]
    congr 1
    funext j
    simp
  unfold Txt.slice
  split
  · rename_i h
    have hl:(Builtin.Str.strSliceIndices lo hi 1 x.length).length=x.length:=by simpa using h
    rw [jf,List.length_map,List.length_range] at hl
    have h1:ix x.length x.length hi<=x.length:=by
      cases hi with
      | none=>exact Nat.le_refl _
      | some v=>show (if v < 0 then (v+(x.length:Int)).toNat else min v.toNat x.length)<=x.length; split<;>lia
    have h2:x.length=0\/ix x.length 0 lo=0:=by lia
    have h3:ix x.length x.length hi - ix x.length 0 lo=x.length:=hl
    rw [h3]
    rcases h2 with h2 | h2
    · have:x.cps.toList=[]:=List.eq_nil_of_length_eq_zero (by rw [bE]; exact h2)
      rw [this]; simp
    · rw [h2,List.drop_zero,List.take_of_length_le (by rw [bE]; exact Nat.le_refl _)]
  · show ((Builtin.Str.strSliceIndices lo hi 1 x.length).filterMap (x.cps[·]?)).toArray.toList=_
    rw [<- e]
theorem y9 {x:Str} {p:Int} (h0:0<=p):(Txt.slice x none (some p)).cps.toList=x.cps.toList.take p.toNat:=by
  rw [uA]
  have e:ix x.length x.length (some p)=min p.toNat x.length:=by show (if p < 0 then _ else _)=_; rw [if_neg (by lia)]
  rw [e]
  show (x.cps.toList.drop 0).take (min p.toNat x.length - 0)=_
  rw [List.drop_zero,Nat.sub_zero]
  by_cases h:p.toNat<=x.length
  · rw [Nat.min_eq_left h]
  · rw [Nat.min_eq_right (by lia),List.take_of_length_le (by rw [bE]; exact Nat.le_refl _),List.take_of_length_le (by rw [bE]; lia)]
theorem xS (x y:Str):(x++y).cps.toList=x.cps.toList++y.cps.toList:=by
  show (x.cps++y.cps).toList=_
  simp
theorem mS (x:Str) (c:Nat):∀ (m i:Nat) (st:Array Nat × Nat),st.2<=i->st.1.size<=i->i+m<=x.length+1 ->
    (forIn (List.range' i m) st (StrLaws.occBody x ⟨#[c]⟩ x.length (x.length+1))).run.fst.size=st.1.size+((x.cps.toList.drop i).take m).count c
  | 0,i,st,_,_,_=>by
    show st.1.size=_
    simp
  | m+1,i,st,h1,h2,h3=>by
    rw [List.range'_succ,List.forIn_cons]
    unfold StrLaws.occBody
    have hone:=StrLaws.subAt_one x c i
    have step:(x.cps.toList.drop i).take (m+1)=(match x.cps.toList[i]? with | some a=>[a] | none=>[])++(x.cps.toList.drop (i+1)).take m:=by
      cases hx:x.cps.toList[i]? with
      | none =>
        have:=List.getElem?_eq_none_iff.mp hx
        rw [List.drop_eq_nil_of_le this,List.drop_eq_nil_of_le (by lia)]; simp
      | some a =>
        obtain ⟨hlt,e⟩:=List.getElem?_eq_some_iff.mp hx
        rw [List.drop_eq_getElem_cons hlt,e]; rfl
    by_cases hc:x.cps.toList[i]? = some c
    · have hs:=hone.mpr hc
      rw [if_pos ⟨⟨⟨by lia,h1⟩,hs.1⟩,hs.2⟩]
      show (forIn (List.range' (i+1) m) (st.1.push i,i+1) (StrLaws.occBody x ⟨#[c]⟩ x.length (x.length+1))).run.fst.size=_
      rw [mS x c m (i+1) _ (Nat.le_refl _) (by simp; lia) (by lia),step,hc]
      simp
      lia
    · rw [if_neg fun h=>hc (hone.mp ⟨h.1.2,h.2⟩)]
      show (forIn (List.range' (i+1) m) (st.1,st.2) (StrLaws.occBody x ⟨#[c]⟩ x.length (x.length+1))).run.fst.size=_
      rw [mS x c m (i+1) (st.1,st.2) (Nat.le_succ_of_le h1) (Nat.le_succ_of_le h2) (by lia),step]
      cases hx:x.cps.toList[i]? with
      | none=>simp
      | some a =>
        rw [hx] at hc
        have hne:a≠c:=fun e=>hc (by rw [e])
        simp [List.count_cons,hne]
theorem xK (x:Str) (c:Nat):Txt.count x ⟨#[c]⟩=((x.cps.toList.count c:Nat):Int):=by
  unfold Txt.count
  rw [StrLaws.occ_eq,Array.length_toList,Nat.sub_zero,mS x c _ 0 _ (Nat.le_refl _) (by simp) (by lia)]
  rw [List.drop_zero,List.take_of_length_le (by rw [bE]; lia)]
  simp
end Ck
set_option Elab.async false
set_option linter.all false
set_option maxRecDepth 100000
set_option maxHeartbeats 4000000
namespace Ck
open PySem L2
end Ck
namespace L2
open PySem
theorem As (k:Nat) (v:V):(List.replicate k [v]).flatten=List.replicate k v:=by
  induction k with
  | zero=>rfl
  | succ k ih=>rw [List.replicate_succ,List.flatten_cons,ih,List.replicate_succ]; rfl
end L2
namespace Ck
open PySem L2
structure Tab (H:Hp) (p:Addr) (n m:Nat) (T:List Addr):Prop where
  at_:H p=some (.lst (T.map V.ref))
  len:T.length=m
  rows:∀ (u:Nat) (t:Addr),T[u]? = some t->H t=some (.lst ((row n u).map V.int))
end Ck
namespace L2
open PySem PySem.Spec PyProof.Rows
noncomputable def Dh:V->List V->Hp->VK->Prop:=fun x vs H Q=>∃ z y,x = .str z/\vs=[.str y]/\Q (.int (Txt.count z y)) H
theorem zN {X:Cx}:uw X "str.count" Dh:=by
  intro pins s σ H x xs v us Q I rx rs h
  obtain ⟨z,y,rfl,rfl,q⟩:=h
  obtain ⟨t,rfl⟩:=rx
  obtain ⟨u,rfl,t',rfl⟩:=vals1 rs
  exact SC.count ⟨.int (Txt.count z y),H,I.tok _,⟨_,rfl⟩,q⟩
theorem iC {x:Str} {i:Int} {c:Nat} (h0:0<=i) (h:x.cps.toList[i.toNat]? = some c):eR x.cps.toList i=some c:=by
  have q:=j9 (xs:=x.cps.toList) (j:=i.toNat) h
  rw [show ((i.toNat:Nat):Int)=i by lia] at q
  exact q
theorem o7 {x y:Str} (h:x.cps.toList=y.cps.toList):x=y:=by
  obtain ⟨a⟩:=x
  obtain ⟨b⟩:=y
  have:a=b:=by
    have h':a.toList=b.toList:=h
    rw [<- Array.toArray_toList (xs:=a),h',Array.toArray_toList]
  rw [this]
end L2
namespace Ck
open PySem L2
structure ph (n:Nat) (l:List Nat) (i u h:Nat):Prop where
  len:l.length=i
  bal:2*u=i+h
  le:u<=n
  clo:∀ t,Ck.clo 0 (l++t)=Ck.clo h t
theorem ph.up {n:Nat} {l:List Nat} {i u h:Nat} (b:ph n l i u h) (hu:u < n):ph n (l++[40]) (i+1) (u+1) (h+1) :=
  ⟨by rw [List.length_append,b.len]; rfl,by have:=b.bal; lia,hu,fun t=>by rw [List.append_assoc,b.clo]; exact cT h t⟩
theorem ph.down {n:Nat} {l:List Nat} {i u h:Nat} (b:ph n l i u (h+1)):ph n (l++[41]) (i+1) u h :=
  ⟨by rw [List.length_append,b.len]; rfl,by have:=b.bal; lia,b.le,fun t=>by rw [List.append_assoc,b.clo]; exact cq h t⟩
theorem nX {n:Nat} {c:List Nat} (g:Good n n c):∀ i,i<=c.length->∃ h u',ph n (c.take i) i ((c.take i).count 40) h/\Good u' (u'+h) (c.drop i)/\(c.take i).count 40+u'=n
  | 0,_=>⟨0,n,⟨rfl,rfl,by simp,fun t=>rfl⟩,g,by simp⟩
  | i+1,hi=>by
    obtain ⟨h,u',b,gd,e⟩:=nX g i (by lia)
    have hlt:i < c.length:=by lia
    rw [List.drop_eq_getElem_cons hlt] at gd
    have et:c.take (i+1)=c.take i++[c[i]]:=by rw [List.take_add_one,List.getElem?_eq_getElem hlt]; rfl
    generalize hc:c[i]=x at gd et
    generalize hd:u'+h=d at gd
    rw [et]
    cases gd with
    | @up v d t g' le =>
      refine ⟨h+1,v,?_,?_,?_⟩
      · have:=b.up (by lia)
        rw [List.count_append,show List.count 40 [40]=1 by rfl]
        exact this
      · rw [show v+(h+1)=d by lia]; exact g'
      · rw [List.count_append,show List.count 40 [40]=1 by rfl]; lia
    | @down v d' t g' le =>
      obtain ⟨h',rfl⟩:∃ h',h=h'+1:=⟨h - 1,by lia⟩
      refine ⟨h',u',?_,?_,?_⟩
      · have:=b.down
        rw [List.count_append,show List.count 40 [41]=0 by rfl]
        exact this
      · rw [show u'+h'=d' by lia]; exact g'
      · rw [List.count_append,show List.count 40 [41]=0 by rfl]; lia
end Ck
set_option Elab.async false
set_option linter.all false
set_option maxRecDepth 100000
set_option maxHeartbeats 4000000
namespace L2
open PySem PySem.Spec PyProof.Rows
noncomputable def uV (lo:Int) (n:Nat):It:=⟨fun i _=>i < n,fun i H x H'=>H'=H/\x = .int (lo - i),fun i _=>n<=i⟩
theorem xH {P:Program} {w:World} {K:W.Frag} {tg:Expr} (it:Addr) (lo:Int) (n:Nat):Turn P w K tg (uV lo n) [it] it (fun i h=>IsRangeIter h it (lo+(i:Nat)*(-1)) ((n:Int) - (i:Nat)) (-1)) where
  mem:=by simp
  obj:=fun i h st b hb=>by
    have e:b=it:=by simpa using hb
    subst e
    exact ⟨_,st,fun v z=>by
      have z':Data.fields _=Data.cell v:=z
      cases z'⟩
  keep:=fun i h h' st k=>k it (by simp) _ st
  item:=by
    intro X hP hw hK hc i pins s σ H E I hf st hg
    subst hP hw hK
    obtain ⟨f0,f1,f2,f3,f4,f5⟩:=hf it (by simp)
    refine (Walks.range (prog:=X.prog) (w:=X.w) (I.ok.hd hc) it lo (-1) n).item i s _ _ hg st fun v h' tk hv st' kk=>?_
    obtain ⟨t,rfl⟩:=hv
    have I1:Inv X pins σ H { s with heap:=h',toks:=tk }:=I.turned (fun b o hb e=>kk b o (by simpa using hb) e) f0 f1 f3 f4 f5
    refine ⟨_,rfl,mU (s:={ s with heap:=h',toks:=tk }) (n:="range_iterator") st' rfl rfl (by decide) ⟨.int (lo - i),H,I1,⟨t,?_⟩,⟨rfl,rfl⟩,st',fun b hb=>(hf b hb).1⟩⟩
    rw [show lo+(i:Int)*(-1)=lo - (i:Int) by lia]
  done:=by
    intro X hP hw hK hc i pins s σ H E I hf st hg
    subst hP hw hK
    obtain ⟨f0,f1,f2,f3,f4,f5⟩:=hf it (by simp)
    exact wpAny_pyNext_range_end (I.ok.hd hc) st (by have:n<=i:=hg; lia) fun h' eb=>⟨rfl,I.turned (t':=s.toks) (fun b o hb e=>eb b o hb e) f0 f1 f3 f4 f5⟩
  self:=fun _ _ _ _ _ st h=>wpAny_pyIter_rangeiter st h
section
variable {X:Cx} {tg:Expr}
theorem Bc {pins:List (Addr × Obj)} {σ:St} {H:Hp} {s:Shared} {R:It->Hp->Prop} {E:Value->Shared->Prop} {lo hi:Int} {t u v:Tok} {tk:Nat} (I:Inv X pins σ H s) (h1 : -(2 ^ 62)<=lo) (h2:lo < 2 ^ 62) (h3 : -(2 ^ 62)<=hi) (h4:hi < 2 ^ 62)
    (q:R (uV lo (lo - hi).toNat) H):wpAny (model X.prog X.w) X.A (pyIter (.ref s.heap.objs.size)) (An X pins σ tg R) E { s with heap:=s.heap.push { cls:=.type "range",data:=.fields #[.int lo t,.int hi u,.int (-1) v] },toks:=tk }:=by
  refine wpAny_pyIter_range (IsRange.new ..) (W.small_down h1 h2 h3 h4) ?_
  have I1:Inv X pins σ H { s with heap:=s.heap.push { cls:=.type "range",data:=.fields #[.int lo t,.int hi u,.int (-1) v] },toks:=tk }:=I.kept fun b o e=>Heap.get?_push_of_some _ e
  refine ⟨(s.heap.push { cls:=.type "range",data:=.fields #[.int lo t,.int hi u,.int (-1) v] }).objs.size,[(s.heap.push { cls:=.type "range",data:=.fields #[.int lo t,.int hi u,.int (-1) v] }).objs.size],_,_,H,rfl,
    I1.kept (t':=tk) fun b o e=>Heap.get?_push_of_some _ e,xH _ lo (lo - hi).toNat,?_,fun b hb=>?_,q⟩
  · have e1:lo+((0:Nat):Int)*(-1)=lo:=by simp
    have e2:(((lo - hi).toNat:Nat):Int) - ((0:Nat):Int)=Builtin.Range.rangeSize lo hi (-1):=by rw [W.rangeSize_downNat]; simp
    show IsRangeIter _ _ (lo+((0:Nat):Int)*(-1)) ((((lo - hi).toNat:Nat):Int) - ((0:Nat):Int)) (-1)
    rw [e1,e2]
    exact Heap.get?_push_size _ rfl
  · have e:b=(s.heap.push { cls:=.type "range",data:=.fields #[.int lo t,.int hi u,.int (-1) v] }).objs.size:=by simpa using hb
    subst e
    exact I1.fpOk (Nat.le_refl _) (I1.hok.fresh (Nat.le_refl _))
noncomputable def Ey (ta:TA):TI:=fun σ H R=>ta σ H fun vs H1=>∃ i j:Int,vs=[.int i,.int j,.int (-1)]/\(-(2 ^ 62)<=i/\i < 2 ^ 62/\-(2 ^ 62)<=j/\j < 2 ^ 62)/\R (uV i (i - j).toNat) H1
theorem u6 {a b c:Expr} {ta:TA} {p pos:Pos} (hg:Gl X "range") (hm:X.mg "range" = none) (ha:PA X [a,b,c] ta) (hs:starEach [a,b,c] X.env=[(false,eval a X.env),(false,eval b X.env),(false,eval c X.env)]:=by rfl) (hs2:starEach [b,c] X.env=[(false,eval b X.env),(false,eval c X.env)]:=by rfl) :
    PI X tg (.Call (.Name "range" p) [a,b,c] [] pos) (Ey ta):=by
  intro pins s σ H R I h
  refine Call_ (cV I hg hm boot_range (PyProof.Rows.callWith_type1 (aH (ha pos pins s σ H _ I h) fun us s1 ⟨vs,H1,I1,r1,q1⟩=>?_) (by rw [hs,hs2]) (by rw [hs2]; rfl)))
  obtain ⟨i,j,e,⟨q1,q2,q3,q4⟩,q⟩:=q1
  subst e
  obtain ⟨u1,u2,u3,rfl,⟨t,rfl⟩,⟨t',rfl⟩,t'',rfl⟩:∃ u1 u2 u3,us=[u1,u2,u3]/\RelV (.int i) u1/\RelV (.int j) u2/\RelV (.int (-1)) u3:=by
    cases r1 with
    | cons r rr=>cases rr with
      | cons r' rr=>cases rr with
        | cons r'' rr=>cases rr; exact ⟨_,_,_,rfl,r,r',r''⟩
  exact call_range_3 (by decide) (Bc I1 q1 q2 q3 q4 q) (.inl (PyProof.noPylong_small (by decide)))
theorem uv {lo:Int} {n:Nat} {g:TG} {tb:TS} {D:Ends} {σ:St} {H:Hp} (Pv:Nat->St->Hp->Prop) (h0:Pv 0 σ H)
    (hs:∀ i σ H,i < n->Pv i σ H->g (.int (lo - i)) σ H fun σ2 H2=>tb { D with nx:=Pv (i+1),ct:=Pv (i+1),bk:=D.nx } σ2 H2) (hd:∀ σ H,Pv n σ H->D.nx σ H) :
    ∃ W:Nat->Nat->St->Hp->Prop,(∃ m,W 0 m σ H)/\∀ i m σ H,W i m σ H ->
      ((uV lo n).stop i H/\D.nx σ H)\/((uV lo n).go i H/\∃ N:St->Hp->Prop,(∀ σ' H',N σ' H'->∃ m',m' < m/\W (i+1) m' σ' H')/\∀ x H',(uV lo n).yld i H x H'->g x σ H' fun σ2 H2=>tb { D with nx:=N,ct:=N,bk:=D.nx } σ2 H2):=by
  refine ⟨fun i m σ H=>m=n - i/\i<=n/\Pv i σ H,⟨n,by simp,Nat.zero_le _,h0⟩,?_⟩
  rintro i m σ H ⟨rfl,hi,p⟩
  by_cases hlt:i < n
  · refine .inr ⟨hlt,Pv (i+1),fun σ' H' p'=>⟨n - (i+1),by lia,rfl,hlt,p'⟩,fun x H' y=>?_⟩
    obtain ⟨rfl,rfl⟩:=y
    exact hs i σ _ hlt p
  · have e:i=n:=by lia
    subst e
    exact .inl ⟨Nat.le_refl _,hd σ H p⟩
end
noncomputable def mf:List V->List V->Bool
  | [],[]=>true
  | x::xs,y::ys=>nu x y&&mf xs ys
  | _,_=>false
theorem ve:∀ {xs ys:List V},xs.length≠ys.length->mf xs ys=false
  | [],[],h=>absurd rfl h
  | [],_::_,_=>rfl
  | _::_,[],_=>rfl
  | x::xs,y::ys,h=>by
    rw [mf,ve (xs:=xs) (ys:=ys) (by simpa using h),Bool.and_false]
theorem vh:∀ {xs ys:List V},xs.length=ys.length->(List.range xs.length).all (fun j=>nu (xs.getD j .non) (ys.getD j .non))=mf xs ys
  | [],[],_=>rfl
  | x::xs,y::ys,h=>by
    rw [mf,<- vh (xs:=xs) (ys:=ys) (by simpa using h),List.length_cons,List.range_succ_eq_map,List.all_cons,List.all_map]
    rfl
noncomputable def EN (K:W.Frag) (neg:Bool):R2:=fun x y H Q=>∃ a b xs ys,x = .ref a/\y = .ref b/\au K H a xs/\au K H b ys/\xs.all gk=true/\ys.all gk=true/\Q (.bl (if neg then !mf xs ys else mf xs ys)) H
section
variable {X:Cx}
theorem items_eqAt {A:Around} {s:Shared} {xs ys:List V} {us vs:List Value} (r:Vals xs us) (r':Vals ys vs) (fx:xs.all gk=true) (fy:ys.all gk=true) :
    ∀ j (h1:j < us.toArray.size) (h2:j < vs.toArray.size),SeqAt.EqAt A s us.toArray[j] vs.toArray[j] (nu (xs.getD j .non) (ys.getD j .non)):=fun j h1 h2=>by
  have l1:=r.length
  have l2:=r'.length
  have h1':j < us.length:=by simpa using h1
  have h2':j < vs.length:=by simpa using h2
  obtain ⟨u,eu,ru⟩:=r.get (List.getElem?_eq_getElem (show j < xs.length by lia))
  obtain ⟨v,ev,rv⟩:=r'.get (List.getElem?_eq_getElem (show j < ys.length by lia))
  have e1:us.toArray[j]=u:=by
    rw [List.getElem?_eq_getElem h1'] at eu
    simpa using eu
  have e2:vs.toArray[j]=v:=by
    rw [List.getElem?_eq_getElem h2'] at ev
    simpa using ev
  rw [e1,e2]
  have g1:xs.getD j .non=xs[j]'(by lia):=by rw [List.getD_eq_getElem?_getD,List.getElem?_eq_getElem (show j < xs.length by lia)]; rfl
  have g2:ys.getD j .non=ys[j]'(by lia):=by rw [List.getD_eq_getElem?_getD,List.getElem?_eq_getElem (show j < ys.length by lia)]; rfl
  rw [g1,g2]
  exact yk ru rv (List.all_eq_true.mp fx _ (List.getElem_mem _)) (List.all_eq_true.mp fy _ (List.getElem_mem _))
theorem wb (hu:X.A.units < cLine):cp X (compareOp .Eq) (EN X.K false):=by
  intro pins s σ H x y v u Q I rx ry h
  obtain ⟨a,b,xs,ys,rfl,rfl,ha,hb,fx,fy,q⟩:=h
  cases rx
  cases ry
  obtain ⟨us,r,pl,hz⟩:=I.list ha
  obtain ⟨vs,r',pl',hz'⟩:=I.list hb
  have l1:=r.length
  have l2:=r'.length
  by_cases hl:xs.length=ys.length
  · refine SeqAt.eq_listAt (e:=fun j=>nu (xs.getD j .non) (ys.getD j .non)) pl.isList pl'.isList (by simp; lia) hu (items_eqAt r r' fx fy) ⟨.bl _,H,I,rfl,?_⟩
    rw [show us.toArray.size=xs.length by simp; lia,vh hl]
    exact q
  · refine SeqAt.eq_list_lengthsAt pl.isList pl'.isList (by simp; lia) hu ⟨.bl false,H,I,rfl,?_⟩
    rw [<- ve hl]
    exact q
end
end L2
set_option Elab.async false
set_option linter.all false
set_option maxRecDepth 100000
set_option maxHeartbeats 4000000
namespace L2
open PySem PySem.Spec PyProof.Rows PySem.W Builtin Builtin.ObjectAttr Builtin.Getset_descriptor
section
variable {K:Frag} {e C:Addr} {M:Model} {h:Heap} {prog:Program} {w:World} {A:Around} {E:Value->Shared->Prop} {s:Shared}
end
section
variable {K:Frag} {e C:Addr} {M:Model} {h:Heap} {prog:Program} {w:World} {A:Around} {E:Value->Shared->Prop} {s:Shared}
end
section
variable {X:Cx}
theorem Fw {A:Around} {k:Nat} (hr:bV k A):A.units < cLine:=Nat.lt_of_succ_lt (Em hr)
end
end L2
namespace Ck
open PySem L2
end Ck
set_option Elab.async false
set_option linter.all false
set_option maxRecDepth 100000
set_option maxHeartbeats 4000000
namespace L2
open PySem PySem.Spec PyProof.Rows
structure aM (P:Program) (w:World) (K:W.Frag) (mg:Str->Option Value) (base:Heap) (ps:List Str) (k:Nat) (sp:Sp) (f:Addr) (fd:FuncData):Prop where
  ok:ax P w K mg base (iG P w) k f fd ps sp
  b:Binds K fd ps []
section
variable {X:Cx} {C f:Addr} {fd:FuncData} {ps:List Str} {sp:Sp} {m:Str} {apos pos:Pos} {o e:Expr} {es:List Expr} {ta:TE} {t:TA} {j k:Nat}
theorem df {pl:Sem Bool} (ho:PE X o ta) (c:g8 X.K C) (hm:Meth X.K C m f) (D:aM X.prog X.w X.K X.mg X.base ps j sp f fd) (hr:bV k X.A) (ha:PA X (e::es) t) (hjk:j<=k:=by decide)
    (hst:starEach (e::es) X.env=(false,eval e X.env)::starEach es X.env:=by rfl) (hpl:(backTo pos (starEach es X.env)).any (·.1)=false:=by rfl)
    (ht:eval (.Call (.Attribute o m apos) (e::es) [] pos) X.env=(do
      let ov <- eval o X.env
      standAt apos.atName
      let (f,first) <- holding [ov] (getMethod ov m pl)
      callWith pos f first (backTo pos (starEach (e::es) X.env)) (backToKw pos (keywordEach [] X.env))):=by rfl) :
    PE X (.Call (.Attribute o m apos) (e::es) [] pos) (Ao C m sp [] E0 ta t):=Ar ho c hm D.ok (hr.mono hjk) D.b .nil qB ha hst hpl ht
end
structure gW (K:W.Frag) (C:Addr) (m:Str) (f:Addr):Prop where
  hg:W.specialIn K (.ref C) "__getattribute__" = some (some (.builtin "type.__getattribute__"))
  rd:W.readsIn K C (.type "type")=true
  at_:W.findCls K (.ref C) (.type "type") m=some (.val (.ref f))
  kp:W.keepIn K (.ref f)=true
section
variable {X:Cx} {C f:Addr} {fd:FuncData} {ps:List Str} {sp:Sp} {x m:Str} {p apos pos:Pos} {e:Expr} {es:List Expr} {t:TA} {j k:Nat}
theorem hV {pl:Sem Bool} (hm:X.mg x=some (.ref C)) (M:gW X.K C m f) (D:aM X.prog X.w X.K X.mg X.base ps j sp f fd) (hr:bV k X.A) (ha:PA X (e::es) t) (hjk:j<=k:=by decide) (hg:Gl X x:=by rfl)
    (hdb:(x == ("__debug__" : Str))=false:=by decide) (hst:starEach (e::es) X.env=(false,eval e X.env)::starEach es X.env:=by rfl) (hpl:(backTo pos (starEach es X.env)).any (·.1)=false:=by rfl)
    (ht:eval (.Call (.Attribute (.Name x p) m apos) (e::es) [] pos) X.env=(do
      let ov <- eval (.Name x p) X.env
      standAt apos.atName
      let (f,first) <- holding [ov] (getMethod ov m pl)
      callWith pos f first (backTo pos (starEach (e::es) X.env)) (backToKw pos (keywordEach [] X.env))):=by rfl) :
    PE X (.Call (.Attribute (.Name x p) m apos) (e::es) [] pos) (wM sp [] E0 t):=by
  intro pins s σ H Q I h
  refine W.methodCall_KW (pl:=pl) (om I hg hm ?_ hdb) ht
  refine W.method_cls I.kIn M.hg (W.cls_value I.kIn M.rd M.at_ rfl ?_)
  have I1:Inv X pins σ H { s with toks:=s.toks+1 }:=I.tok _
  refine W.callWith_K (first:=[]) (h₀:=X.base) I.ok.mod.kin M.kp (aH (ha pos pins _ σ H _ I1 h) fun us s2 ⟨vs,H2,I2,r,q2⟩=>⟨I2.kIn,?_⟩) hst hpl
  exact r8 D.ok (hr.mono hjk) D.b .nil qB I2 r q2
end
section
variable {X:Cx} {C f:Addr} {fd:FuncData} {ps:List Str} {sp:Sp} {x:Str} {p pos:Pos} {j k:Nat}
theorem dU (M:Mk X.K C f) (hm:X.mg x=some (.ref C)) (D:aM X.prog X.w X.K X.mg X.base ps j sp f fd) (hr:bV k X.A) (hjk:j+1<=k:=by decide) (hg:Gl X x:=by rfl) (hdb:(x == ("__debug__" : Str))=false:=by decide) :
    PE X (.Call (.Name x p) [] [] pos) (Aq C sp [] E0 ze):=zE M D.ok (hr.mono hjk) hg hm D.b .nil qB hdb
end
end L2
namespace L2
open PySem
noncomputable def below (N:Nat) (sp:Nat->Sp):Sp:=fun vs H Q E=>∃ m,m < N/\sp m vs H Q E
theorem cL {P:Program} {w:World} {K:W.Frag} {mg:Str->Option Value} {base:Heap} {CX:fW} {L N:Nat} {f:Addr} {fd:FuncData} {ps:List Str} {sp:Nat->Sp} (h:∀ m,m < N->ax P w K mg base CX (L+m+1) f fd ps (sp m)) :
    ax P w K mg base CX (L+N) f fd ps (below N sp) :=
  ⟨fun vs H Q E ⟨m,hm,q⟩=>(h m hm).len vs H Q E q,fun A outer s H args us vs Q E hr he hb hv ⟨m,hm,q⟩=>(h m hm).run A outer s H args us vs Q E (hr.mono (by lia)) he hb hv q⟩
theorem jz {P:Program} {w:World} {K:W.Frag} {mg:Str->Option Value} {base:Heap} {CX:fW} {L:Nat} {f:Addr} {fd:FuncData} {ps:List Str} {sp:Nat->Sp}
    (h:∀ n,(∀ m,m < n->ax P w K mg base CX (L+m+1) f fd ps (sp m))->ax P w K mg base CX (L+n+1) f fd ps (sp n)):∀ n,ax P w K mg base CX (L+n+1) f fd ps (sp n):=fun n =>
  Nat.strongRecOn n fun n ih=>h n ih
end L2
set_option Elab.async false
set_option linter.all false
set_option maxRecDepth 100000
set_option maxHeartbeats 4000000
namespace L2
open PySem PySem.Spec PyProof.Rows
inductive bC (K:W.Frag) (H:Hp):Nat->V->V->Bool->Prop
  | flat {n:Nat} {x y:V} (fx:gk x=true) (fy:gk y=true):bC K H n x y (nu x y)
  | same {n:Nat} {a:Addr}:bC K H n (.ref a) (.ref a) true
  | lst {n:Nat} {a b:Addr} {xs ys:List V} {e:Nat->Bool} (ne:a≠b) (ha:au K H a xs) (hb:au K H b ys) (hl:xs.length=ys.length)
      (hi:∀ j x y,xs[j]? = some x->ys[j]? = some y->bC K H n x y (e j)):bC K H (n+1) (.ref a) (.ref b) ((List.range xs.length).all e)
  | lstN {n:Nat} {a b:Addr} {xs ys:List V} (ne:a≠b) (ha:au K H a xs) (hb:au K H b ys) (hl:xs.length≠ys.length):bC K H (n+1) (.ref a) (.ref b) false
  | tup {n:Nat} {a b:Addr} {xs ys:List V} {e:Nat->Bool} (ne:a≠b) (ha:aT K H a xs) (hb:aT K H b ys)
      (hi:∀ j x y,xs[j]? = some x->ys[j]? = some y->bC K H n x y (e j)):bC K H (n+1) (.ref a) (.ref b) ((List.range (min xs.length ys.length)).all e&&xs.length == ys.length)
theorem bC.lstT {K:W.Frag} {H:Hp} {n:Nat} {a b:Addr} {xs ys:List V} (ne:a≠b) (ha:au K H a xs) (hb:au K H b ys) (hl:xs.length=ys.length) (hi:∀ (j:Nat) (x y:V),xs[j]? = some x->ys[j]? = some y->bC K H n x y true):bC K H (n+1) (.ref a) (.ref b) true:=by
  have h:=bC.lst (e:=fun _=>true) ne ha hb hl hi
  have e (k:Nat):(List.range k).all (fun _=>true)=true:=List.all_eq_true.mpr fun _ _=>rfl
  rw [e] at h
  exact h
theorem bC.tupT {K:W.Frag} {H:Hp} {n:Nat} {a b:Addr} {xs ys:List V} (ne:a≠b) (ha:aT K H a xs) (hb:aT K H b ys) (hl:xs.length=ys.length) (hi:∀ (j:Nat) (x y:V),xs[j]? = some x->ys[j]? = some y->bC K H n x y true):bC K H (n+1) (.ref a) (.ref b) true:=by
  have h:=bC.tup (e:=fun _=>true) ne ha hb hi
  have e (k:Nat):(List.range k).all (fun _=>true)=true:=List.all_eq_true.mpr fun _ _=>rfl
  rw [e,hl] at h
  simpa using h
section
variable {X:Cx} {pins:List (Addr × Obj)} {σ:St} {H:Hp} {s:Shared}
theorem cX {xs:List V} {us:List Value} (r:Vals xs us) {j:Nat} (h:j < us.toArray.size):∃ x,xs[j]? = some x/\RelV x us.toArray[j]:=by
  have h':j < us.length:=by simpa using h
  have hx:j < xs.length:=by rw [r.length]; exact h'
  obtain ⟨u,eu,ru⟩:=r.get (List.getElem?_eq_getElem hx)
  rw [List.getElem?_eq_getElem h'] at eu
  exact ⟨_,List.getElem?_eq_getElem hx,by
    have:us.toArray[j]=u:=by simpa using eu
    rw [this]; exact ru⟩
theorem bC.at_ {n:Nat} {x y:V} {b:Bool} (d:bC X.K H n x y b):∀ {A:Around} {u v:Value},A.units+n < cLine->Inv X pins σ H s->RelV x u->RelV y v->SeqAt.EqAt A s u v b:=by
  induction d with
  | flat fx fy=>intro A u v _ I ru rv; exact yk ru rv fx fy
  | same =>
    intro A u v _ I ru rv
    cases (show u=Value.ref _ from ru)
    cases (show v=Value.ref _ from rv)
    exact SeqAt.EqAt.same _
  | @lst n a b xs ys e ne ha hb hl hi ih =>
    intro A u v hu I ru rv
    cases (show u=Value.ref _ from ru)
    cases (show v=Value.ref _ from rv)
    obtain ⟨us,r,pl,_⟩:=I.list ha
    obtain ⟨vs,r',pl',_⟩:=I.list hb
    have l1:=r.length
    have l2:=r'.length
    have z:=SeqAt.RcAt.lists (A:=A) (e:=e) pl.isList pl'.isList (by simp; lia) (by lia) fun j h1 h2=>by
      obtain ⟨x,ex,rx⟩:=cX r h1
      obtain ⟨y,ey,ry⟩:=cX r' h2
      exact ih j x y ex ey (A:=A.in1) (by show A.units+1+n < cLine; lia) I rx ry
    rw [show us.toArray.size=xs.length by simp; lia] at z
    exact .of_refs ne z
  | @lstN n a b xs ys ne ha hb hl =>
    intro A u v hu I ru rv
    cases (show u=Value.ref _ from ru)
    cases (show v=Value.ref _ from rv)
    obtain ⟨us,r,pl,_⟩:=I.list ha
    obtain ⟨vs,r',pl',_⟩:=I.list hb
    have l1:=r.length
    have l2:=r'.length
    exact .of_refs ne (SeqAt.RcAt.lists_lengths pl.isList pl'.isList (by simp; lia) (by lia))
  | @tup n a b xs ys e ne ha hb hi ih =>
    intro A u v hu I ru rv
    cases (show u=Value.ref _ from ru)
    cases (show v=Value.ref _ from rv)
    obtain ⟨us,r,pl,_⟩:=I.tuple ha
    obtain ⟨vs,r',pl',_⟩:=I.tuple hb
    have l1:=r.length
    have l2:=r'.length
    have z:=SeqAt.RcAt.tuples (A:=A) (e:=e) pl pl' (by lia) fun j h1 h2=>by
      obtain ⟨x,ex,rx⟩:=cX r h1
      obtain ⟨y,ey,ry⟩:=cX r' h2
      exact ih j x y ex ey (A:=A.in1) (by show A.units+1+n < cLine; lia) I rx ry
    rw [show us.toArray.size=xs.length by simp; lia,show vs.toArray.size=ys.length by simp; lia] at z
    exact .of_refs ne z
noncomputable def zr (K:W.Frag) (neg:Bool):R2:=fun x y H Q=>∃ n b,n<=100/\bC K H n x y b/\(∃ a c,x = .ref a/\y = .ref c/\a≠c)/\Q (.bl (if neg then !b else b)) H
theorem jr (hu:X.A.units+100 < cLine):cp X (compareOp .Eq) (zr X.K false):=by
  intro pins s σ H x y u v Q I ru rv h
  obtain ⟨n,b,hn,d,⟨a,c,rfl,rfl,hne⟩,q⟩:=h
  cases (show u=Value.ref _ from ru)
  cases (show v=Value.ref _ from rv)
  cases d with
  | flat fx _=>cases fx
  | same=>exact absurd rfl hne
  | @lst n _ _ xs ys e ne ha hb hl hi =>
    obtain ⟨us,r,pl,_⟩:=I.list ha
    obtain ⟨vs,r',pl',_⟩:=I.list hb
    have l1:=r.length
    have l2:=r'.length
    refine SeqAt.eq_listAt (e:=e) pl.isList pl'.isList (by simp; lia) (by lia) (fun j h1 h2=>?_) ⟨.bl _,H,I,rfl,?_⟩
    · obtain ⟨x,ex,rx⟩:=cX r h1
      obtain ⟨y,ey,ry⟩:=cX r' h2
      exact (hi j x y ex ey).at_ (A:=X.A.in1) (by show X.A.units+1+n < cLine; lia) I rx ry
    · rw [show us.toArray.size=xs.length by simp; lia]; exact q
  | @lstN n _ _ xs ys ne ha hb hl =>
    obtain ⟨us,r,pl,_⟩:=I.list ha
    obtain ⟨vs,r',pl',_⟩:=I.list hb
    have l1:=r.length
    have l2:=r'.length
    exact SeqAt.eq_list_lengthsAt pl.isList pl'.isList (by simp; lia) (by lia) ⟨.bl false,H,I,rfl,q⟩
  | @tup n _ _ xs ys e ne ha hb hi =>
    obtain ⟨us,r,pl,_⟩:=I.tuple ha
    obtain ⟨vs,r',pl',_⟩:=I.tuple hb
    have l1:=r.length
    have l2:=r'.length
    refine SeqAt.eq_tupleAt (e:=e) pl pl' (by lia) (fun j h1 h2=>?_) ⟨.bl _,H,I,rfl,?_⟩
    · obtain ⟨x,ex,rx⟩:=cX r h1
      obtain ⟨y,ey,ry⟩:=cX r' h2
      exact (hi j x y ex ey).at_ (A:=X.A.in1) (by show X.A.units+1+n < cLine; lia) I rx ry
    · rw [show us.toArray.size=xs.length by simp; lia,show vs.toArray.size=ys.length by simp; lia]; exact q
theorem fM (hu:X.A.units+100 < cLine):cp X (compareOp .NotEq) (zr X.K true):=by
  intro pins s σ H x y u v Q I ru rv h
  obtain ⟨n,b,hn,d,⟨a,c,rfl,rfl,hne⟩,q⟩:=h
  cases (show u=Value.ref _ from ru)
  cases (show v=Value.ref _ from rv)
  cases d with
  | flat fx _=>cases fx
  | same=>exact absurd rfl hne
  | @lst n _ _ xs ys e ne ha hb hl hi =>
    obtain ⟨us,r,pl,_⟩:=I.list ha
    obtain ⟨vs,r',pl',_⟩:=I.list hb
    have l1:=r.length
    have l2:=r'.length
    refine SeqAt.RcNeAt.lists (e:=e) pl.isList pl'.isList (by simp; lia) (by lia) (fun j h1 h2=>?_) _ _ _ _ ⟨.bl _,H,I,rfl,?_⟩
    · obtain ⟨x,ex,rx⟩:=cX r h1
      obtain ⟨y,ey,ry⟩:=cX r' h2
      exact (hi j x y ex ey).at_ (A:=X.A.in1) (by show X.A.units+1+n < cLine; lia) I rx ry
    · rw [show us.toArray.size=xs.length by simp; lia]; exact q
  | @lstN n _ _ xs ys ne ha hb hl =>
    obtain ⟨us,r,pl,_⟩:=I.list ha
    obtain ⟨vs,r',pl',_⟩:=I.list hb
    have l1:=r.length
    have l2:=r'.length
    exact SeqAt.RcNeAt.lists_lengths pl.isList pl'.isList (by simp; lia) (by lia) _ _ _ _ ⟨.bl true,H,I,rfl,q⟩
  | @tup n _ _ xs ys e ne ha hb hi =>
    obtain ⟨us,r,pl,_⟩:=I.tuple ha
    obtain ⟨vs,r',pl',_⟩:=I.tuple hb
    have l1:=r.length
    have l2:=r'.length
    refine SeqAt.RcNeAt.tuples (e:=e) pl pl' (by lia) (fun j h1 h2=>?_) _ _ _ _ ⟨.bl _,H,I,rfl,?_⟩
    · obtain ⟨x,ex,rx⟩:=cX r h1
      obtain ⟨y,ey,ry⟩:=cX r' h2
      exact (hi j x y ex ey).at_ (A:=X.A.in1) (by show X.A.units+1+n < cLine; lia) I rx ry
    · rw [show us.toArray.size=xs.length by simp; lia,show vs.toArray.size=ys.length by simp; lia]; exact q
theorem cO {A:Around} {k:Nat} (hr:bV k A):A.units+100 < cLine:=Nat.lt_of_le_of_lt (by lia) hr.un
end
end L2
set_option Elab.async false
set_option linter.all false
set_option maxRecDepth 100000
set_option maxHeartbeats 4000000
namespace L2
open PySem PySem.Spec PyProof.Rows
section
variable {X:Cx}
end
section
variable {X:Cx} {pins:List (Addr × Obj)} {σ:St} {H:Hp} {s:Shared} {h':Heap}
theorem Inv.trackO {e:Addr} {o':HO} (I:Inv X pins σ H s) (o:zZ X pins H e) (new:cw X.prog X.w (upd H e o') s.heap e o'):Inv X pins σ (upd H e o') s:=by
  have ne:∀ b u,H b=some u->b≠e:=fun b u q z=>by rw [z,o.free] at q; cases q
  refine ⟨I.ok,I.os,I.bare,⟨I.base.keep,I.base.slot,fun b ob q n hx=>?_,I.base.there,fun b xs q=>?_,fun b ob u q=>?_,fun b ps q=>?_⟩,I.loc,I.cell,?_,fun x c q=>?_,fun p hp=>?_,fun b u q=>?_,I.len⟩
  · rw [upd_ne (fun z=>by rw [z,o.new] at q; cases q)]; exact I.base.free b ob q n hx
  · have:=I.base.tups b xs q
    rw [upd_ne (ne _ _ this)]; exact this
  · have:=I.base.frzs b ob u q
    rw [upd_ne (ne _ _ this)]; exact this
  · obtain ⟨m,z⟩:=I.base.tbls b ps q
    exact ⟨m,by rw [upd_ne (ne _ _ z)]; exact z⟩
  · rw [upd_ne (Ne.symm o.loc)]; exact I.free
  · rw [upd_ne (o.cell x c q)]; exact I.freeC x c q
  · obtain ⟨z,n,r⟩:=I.pin p hp
    exact ⟨z,by rw [upd_ne (o.pin p hp)]; exact n,r⟩
  · by_cases z:b=e
    · subst z; rw [upd_same] at q; cases q; exact new
    · rw [upd_ne z] at q
      exact (I.hok b u q).stay (fun _ _ _ x=>x) (fun c x=>by rw [upd_ne (ne _ _ x)]; exact x) fun c xs x=>by rw [upd_ne (ne _ _ x)]; exact x
theorem Inv.turned2 {t':Nat} {e it:Addr} (I:Inv X pins σ H s) (k:∀ b o,b≠e->b≠it->s.heap.get? b=some o->h'.get? b=some o) (he:∃ o,h'.get? e=some o) (hi:∃ o,h'.get? it=some o) (f1:gP X pins H e) (f2:gP X pins H it) :
    Inv X pins σ H { s with heap:=h',toks:=t' }:=by
  have nit:∀ b u,H b=some u->b≠e/\b≠it:=fun b u q=>⟨fun z=>(by rw [z,f1.1] at q; cases q),fun z=>(by rw [z,f2.1] at q; cases q)⟩
  have sp:∀ b,b∉[e,it]->b≠e/\b≠it:=fun b hb=>⟨fun z=>hb (by simp [z]),fun z=>hb (by simp [z])⟩
  refine I.step (g':=s.gens) (d':=s.drawn) (ch:=[e,it]) (fun b hb=>?_) (fun b o _ _ hc q _=>k b o (sp b hc).1 (sp b hc).2 q) (fun b o _ _ hc q _=>⟨o.slots,k b o (sp b hc).1 (sp b hc).2 q⟩) (fun _ _ _ _ n=>n)
    (fun b o hc q=>⟨o,k b o (sp b hc).1 (sp b hc).2 q⟩) (fun _ _ q=>q) (fun _ _ _ q=>q) (fun b ps q=>⟨#[],by rw [q]; simp⟩) (fun m hm=>?_) (fun b u q=>?_) I.bare
  · rcases List.mem_cons.mp hb with z | z
    · rw [z]; exact ⟨f1.2.2.2.1,f1.2.1,f1.2.2.2.2.1,f1.2.2.2.2.2⟩
    · rw [show b=it by simpa using z]; exact ⟨f2.2.2.2.1,f2.2.1,f2.2.2.2.2.1,f2.2.2.2.2.2⟩
  · obtain ⟨o,es,ep,ho,r⟩:=hm
    exact ⟨o,es,ep,k _ o (Ne.symm f1.2.1) (Ne.symm f2.2.1) ho,r⟩
  · refine (I.hok b u q).stay (fun c v hc q'=>?_) (fun _ q=>q) fun _ _ q=>q
    have:c≠e/\c≠it:=by
      rcases hc with z | z
      · rw [z]; exact nit b u q
      · exact nit c _ z
    exact k c v this.1 this.2 q'
end
noncomputable def xX (K:W.Frag) (l:Addr):It :=
  ⟨fun i H=>∃ xs x,au K H l xs/\xs[i]? = some x,fun i H v H'=>∃ T x,H T=none/\(∀ xs,au K H l xs->xs[i]? = some x)/\v = .ref T/\H'=upd H T (.tup [.int i,x]),fun i H=>∃ xs,au K H l xs/\xs.length<=i⟩
theorem yl {P:Program} {w:World} {K:W.Frag} {elts:List Expr} {k0:Nat} {tp:Pos} (e it l:Addr) (hei:e≠it) :
    Turn P w K (.Tuple elts k0 tp) (xX K l) [e,it] e (fun i h=>(∃ old,IsEnum h e it i old)/\h.IsListIter it l i) where
  mem:=by simp
  obj:=fun i h st b hb=>by
    obtain ⟨⟨old,he⟩,o,ho,c,d⟩:=st
    rcases List.mem_cons.mp hb with z | z
    · rw [z]
      exact ⟨_,he,fun v z=>by
        have z':Data.fields _=Data.cell v:=z
        cases z'⟩
    · rw [show b=it by simpa using z]
      exact ⟨o,ho,fun v z=>by rw [d] at z; cases z⟩
  keep:=fun i h h' st k=>⟨let ⟨old,he⟩:=st.1; ⟨old,k e (by simp) _ he⟩,st.2.at fun o q=>k it (by simp) o q⟩
  item:=by
    intro X hP hw hK hc i pins s σ H E I hf st hg
    subst hP hw hK
    obtain ⟨xs,x,hq,hx⟩:=hg
    obtain ⟨its,rv,p,hz⟩:=I.list hq
    obtain ⟨u,hu,ru⟩:=rv.get hx
    obtain ⟨⟨old,he⟩,hit⟩:=st
    have fe:=hf e (by simp)
    have fi:=hf it (by simp)
    refine wpAny_pyNext_enum_item he hit p.isList (x:=u) (by simpa using hu) hei fun h1 ho hit1 hT hsz hk=>?_
    refine ⟨_,rfl,wpAny_letOwnedTupleGo_enum ho fun h2 he2 sb=>?_⟩
    have nT:s.heap.get? s.heap.objs.size=none:=Heap.get?_none_of_le (Nat.le_refl _)
    have elt:e < s.heap.objs.size:=Heap.lt_size he
    have ilt:it < s.heap.objs.size:=by obtain ⟨_,q,_⟩:=hit; exact Heap.lt_size q
    have hit2:h2.IsListIter it l (i+1):=hit1.at fun o q=>(sb.2 it (Ne.symm hei)).trans q
    have k2:∀ b o,b≠e->b≠it->s.heap.get? b=some o->h2.get? b=some o:=fun b o b1 b2 q=>(sb.2 b b1).trans (hk b o b1 b2 q)
    have I2:Inv X pins σ H { s with heap:=h2,toks:=s.toks+1 }:=I.turned2 k2 ⟨_,he2⟩ (by obtain ⟨o,q,_⟩:=hit2; exact ⟨o,q⟩) fe fi
    have oT:zZ X pins H s.heap.objs.size:=by
      have fT:gP X pins H s.heap.objs.size:=I.fpOk (Nat.le_refl _) (I.hok.fresh (Nat.le_refl _))
      exact ⟨Heap.get?_none_of_le I.sz,fT.1,fT.2.1,fT.2.2.2.2.1,fT.2.2.2.2.2⟩
    have hT2:h2.get? s.heap.objs.size=some { cls:=.type "tuple",data:=.seq #[.int i s.toks,u] }:=(sb.2 _ (Nat.ne_of_gt elt)).trans hT
    have I3:=I2.trackO (o':=.tup [.int i,x]) oT ⟨sz (n:=2) (by decide),[.int i s.toks,u],.cons ⟨_,rfl⟩ (.cons ru .nil),_,hT2,rfl,_,rfl⟩
    refine ⟨.ref s.heap.objs.size,_,I3,rfl,⟨_,x,oT.free,fun ys hy=>by rw [I.list_inj hy hq]; exact hx,rfl,rfl⟩,⟨⟨_,by simpa using he2⟩,hit2⟩,fun b hb=>?_⟩
    rcases List.mem_cons.mp hb with z | z
    · rw [z,upd_ne (Nat.ne_of_lt elt)]; exact fe.1
    · rw [show b=it by simpa using z,upd_ne (Nat.ne_of_lt ilt)]; exact fi.1
  done:=by
    intro X hP hw hK hc i pins s σ H E I hf st hg
    subst hP hw hK
    obtain ⟨xs,hq,hx⟩:=hg
    obtain ⟨its,rv,p,hz⟩:=I.list hq
    obtain ⟨⟨old,he⟩,hit⟩:=st
    have hl:=rv.length
    obtain ⟨f0,f1,f2,f3,f4,f5⟩:=hf it (by simp)
    refine wpAny_pyNext_enum_end (I.ok.hd hc) he hit p.isList (Array.getElem?_eq_none (by simp; lia)) fun h2 eb=>⟨rfl,?_⟩
    exact I.turned (t':=s.toks) (fun b o hb q=>eb b o hb q) f0 f1 f3 f4 f5
  self:=fun _ _ _ _ _ st h=>by
    obtain ⟨⟨old,he⟩,_⟩:=st
    exact wpAny_pyIter_enum he h
noncomputable def D0 (K:W.Frag) (ta:TA):TI:=fun σ H R=>ta σ H fun vs H1=>∃ l,vs=[.ref l]/\(∃ xs,au K H1 l xs)/\R (xX K l) H1
section
variable {X:Cx}
theorem AY {elts:List Expr} {k0:Nat} {tp:Pos} {a:Expr} {ta:TA} {p pos:Pos} (hg:Gl X "enumerate") (hm:X.mg "enumerate" = none) (ha:PA X [a] ta) (hs:starEach [a] X.env=[(false,eval a X.env)]:=by rfl) :
    PI X (.Tuple elts k0 tp) (.Call (.Name "enumerate" p) [a] [] pos) (D0 X.K ta):=by
  intro pins s σ H R I h
  refine Call_ (cV I hg hm boot_enumerate (PyProof.Rows.callWith_type1 (aH (ha pos pins s σ H _ I h) fun us s1 ⟨vs,H1,I1,r1,q1⟩=>?_) hs rfl))
  obtain ⟨l,rfl,⟨xs,hq⟩,q⟩:=q1
  obtain ⟨u,rfl,ru⟩:=vals1 r1
  cases ru
  obtain ⟨its,rv,pl,hz⟩:=I1.list hq
  refine call_enumerate_list pl.isList fun h2 he hit hsz hk=>?_
  have I2:Inv X pins σ H1 { s1 with heap:=h2 }:=I1.kept (t':=s1.toks) hk
  refine wpAny_pyIter_enum he ⟨_,[s1.heap.objs.size+1,s1.heap.objs.size],_,_,H1,rfl,I2,yl _ s1.heap.objs.size l (Nat.succ_ne_self _),⟨⟨_,he⟩,hit⟩,fun b hb=>?_,q⟩
  rcases List.mem_cons.mp hb with z | z
  · rw [z]; exact I1.fpOk (Nat.le_succ _) (I1.hok.fresh (Nat.le_succ _))
  · rw [show b=s1.heap.objs.size by simpa using z]; exact I1.fpOk (Nat.le_refl _) (I1.hok.fresh (Nat.le_refl _))
theorem zU {K:W.Frag} {l:Addr} {xs:List V} {g:TG} {tb:TS} {D:Ends} {σ:St} {H:Hp} (Pv:Nat->St->Hp->Prop) (h0:Pv 0 σ H) (hl:∀ i σ H,i<=xs.length->Pv i σ H->au K H l xs)
    (hs:∀ i x σ H T,xs[i]? = some x->Pv i σ H->H T=none->g (.ref T) σ (upd H T (.tup [.int i,x])) fun σ2 H2=>tb { D with nx:=Pv (i+1),ct:=Pv (i+1),bk:=D.nx } σ2 H2) (hd:∀ σ H,Pv xs.length σ H->D.nx σ H) :
    ∃ W:Nat->Nat->St->Hp->Prop,(∃ m,W 0 m σ H)/\∀ i m σ H,W i m σ H ->
      ((xX K l).stop i H/\D.nx σ H)\/((xX K l).go i H/\∃ N:St->Hp->Prop,(∀ σ' H',N σ' H'->∃ m',m' < m/\W (i+1) m' σ' H')/\∀ x H',(xX K l).yld i H x H'->g x σ H' fun σ2 H2=>tb { D with nx:=N,ct:=N,bk:=D.nx } σ2 H2):=by
  refine ⟨fun i m σ H=>m=xs.length - i/\i<=xs.length/\Pv i σ H,⟨xs.length,by simp,Nat.zero_le _,h0⟩,?_⟩
  rintro i m σ H ⟨rfl,hi,p⟩
  have q:=hl i σ H hi p
  by_cases hlt:i < xs.length
  · refine .inr ⟨⟨xs,_,q,List.getElem?_eq_getElem hlt⟩,Pv (i+1),fun σ' H' p'=>⟨xs.length - (i+1),by lia,rfl,hlt,p'⟩,fun v H' y=>?_⟩
    obtain ⟨T,x,nT,hx,rfl,rfl⟩:=y
    exact hs i x σ H T (hx xs q) p nT
  · have e:i=xs.length:=by lia
    subst e
    exact .inl ⟨⟨xs,q,Nat.le_refl _⟩,hd σ H p⟩
end
end L2
set_option Elab.async false
set_option linter.all false
set_option maxRecDepth 100000
set_option maxHeartbeats 4000000
namespace Ck
open PySem L2
inductive Tree where
  | int (i:Int)
  | lst (l:List Tree)
  | tup (l:List Tree)
mutual
noncomputable def Rep (H:Hp):Tree->V->Prop
  | .int i,v=>v = .int i
  | .lst ts,v=>∃ a xs,v = .ref a/\H a=some (.lst xs)/\ts.length<=1000000/\gZ H ts xs
  | .tup ts,v=>∃ a xs,v = .ref a/\H a=some (.tup xs)/\ts.length<=1000000/\gZ H ts xs
noncomputable def gZ (H:Hp):List Tree->List V->Prop
  | [],xs=>xs=[]
  | t::ts,xs=>∃ v vs,xs=v::vs/\Rep H t v/\gZ H ts vs
end
mutual
noncomputable def dep:Tree->Nat
  | .int _=>0
  | .lst ts=>zq ts+1
  | .tup ts=>zq ts+1
noncomputable def zq:List Tree->Nat
  | []=>0
  | t::ts=>max (dep t) (zq ts)
end
mutual
theorem Rep.same {H H':Hp} (s:af H H'):∀ (t:Tree) {v:V},Rep H t v->Rep H' t v
  | .int i,v,h=>by unfold Rep at h |-; exact h
  | .lst ts,v,h=>by
    unfold Rep at h |-
    obtain ⟨a,xs,e,ha,hl,r⟩:=h
    exact ⟨a,xs,e,s _ _ ha,hl,gZ.same s ts r⟩
  | .tup ts,v,h=>by
    unfold Rep at h |-
    obtain ⟨a,xs,e,ha,hl,r⟩:=h
    exact ⟨a,xs,e,s _ _ ha,hl,gZ.same s ts r⟩
theorem gZ.same {H H':Hp} (s:af H H'):∀ (ts:List Tree) {xs:List V},gZ H ts xs->gZ H' ts xs
  | [],xs,h=>by unfold gZ at h |-; exact h
  | t::ts,xs,h=>by
    unfold gZ at h |-
    obtain ⟨v,vs,e,r,rs⟩:=h
    exact ⟨v,vs,e,Rep.same s t r,gZ.same s ts rs⟩
end
noncomputable abbrev Pair:=Int × Int
def bM (H:Hp) (xs:List V) (ps:List Pair):Prop:=Paired (fun (v:V) (p:Pair)=>∃ t,v = .ref t/\H t=some (.tup [.int p.1,.int p.2])) xs ps
theorem bM.same {H H':Hp} {xs:List V} {ps:List Pair} (h:bM H xs ps) (s:af H H'):bM H' xs ps:=Paired.mapP h fun v p ⟨t,e,q⟩=>⟨t,e,s _ _ q⟩
theorem bM.length {H:Hp} {xs:List V} {ps:List Pair} (h:bM H xs ps):xs.length=ps.length:=Paired.length h
theorem bM.get {H:Hp}:∀ {xs:List V} {ps:List Pair},bM H xs ps->∀ {i:Nat} {x:V},xs[i]? = some x->∃ p t,ps[i]? = some p/\x = .ref t/\H t=some (.tup [.int p.1,.int p.2])
  | _,_,.nil,i,x,e=>by cases e
  | _,_,.cons r t,0,x,e=>by
    obtain ⟨a,e1,e2⟩:=r
    rw [List.getElem?_cons_zero] at e
    cases e
    exact ⟨_,a,rfl,e1,e2⟩
  | _,_,.cons r t,i+1,x,e=>by
    obtain ⟨p,a,h1,h2,h3⟩:=bM.get t (i:=i) (by simpa using e)
    exact ⟨p,a,by simpa using h1,h2,h3⟩
theorem bM.snoc {H:Hp}:∀ {xs:List V} {ps:List Pair} {t:Addr} {p:Pair},bM H xs ps->H t=some (.tup [.int p.1,.int p.2])->bM H (xs++[.ref t]) (ps++[p])
  | _,_,t,p,.nil,h=>.cons ⟨t,rfl,h⟩ .nil
  | _,_,t,p,.cons r s,h=>.cons r (bM.snoc s h)
theorem bM.updL {H:Hp} {xs:List V} {ps:List Pair} {a:Addr} {l:List V} (h:bM H xs ps) (ha:H a=some (.lst l)) (o:HO):bM (upd H a o) xs ps :=
  Paired.mapP h fun v p ⟨t,e,q⟩=>⟨t,e,(upd_ne (DM q ha (by intro z; cases z))).trans q⟩
theorem bM.updN {H:Hp} {xs:List V} {ps:List Pair} {a:Addr} (h:bM H xs ps) (ha:H a=none) (o:HO):bM (upd H a o) xs ps :=
  Paired.mapP h fun v p ⟨t,e,q⟩=>⟨t,e,(upd_ne (ak q ha)).trans q⟩
def bL (H:Hp) (a:Addr) (ps:List Pair):Prop:=∃ xs,H a=some (.lst xs)/\bM H xs ps
theorem bL.same {H H':Hp} {a:Addr} {ps:List Pair} (h:bL H a ps) (s:af H H'):bL H' a ps:=let ⟨xs,e,r⟩:=h; ⟨xs,s _ _ e,r.same s⟩
theorem bL.len {H:Hp} {a:Addr} {ps:List Pair} (h:bL H a ps):∃ xs,H a=some (.lst xs)/\xs.length=ps.length/\bM H xs ps:=let ⟨xs,e,r⟩:=h; ⟨xs,e,r.length,r⟩
end Ck
namespace L2
open PySem
theorem hU {K:W.Frag}:W.kitOne K (.type "tuple") (.type "tuple")=some true:=by rfl
end L2
set_option Elab.async false
set_option linter.all false
set_option maxRecDepth 100000
set_option maxHeartbeats 4000000
namespace Ck
open PySem L2
theorem Ed {c A B:Prop} [Decidable c] (hc:¬ c) (h:A):if (!decide c)=true then A else B:=by
  rw [decide_eq_false hc]
  exact dB h
end Ck
set_option Elab.async false
set_option linter.all false
set_option maxRecDepth 100000
set_option maxHeartbeats 4000000
namespace L2
open PySem PySem.Spec PyProof.Rows PySem.SeqAt
section
variable {X:Cx}
theorem lB {K:W.Frag} {es:List Expr} {k:Nat} {t:pC} {n:Nat} {pos:Pos} (hK:X.K=K) (hc:X.calm=true) (h:yS X es t)
    (hn:(assignEach es X.env).length=n:=by rfl) (hst:(assignEach es X.env).findIdx? (·.1)=none:=by rfl):PG X (.Tuple es k pos) (Cr K n t):=by
  subst hK
  exact jA hc h hn hst
theorem eB {K:W.Frag} {a:Addr} {xs:List V} {g:TG} {tt:TT} {te:TE} {σ0:St} {H:Hp} {D:Addr} {Q:VK} (Pv:Nat->List V->Hp->Prop) (hz:xs.length<=sizeLine)
    (h0:Pv 0 [] (upd H D (.lst []))) (hl:∀ i ys H',i<=xs.length->Pv i ys H'->au K H' a xs/\ys.length<=i)
    (hs:∀ (i:Nat) (x:V) (ys:List V) (H':Hp) (R:VK) (R0:Hp->Prop),xs[i]? = some x->Pv i ys H'->(∀ v H3,H3 D=some (.lst ys)->Pv (i+1) (ys++[v]) (upd H3 D (.lst (ys++[v])))->R v H3)->(∀ H3,Pv (i+1) ys H3->R0 H3) ->
      g x σ0 H' fun σ2 H2=>Ext σ0 σ2/\tt σ2 H2 fun b H3=>if b=true then te σ2 H3 R else R0 H3)
    (hq:∀ ys H',Pv xs.length ys H'->Q (.ref D) H') :
    nr (tT K a) g tt te σ0 D Q H:=by
  refine ⟨fun i m ys H'=>m=xs.length - i/\i<=xs.length/\Pv i ys H',⟨xs.length,by simp,Nat.zero_le _,h0⟩,?_⟩
  rintro i m ys H' ⟨rfl,hi,p⟩
  obtain ⟨sq,ly⟩:=hl i ys H' hi p
  by_cases hlt:i < xs.length
  · refine .inr ⟨⟨xs,xs[i],sq,by simp [hlt]⟩,fun x H'' y=>?_⟩
    obtain ⟨e,y⟩:=y
    subst e
    have ex:=y xs sq
    refine hs i x ys _ _ _ ex p (fun v H3 hD p'=>⟨hD,by lia,xs.length - (i+1),by lia,rfl,hlt,p'⟩) fun H3 p'=>⟨xs.length - (i+1),by lia,rfl,hlt,p'⟩
  · have e:i=xs.length:=by lia
    subst e
    exact .inl ⟨⟨xs,sq,Nat.le_refl _⟩,hq ys H' p⟩
end
end L2
namespace Ck
open PySem L2
end Ck
namespace Ck
open PySem L2
structure dM (fs:List (Str × V)) (w:Str) (l:Int):Prop where
  word:fs.lookup ("word" : Str)=some (.str w)
  least:fs.lookup ("least" : Str)=some (.int l)
  no:∀ m:Str,m≠("word" : Str)->m≠("least" : Str)->fs.lookup m=none
theorem iI (w:Str) (l:Int):dM (dz ("least" : Str) (.int l) (dz ("word" : Str) (.str w) [])) w l :=
  ⟨by rw [cK,if_neg (by decide),cK,if_pos rfl],by rw [cK,if_pos rfl],fun m a b=>by rw [cK,if_neg b,cK,if_neg a]; rfl⟩
noncomputable def up (d:Int) (p:Pair):Pair:=(p.1+d,p.2+d)
theorem bM.take {H:Hp}:∀ (k:Nat) {xs:List V} {ps:List Pair},bM H xs ps->bM H (xs.take k) (ps.take k)
  | 0,_,_,_=>.nil
  | k+1,_,_,.nil=>.nil
  | k+1,_,_,.cons r t=>.cons r (bM.take k t)
theorem bM.app {H:Hp}:∀ {xs ys:List V} {ps qs:List Pair},bM H xs ps->bM H ys qs->bM H (xs++ys) (ps++qs)
  | _,_,_,_,.nil,h=>h
  | _,_,_,_,.cons r t,h=>.cons r (bM.app t h)
end Ck
namespace Ck
open PySem L2
theorem pT (ns:List Int):(ns.map V.int).all gk=true:=by
  rw [List.all_eq_true]
  intro x hx
  obtain ⟨n,_,rfl⟩:=List.mem_map.mp hx
  rfl
end Ck
namespace Ck
open PySem L2
end Ck
set_option Elab.async false
set_option linter.all false
set_option maxRecDepth 100000
set_option maxHeartbeats 4000000
namespace Ck
open PySem L2
inductive St:List Int->Int->Prop
  | nil:St [] 0
  | snoc {rs:List Int} {a n:Int}:St rs a->a<=n->n<=(rs.length:Int)->St (rs++[n]) n
noncomputable def Ec (ps qs:List Int):List Int:=[0]++ps++qs.map (·+((ps.length:Int)+1))
end Ck
set_option Elab.async false
set_option linter.all false
set_option maxRecDepth 100000
set_option maxHeartbeats 4000000
namespace Ck
open PySem L2
theorem oV:∀ (a:List Nat) (j k:Nat) (b:List Nat),clo j a=true->clo (k+j) (a++b)=clo k b
  | [],j,k,b,h=>by
    rw [ee] at h
    have:j=0:=by simpa using h
    subst this
    rfl
  | c::a,j,k,b,h=>by
    by_cases h1:c=40
    · subst h1
      rw [cT] at h
      rw [List.cons_append,cT]
      exact oV a (j+1) k b h
    · by_cases h2:c=41
      · subst h2
        cases j with
        | zero=>rw [dI] at h; cases h
        | succ j =>
          rw [cq] at h
          rw [List.cons_append]
          show clo (k+j+1) (41::_)=_
          rw [cq]
          exact oV a j k b h
      · rw [cZ h1 h2] at h; cases h
theorem zM {a b:List Nat} (ha:clo 0 a=true) (hb:clo 0 b=true):clo 0 (40::(a++41::b))=true:=by
  rw [cT,oV a 0 1 _ ha,cq]
  exact hb
theorem ot:∀ (t:List Nat) (d:Nat),clo (d+1) t=true->∃ a b,t=a++41::b/\clo d a=true/\clo 0 b=true
  | [],d,h=>by rw [ee] at h; cases h
  | c::t,d,h=>by
    by_cases h1:c=40
    · subst h1
      rw [cT] at h
      obtain ⟨a,b,e,ha,hb⟩:=ot t (d+1) h
      exact ⟨40::a,b,by rw [e]; rfl,by rw [cT]; exact ha,hb⟩
    · by_cases h2:c=41
      · subst h2
        rw [cq] at h
        cases d with
        | zero=>exact ⟨[],t,rfl,by rw [ee]; rfl,h⟩
        | succ d =>
          obtain ⟨a,b,e,ha,hb⟩:=ot t d h
          exact ⟨41::a,b,by rw [e]; rfl,by rw [cq]; exact ha,hb⟩
      · rw [cZ h1 h2] at h; cases h
theorem yf {t:List Nat} (h:clo 0 t=true) (hne:t≠[]):∃ a b,t=40::(a++41::b)/\clo 0 a=true/\clo 0 b=true:=by
  cases t with
  | nil=>exact absurd rfl hne
  | cons c t =>
    by_cases h1:c=40
    · subst h1
      rw [cT] at h
      obtain ⟨a,b,e,ha,hb⟩:=ot t 0 h
      exact ⟨a,b,by rw [e],ha,hb⟩
    · by_cases h2:c=41
      · subst h2; rw [dI] at h; cases h
      · rw [cZ h1 h2] at h; cases h
theorem rF {a:List Nat} {p d:Nat} (hp:p < a.length) (h:clo d (a.drop p)=true):(a[p]=40/\clo (d+1) (a.drop (p+1))=true)\/(a[p]=41/\∃ e,d=e+1/\clo e (a.drop (p+1))=true):=by
  rw [List.drop_eq_getElem_cons hp] at h
  by_cases h1:a[p]=40
  · rw [h1,cT] at h; exact .inl ⟨h1,h⟩
  · by_cases h2:a[p]=41
    · rw [h2] at h
      cases d with
      | zero=>rw [dI] at h; cases h
      | succ d=>rw [cq] at h; exact .inr ⟨h2,d,rfl,h⟩
    · rw [cZ h1 h2] at h; cases h
theorem Ba {a:List Nat} {p d:Nat} (hp:a.length<=p) (h:clo d (a.drop p)=true):d=0:=by
  rw [List.drop_eq_nil_of_le hp,ee] at h
  simpa using h
theorem sF {t:List Nat} (h:clo 0 t=true):t.length=2*t.count 40:=by
  obtain ⟨u,g⟩:=hW t 0 h
  have l:=g.length
  have c:t.count 40=u:=by
    obtain ⟨h',u',bg,_,e⟩:=nX (n:=u) (by simpa using g) t.length (Nat.le_refl _)
    have gd:Good u' (u'+h') (t.drop t.length):=by assumption
    rw [List.drop_length] at gd
    have:=gd.length
    rw [List.take_length] at e
    simp at this
    lia
  lia
end Ck
namespace Ck
open PySem L2
theorem DR (c:Nat):(if decide (V.str ⟨#[c]⟩=V.str (Str.ofString ")"))=true then (1:Int) else 0)=if c=41 then 1 else 0:=by
  rw [nC]
  by_cases h:c=41<;>simp [h]
end Ck
set_option Elab.async false
set_option linter.all false
set_option maxRecDepth 100000
set_option maxHeartbeats 4000000
namespace L2
open PySem PySem.Spec PyProof.Rows
theorem c0:bootBuiltins "sorted" = some (.builtin "sorted"):=by decide +kernel
theorem yj:bootBuiltins "all" = some (.builtin "all"):=by decide +kernel
theorem iQ:∀ {us:List Value} {ns:List Int},IntsAre us ns->Vals (ns.map V.int) us
  | _,_,.nil=>.nil
  | _,_,.cons n t h=>.cons ⟨t,rfl⟩ (iQ h)
section
variable {X:Cx}
theorem uI:dY X (.builtin "sorted") (fun xs H Q=>∃ (p:Addr) (ns:List Int),xs=[.ref p]/\au X.K H p (ns.map V.int)/\ns.length < 64/\∀ (q:Addr) (ms:List Int),H q=none->ms.Perm ns->ms.Pairwise (·<=·)->Q (.ref q) (upd H q (.lst (ms.map V.int)))):=by
  intro pins s σ H xs us Q I r h
  obtain ⟨p,ns,rfl,hl,h64,q⟩:=h
  obtain ⟨u,rfl,ru⟩:=vals1 r
  cases ru
  obtain ⟨its,r',pl,hz⟩:=I.list hl
  have hi:IntsAre its ns:=intsAre_of r'
  refine sorted_ints pl.isList hi (by rw [hi.length]; exact h64) fun out ms ho hp hs=>?_
  obtain ⟨e,he⟩:=sortedAll_at s.heap its out
  have lm:(ms.map V.int).length<=sizeLine:=by rw [List.length_map,hp.length_eq]; exact sz (by lia)
  exact ⟨.ref _,_,I.laid (t':=s.toks) (o:=.lst (ms.map V.int)) (fun b u e=>sortedAll_old e) (Nat.le_succ _) ⟨lm,out.toList,e,iQ ho,by simpa [seqObj] using he⟩,rfl,q _ ms (I.hok.fresh (Nat.le_succ _)) hp hs⟩
theorem xk {bs:List Bool}:∀ {us:List Value},Vals (bs.map V.bl) us->us=bs.map Value.bool:=by
  induction bs with
  | nil=>intro us r; rw [List.map_nil] at r; cases r; rfl
  | cons b bs ih =>
    intro us r
    rw [List.map_cons] at r
    cases r with
    | cons h t=>rw [ih t,List.map_cons]; cases (show _=Value.bool b from h); rfl
theorem all_range (bs:List Bool):(List.range bs.length).all (fun i=>bs.getD i false)=bs.all id:=by
  induction bs with
  | nil=>rfl
  | cons b bs ih =>
    rw [List.length_cons,List.range_succ_eq_map,List.all_cons,List.all_map,List.all_cons]
    have:((fun i=>(b::bs).getD i false) ∘ Nat.succ)=fun i=>bs.getD i false:=by funext i; rfl
    rw [this,ih]
    rfl
theorem rJ (hc:X.calm=true):dY X (.builtin "all") (fun xs H Q=>∃ (p:Addr) (bs:List Bool),xs=[.ref p]/\au X.K H p (bs.map V.bl)/\Q (.bl (bs.all id)) H):=by
  intro pins s σ H xs us Q I r h
  obtain ⟨p,bs,rfl,hl,q⟩:=h
  obtain ⟨u,rfl,ru⟩:=vals1 r
  cases ru
  obtain ⟨its,r',pl,hz⟩:=I.list hl
  have ei:=xk r'
  have hlt:p < s.heap.objs.size:=by obtain ⟨_,e,_⟩:=pl.isList; exact Heap.lt_size e
  refine call_all_walk (wpAny_pyIter_list pl.isList ⟨_,_,_,_,_,_,fun i=>bs.getD i false,rfl,Walks.list (A:=X.A.in1) (I.ok.hd hc) _ p (Nat.ne_of_lt hlt) its.toArray,⟨⟨_,Heap.get?_push_size _ rfl,rfl,rfl⟩,pl.isList.push _⟩,?_,fun h' tk hk=>⟨.bl _,H,I.kept (old_kept hk),rfl,?_⟩⟩)
  · intro i v s' Q' E' hP hQ
    have hb:bs[i]? = some (bs.getD i false)/\v = .bool (bs.getD i false):=by
      have hP':its[i]? = some v:=by simpa using hP
      rw [ei,List.getElem?_map] at hP'
      cases hb:bs[i]? with
      | none=>rw [hb] at hP'; cases hP'
      | some b =>
        rw [hb] at hP'
        have e1:bs.getD i false=b:=by rw [List.getD_eq_getElem?_getD,hb]; rfl
        rw [e1]
        exact ⟨rfl,(Option.some.inj hP').symm⟩
    rw [hb.2]
    exact wpAny_truthy_bool hQ
  · have e1:its.toArray.size=bs.length:=by rw [ei]; simp
    rw [e1,all_range]
    exact q
end
end L2
namespace Ck
open PySem L2
end Ck
set_option Elab.async false
set_option linter.all false
set_option maxRecDepth 100000
set_option maxHeartbeats 4000000
namespace L2
open PySem PySem.Spec PyProof.Rows PySem.W
noncomputable def pw {α:Type} (n:Nat) (lt:Nat->Nat->Bool):KasT α->(α->Prop)->Prop
  | .ret a,Q=>Q a
  | .ask i j k,Q=>i < n/\j < n/\pw n lt (k (lt i j)) Q
theorem gE {α β:Type} {n:Nat} {lt:Nat->Nat->Bool} {f:α->KasT β} {Q:β->Prop}:∀ {t:KasT α},pw n lt t (fun a=>pw n lt (f a) Q)->pw n lt (t.bind f) Q
  | .ret _,h=>h
  | .ask _ _ _,h=>⟨h.1,h.2.1,gE h.2.2⟩
theorem e8 {α:Type} {n:Nat} {lt:Nat->Nat->Bool} {Q Q':α->Prop} (m:∀ a,Q a->Q' a):∀ {t:KasT α},pw n lt t Q->pw n lt t Q'
  | .ret a,h=>m a h
  | .ask _ _ _,h=>⟨h.1,h.2.1,e8 m h.2.2⟩
theorem Ap {α:Type} {n:Nat} {lt:Nat->Nat->Bool} {Q:α->Prop} {s:Shared} {cmp:Nat->Nat->(Bool->Shared->Prop)->Shared->Prop}
    (hc:∀ (i j:Nat) (C:Bool->Shared->Prop),i < n->j < n->C (lt i j) s->cmp i j C s):∀ {t:KasT α},pw n lt t Q->t.kasWp cmp (fun a s'=>s'=s/\Q a) s
  | .ret _,h=>⟨rfl,h⟩
  | .ask i j k,h=>hc i j (fun b s'=>(k b).kasWp cmp (fun a s'=>s'=s/\Q a) s') h.1 h.2.1 (Ap hc h.2.2)
structure jq (lt:Nat->Nat->Bool):Prop where
  asym:∀ a b,lt a b=true->lt b a=false
  ntr:∀ a b c,lt b a=false->lt c b=false->lt c a=false
noncomputable abbrev gA (p:Array Nat) (k:Nat):Nat:=p.getD k 0
def dd (n:Nat) (p:Array Nat):Prop:=p.toList.Perm (List.range n)
theorem dd.size {n:Nat} {p:Array Nat} (h:dd n p):p.size=n:=by
  have:=h.length_eq
  rw [List.length_range] at this
  simpa using this
theorem dd.lt {n:Nat} {p:Array Nat} (h:dd n p) (hn:0 < n) (k:Nat):gA p k < n:=by
  unfold gA
  by_cases hk:k < p.size
  · have e:p.getD k 0=p[k]:=by simp [hk]
    rw [e]
    exact List.mem_range.mp (h.mem_iff.mp (Array.getElem_mem_toList hk))
  · have e:p.getD k 0=0:=by simp [hk]
    rw [e]; exact hn
theorem jL {p:Array Nat} {i j:Nat} (hj:j<=p.size) (k:Nat):gA (kas_rev p i j) k=if i<=k/\k < j then gA p (i+j - 1 - k) else gA p k:=by
  unfold gA kas_rev
  rw [Array.getD_eq_getD_getElem?,getElem?_mirror_all hj k]
  split
  · rw [<- Array.getD_eq_getD_getElem?]
  · rw [<- Array.getD_eq_getD_getElem?]
theorem BK {p:Array Nat} {src d:Nat} (hs:src < p.size) (hd:d<=src) (k:Nat):gA (bubble p src d) k=if k=src - d then gA p src else if src - d < k/\k<=src then gA p (k - 1) else gA p k:=by
  unfold gA
  rw [Array.getD_eq_getD_getElem?,getElem?_bubble hs d hd k]
  split
  · simp [hs]
  · split
    · rw [<- Array.getD_eq_getD_getElem?]
    · rw [<- Array.getD_eq_getD_getElem?]
theorem dd.rev {n:Nat} {p:Array Nat} (h:dd n p) (i j:Nat):dd n (kas_rev p i j):=(Array.perm_iff_toList_perm.mp (mirror_perm p i j _)).trans h
theorem dd.bub {n:Nat} {p:Array Nat} (h:dd n p) (i j:Nat):dd n (bubble p i j):=(Array.perm_iff_toList_perm.mp (bubble_perm p i j)).trans h
section
variable {n:Nat} {lt:Nat->Nat->Bool} (O:jq lt)
def cH (lt:Nat->Nat->Bool) (p:Array Nat) (k:Nat):Prop:=∀ i j,i<=j->j < k->lt (gA p j) (gA p i)=false
def iP (lt:Nat->Nat->Bool) (p:Array Nat) (k:Nat):Prop:=∀ i j,i<=j->j < k->lt (gA p i) (gA p j)=false
def nW (lt:Nat->Nat->Bool) (a b:Nat):Prop:=lt a b=false/\lt b a=false
include O
theorem jq.irr (a:Nat):lt a a=false:=by
  cases h:lt a a with
  | false=>rfl
  | true=>exact h.symm.trans (O.asym a a h)
theorem jq.alk (a:Nat):nW lt a a:=⟨O.irr a,O.irr a⟩
theorem jq.alkT {a b c:Nat} (x:nW lt a b) (y:nW lt b c):nW lt a c:=⟨O.ntr c b a y.1 x.1,O.ntr a b c x.2 y.2⟩
theorem jq.up {a b c:Nat} (x:lt a b=true) (y:lt c b=false):lt a c=true:=by
  cases h:lt a c with
  | true=>rfl
  | false=>exact (x.symm.trans (O.ntr b c a y h)).symm▸rfl
theorem cH.one (p:Array Nat):cH lt p 1:=fun i j h1 h2=>by
  have e:i=j:=by lia
  subst e
  exact O.irr _
theorem iP.one (p:Array Nat):iP lt p 1:=fun i j h1 h2=>by
  have e:i=j:=by lia
  subst e
  exact O.irr _
theorem cH.snoc {p:Array Nat} {m:Nat} (h1:1<=m) (h:cH lt p m) (c:lt (gA p m) (gA p (m - 1))=false):cH lt p (m+1):=fun i j ij jm=>by
  by_cases hj:j < m
  · exact h i j ij hj
  · have e:j=m:=by lia
    subst e
    by_cases hi:i=j
    · subst hi; exact O.irr _
    · exact O.ntr _ _ _ (h i (j - 1) (by lia) (by lia)) c
theorem iP.snoc {p:Array Nat} {m:Nat} (h1:1<=m) (h:iP lt p m) (c:lt (gA p (m - 1)) (gA p m)=false):iP lt p (m+1):=fun i j ij jm=>by
  by_cases hj:j < m
  · exact h i j ij hj
  · have e:j=m:=by lia
    subst e
    by_cases hi:i=j
    · subst hi; exact O.irr _
    · exact O.ntr _ _ _ c (h i (j - 1) (by lia) (by lia))
theorem iP.alk {p p':Array Nat} {m:Nat} (h:iP lt p m) (e:∀ k,k < m->nW lt (gA p' k) (gA p k)):iP lt p' m:=fun i j ij jm =>
  O.ntr _ _ _ (e j jm).2 (O.ntr _ _ _ (h i j ij jm) (e i (by lia)).1)
theorem sJ {p:Array Nat} (hp:dd n p) {N:Nat} (hN:N<=n):∀ (f m:Nat),1<=m->m+f=N->cH lt p m->pw n lt (kas_asc p f m) (fun r=>m<=r/\r<=N/\cH lt p r/\(r < N->lt (gA p r) (gA p (r - 1))=true))
  | 0,m,h1,h2,h=>⟨Nat.le_refl _,by lia,h,fun z=>absurd z (by lia)⟩
  | f+1,m,h1,h2,h=>by
    refine ⟨hp.lt (by lia) _,hp.lt (by lia) _,?_⟩
    show pw n lt (if lt (gA p m) (gA p (m - 1))=true then _ else _) _
    cases c:lt (gA p m) (gA p (m - 1)) with
    | true =>
      rw [if_pos rfl]
      exact ⟨Nat.le_refl _,by lia,h,fun _=>c⟩
    | false =>
      rw [if_neg (by decide)]
      exact e8 (fun r hr=>⟨by lia,hr.2⟩) (sJ hp hN f (m+1) (by lia) (by lia) (h.snoc O h1 c))
theorem jY {N:Nat} (hN:N<=n):∀ (f:Nat) (p:Array Nat) (m q:Nat),dd n p->q+1<=m->m+f=N->iP lt p m->(∀ i,m - 1 - q<=i->i < m->nW lt (gA p i) (gA p (m - 1))) ->
    pw n lt (kas_desc f p m q) (fun r=>dd n r.1/\r.2.2+1<=r.2.1/\r.2.1<=N/\iP lt r.1 r.2.1/\∀ i,r.2.1 - 1 - r.2.2<=i->i < r.2.1->nW lt (gA r.1 i) (gA r.1 (r.2.1 - 1)))
  | 0,p,m,q,hp,hq,h2,h,al=>⟨hp,hq,by show m<=N; lia,h,al⟩
  | f+1,p,m,q,hp,hq,h2,h,al=>by
    have hs:=hp.size
    refine ⟨hp.lt (by lia) _,hp.lt (by lia) _,?_⟩
    show pw n lt (if lt (gA p m) (gA p (m - 1))=true then _ else _) _
    cases c:lt (gA p m) (gA p (m - 1)) with
    | true =>
      rw [if_pos rfl]
      by_cases q0:q > 0
      · rw [if_pos q0]
        have e:∀ k,gA (kas_rev p (m - (q+1)) m) k=if m - (q+1)<=k/\k < m then gA p (m - (q+1)+m - 1 - k) else gA p k:=fun k=>jL (by lia) k
        have ek:∀ k,k < m->nW lt (gA (kas_rev p (m - (q+1)) m) k) (gA p k):=fun k hk=>by
          rw [e k]
          split
          · have z1:=al (m - (q+1)+m - 1 - k) (by lia) (by lia)
            have z2:=al k (by lia) hk
            exact O.alkT z1 ⟨z2.2,z2.1⟩
          · exact O.alk _
        have em:gA (kas_rev p (m - (q+1)) m) m=gA p m:=by rw [e m,if_neg (by lia)]
        refine jY hN f _ (m+1) 0 (hp.rev _ _) (by lia) (by lia) ((h.alk O ek).snoc O (by lia) ?_) (fun i i1 i2=>?_)
        · rw [em]
          have:=(ek (m - 1) (by lia)).1
          exact O.ntr _ _ _ (O.asym _ _ c) this
        · have:i=m:=by lia
          subst this
          exact O.alk _
      · rw [if_neg q0]
        refine jY hN f p (m+1) 0 hp (by lia) (by lia) (h.snoc O (by lia) (O.asym _ _ c)) (fun i i1 i2=>?_)
        have:i=m:=by lia
        subst this
        exact O.alk _
    | false =>
      rw [if_neg (by decide)]
      refine ⟨hp.lt (by lia) _,hp.lt (by lia) _,?_⟩
      show pw n lt (if lt (gA p (m - 1)) (gA p m)=true then _ else _) _
      cases d:lt (gA p (m - 1)) (gA p m) with
      | true =>
        rw [if_pos rfl]
        exact ⟨hp,hq,by show m<=N; lia,h,al⟩
      | false =>
        rw [if_neg (by decide)]
        refine jY hN f p (m+1) (q+1) hp (by lia) (by lia) (h.snoc O (by lia) d) (fun i i1 i2=>?_)
        by_cases hi:i < m
        · exact O.alkT (al i (by lia) hi) ⟨d,c⟩
        · have:i=m:=by lia
          subst this
          exact O.alk _
def CF (n:Nat) (lt:Nat->Nat->Bool) (N:Nat) (r:Nat × Array Nat):Prop:=dd n r.2/\cH lt r.2 r.1/\1<=r.1/\r.1<=N
theorem rW {N:Nat} (hN:N<=n) {p:Array Nat} {m:Nat} (hp:dd n p) (h1:1<=m) (hm:m<=N) (h:iP lt p m):pw n lt (kas_tail3 m N p) (CF n lt N):=by
  have hs:=hp.size
  have e:∀ k,k < m->gA (kas_rev p 0 m) k=gA p (m - 1 - k):=fun k hk=>by
    rw [jL (by lia),if_pos (by lia),Nat.zero_add]
  refine gE (e8 (fun r hr=>?_) (sJ O (hp.rev 0 m) hN (N - m) m h1 (by lia) (fun i j ij jm=>?_)))
  · exact ⟨hp.rev 0 m,hr.2.2.1,by show 1<=r; lia,hr.2.1⟩
  · rw [e i (by lia),e j jm]
    exact h _ _ (by lia) (by lia)
theorem mh {N:Nat} (hN:N<=n) {p:Array Nat} {m:Nat} (hp:dd n p) (h1:1<=m) (hm:m+1<=N) (h:iP lt p m) (c:lt (gA p m) (gA p (m - 1))=true):pw n lt (kas_descPart m N p) (CF n lt N):=by
  refine gE (e8 (fun r hr=>?_) (jY O hN (N - (m+1)) p (m+1) 0 hp (by lia) (by lia) (h.snoc O h1 (O.asym _ _ c)) (fun i i1 i2=>?_)))
  · obtain ⟨p',m',q'⟩:=r
    obtain ⟨ok,hq,hl,fa,al⟩:=hr
    have hs:=ok.size
    dsimp only at hs hq hl fa al |-
    by_cases q0:q' > 0
    · rw [if_pos q0]
      refine rW O hN (ok.rev _ _) (by lia) hl (fa.alk O fun k hk=>?_)
      rw [jL (by lia)]
      split
      · have z1:=al (m' - (q'+1)+m' - 1 - k) (by lia) (by lia)
        have z2:=al k (by lia) hk
        exact O.alkT z1 ⟨z2.2,z2.1⟩
      · exact O.alk _
    · rw [if_neg q0]
      exact rW O hN ok (by lia) hl fa
  · have:i=m:=by lia
    subst this
    exact O.alk _
theorem zt {N:Nat} (hN:N<=n) (hN1:1<=N) {p:Array Nat} (hp:dd n p):pw n lt (kas_count N p) (CF n lt N):=by
  have hs:=hp.size
  refine gE (e8 (fun m hm=>?_) (sJ O hp hN (N - 1) 1 (Nat.le_refl _) (by lia) (cH.one O p)))
  obtain ⟨m1,mN,ri,st⟩:=hm
  by_cases e:m=N
  · subst e
    rw [if_pos (by simp)]
    exact ⟨hp,ri,m1,Nat.le_refl _⟩
  · rw [if_neg (by simpa using e)]
    have c:=st (by lia)
    by_cases m2:m > 1
    · rw [if_pos m2]
      refine ⟨hp.lt (by lia) _,hp.lt (by lia) _,?_⟩
      show pw n lt (if lt (gA p 0) (gA p (m - 1))=true then _ else _) _
      cases d:lt (gA p 0) (gA p (m - 1)) with
      | true =>
        rw [if_pos rfl]
        exact ⟨hp,ri,m1,mN⟩
      | false =>
        rw [if_neg (by decide)]
        have al:∀ i,i < m->nW lt (gA p i) (gA p 0):=fun i hi=>⟨ri 0 i (by lia) hi,O.ntr _ _ _ (ri i (m - 1) (by lia) (by lia)) d⟩
        have e:∀ k,k < m->gA (kas_rev p 0 m) k=gA p (m - 1 - k):=fun k hk=>by
          rw [jL (by lia),if_pos (by lia),Nat.zero_add]
        refine mh O hN (hp.rev _ _) m1 (by lia) (fun i j ij jm=>?_) ?_
        · rw [e i (by lia),e j jm]
          have z1:=al (m - 1 - i) (by lia)
          have z2:=al (m - 1 - j) (by lia)
          exact (O.alkT z1 ⟨z2.2,z2.1⟩).1
        · rw [jL (by lia),if_neg (by lia),e (m - 1) (by lia),show m - 1 - (m - 1)=0 by lia]
          exact O.up c d
    · rw [if_neg m2]
      have em:m=1:=by lia
      subst em
      exact mh O hN hp (Nat.le_refl _) (by lia) (iP.one O p) c
theorem mO {p:Array Nat} (hp:dd n p) {k:Nat} (hk:k < n) (h:cH lt p k):∀ (f l r:Nat),l<=r->r<=k->r - l<=f->(∀ i,i < l->lt (gA p k) (gA p i)=false)->(∀ i,r<=i->i < k->lt (gA p k) (gA p i)=true) ->
    pw n lt (kas_place p k f l r) (fun l'=>l'<=k/\(∀ i,i < l'->lt (gA p k) (gA p i)=false)/\∀ i,l'<=i->i < k->lt (gA p k) (gA p i)=true)
  | 0,l,r,h1,h2,h3,a,b=>⟨by lia,a,fun i i1 i2=>b i (by lia) i2⟩
  | f+1,l,r,h1,h2,h3,a,b=>by
    show pw n lt (if l ≥ r then _ else _) _
    by_cases e:l ≥ r
    · rw [if_pos e]
      exact ⟨by lia,a,fun i i1 i2=>b i (by lia) i2⟩
    · rw [if_neg e]
      refine ⟨hp.lt (by lia) _,hp.lt (by lia) _,?_⟩
      show pw n lt (if lt (gA p k) (gA p ((l+r) / 2))=true then _ else _) _
      cases c:lt (gA p k) (gA p ((l+r) / 2)) with
      | true =>
        rw [if_pos rfl]
        exact mO hp hk h f l ((l+r) / 2) (by lia) (by lia) (by lia) a fun i i1 i2=>O.up c (h _ i i1 i2)
      | false =>
        rw [if_neg (by decide)]
        exact mO hp hk h f ((l+r) / 2+1) r (by lia) h2 (by lia) (fun i hi=>O.ntr _ _ _ (h i ((l+r) / 2) (by lia) (by lia)) c) b
theorem x8:∀ (f:Nat) (p:Array Nat) (k:Nat),dd n p->k+f=n->cH lt p k->pw n lt (kas_bin f p k) (fun p'=>dd n p'/\cH lt p' n)
  | 0,p,k,hp,hk,h=>by
    have:k=n:=by lia
    subst this
    exact ⟨hp,h⟩
  | f+1,p,k,hp,hk,h=>by
    have hs:=hp.size
    refine gE (e8 (fun l hl=>?_) (mO O hp (by lia) h k 0 k (by lia) (Nat.le_refl _) (by lia) (fun i hi=>absurd hi (by lia)) (fun i i1 i2=>absurd i1 (by lia))))
    obtain ⟨lk,lo,hi⟩:=hl
    refine x8 f _ (k+1) (hp.bub _ _) (by lia) (fun i j ij jk=>?_)
    have e:=fun x=>BK (p:=p) (src:=k) (d:=k - l) (by lia) (by lia) x
    rw [e i,e j,show k - (k - l)=l by lia]
    by_cases j1:j=l
    · subst j1
      rw [if_pos rfl]
      by_cases i1:i=j
      · rw [if_pos i1]; exact O.irr _
      · rw [if_neg i1,if_neg (by lia)]
        exact lo i (by lia)
    · rw [if_neg j1]
      by_cases j2:l < j/\j<=k
      · rw [if_pos j2]
        by_cases i1:i=l
        · rw [if_pos i1]
          exact O.asym _ _ (hi (j - 1) (by lia) (by lia))
        · rw [if_neg i1]
          by_cases i2:l < i/\i<=k
          · rw [if_pos i2]
            exact h _ _ (by lia) (by lia)
          · rw [if_neg i2]
            exact h _ _ (by lia) (by lia)
      · rw [if_neg j2,if_neg (by lia),if_neg (by lia)]
        exact h _ _ ij (by lia)
theorem A8 (h2:1<=n):pw n lt (kas_sort n) (fun p=>dd n p/\cH lt p n):=by
  refine gE (e8 (fun r hr=>?_) (zt O (Nat.le_refl n) h2 (p:=List.toArray (List.range n)) (by unfold dd; simp)))
  obtain ⟨m,p⟩:=r
  obtain ⟨ok,ri,m1,mn⟩:=hr
  dsimp only at ok ri m1 mn |-
  by_cases e:m < n
  · rw [if_pos e,Nat.max_eq_left m1]
    exact x8 O (n - m) p m ok (by lia) ri
  · rw [if_neg e]
    have:m=n:=by lia
    subst this
    exact ⟨ok,ri⟩
end
end L2
set_option Elab.async false
set_option linter.all false
set_option maxRecDepth 100000
set_option maxHeartbeats 4000000
namespace L2
open PySem PySem.Spec PyProof.Rows PySem.W Ck
section
variable {prog:Program} {w:World} {A:Around} {E:Value->Shared->Prop} {s:Shared}
def zA (prog:Program) (w:World) (A:Around) (vs:List Value) (lt:Nat->Nat->Bool) (s1:Shared):Prop :=
  ∀ (Q:SortKind->Shared->Prop),(∀ κ,(∀ (i j:Nat) (C:Bool->Shared->Prop),i < vs.length->j < vs.length->C (lt i j) s1->kas_ask prog w A κ vs i j C s1)->Q κ s1)->wpAny (model prog w) A (keyKind' vs.toArray) Q (fun _ _=>False) s1
noncomputable def fC (vs:List Value) (p:Array Nat):List Value:=p.toList.map fun i=>vs.getD i Value.none
theorem x9 (vs:List Value):fC vs (List.toArray (List.range vs.length))=vs:=by
  unfold fC
  refine List.ext_getElem (by simp) fun i h1 h2=>?_
  simp [h2]
theorem Bd (vs:List Value):(vs.toArray.zip vs.toArray).map (·.2)=vs.toArray:=by
  refine Array.ext (by simp) fun i h1 h2=>?_
  simp
theorem sW {a:Addr} {vs:List Value} {n:Nat} {P:PySem.Fin->Shared->Prop} {lt:Nat->Nat->Bool} (O:jq lt) (ho:s.heap.get? a=some (seqObj "list" vs.toArray n)) (h64:vs.length < 64)
    (hk:∀ h6:Heap,(∀ b o,b≠a->s.heap.get? b=some o->h6.get? b=some o)->2<=vs.length->zA prog w A vs lt { s with heap:=h6 })
    (fin:∀ p:Array Nat,dd vs.length p->cH lt p vs.length->P (.done (.ret .none)) { s with heap:=sortedHeap s.heap a vs (fC vs p).toArray }):wpAny (model prog w) A (Builtin.«list.sort» ⟨[.ref a],[]⟩) P E s:=by
  have ha:a < s.heap.objs.size:=Heap.lt_size ho
  have hz:vs.length<=sizeLine:=by rw [sizeLine_eq]; lia
  obtain ⟨e1,ho1⟩:∃ e,(s.heap.update a (Obj.mapSeq fun _=>(#[]:Array Value))).get? a=some (seqObj "list" #[] e):=⟨_,get?_update_seq ho _⟩
  have keep:∀ b o,(s.heap.update a (Obj.mapSeq fun _=>(#[]:Array Value))).get? b=some o->(((s.heap.update a (Obj.mapSeq fun _=>(#[]:Array Value))).push (seqObj "tuple" vs.toArray 0)).push (seqObj "list" #[] 0)).get? b=some o:=fun b o e=>Heap.get?_push_of_some _ (Heap.get?_push_of_some _ e)
  have old:∀ b o,b≠a->s.heap.get? b=some o->(((s.heap.update a (Obj.mapSeq fun _=>(#[]:Array Value))).push (seqObj "tuple" vs.toArray 0)).push (seqObj "list" #[] 0)).get? b=some o:=fun b o hb e=>keep b o (by rw [Heap.get?_update_ne _ _ _ _ hb]; exact e)
  have ho6:=keep _ _ ho1
  rw [list_sort_plain]
  refine wpAny_bind (listItems_at ho rfl (wpAny_bind (listUpdate_at ho rfl (wpAny_bind (seqEpoch_at ho1 rfl (wpAny_bind (wpAny_newTuple (wpAny_bind (wpAny_newList (wpAny_holding ?_) (Nat.zero_le _))) hz)))) (by rw [List.size_toArray]; exact hz) (Nat.zero_le _))))
  show wpAny (model prog w) A _ P E { s with heap:=((s.heap.update a (Obj.mapSeq fun _=>(#[]:Array Value))).push (seqObj "tuple" vs.toArray 0)).push (seqObj "list" #[] 0) }
  dsimp only
  by_cases h2:vs.toArray.size < 2
  · rw [if_pos h2,if_pos h2]
    refine wpAny_bind (wpAny_pure ?_)
    rw [StateT.run_pure]
    refine wpAny_bind (wpAny_pure ?_)
    dsimp only
    have ez:(arrOf (SortSt.mk' general' (vs.toArray.zip vs.toArray) #[] 7 none)).map (·.2)=vs.toArray:=Bd vs
    rw [ez]
    refine wpAny_bind (seqEpoch_at ho6 rfl (wpAny_bind (listUpdate_at ho6 rfl ?_ (Nat.zero_le _) (by rw [List.size_toArray]; lia))))
    simp only [bne_self_eq_false,Bool.false_eq_true,if_false]
    have f:=fin (List.toArray (List.range vs.length)) (by unfold dd; simp) (fun i j ij jl=>by
      rw [List.size_toArray] at h2
      have e:i=j:=by lia
      subst e
      exact O.irr _)
    rw [x9] at f
    exact wpAny_pure f
  · rw [if_neg h2,if_neg h2]
    rw [List.size_toArray] at h2
    refine wpAny_bind (wpAny_mono (hk _ old (by lia) _ fun κ ask=>?_) (fun _ _ q=>q) fun _ _ x=>x.elim)
    refine wpAny_bind (wpAny_mono (kat_run (ks:=vs) (Q:=fun st' s'=>∃ p:Array Nat,p.size=vs.length/\arrOf st'=p.map (kas_item (vs.toArray.zip vs.toArray))/\failedOf st'=none/\s'=_/\dd vs.length p/\cH lt p vs.length) rfl (by lia) h64
      (fun p' st' s' a1 a2 a3 a4=>⟨p',a1,a2,a3,a4⟩) (Ap ask (A8 O (by lia)))) ?_ fun _ _ e=>e)
    rintro ⟨⟨⟩,st'⟩ s' ⟨p,hp,har,hf,rfl,ok,ri⟩
    dsimp only
    rw [kat_snds rfl har]
    refine wpAny_bind (seqEpoch_at ho6 rfl (wpAny_bind (listUpdate_at ho6 rfl ?_ (Nat.zero_le _) (by rw [List.size_toArray,List.length_map,Array.length_toList,hp]; lia))))
    rw [hf]
    simp only [bne_self_eq_false,Bool.false_eq_true,if_false]
    exact wpAny_pure (fin p ok ri)
theorem vL {l:Addr} {vs:List Value} {Q:Value->Shared->Prop} {lt:Nat->Nat->Bool} (O:jq lt) (hl:s.heap.IsList l vs.toArray) (h64:vs.length < 64)
    (hk:∀ h6:Heap,(∀ b o,s.heap.get? b=some o->h6.get? b=some o)->2<=vs.length->zA prog w A.in1.in1 vs lt { s with heap:=h6 })
    (fin:∀ p:Array Nat,dd vs.length p->cH lt p vs.length->Q (.ref (s.heap.objs.size+1)) { s with heap:=sortedAll s.heap vs (fC vs p).toArray }):wpAny (model prog w) A (call (.builtin "sorted") [.ref l]) Q E s:=by
  have hz:vs.length<=sizeLine:=by rw [sizeLine_eq]; lia
  have hsz:((s.heap.push (seqObj "list" #[] 0)).update s.heap.objs.size (Obj.mapSeq (·++vs.toArray))).objs.size=s.heap.objs.size+1:=by rw [Heap.size_update,size_push']
  have hoL:(((s.heap.push (seqObj "list" #[] 0)).update s.heap.objs.size (Obj.mapSeq (·++vs.toArray))).push (seqObj "list" vs.toArray 0)).get? (s.heap.objs.size+1)=some (seqObj "list" vs.toArray 0):=by rw [<- hsz]; exact Heap.get?_push_size _ rfl
  have keep:∀ b o,s.heap.get? b=some o->(((s.heap.push (seqObj "list" #[] 0)).update s.heap.objs.size (Obj.mapSeq (·++vs.toArray))).push (seqObj "list" vs.toArray 0)).get? b=some o:=fun b o q=>by
    have hlt:b < s.heap.objs.size:=Heap.lt_size q
    refine Heap.get?_push_of_some _ ?_
    rw [Heap.get?_update_ne _ _ _ _ (Nat.ne_of_lt hlt)]
    exact Heap.get?_push_of_some _ q
  refine Calls.call_function_entry kind_sorted plain_sorted entry_sorted (args_sorted1 _) ?_
  unfold Builtin.«sorted»
  refine wpAny_bind (m:=checkCount "sorted" 1 1 _) (wpAny_pure (wpAny_bind (collect_list hl (wpAny_bind (wpAny_newList ?_ hz)) hz)))
  show wpAny _ _ _ _ _ { s with heap:=((s.heap.push (seqObj "list" #[] 0)).update s.heap.objs.size (Obj.mapSeq (·++vs.toArray))).push (seqObj "list" vs.toArray 0) }
  rw [hsz]
  refine wpAny_bind (wpAny_holding (wpAny_call_entry slot_list_sort ⟨_,hoL,rfl⟩ entry_list_sort (sW (s:={ s with heap:=((s.heap.push (seqObj "list" #[] 0)).update s.heap.objs.size (Obj.mapSeq (·++vs.toArray))).push (seqObj "list" vs.toArray 0) }) O hoL h64 (fun h6 old=>hk h6 fun b o q=>old b o (Nat.ne_of_lt (Nat.lt_succ_of_lt (Heap.lt_size q))) (keep b o q)) fun p ok ri=>⟨_,rfl,?_⟩) (args_list_sort _)))
  exact wpAny_pure ⟨_,rfl,fin p ok ri⟩
noncomputable def rR (p q:Pair):Bool:=decide (p.1 < q.1) || (decide (p.1=q.1)&&decide (p.2 < q.2))
def bR (p q:Pair):Prop:=p.1 < q.1\/(p.1=q.1/\p.2<=q.2)
theorem ju {p q:Pair}:rR q p=false↔bR p q:=by
  unfold rR bR
  simp only [Bool.or_eq_false_iff,Bool.and_eq_false_iff,decide_eq_false_iff_not]
  lia
theorem AA {p q:Pair}:rR p q=true↔¬ bR q p:=by
  rw [<- ju]
  simp
theorem Bq (ps:List Pair):jq fun i j=>rR (ps.getD i (0,0)) (ps.getD j (0,0)) where
  asym a b h:=by
    rw [AA] at h
    rw [ju]
    unfold bR at h |-
    lia
  ntr a b c h1 h2:=by
    rw [ju] at h1 h2 |-
    unfold bR at h1 h2 |-
    lia
def iO (h:Heap) (vs:List Value) (ps:List Pair):Prop:=Paired (fun (v:Value) (p:Pair)=>∃ a t u,v = .ref a/\IsTup h a #[.int p.1 t,.int p.2 u]) vs ps
theorem iO.get {h:Heap}:∀ {vs:List Value} {ps:List Pair},iO h vs ps->∀ {i:Nat},i < vs.length->∃ a t u,vs.getD i Value.none = .ref a/\IsTup h a #[.int (ps.getD i (0,0)).1 t,.int (ps.getD i (0,0)).2 u]
  | _,_,.nil,i,e=>absurd e (by simp)
  | _,_,.cons r t,0,e=>r
  | _,_,.cons r t,i+1,e=>by
    have:=iO.get t (i:=i) (by simpa using e)
    simpa using this
theorem iO.tups {h:Heap}:∀ {vs:List Value} {ps:List Pair},iO h vs ps->∃ fs:List Value,KatTups h vs fs/\fs.length=vs.length/\∀ v∈fs,∃ i t,v = .int i t
  | _,_,.nil=>⟨[],.nil,rfl,fun v hv=>by cases hv⟩
  | _,_,.cons (b:=p) r t=>by
    obtain ⟨fs,k,l,al⟩:=iO.tups t
    obtain ⟨a,t',u,rfl,o,ho,hc,n,hd⟩:=r
    refine ⟨.int p.1 t'::fs,.cons ho hc hd rfl k,by simp [l],fun v hv=>?_⟩
    rcases List.mem_cons.mp hv with rfl | hv
    · exact ⟨_,_,rfl⟩
    · exact al v hv
theorem z8 {vs:List Value} {ps:List Pair} {s1:Shared} (r:iO s1.heap vs ps) (h2:2<=vs.length):zA prog w A vs (fun i j=>rR (ps.getD i (0,0)) (ps.getD j (0,0))) s1:=by
  intro Q q
  obtain ⟨fs,k,l,al⟩:=r.tups
  refine kat_kind (T:=.type "int") k (by lia) (fun v hv=>?_) (by decide) (q _ fun i j C hi hj hc=>?_)
  · obtain ⟨i,t,rfl⟩:=al v hv
    exact Looks.of_pure rfl
  · obtain ⟨a,t,u,e1,o1,g1,c1,n1,d1⟩:=r.get hi
    obtain ⟨b,t',u',e2,o2,g2,c2,n2,d2⟩:=r.get hj
    unfold kas_ask
    rw [e1,e2]
    have hc:C (rR (ps.getD i (0,0)) (ps.getD j (0,0))) s1:=hc
    generalize ps.getD i (0,0)=p at hc d1
    generalize ps.getD j (0,0)=q' at hc d2
    obtain ⟨x1,y1⟩:=p
    obtain ⟨x2,y2⟩:=q'
    unfold rR at hc
    dsimp only at hc d1 d2
    refine kat_lt g1 d1 g2 d2 (kat_cons (wpAny_eqBool_int ?_))
    by_cases ex:x1=x2
    · subst ex
      rw [show (x1 == x1)=true from by simp]
      refine kat_yes (kat_cons (wpAny_eqBool_int ?_))
      by_cases ey:y1=y2
      · subst ey
        rw [show (y1 == y1)=true from by simp]
        refine kat_yes (kat_nil ?_)
        have e:(decide (x1 < x1) || decide (x1=x1)&&decide (y1 < y1))=false:=by simp
        rw [e] at hc
        exact hc
      · rw [show (y1 == y2)=false from by simpa using ey]
        refine kat_no (kat_one _ _ (wpAny_lt_int ?_))
        have e:(decide (x1 < x1) || decide (x1=x1)&&decide (y1 < y2))=decide (y1 < y2):=by simp
        rw [e] at hc
        exact hc
    · rw [show (x1 == x2)=false from by simpa using ex]
      refine kat_no (oneLt_int ?_)
      have e:(decide (x1 < x2) || decide (x1=x2)&&decide (y1 < y2))=decide (x1 < x2):=by simp [ex]
      rw [e] at hc
      exact hc
end
section
variable {X:Cx}
theorem yz {pins:List (Addr × Obj)} {σ:St} {H:Hp} {s:Shared} (I:Inv X pins σ H s):∀ {us:List V} {ps:List Pair} {vs:List Value},bM H us ps->Vals us vs->iO s.heap vs ps
  | _,_,_,.nil,.nil=>.nil
  | _,_,_,.cons r t,.cons rv tv=>by
    obtain ⟨a,rfl,ha⟩:=r
    cases rv
    obtain ⟨its,r',tu,_⟩:=I.tuple (aT.of ha)
    refine .cons ⟨a,?_⟩ (yz I t tv)
    cases r' with
    | cons x1 r2 =>
      cases r2 with
      | cons x2 r3 =>
        cases r3
        obtain ⟨t1,rfl⟩:=x1
        obtain ⟨t2,rfl⟩:=x2
        exact ⟨t1,t2,rfl,tu⟩
theorem iO.mono {h h':Heap} (k:∀ b o,h.get? b=some o->h'.get? b=some o):∀ {vs:List Value} {ps:List Pair},iO h vs ps->iO h' vs ps
  | _,_,.nil=>.nil
  | _,_,.cons r t=>by
    obtain ⟨a,t1,t2,e,o,ho,hc,n,hd⟩:=r
    exact .cons ⟨a,t1,t2,e,o,k _ _ ho,hc,n,hd⟩ (iO.mono k t)
theorem eG {α β:Type} {R:α->β->Prop} {as:List α} {bs:List β} (h:Paired R as bs) (da:α) (db:β):∀ is:List Nat,(∀ i∈is,i < as.length)->Paired R (is.map fun i=>as.getD i da) (is.map fun i=>bs.getD i db)
  | [],_=>.nil
  | i::is,hi=>by
    refine .cons ?_ (eG h da db is fun j hj=>hi j (List.mem_cons_of_mem _ hj))
    have hl:=hi i (List.mem_cons_self ..)
    have go:∀ {as:List α} {bs:List β},Paired R as bs->∀ i,i < as.length->R (as.getD i da) (bs.getD i db):=by
      intro as bs h
      induction h with
      | nil=>intro i hi; simp at hi
      | cons r t ih =>
        intro i hi
        cases i with
        | zero=>simpa using r
        | succ i=>simpa using ih i (by simpa using hi)
    exact go h i hl
theorem pZ {α:Type} (d:α) (l:List α) {is:List Nat} (h:is.Perm (List.range l.length)):(is.map fun i=>l.getD i d).Perm l:=by
  refine (h.map _).trans ?_
  have e:(List.range l.length).map (fun i=>l.getD i d)=l:=List.ext_getElem (by simp) fun i h1 h2=>by simp [h2]
  rw [e]
theorem cR:dY X (.builtin "sorted") (fun xs H Q=>∃ (p:Addr) (ps:List Pair),xs=[.ref p]/\bL H p ps/\ps.length < 64/\∀ (q:Addr) (qs:List Pair) (H':Hp),af H H'->H q=none->bL H' q qs->qs.Perm ps->qs.Pairwise bR->Q (.ref q) H'):=by
  intro pins s σ H xs us Q I r h
  obtain ⟨p,ps,rfl,⟨ws,hl,pr⟩,h64,q⟩:=h
  obtain ⟨u,rfl,ru⟩:=vals1 r
  cases ru
  obtain ⟨its,r',pl,hz⟩:=I.list (au.of hl)
  have lw:=pr.length
  have li:ws.length=its.length:=r'.length
  have pv:=yz I pr r'
  refine vL (Bq ps) pl.isList (by lia) (fun h6 old h2=>z8 (s1:={ s with heap:=h6 }) (pv.mono old) h2) fun g ok ri=>?_
  obtain ⟨e,he⟩:=sortedAll_at s.heap its (fC its g).toArray
  have hb:∀ i∈g.toList,i < its.length:=fun i hi=>List.mem_range.mp (ok.mem_iff.mp hi)
  have lg:g.toList.length=its.length:=by rw [ok.length_eq,List.length_range]
  have hz2:(g.toList.map fun i=>ws.getD i V.non).length<=sizeLine:=by rw [List.length_map,lg]; exact sz (by lia)
  have vs2:Vals (g.toList.map fun i=>ws.getD i V.non) (fC its g):=eG r' V.non Value.none g.toList (fun i hi=>by rw [li]; exact hb i hi)
  have pr2:bM H (g.toList.map fun i=>ws.getD i V.non) (g.toList.map fun i=>ps.getD i (0,0)):=eG pr V.non (0,0) g.toList (fun i hi=>by rw [li]; exact hb i hi)
  have fr:H (s.heap.objs.size+1)=none:=I.hok.fresh (Nat.le_succ _)
  refine ⟨.ref _,_,I.laid (t':=s.toks) (o:=.lst (g.toList.map fun i=>ws.getD i V.non)) (fun b u e=>sortedAll_old e) (Nat.le_succ _) ⟨hz2,fC its g,e,vs2,by simpa [seqObj] using he⟩,rfl,?_⟩
  refine q _ _ _ (af.new (af.refl H) fr _) fr ⟨_,upd_same,pr2.updN fr _⟩ (pZ (0,0) ps (by rw [<- lw,li]; exact ok)) ?_
  rw [List.pairwise_map]
  have gs:g.size=its.length:=by rw [<- lg]; simp
  refine List.pairwise_iff_getElem.mpr fun i j hi hj hij=>?_
  have:=ri i j (by lia) (by rw [<- gs]; simpa using hj)
  rw [ju] at this
  unfold gA at this
  simpa [show i < g.size by simpa using hi,show j < g.size by simpa using hj] using this
end
end L2
set_option Elab.async false
set_option linter.all false
set_option maxRecDepth 100000
set_option maxHeartbeats 4000000
namespace L2
open PySem PySem.Spec PyProof.Rows PySem.W
section
variable {prog:Program} {w:World} {A:Around} {E:Value->Shared->Prop} {s:Shared} {R:Result->Shared->Prop} {d:Value} {it:Addr} {fp wr:List Addr} {n:Nat} {P:Nat->Value->Prop} {St:Nat->Heap->Prop}
end
section
variable {X:Cx} {e:Expr} {es:List Expr} {kws:List Keyword} {p pos:Pos} {t tk:TA} {x:Str} {id:String} {ks:List Str} {r:List V->List V->Hp->VK->Prop}
end
end L2
set_option Elab.async false
set_option linter.all false
set_option maxRecDepth 100000
set_option maxHeartbeats 4000000
namespace L2
open PySem PySem.Spec PyProof.Rows
section
variable {X:Cx}
theorem A5 {K:W.Frag} (hK:X.K=K) (hu:X.A.units+100 < cLine):cp X (compareOp .NotEq) (zr K true):=by
  subst hK
  exact fM hu
end
theorem bC.two {K:W.Frag} {H:Hp} {n:Nat} {a b:Addr} {x1 y1 x2 y2:Int} (ne:a≠b) (ha:H a=some (.tup [.int x1,.int y1])) (hb:H b=some (.tup [.int x2,.int y2])):bC K H (n+1) (.ref a) (.ref b) (decide (x1=x2)&&decide (y1=y2)):=by
  have h:=bC.tup (n:=n) (e:=fun j=>if j=0 then decide (x1=x2) else decide (y1=y2)) ne (aT.of (K:=K) ha) (aT.of (K:=K) hb) (fun j x y ex ey=>by
    match j,ex,ey with
    | 0,ex,ey =>
      have e1:V.int x1=x:=by simpa using ex
      have e2:V.int x2=y:=by simpa using ey
      rw [<- e1,<- e2,if_pos rfl]
      have z:=bC.flat (K:=K) (H:=H) (n:=n) (x:=V.int x1) (y:=V.int x2) rfl rfl
      exact z
    | 1,ex,ey =>
      have e1:V.int y1=x:=by simpa using ex
      have e2:V.int y2=y:=by simpa using ey
      rw [<- e1,<- e2,if_neg (by decide)]
      have z:=bC.flat (K:=K) (H:=H) (n:=n) (x:=V.int y1) (y:=V.int y2) rfl rfl
      exact z
    | j+2,ex,ey=>simp at ex)
  have e:((List.range (min [V.int x1,V.int y1].length [V.int x2,V.int y2].length)).all (fun j=>if j=0 then decide (x1=x2) else decide (y1=y2))&&decide ([V.int x1,V.int y1].length=[V.int x2,V.int y2].length))=(decide (x1=x2)&&decide (y1=y2)):=by
    simp [List.range_succ]
  first
    | (rw [e] at h; exact h)
    | (simp [List.range_succ] at h; exact h)
end L2
namespace Ck
open PySem L2
def Cut (n:Nat) (p:Pair):Prop:=0<=p.1/\p.1+1 < p.2/\p.2<=(n:Int)+1/\¬ (p.1=0/\p.2=(n:Int)+1)
structure EI (n:Nat) (ps:List Pair):Prop where
  cut:∀ p∈ps,Cut n p
  ris:ps.Pairwise bR
  len:ps.length<=n
theorem zV {p q:Pair} (h:bR p q) (h':bR q p):p=q:=by
  unfold bR at h h'
  exact Prod.ext (by lia) (by lia)
theorem gM {ps qs:List Pair} (hp:ps.Pairwise bR) (hq:qs.Pairwise bR) (h:ps.Perm qs):ps=qs :=
  List.Perm.eq_of_pairwise (le:=bR) (fun _ _ _ _ h1 h2=>zV h1 h2) hp hq h
noncomputable def Ek (i j:Nat):List Pair:=(if i=0 then [] else [(0,(i:Int)+1)])++(if j=0 then [] else [((i:Int)+1,(i:Int)+(j:Int)+2)])
noncomputable def D6 (i j:Nat) (ps qs:List Pair):List Pair:=ps++Ek i j++qs.map (up ((i:Int)+1))
section
variable {i j:Nat} {ps qs:List Pair} (hp:EI i ps) (hq:EI j qs)
include hp hq
variable {cs:List Pair} (hc:cs.Perm (D6 i j ps qs)) (hs:cs.Pairwise bR)
include hc hs
end
theorem bL.put {H:Hp} {l t:Addr} {xs:List V} {ps:List Pair} {p:Pair} (hl:H l=some (.lst xs)) (pr:bM H xs ps) (ht:H t=some (.tup [.int p.1,.int p.2])):bL (L2.upd H l (.lst (xs++[.ref t]))) l (ps++[p]) :=
  ⟨_,L2.upd_same,(pr.snoc ht).updL hl _⟩
theorem bL.push {H:Hp} {l t:Addr} {xs:List V} {ps:List Pair} {a b:Int} (hl:H l=some (.lst xs)) (pr:bM H xs ps) (ht:H t=none):bL (L2.upd (L2.upd H t (.tup [.int a,.int b])) l (.lst (xs++[.ref t]))) l (ps++[(a,b)]) :=
  bL.put (p:=(a,b)) ((L2.upd_ne (ak hl ht)).trans hl) (pr.updN ht _) L2.upd_same
end Ck
set_option Elab.async false
set_option linter.all false
set_option maxRecDepth 100000
set_option maxHeartbeats 4000000
namespace Ck
open PySem L2
structure Fu (ns:List Int):Prop where
  pos:∀ x∈ns,0<=x
  few:∀ j:Nat,j < ns.length->j+1<=ns.countP (fun x=>decide (x<=(j:Int)))
end Ck
set_option Elab.async false
set_option linter.all false
set_option maxRecDepth 100000
set_option maxHeartbeats 4000000
namespace Ck
open PySem L2
end Ck
namespace Ck
open PySem L2
end Ck
set_option Elab.async false
set_option linter.all false
set_option maxRecDepth 100000
set_option maxHeartbeats 4000000
namespace L2
open PySem PySem.W
end L2
namespace Ck
open PySem L2
theorem ne_int {a b:Int} (h:a≠b):¬ V.int a=V.int b:=fun z=>h (by injection z)
def fX (l:Addr) (H H':Hp):Prop:=∀ b u,b≠l->H b=some u->H' b=some u
theorem fX.same {l:Addr} {H0 H H':Hp} (b:fX l H H') (s:af H0 H) (f:H0 l=none):af H0 H':=fun x u h=>b x u (ak h f) (s x u h)
theorem fX.upd {l:Addr} {H H':Hp} (b:fX l H H') (o:HO):fX l H (upd H' l o):=fun x u n h=>(upd_ne n).trans (b x u n h)
theorem fX.new {l p:Addr} {H H':Hp} (b:fX l H H') (hp:H' p=none) (o:HO):fX l H (L2.upd H' p o):=fun x u n h=>(upd_ne (ak (b x u n h) hp)).trans (b x u n h)
end Ck
namespace Ck
end Ck
set_option Elab.async false
set_option linter.all false
set_option maxRecDepth 100000
set_option maxHeartbeats 4000000
namespace Ck
open PySem L2
noncomputable def Fo (es:List Int) (r:Int):Int:=if 0 < r then es.getD (r - 1).toNat 0 else r
noncomputable def De (es:List Int):Nat->Int->Int
  | 0,r=>r
  | m+1,r=>De es m (Fo es r)
noncomputable def inR (es:List Int):Bool:=es.all fun e=>decide (0<=e)&&decide (e<=(es.length:Int))
end Ck
namespace Ck
open PySem L2
end Ck
namespace Ck
theorem pX {row:List Int} (nd:row.Nodup) {i j:Nat} {x:Int} (hi:row[i]? = some x) (hj:row[j]? = some x):i=j :=
  (List.getElem?_inj (List.getElem?_eq_some_iff.mp hi).1 nd).mp (hi.trans hj.symm)
end Ck
namespace Ck
open PySem L2
end Ck
set_option Elab.async false
set_option linter.all false
set_option maxRecDepth 100000
set_option maxHeartbeats 4000000
namespace L2
open PySem PySem.Spec PyProof.Rows
theorem sI:∀ {xs:List V} {us:List Value},us.length=xs.length->(∀ (j:Nat) v,us[j]? = some v->∃ x,xs[j]? = some x/\RelV x v)->Vals xs us
  | [],us,hl,_=>by
    have:us=[]:=List.eq_nil_of_length_eq_zero hl
    subst this
    exact .nil
  | x::xs,[],hl,_=>by simp at hl
  | x::xs,u::us,hl,k=>by
    obtain ⟨y,e1,r⟩:=k 0 u rfl
    have:x=y:=by simpa using e1
    subst this
    exact .cons r (sI (by simpa using hl) fun j w e=>by
      obtain ⟨y,f1,f2⟩:=k (j+1) w (by simpa using e)
      exact ⟨y,by simpa using f1,f2⟩)
noncomputable def fk (i:Int) (n:Nat):List V:=((List.range n).map fun (k:Nat)=>i+(k:Int)).map V.int
section
variable {X:Cx}
theorem list_range {pins:List (Addr × Obj)} {σ:St} {H:Hp} {s:Shared} {Q:VK} {lo hi:Int} {t u v:Tok} {tk:Nat} (hc:X.calm=true) (I:Inv X pins σ H s) (h1 : -(2 ^ 62)<=lo) (h2:lo < 2 ^ 62) (h3 : -(2 ^ 62)<=hi) (h4:hi < 2 ^ 62) (hz:(hi - lo).toNat<=1000000)
    (q:∀ l,H l=none->Q (.ref l) (upd H l (.lst (fk lo (hi - lo).toNat)))):wpAny (model X.prog X.w) X.A (call (.type "list") [.ref s.heap.objs.size]) (EP X pins σ Q) X.xe { s with heap:=s.heap.push { cls:=.type "range",data:=.fields #[.int lo t,.int hi u,.int 1 v] },toks:=tk }:=by
  have I1:Inv X pins σ H { s with heap:=s.heap.push { cls:=.type "range",data:=.fields #[.int lo t,.int hi u,.int 1 v] },toks:=tk }:=I.kept fun b o e=>Heap.get?_push_of_some _ e
  refine call_list_range (n:=(hi - lo).toNat) (I.ok.hd hc) (IsRange.new ..) (small_one h1 h2 h3 h4) (by rw [rangeSize_one]; split<;>lia) (by lia) fun h' tk' acc' c' hk he hacc=>?_
  have hl:acc'.toList.length=(fk lo (hi - lo).toNat).length:=by unfold fk; simpa using hacc.1
  refine ⟨.ref _,_,I1.laid (t':=tk') (o:=.lst (fk lo (hi - lo).toNat)) hk (Nat.le_refl _) ⟨?_,acc'.toList,c',sI hl fun j w e=>?_,he⟩,rfl,q _ (I1.hok.fresh (Nat.le_refl _))⟩
  · unfold fk
    rw [List.length_map,List.length_map,List.length_range]
    exact sz (by lia)
  · obtain ⟨t',e2⟩:=hacc.2 j w (by simpa using e)
    have hj:j < (hi - lo).toNat:=by
      have:=(List.getElem?_eq_some_iff.mp e).1
      rw [hl] at this
      unfold fk at this
      simpa using this
    refine ⟨.int (lo+(j:Int)),?_,t',by rw [e2,Int.mul_one]⟩
    unfold fk
    rw [List.getElem?_map,List.getElem?_map,List.getElem?_range hj]
    rfl
noncomputable def EY (ta:TA):TE:=fun σ H Q=>ta σ H fun vs H1=>∃ j:Int,vs=[.int j]/\-(2 ^ 62)<=j/\j < 2 ^ 62/\j.toNat<=1000000/\∀ l,H1 l=none->Q (.ref l) (upd H1 l (.lst (fk 0 j.toNat)))
theorem Bu {a:Expr} {ta:TA} {p p2 pos pos2:Pos} (hc:X.calm=true) (hgl:Gl X "list") (hml:X.mg "list" = none) (hg:Gl X "range") (hm:X.mg "range" = none) (ha:PA X [a] ta) (hs:starEach [a] X.env=[(false,eval a X.env)]:=by rfl)
    (he:starEach [.Call (.Name "range" p) [a] [] pos] X.env=[(false,eval (.Call (.Name "range" p) [a] [] pos) X.env)]:=by rfl) :
    PE X (.Call (.Name "list" p2) [.Call (.Name "range" p) [a] [] pos] [] pos2) (EY ta):=by
  intro pins s σ H Q I h
  refine wpAny_Call_Name_kw (cV I hgl hml nZ ?_ (by decide) (by decide))
  refine PyProof.Rows.callWith_type1 ?_ he rfl
  rw [he]
  show wpAny _ _ (spliced ((false,eval (.Call (.Name "range" p) [a] [] pos) X.env)::backTo pos2 [])) _ _ s
  refine Calls.spliced_cons (Call_ (cV I hg hm boot_range (PyProof.Rows.callWith_type1 (aH (ha pos pins s σ H _ I h) fun us s1 ⟨vs,H1,I1,r1,q1⟩=>?_) hs rfl)))
  obtain ⟨j,e,b1,b2,b3,q⟩:=q1
  subst e
  cases r1 with
  | cons r rr =>
    cases rr
    obtain ⟨t,rfl⟩:=r
    exact call_range_1 (Calls.spliced_nil (list_range hc I1 (by lia) (by lia) b1 b2 (by simpa using b3) (by simpa using q)))
end
end L2
namespace L2
open PySem PySem.Spec PyProof.Rows
end L2
namespace L2
open PySem PySem.Spec PyProof.Rows
end L2
set_option Elab.async false
set_option linter.all false
set_option maxRecDepth 100000
set_option maxHeartbeats 4000000
namespace Ck
open PySem L2
noncomputable def cA (n:Nat):List Int:=(List.range n).map fun (k:Nat)=>(k:Int)
theorem mz (n:Nat):cA (n+1)=cA n++[(n:Int)]:=by unfold cA; rw [List.range_succ,List.map_append]; rfl
theorem oF (n:Nat):(cA n).length=n:=by unfold cA; simp
theorem iB {n:Nat} {m:Int}:m∈cA n↔0<=m/\m < (n:Int):=by
  unfold cA
  rw [List.mem_map]
  constructor
  · rintro ⟨k,hk,rfl⟩
    have:=List.mem_range.mp hk
    lia
  · intro h
    exact ⟨m.toNat,List.mem_range.mpr (by lia),by lia⟩
theorem nE (n:Nat):(cA n).Pairwise (· < ·):=by
  unfold cA
  rw [List.pairwise_map]
  exact List.pairwise_lt_range.imp fun h=>by lia
theorem A9 {n k:Nat} (h:k < n):(cA n)[k]? = some (k:Int):=by
  unfold cA
  rw [List.getElem?_map,List.getElem?_range h]
  rfl
noncomputable def dC (ns:List Int):Bool:=ns.isPerm (cA ns.length)
theorem dc (ns:List Int):dC ns=true↔ns.Perm (cA ns.length):=List.isPerm_iff
theorem uk {ns ms:List Int} (hp:ms.Perm ns) (hs:ms.Pairwise (·<=·)):dC ns=decide (ms=cA ns.length):=by
  rw [Bool.eq_iff_iff,dc,decide_eq_true_iff]
  constructor
  · intro h
    exact List.Perm.eq_of_pairwise (le:=(·<=·)) (fun a b _ _ h1 h2=>Int.le_antisymm h1 h2) hs ((nE _).imp Int.le_of_lt) (hp.trans h)
  · intro h
    rw [<- h]
    exact hp.symm
noncomputable def jd (row:List Int) (k:Nat):Bool:=(List.range k).any fun i=>(List.range row.length).any fun j=>decide (k < j)&&(decide (row.getD k 0 < row.getD j 0)&&decide (row.getD j 0 < row.getD i 0))
theorem mL (row:List Int) (k:Nat):jd row k=true↔∃ i j:Nat,i < k/\k < j/\j < row.length/\row.getD k 0 < row.getD j 0/\row.getD j 0 < row.getD i 0:=by
  unfold jd
  rw [List.any_eq_true]
  constructor
  · rintro ⟨i,hi,h⟩
    rw [List.any_eq_true] at h
    obtain ⟨j,hj,h⟩:=h
    rw [Bool.and_eq_true,Bool.and_eq_true] at h
    exact ⟨i,j,List.mem_range.mp hi,of_decide_eq_true h.1,List.mem_range.mp hj,of_decide_eq_true h.2.1,of_decide_eq_true h.2.2⟩
  · rintro ⟨i,j,h1,h2,h3,h4,h5⟩
    refine ⟨i,List.mem_range.mpr h1,?_⟩
    rw [List.any_eq_true]
    refine ⟨j,List.mem_range.mpr h3,?_⟩
    rw [Bool.and_eq_true,Bool.and_eq_true]
    exact ⟨decide_eq_true h2,decide_eq_true h4,decide_eq_true h5⟩
noncomputable def mP (row:List Int):Bool:=(List.range row.length).all fun k=>!jd row k
noncomputable def dW (row:List Int):Bool:=dC row&&mP row
theorem vW {row:List Int} {k:Nat} (hk:k < row.length) (h:jd row k=true):mP row=false:=by
  cases e:mP row with
  | false=>rfl
  | true =>
    have:=List.all_eq_true.mp e k (List.mem_range.mpr hk)
    rw [h] at this
    cases this
theorem pF {row:List Int} (h:∀ k,k < row.length->jd row k=false):mP row=true:=by
  unfold mP
  rw [List.all_eq_true]
  intro k hk
  rw [h k (List.mem_range.mp hk)]
  rfl
noncomputable def stk (row:List Int) (k p:Nat):List Int:=(cA p).filter fun m=>!decide (m∈row.take k)
theorem n5 {row:List Int} {k p:Nat} {m:Int}:m∈stk row k p↔(0<=m/\m < (p:Int))/\m∉row.take k:=by
  unfold stk
  rw [List.mem_filter,iB]
  simp
theorem Bm (row:List Int) (k p:Nat):(stk row k p).Pairwise (· < ·):=(nE p).filter _
theorem zc {row:List Int} {k p:Nat} (h:(p:Int)∉row.take k):stk row k (p+1)=stk row k p++[(p:Int)]:=by
  unfold stk
  rw [mz,List.filter_append]
  simp [h]
theorem zi {row:List Int} {k p:Nat} {x:Int} (hx:row[k]? = some x):stk row (k+1) p=(stk row k p).filter fun m=>!decide (m=x):=by
  unfold stk
  rw [List.filter_filter]
  refine List.filter_congr fun m _=>?_
  rw [List.take_add_one,hx]
  by_cases h1:m=x<;>by_cases h2:m∈row.take k<;>simp [h1,h2]
theorem uB {l0:List Int} {x:Int} (h:(l0++[x]).Pairwise (· < ·)):(l0++[x]).filter (fun m=>!decide (m=x))=l0:=by
  rw [List.filter_append]
  have e1:l0.filter (fun m=>!decide (m=x))=l0:=by
    rw [List.filter_eq_self]
    intro m hm
    have:=(List.pairwise_append.mp h).2.2 m hm x (by simp)
    simp
    lia
  rw [e1]
  simp
structure Off (row:List Int) (k p:Nat):Prop where
  below:∀ x∈row.take k,x < (p:Int)
  from_:p=0\/∃ x∈row.take k,(p:Int)=x+1
  fine:∀ j,j < k->jd row j=false
theorem Off.start (row:List Int):Off row 0 0:=⟨fun x hx=>by simp at hx,.inl rfl,fun j hj=>absurd hj (Nat.not_lt_zero _)⟩
theorem gK {row:List Int} {k:Nat} {y:Int} (h:y∈row.take k):∃ i,i < k/\row[i]? = some y:=by
  obtain ⟨i,hi,e⟩:=List.getElem_of_mem h
  rw [List.length_take] at hi
  refine ⟨i,by lia,?_⟩
  rw [List.getElem_take] at e
  rw [List.getElem?_eq_getElem (show i < row.length by lia),e]
theorem iu {row:List Int} {k:Nat} {y:Int} (h:row[k]? = some y):row.getD k 0=y:=by rw [List.getD_eq_getElem?_getD,h]; rfl
theorem Off.step {row:List Int} {k p p':Nat} {x:Int} (o:Off row k p) (hp:row.Perm (cA row.length)) (hx:row[k]? = some x) (hp':(p':Int)=if (p:Int)<=x then x+1 else (p:Int)) :
    ∃ l0 t,stk row k p'=l0++[t]/\(t=x->l0=stk row (k+1) p'/\Off row (k+1) p')/\(t≠x->jd row k=true):=by
  have nd:row.Nodup:=hp.nodup_iff.mpr ((nE _).imp fun h=>Int.ne_of_lt h)
  have rng:∀ y∈row,0<=y/\y < (row.length:Int):=fun y hy=>iB.mp (hp.mem_iff.mp hy)
  have hk:k < row.length:=(List.getElem?_eq_some_iff.mp hx).1
  have xr:=rng x (List.mem_of_getElem? hx)
  have xn:x∉row.take k:=fun h=>by
    obtain ⟨i,hi,e⟩:=gK h
    have:=pX nd e hx
    lia
  have xp:x < (p':Int):=by rw [hp']; split<;>lia
  have pp:(p:Int)<=p':=by rw [hp']; split<;>lia
  have xs:x∈stk row k p':=n5.mpr ⟨⟨xr.1,xp⟩,xn⟩
  have hne:stk row k p'≠[]:=fun z=>by rw [z] at xs; cases xs
  have el:stk row k p'=(stk row k p').dropLast++[(stk row k p').getLast hne]:=(List.dropLast_concat_getLast hne).symm
  have pw:=Bm row k p'
  generalize (stk row k p').dropLast=l0 at el
  generalize (stk row k p').getLast hne=t at el
  refine ⟨l0,t,el,fun e=>?_,fun e=>?_⟩
  · subst e
    have top:∀ m∈stk row k p',m<=t:=fun m hm=>by
      rw [el] at hm pw
      rcases List.mem_append.mp hm with z | z
      · have:=(List.pairwise_append.mp pw).2.2 m z t (by simp)
        lia
      · have:m=t:=by simpa using z
        lia
    refine ⟨?_,fun y hy=>?_,?_,fun j hj=>?_⟩
    · rw [zi hx,el,uB (by rw [<- el]; exact pw)]
    · rw [List.take_add_one,hx] at hy
      rcases List.mem_append.mp hy with z | z
      · have:=o.below y z
        lia
      · have:y=t:=by simpa using z
        lia
    · have hm:t∈row.take (k+1):=by rw [List.take_add_one,hx]; simp
      by_cases c:(p:Int)<=t
      · rw [if_pos c] at hp'
        exact .inr ⟨t,hm,hp'⟩
      · rw [if_neg c] at hp'
        rcases o.from_ with z | ⟨y,hy,z⟩
        · lia
        · exact .inr ⟨y,by rw [List.take_add_one]; exact List.mem_append_left _ hy,by lia⟩
    · by_cases c:j=k
      · subst c
        cases hb:jd row j with
        | false=>rfl
        | true =>
          obtain ⟨i,m,h1,h2,h3,h4,h5⟩:=(mL row j).mp hb
          rw [iu hx] at h4
          have em:row[m]? = some (row.getD m 0):=by rw [List.getD_eq_getElem?_getD,List.getElem?_eq_getElem h3]; rfl
          have ei:row[i]? = some (row.getD i 0):=by rw [List.getD_eq_getElem?_getD,List.getElem?_eq_getElem (show i < row.length by lia)]; rfl
          have mi:row.getD i 0∈row.take j:=List.mem_of_getElem? (i:=i) (by rw [List.getElem?_take_of_lt h1]; exact ei)
          have b1:=o.below _ mi
          have b2:=rng _ (List.mem_of_getElem? em)
          have nm:row.getD m 0∉row.take j:=fun h=>by
            obtain ⟨i',hi',e'⟩:=gK h
            have:=pX nd e' em
            lia
          have:=top _ (n5.mpr ⟨⟨b2.1,by lia⟩,nm⟩)
          lia
      · exact o.fine j (by lia)
  · have ht:t∈stk row k p':=by rw [el]; simp
    obtain ⟨⟨t0,t1⟩,tn⟩:=n5.mp ht
    have xt:x < t:=by
      rw [el] at xs pw
      rcases List.mem_append.mp xs with z | z
      · exact (List.pairwise_append.mp pw).2.2 x z t (by simp)
      · have:x=t:=by simpa using z
        exact absurd this.symm e
    have c:¬ (p:Int)<=x:=fun c=>by rw [if_pos c] at hp'; lia
    rw [if_neg c] at hp'
    rcases o.from_ with z | ⟨y,hy,z⟩
    · lia
    · obtain ⟨i,hi,ei⟩:=gK hy
      have yr:=rng y (List.mem_of_getElem? ei)
      have ty:t≠y:=fun w=>tn (by rw [w]; exact hy)
      have tr:t∈row:=hp.mem_iff.mpr (iB.mpr ⟨t0,by lia⟩)
      obtain ⟨j,hj,ej⟩:=List.getElem_of_mem tr
      have ej':row[j]? = some t:=by rw [List.getElem?_eq_getElem hj,ej]
      have jk:k < j:=by
        by_cases h:j < k
        · exact absurd (List.mem_of_getElem? (i:=j) (by rw [List.getElem?_take_of_lt h]; exact ej')) tn
        · by_cases h2:j=k
          · subst h2
            rw [hx] at ej'
            exact absurd (Option.some.inj ej').symm e
          · lia
      exact (mL row k).mpr ⟨i,j,hi,jk,hj,by rw [iu hx,iu ej']; exact xt,by rw [iu ej',iu ei]; lia⟩
end Ck
namespace Ck
open PySem L2
theorem tH:∀ as bs:List Int,mf (as.map V.int) (bs.map V.int)=decide (as=bs)
  | [],[]=>rfl
  | [],b::bs=>rfl
  | a::as,[]=>rfl
  | a::as,b::bs=>by
    rw [List.map_cons,List.map_cons]
    show (nu (.int a) (.int b)&&mf (as.map V.int) (bs.map V.int))=_
    rw [tH as bs]
    have e:nu (.int a) (.int b)=decide (a=b):=by
      show (a == b)=_
      by_cases h:a=b
      · subst h; simp
      · simp [h]
    rw [e]
    by_cases h1:a=b<;>by_cases h2:as=bs<;>simp [h1,h2]
theorem pK (n:Nat):fk 0 n=(cA n).map V.int:=by
  unfold fk cA
  refine congrArg (List.map V.int) (List.map_congr_left fun k _=>?_)
  show (0:Int)+(k:Int)=(k:Int)
  lia
end Ck
set_option Elab.async false
set_option linter.all false
set_option maxRecDepth 100000
set_option maxHeartbeats 4000000
namespace Ck
open PySem L2
noncomputable def FC (es:List Int) (k:Int):Int:=es.getD (k - 1).toNat 0
end Ck
namespace Ck
end Ck
namespace Ck
end Ck
set_option Elab.async false
set_option linter.all false
set_option maxRecDepth 100000
set_option maxHeartbeats 4000000
namespace L2
open PySem PySem.Spec PyProof.Rows PySem.SeqAt
section
variable {X:Cx}
end
end L2
namespace Ck
open PySem L2
end Ck
namespace L2
open PySem
theorem pN {A:Around} {k:Nat} (hr:bV k A):A.units+1 < cLine:=Nat.lt_of_le_of_lt (by lia) hr.un
end L2
namespace Ck
open PySem L2
end Ck
set_option Elab.async false
set_option linter.all false
set_option maxRecDepth 100000
set_option maxHeartbeats 4000000
namespace L2
open PySem PySem.Spec PyProof.Rows
section
variable {X:Cx}
end
end L2
namespace Ck
open PySem L2
end Ck
namespace L2
open PySem PySem.Spec PyProof.Rows PyProof
end L2
set_option Elab.async false
set_option linter.all false
set_option maxRecDepth 100000
set_option maxHeartbeats 4000000
namespace Ck
open PySem L2
inductive Bt where
  | leaf
  | node (l r:Bt)
noncomputable def Bt.size:Bt->Nat
  | .leaf=>0
  | .node l r=>l.size+r.size+1
noncomputable def brk:Bt->List Nat
  | .leaf=>[]
  | .node l r=>40::(brk l++41::brk r)
noncomputable def B8:Bt->List Int
  | .leaf=>[]
  | .node l r=>Ec (B8 l) (B8 r)
theorem cS:∀ t:Bt,(brk t).length=2*t.size
  | .leaf=>rfl
  | .node l r=>by
    show (40::(brk l++41::brk r)).length=2*(l.size+r.size+1)
    rw [List.length_cons,List.length_append,List.length_cons,cS l,cS r]
    lia
theorem lX:∀ t:Bt,clo 0 (brk t)=true
  | .leaf=>rfl
  | .node l r=>zM (lX l) (lX r)
theorem yP (t:Bt):(brk t).count 40=t.size:=by
  have:=sF (lX t)
  rw [cS] at this
  lia
theorem iA:∀ (n:Nat) (x:List Nat),x.length<=n->clo 0 x=true->∃ t,brk t=x
  | 0,x,hn,_=>⟨.leaf,(List.eq_nil_of_length_eq_zero (by lia)).symm⟩
  | n+1,x,hn,h=>by
    by_cases hx:x=[]
    · exact ⟨.leaf,hx.symm⟩
    · obtain ⟨a,b,rfl,ha,hb⟩:=yf h hx
      rw [List.length_cons,List.length_append,List.length_cons] at hn
      obtain ⟨l,rfl⟩:=iA n a (by lia) ha
      obtain ⟨r,rfl⟩:=iA n b (by lia) hb
      exact ⟨.node l r,rfl⟩
noncomputable def pre (n j:Nat):Int:=((List.range j).map fun i=>sh i*sh (n - 1 - i)).sum
noncomputable def Tw (H:Hp):V->Bt->Prop
  | v,.leaf=>∃ p,v = .ref p/\H p=some (.tup [])
  | v,.node l r=>∃ p a b,v = .ref p/\H p=some (.tup [a,b])/\Tw H a l/\Tw H b r
theorem Tw.same {H H':Hp} (s:af H H'):∀ {t:Bt} {v:V},Tw H v t->Tw H' v t
  | .leaf,_,⟨p,e,h⟩=>⟨p,e,s _ _ h⟩
  | .node l r,_,⟨p,a,b,e,h,hl,hr⟩=>⟨p,a,b,e,s _ _ h,hl.same s,hr.same s⟩
def Th (w:Nat) (H:Hp) (v:V) (t:Bt):Prop:=match w with
  | 0=>∃ x:Str,v = .str x/\x.cps.toList=brk t
  | 1=>∃ p,v = .ref p/\H p=some (.lst ((B8 t).map V.int))
  | _=>Tw H v t
end Ck
set_option Elab.async false
set_option linter.all false
set_option maxRecDepth 100000
set_option maxHeartbeats 4000000
namespace L2
open PySem PySem.Spec PyProof.Rows
theorem wN (l b:Addr) (us vs:Array Value) (n m:Nat) (d:Option Addr) (sl:Array (Option Value)) (h0:¬(!us.isEmpty&&Builtin.List.listTooLong (us.size+vs.size))=true) (h1:us.size<=sizeLine) (h2:us.size+vs.size<=sizeLine+1) :
    Meets (Builtin.«list.extend» ⟨[.ref l,.ref b],[]⟩) (fun _ R s=>s.heap.get? l=some { cls:=.type "list",dict:=none,data:=.seq us n,slots:=#[] } /\
      s.heap.get? b=some { cls:=.type "tuple",dict:=d,data:=.seq vs m,slots:=sl } /\
      R (.ok (.ret Value.none)) { s with heap:=s.heap.update l (Obj.mapSeq fun x=>x++vs),toks:=s.toks }) :=
  .of_wp fun prog w A R s h=>by
    obtain ⟨hp,g,dr,tk,os⟩:=s
    obtain ⟨hl,hb,h⟩:=h
    have f2:=AutoSeq1.sub_tuple_tuple
    have f3:=AutoSeq1.sub_list_list
    have f4:=AutoSeq1.sub_tuple_list
    have f5:=AutoSeq1.sub_list_tuple
    have h2':(us++vs).size<=sizeLine+1:=by rw [Array.size_append]; exact h2
    wp_walk using (wpAny_updateSeq hl rfl (hz:=h1) (_hz':=h2')),AutoSeq1.wpAny_loadPart' hl,AutoSeq1.wpAny_loadPart' hb
    exact ⟨_,rfl,h⟩
section
variable {X:Cx}
noncomputable def Af (K:W.Frag):V->List V->Hp->VK->Prop:=fun x vs H Q=>∃ l b xs zs,x = .ref l/\vs=[.ref b]/\H l=some (.lst xs)/\aT K H b zs/\xs.length+zs.length<=sizeLine/\Q .non (upd H l (.lst (xs++zs)))
theorem AE:uw X "list.extend" (Af X.K):=by
  intro pins s σ H x vs v us Q I rx rv h
  obtain ⟨l,b,xs,zs,rfl,rfl,hH,hB,hz,q⟩:=h
  cases rx
  obtain ⟨u,rfl,ru⟩:=rv.one
  cases ru
  obtain ⟨z,its,n,r,hl,e⟩:=I.lstM hH
  obtain ⟨its2,r2,⟨⟨oc,od,dt,os⟩,e2,c2,m2,d2⟩,z2⟩:=I.tuple hB
  dsimp only at c2 d2
  subst c2 d2
  have l1:=r.length
  have l2:=r2.length
  have hsz:its.toArray.size+its2.toArray.size<=sizeLine:=by rw [List.size_toArray,List.size_toArray]; lia
  have hlong:¬ (!its.toArray.isEmpty&&Builtin.List.listTooLong (its.toArray.size+its2.toArray.size))=true:=by
    rw [mD hsz,Bool.and_false]
    exact Bool.false_ne_true
  refine call_meets F.slot_list_extend ⟨_,e,rfl⟩ F.entry_list_extend (F.args_list_extend_2 _ _) (wN l b its.toArray its2.toArray n m2 od os hlong (by rw [List.size_toArray]; lia) (by lia)) ⟨e,e2,?_⟩
  refine ⟨.non,_,I.lset (its':=its++its2) hH e (by simp) (r.append r2) ?_,rfl,q⟩
  rw [List.length_append]
  lia
variable {X:Cx} {o e:Expr} {es:List Expr} {to:TE} {t:TA} {name:Str} {apos cpos:Pos} {T id:String} {r:V->List V->Hp->VK->Prop}
theorem Dx {K:W.Frag} (hK:X.K=K) (pa:PlainAttrs T) (slot:Slot T name id) (hty:typeOf (.builtin id)=pure (.type "method_descriptor")) (hm:Dj X id r) (ho:PE X o to) (ha:PA X (e::es) t)
    (hbase:attributeBase o name X.env (eval o X.env)=eval o X.env:=by rfl)
    (hfew:((backTo cpos (starEach (e::es) X.env)).all (fun x=>!x.1)&&(backToKw cpos (keywordEach [] X.env)).all (fun x=>x.1.isSome)
      && decide ((e::es).length+([]:List Keyword).length+(if ([]:List Keyword).isEmpty then 0 else 1) < 30))=true:=by rfl)
    (hline:(apos.endLine == cpos.line)=true:=by rfl) (hs:starEach (e::es) X.env=(false,eval e X.env)::starEach es X.env:=by rfl) (hplain:(backTo cpos (starEach es X.env)).any (·.1)=false:=by rfl) :
    PE X (.Call (.Attribute o name apos) (e::es) [] cpos) (EF K T r to t):=by
  subst hK
  exact cg pa slot hty hm ho ha hbase hfew hline hs hplain
end
section
variable {X:Cx}
end
theorem bC.deeper {K:W.Frag} {H:Hp} {n m:Nat} {x y:V} {b:Bool} (d:bC K H n x y b) (h:n<=m):bC K H m x y b:=by
  induction d generalizing m with
  | flat fx fy=>exact .flat fx fy
  | same=>exact .same
  | lst ne ha hb hl hi ih =>
    obtain ⟨k,rfl⟩:∃ k,m=k+1:=⟨m - 1,by lia⟩
    exact .lst ne ha hb hl fun j x y hx hy=>ih j x y hx hy (by lia)
  | lstN ne ha hb hl =>
    obtain ⟨k,rfl⟩:∃ k,m=k+1:=⟨m - 1,by lia⟩
    exact .lstN ne ha hb hl
  | tup ne ha hb hi ih =>
    obtain ⟨k,rfl⟩:∃ k,m=k+1:=⟨m - 1,by lia⟩
    exact .tup ne ha hb fun j x y hx hy=>ih j x y hx hy (by lia)
theorem mr {lo:Int} {n:Nat} {g:TG} {tt:TT} {te:TE} {σ0:St} {H:Hp} {D:Addr} {Q:VK} (Pv:Nat->List V->Hp->Prop) (hz:n<=sizeLine)
    (h0:Pv 0 [] (upd H D (.lst []))) (hl:∀ i ys H',i<=n->Pv i ys H'->ys.length<=i)
    (hs:∀ (i:Nat) (ys:List V) (H':Hp) (R:VK) (R0:Hp->Prop),i < n->Pv i ys H'->(∀ v H3,H3 D=some (.lst ys)->Pv (i+1) (ys++[v]) (upd H3 D (.lst (ys++[v])))->R v H3)->(∀ H3,Pv (i+1) ys H3->R0 H3) ->
      g (.int (lo+i)) σ0 H' fun σ2 H2=>Ext σ0 σ2/\tt σ2 H2 fun b H3=>if b=true then te σ2 H3 R else R0 H3)
    (hq:∀ ys H',Pv n ys H'->Q (.ref D) H') :
    nr (pD lo n) g tt te σ0 D Q H:=by
  refine ⟨fun i m ys H'=>m=n - i/\i<=n/\Pv i ys H',⟨n,by simp,Nat.zero_le _,h0⟩,?_⟩
  rintro i m ys H' ⟨rfl,hi,p⟩
  have ly:=hl i ys H' hi p
  by_cases hlt:i < n
  · refine .inr ⟨hlt,fun x H'' y=>?_⟩
    obtain ⟨e,y⟩:=y
    subst e y
    refine hs i ys _ _ _ hlt p (fun v H3 hD p'=>⟨hD,by lia,n - (i+1),by lia,rfl,hlt,p'⟩) fun H3 p'=>⟨n - (i+1),by lia,rfl,hlt,p'⟩
  · have e:i=n:=by lia
    subst e
    exact .inl ⟨Nat.le_refl _,hq ys H' p⟩
end L2
namespace Ck
open PySem L2
theorem Cq {b:Bool} {A B:Prop} (h:b=false) (x:A):if (if true=true then !b else b)=true then A else B:=by subst h; exact x
theorem z6 {b:Bool} {A B:Prop} (h:b=true) (x:B):if (if true=true then !b else b)=true then A else B:=by subst h; exact x
theorem eqT {b:Bool} {A B:Prop} (h:b=true) (x:A):if (if false=true then !b else b)=true then A else B:=by subst h; exact x
theorem xy {b:Bool} {A B:Prop} (h:b=false) (x:B):if (if false=true then !b else b)=true then A else B:=by subst h; exact x
theorem bC.unit {K:W.Frag} {H:Hp} {n:Nat} {a b:Addr} {xs:List V} (ne:a≠b) (ha:aT K H a xs) (hb:aT K H b []):bC K H (n+1) (.ref a) (.ref b) (decide (xs=[])):=by
  have h:=bC.tup (n:=n) (e:=fun _=>true) ne ha hb (fun j x y _ hy=>by cases hy)
  have e:((List.range (min xs.length ([]:List V).length)).all (fun _=>true)&&xs.length == ([]:List V).length)=decide (xs=[]):=by
    cases xs with
    | nil=>rfl
    | cons x xs=>simp
  rw [e] at h
  exact h
theorem bC.void {K:W.Frag} {H:Hp} {n:Nat} {a b:Addr} {xs:List V} (ne:a≠b) (ha:au K H a xs) (hb:au K H b []):bC K H (n+1) (.ref a) (.ref b) (decide (xs=[])):=by
  cases xs with
  | nil=>exact bC.lstT ne ha hb rfl (fun j x y hx _=>by cases hx)
  | cons x xs=>exact bC.lstN ne ha hb (by simp)
noncomputable abbrev eT (H:Hp):List V->List Bt->Prop:=Paired fun v t=>Tw H v t
noncomputable def Fz (ts:List Bt):Nat:=(ts.map Bt.size).sum
theorem eT.app {H:Hp}:∀ {xs ys:List V} {ts us:List Bt},eT H xs ts->eT H ys us->eT H (xs++ys) (ts++us)
  | _,_,_,_,.nil,h=>h
  | _,_,_,_,.cons r t,h=>.cons r (eT.app t h)
theorem eT.unsnoc {H:Hp}:∀ {xs:List V} {ts:List Bt},eT H xs ts->xs≠[]->∃ ys y us u,xs=ys++[y]/\ts=us++[u]/\eT H ys us/\Tw H y u
  | [_],[_],.cons r .nil,_=>⟨[],_,[],_,rfl,rfl,.nil,r⟩
  | _::b::xs,_,.cons r (.cons r' t),_=>by
    obtain ⟨ys,y,us,u,e1,e2,h1,h2⟩:=eT.unsnoc (.cons r' t) (by simp)
    exact ⟨_::ys,y,_::us,u,by rw [e1]; rfl,by rw [e2]; rfl,.cons r h1,h2⟩
theorem Tw.ref {H:Hp}:∀ {t:Bt} {v:V},Tw H v t->∃ p xs,v = .ref p/\H p=some (.tup xs)/\(xs=[]↔t = .leaf)
  | .leaf,_,⟨p,e,h⟩=>⟨p,[],e,h,by simp⟩
  | .node l r,_,⟨p,a,b,e,h,_⟩=>⟨p,[a,b],e,h,by simp⟩
theorem Tw.keep {H H':Hp} (s:∀ p xs,H p=some (.tup xs)->H' p=some (.tup xs)):∀ {t:Bt} {v:V},Tw H v t->Tw H' v t
  | .leaf,_,⟨p,e,h⟩=>⟨p,e,s _ _ h⟩
  | .node l r,_,⟨p,a,b,e,h,hl,hr⟩=>⟨p,a,b,e,s _ _ h,hl.keep s,hr.keep s⟩
theorem eT.keep {H H':Hp} (s:∀ p xs,H p=some (.tup xs)->H' p=some (.tup xs)):∀ {xs:List V} {ts:List Bt},eT H xs ts->eT H' xs ts
  | _,_,.nil=>.nil
  | _,_,.cons r t=>.cons (r.keep s) (eT.keep s t)
theorem eT.len {H:Hp}:∀ {xs:List V} {ts:List Bt},eT H xs ts->xs.length=ts.length
  | _,_,.nil=>rfl
  | _,_,.cons _ t=>congrArg (·+1) (eT.len t)
noncomputable def stepT (c:Nat):Bt × List Bt->Option (Bt × List Bt)
  | (h,ps)=>if c=41 then some (.leaf,h::ps) else match ps with
    | []=>none
    | p::ps=>some (.node h p,ps)
noncomputable def cz:List Nat->Bt × List Bt->Option (Bt × List Bt)
  | [],s=>some s
  | c::cs,s=>(cz cs s).bind (stepT c)
theorem rX:∀ (a b:List Nat) (s:Bt × List Bt),cz (a++b) s=(cz b s).bind (cz a)
  | [],b,s=>by show cz b s=(cz b s).bind fun s=>some s; cases cz b s<;>rfl
  | c::a,b,s=>by
    show (cz (a++b) s).bind (stepT c)=_
    rw [rX a b s]
    cases cz b s<;>rfl
theorem iR:∀ (t:Bt) (ps:List Bt),cz (brk t) (.leaf,ps)=some (t,ps)
  | .leaf,ps=>rfl
  | .node l r,ps=>by
    show (cz (brk l++41::brk r) (.leaf,ps)).bind (stepT 40)=_
    rw [rX]
    show ((((cz (brk r) (.leaf,ps)).bind (stepT 41))).bind (cz (brk l))).bind (stepT 40)=_
    rw [iR r ps]
    show (cz (brk l) (.leaf,r::ps)).bind (stepT 40)=_
    rw [iR l (r::ps)]
    rfl
theorem oK:∀ {xs:List Nat} {s z:Bt × List Bt} {k c:Nat},cz xs s=some z->xs[k]? = some c->∃ y y',cz (xs.drop (k+1)) s=some y/\stepT c y=some y'/\cz (xs.drop k) s=some y'
  | c::cs,s,z,0,d,h,e=>by
    have h:(cz cs s).bind (stepT c)=some z:=h
    simp at e
    subst e
    cases hy:cz cs s with
    | none=>rw [hy] at h; cases h
    | some y=>rw [hy] at h; exact ⟨y,z,hy,h,by show (cz cs s).bind (stepT c)=_; rw [hy]; exact h⟩
  | c::cs,s,z,k+1,d,h,e=>by
    have h:(cz cs s).bind (stepT c)=some z:=h
    cases hy:cz cs s with
    | none=>rw [hy] at h; cases h
    | some y=>exact oK (k:=k) hy (by simpa using e)
theorem Tw.eqD {K:W.Frag} {H:Hp}:∀ {t:Bt} {v u:V},Tw H v t->Tw H u t->bC K H (t.size+1) v u true
  | .leaf,v,u,⟨p,e,h⟩,⟨r,e',h'⟩=>by
    subst e e'
    by_cases z:p=r
    · subst z; exact .same
    · exact bC.tupT z (aT.of h) (aT.of h') rfl (fun j x y hx _=>by simp at hx)
  | .node l r,v,u,⟨p,a,b,e,h,hl,hr⟩,⟨p',a',b',e',h',hl',hr'⟩=>by
    subst e e'
    by_cases z:p=p'
    · subst z; exact .same
    · have sn:(Bt.node l r).size=l.size+r.size+1:=rfl
      refine bC.tupT (n:=l.size+r.size+1) z (aT.of h) (aT.of h') rfl (fun j x y hx hy=>?_)
      match j,hx,hy with
      | 0,hx,hy =>
        simp at hx hy
        subst hx hy
        exact (Tw.eqD hl hl').deeper (by lia)
      | 1,hx,hy =>
        simp at hx hy
        subst hx hy
        exact (Tw.eqD hr hr').deeper (by lia)
      | j+2,hx,hy=>simp at hx
end Ck
set_option Elab.async false
set_option linter.all false
set_option maxRecDepth 100000
set_option maxHeartbeats 4000000
namespace Lg
open PySem PyProof.Rows
noncomputable def vt:Bool->Keyed->Array Keyed->Nat->Nat->Nat->StateT SortSt Sem (Option Nat):=sortPriv% PySem.Builtin.gallop
noncomputable def ox (left:Bool) (key:Keyed) (arr:Array Keyed) (base i:Nat):StateT SortSt Sem (Option Bool):=elem' arr (base+i) >>= fun x=>if left then lt' x key else lt' key x >>= fun r=>pure (r.map (!·))
noncomputable def bY (left:Bool) (k a:Int):Bool:=if left then decide (a < k) else !decide (k < a)
section
variable {prog:Program} {w:World} {A:Around} {E:Value->Shared->Prop} {s:Shared}
theorem IntKeys.at {xs:Array Keyed} (h:IntKeys xs) {i:Nat} (hi:i < xs.size):∃ t q,xs[i]? = some (.int (K xs i) t,q):=by
  have hm:xs[i]∈xs.toList:=by simp
  obtain ⟨n,t,hn⟩:=h _ hm
  refine ⟨t,xs[i].2,?_⟩
  have e:xs[i]? = some xs[i]:=getElem?_pos _ i hi
  have e2:xs[i]=(.int n t,xs[i].2):=Prod.ext hn rfl
  unfold K
  rw [e,e2]
  rfl
theorem ni {st:SortSt} {a b:Int} {t u:Tok} {p q:Value} {Q:Option Bool->SortSt->Prop} (hk:kindOf st=oneType') (h:Q (some (decide (a < b))) st):wpS (model prog w) A E s (lt' (.int a t,p) (.int b u,q)) Q st:=by
  rw [lt'_eq]
  refine wpS_bind (wpS_get ?_)
  rw [hk,keyLt'_oneType]
  refine wpS_bind (wpS_lift (wpAny_attempt (oneLt_int ⟨rfl,?_⟩)))
  exact wpS_pure h
theorem aw {st:SortSt} {xs:Array Keyed} {i:Nat} {p:Keyed} {Q:Keyed->SortSt->Prop} (e:xs[i]? = some p) (h:Q p st):wpS (model prog w) A E s (elem' xs i) Q st:=by
  rw [elem'_eq,e]
  exact wpS_pure h
theorem gb {st:SortSt} {left:Bool} {k:Int} {t:Tok} {p:Value} {arr:Array Keyed} {base i:Nat} {Q:Option Bool->SortSt->Prop} (hk:kindOf st=oneType') (hI:IntKeys arr) (hi:base+i < arr.size)
    (h:Q (some (bY left k (K arr (base+i)))) st):wpS (model prog w) A E s (ox left (.int k t,p) arr base i) Q st:=by
  obtain ⟨t',q',e⟩:=IntKeys.at hI hi
  unfold ox
  refine wpS_bind (aw e ?_)
  cases left with
  | true=>exact ni hk h
  | false=>exact wpS_bind (ni hk (wpS_pure h))
theorem za {left:Bool} {k a b:Int} (h:a<=b) (hb:bY left k b=true):bY left k a=true:=by
  cases left with
  | true=>have hb:=of_decide_eq_true hb; exact decide_eq_true (Int.lt_of_le_of_lt h hb)
  | false =>
    have hb:(!decide (k < b))=true:=hb
    show (!decide (k < a))=true
    simp at hb |-
    lia
theorem bK {st:SortSt} {left:Bool} {k:Int} {t:Tok} {p:Value} {arr:Array Keyed} {base n hint:Nat} {Q:Option Nat->SortSt->Prop} (hk:kindOf st=oneType') (hI:IntKeys arr) (hz:base+n<=arr.size) (hh:hint < n)
    (hs:∀ i j,i<=j->j < n->K arr (base+i)<=K arr (base+j))
    (h:∀ m,m<=n->(∀ i,i < m->bY left k (K arr (base+i))=true)->(∀ i,m<=i->i < n->bY left k (K arr (base+i))=false)->Q (some m) st) :
    wpS (model prog w) A E s (vt left (.int k t,p) arr base n hint) Q st:=by
  have dn:∀ i j,i<=j->j < n->bY left k (K arr (base+j))=true->bY left k (K arr (base+i))=true:=fun i j h1 h2 h3=>za (hs i j h1 h2) h3
  have up:∀ i j,i<=j->j < n->bY left k (K arr (base+i))=false->bY left k (K arr (base+j))=false:=fun i j h1 h2 h3=>by
    cases e:bY left k (K arr (base+j)) with
    | false=>rfl
    | true=>rw [dn i j h1 h2 e] at h3; cases h3
  have fin:∀ lo hi:Nat,lo<=hi->hi<=n->(∀ i,i < lo->bY left k (K arr (base+i))=true)->(∀ i,hi<=i->i < n->bY left k (K arr (base+i))=false) ->
      ∀ (f:(Option (Option Nat) × Nat × Nat)->StateT SortSt Sem (Option Nat)),(∀ m,f (none,m,m)=pure (some m)) ->
      wpS (model prog w) A E s (forIn [0:n] ((none,lo,hi):Option (Option Nat) × Nat × Nat) (fun _ c=>do
        if c.2.1 ≥ c.2.2 then pure (ForInStep.done (none,c.2.1,c.2.2)) else do
          let x <- ox left (.int k t,p) arr base (c.2.1+(c.2.2 - c.2.1) / 2)
          match x with
          | some more=>if more=true then pure (ForInStep.yield (none,c.2.1+(c.2.2 - c.2.1) / 2+1,c.2.2)) else pure (ForInStep.yield (none,c.2.1,c.2.1+(c.2.2 - c.2.1) / 2))
          | _=>pure (ForInStep.done (some none,c.2.1,c.2.2))) >>= f) Q st:=by
    intro lo hi hlh hhn hlo hhi f hf
    refine wpS_bind (wpS_mono (wpS_forRange (I:=fun x c st'=>st'=st/\∃ l r,c=(none,l,r)/\l<=r/\r<=n/\r - l<=n - x/\(∀ i,i < l->bY left k (K arr (base+i))=true)/\(∀ i,r<=i->i < n->bY left k (K arr (base+i))=false))
      (Q:=fun c st'=>st'=st/\∃ m,c=(none,m,m)/\m<=n/\(∀ i,i < m->bY left k (K arr (base+i))=true)/\(∀ i,m<=i->i < n->bY left k (K arr (base+i))=false)) ?step ?fin ⟨rfl,lo,hi,rfl,hlh,hhn,by lia,hlo,hhi⟩) ?post)
    case post =>
      rintro c st' ⟨rfl,m,rfl,hm,a1,a2⟩
      rw [hf]
      exact wpS_pure (h m hm a1 a2)
    case fin =>
      rintro c st' ⟨rfl,l,r,rfl,h1,h2,h3,a1,a2⟩
      have:l=r:=by lia
      subst this
      exact ⟨rfl,l,rfl,h2,a1,a2⟩
    case step =>
      rintro x c st' _ hx ⟨rfl,l,r,rfl,h1,h2,h3,a1,a2⟩
      dsimp only
      by_cases hge:l ≥ r
      · rw [if_pos hge]
        have:l=r:=by lia
        subst this
        exact wpS_pure ⟨rfl,l,rfl,h2,a1,a2⟩
      · rw [if_neg hge]
        refine wpS_bind (gb hk hI (by lia) ?_)
        cases e:bY left k (K arr (base+(l+(r - l) / 2))) with
        | true =>
          dsimp only
          rw [if_pos rfl]
          exact wpS_pure ⟨rfl,_,_,rfl,by lia,h2,by lia,fun i hi=>dn i _ (by lia) (by lia) e,a2⟩
        | false =>
          dsimp only
          rw [if_neg (by decide)]
          exact wpS_pure ⟨rfl,_,_,rfl,by lia,by lia,by lia,a1,fun i h4 h5=>up _ i h4 h5 e⟩
  unfold vt
  change wpS _ _ _ _ (bind _ _) _ _
  dsimp only
  refine wpS_bind (gb hk hI (by lia) ?_)
  cases e:bY left k (K arr (base+hint)) with
  | true =>
    dsimp only
    rw [if_pos rfl]
    refine wpS_bind (wpS_mono (wpS_forRange (I:=fun x c st'=>st'=st/\∃ l o,c=(none,l,o)/\l < o/\l < n - hint/\x+1<=o/\bY left k (K arr (base+(hint+l)))=true)
      (Q:=fun c st'=>st'=st/\∃ l o,c=(none,l,o)/\l < o/\l < n - hint/\bY left k (K arr (base+(hint+l)))=true/\(n - hint<=o\/(o < n - hint/\bY left k (K arr (base+(hint+o)))=false))) ?step1 ?fin1 ⟨rfl,0,1,rfl,by lia,by lia,by lia,e⟩) ?post1)
    case post1 =>
      rintro c st' ⟨rfl,l,o,rfl,h1,h2,h3,h4⟩
      dsimp only
      refine fin (hint+l+1) (hint+min o (n - hint)) (by lia) (by lia) (fun i hi=>dn i (hint+l) (by lia) (by lia) h3) (fun i h5 h6=>?_) _ (fun m=>rfl)
      rcases h4 with h4 | ⟨h4,h7⟩
      · lia
      · exact up (hint+o) i (by lia) h6 h7
    case fin1 =>
      rintro c st' ⟨rfl,l,o,rfl,h1,h2,h3,h4⟩
      exact ⟨rfl,l,o,rfl,h1,h2,h4,.inl (by lia)⟩
    case step1 =>
      rintro x c st' _ hx ⟨rfl,l,o,rfl,h1,h2,h3,h4⟩
      dsimp only
      by_cases hge:o ≥ n - hint
      · rw [if_pos hge]
        exact wpS_pure ⟨rfl,l,o,rfl,h1,h2,h4,.inl hge⟩
      · rw [if_neg hge]
        refine wpS_bind (gb hk hI (by lia) ?_)
        cases e2:bY left k (K arr (base+(hint+o))) with
        | true =>
          dsimp only
          rw [if_neg (by decide)]
          exact wpS_pure ⟨rfl,o,2*o+1,rfl,by lia,by lia,by lia,e2⟩
        | false =>
          dsimp only
          rw [if_pos (by decide)]
          exact wpS_pure ⟨rfl,l,o,rfl,h1,h2,h4,.inr ⟨by lia,e2⟩⟩
  | false =>
    dsimp only
    rw [if_neg (by decide)]
    refine wpS_bind (wpS_mono (wpS_forRange (I:=fun x c st'=>st'=st/\∃ l o,c=(none,l,o)/\l < o/\l<=hint/\x+1<=o/\bY left k (K arr (base+(hint - l)))=false)
      (Q:=fun c st'=>st'=st/\∃ l o,c=(none,l,o)/\l < o/\l<=hint/\bY left k (K arr (base+(hint - l)))=false/\(hint+1<=o\/(o<=hint/\bY left k (K arr (base+(hint - o)))=true))) ?step2 ?fin2 ⟨rfl,0,1,rfl,by lia,by lia,by lia,e⟩) ?post2)
    case post2 =>
      rintro c st' ⟨rfl,l,o,rfl,h1,h2,h3,h4⟩
      dsimp only
      refine fin (hint+1 - min o (hint+1)) (hint - l) (by lia) (by lia) (fun i hi=>?_) (fun i h5 h6=>up (hint - l) i h5 h6 h3) _ (fun m=>rfl)
      rcases h4 with h4 | ⟨h4,h7⟩
      · lia
      · exact dn i (hint - o) (by lia) (by lia) h7
    case fin2 =>
      rintro c st' ⟨rfl,l,o,rfl,h1,h2,h3,h4⟩
      exact ⟨rfl,l,o,rfl,h1,h2,h4,.inl (by lia)⟩
    case step2 =>
      rintro x c st' _ hx ⟨rfl,l,o,rfl,h1,h2,h3,h4⟩
      dsimp only
      by_cases hge:o ≥ hint+1
      · rw [if_pos hge]
        exact wpS_pure ⟨rfl,l,o,rfl,h1,h2,h4,.inl hge⟩
      · rw [if_neg hge]
        refine wpS_bind (gb hk hI (by lia) ?_)
        cases e2:bY left k (K arr (base+(hint - o))) with
        | true =>
          dsimp only
          rw [if_pos rfl]
          exact wpS_pure ⟨rfl,l,o,rfl,h1,h2,h4,.inr ⟨by lia,e2⟩⟩
        | false =>
          dsimp only
          rw [if_neg (by decide)]
          exact wpS_pure ⟨rfl,o,2*o+1,rfl,by lia,by lia,by lia,e2⟩
end
noncomputable abbrev key (p:Keyed):Int:=numOf p.1
theorem jI {xs:Array Keyed} {i:Nat} {p:Keyed} (h:xs[i]? = some p):K xs i=key p:=by unfold K; rw [h]
def cb (xs:Array Keyed):Prop:=∀ i j,i<=j->j < xs.size->K xs i<=K xs j
structure Mg (a b out:Array Keyed) (ia ib:Nat):Prop where
  ha:ia<=a.size
  hb:ib<=b.size
  perm:(out.toList++(a.toList.drop ia++b.toList.drop ib)).Perm (a.toList++b.toList)
  srt:(out.toList.map key).Pairwise (·<=·)
  lea:∀ x∈out.toList,∀ i,ia<=i->i < a.size->key x<=K a i
  leb:∀ x∈out.toList,∀ j,ib<=j->j < b.size->key x<=K b j
def Fin (a b R:Array Keyed):Prop:=R.toList.Perm (a.toList++b.toList)/\(R.toList.map key).Pairwise (·<=·)
variable {a b out:Array Keyed} {ia ib:Nat}
theorem vw {xs:Array Keyed} {i:Nat} {p:Keyed} (h:xs[i]? = some p):xs.toList.drop i=p::xs.toList.drop (i+1):=by
  have hi:i < xs.size:=by
    rcases Nat.lt_or_ge i xs.size with z | z
    · exact z
    · rw [Array.getElem?_eq_none z] at h; cases h
  have hi':i < xs.toList.length:=by simpa using hi
  rw [List.drop_eq_getElem_cons hi']
  congr 1
  rw [Array.getElem?_eq_getElem hi] at h
  simpa using h
theorem Mg.pushA (m:Mg a b out ia ib) (sa:cb a) (sb:cb b) {p:Keyed} (e:a[ia]? = some p) (hi:ia < a.size) (le:ib < b.size->K a ia<=K b ib):Mg a b (out.push p) (ia+1) ib:=by
  have kp:=jI e
  refine ⟨hi,m.hb,?_,?_,?_,?_⟩
  · have h:=m.perm
    rw [vw e] at h
    rw [Array.toList_push,List.append_assoc]
    exact h
  · rw [Array.toList_push,List.map_append,List.pairwise_append]
    refine ⟨m.srt,List.pairwise_singleton _ _,fun x hx y hy=>?_⟩
    obtain ⟨z,hz,rfl⟩:=List.mem_map.mp hx
    have hy:y=key p:=by simpa using hy
    rw [hy,<- kp]
    exact m.lea z hz ia (Nat.le_refl _) hi
  · intro x hx i h1 h2
    rw [Array.toList_push,List.mem_append] at hx
    rcases hx with hx | hx
    · exact m.lea x hx i (by lia) h2
    · have:x=p:=by simpa using hx
      rw [this,<- kp]
      exact sa ia i (by lia) h2
  · intro x hx j h1 h2
    rw [Array.toList_push,List.mem_append] at hx
    rcases hx with hx | hx
    · exact m.leb x hx j h1 h2
    · have:x=p:=by simpa using hx
      rw [this,<- kp]
      exact Int.le_trans (le (by lia)) (sb ib j h1 h2)
theorem yi (o:List Keyed) (x:Keyed) (r u:List Keyed):(o++[x]++(r++u)).Perm (o++(r++x::u)):=by
  rw [List.append_assoc]
  refine List.Perm.append_left o ?_
  show (x::(r++u)).Perm (r++x::u)
  exact List.perm_middle.symm
theorem Mg.pushB (m:Mg a b out ia ib) (sa:cb a) (sb:cb b) {p:Keyed} (e:b[ib]? = some p) (hi:ib < b.size) (le:ia < a.size->K b ib<=K a ia):Mg a b (out.push p) ia (ib+1):=by
  have kp:=jI e
  refine ⟨m.ha,hi,?_,?_,?_,?_⟩
  · have h:=m.perm
    rw [vw e] at h
    rw [Array.toList_push]
    exact (yi _ _ _ _).trans h
  · rw [Array.toList_push,List.map_append,List.pairwise_append]
    refine ⟨m.srt,List.pairwise_singleton _ _,fun x hx y hy=>?_⟩
    obtain ⟨z,hz,rfl⟩:=List.mem_map.mp hx
    have hy:y=key p:=by simpa using hy
    rw [hy,<- kp]
    exact m.leb z hz ib (Nat.le_refl _) hi
  · intro x hx i h1 h2
    rw [Array.toList_push,List.mem_append] at hx
    rcases hx with hx | hx
    · exact m.lea x hx i h1 h2
    · have:x=p:=by simpa using hx
      rw [this,<- kp]
      exact Int.le_trans (le (by lia)) (sa ia i h1 h2)
  · intro x hx j h1 h2
    rw [Array.toList_push,List.mem_append] at hx
    rcases hx with hx | hx
    · exact m.leb x hx j (by lia) h2
    · have:x=p:=by simpa using hx
      rw [this,<- kp]
      exact sb ib j (by lia) h2
theorem rO {xs:Array Keyed} {i k:Nat} {p:Keyed} (e:xs[i+k]? = some p):xs.extract i (i+k+1)=(xs.extract i (i+k)).push p:=by
  have hi:i+k < xs.size:=by
    rcases Nat.lt_or_ge (i+k) xs.size with z | z
    · exact z
    · rw [Array.getElem?_eq_none z] at e; cases e
  rw [Array.getElem?_eq_getElem hi] at e
  apply Array.ext'
  rw [Array.toList_push,Array.toList_extract,Array.toList_extract]
  simp only [List.extract_eq_take_drop]
  rw [show i+k+1 - i=k+1 by lia,show i+k - i=k by lia]
  have hl:k < (xs.toList.drop i).length:=by simp; lia
  rw [List.take_succ_eq_append_getElem hl]
  congr 2
  simp
  simpa using e
theorem Mg.takeA (m:Mg a b out ia ib) (sa:cb a) (sb:cb b):∀ k,ia+k<=a.size->(∀ i,i < k->ib < b.size->K a (ia+i)<=K b ib)->Mg a b (out++a.extract ia (ia+k)) (ia+k) ib
  | 0,_,_=>by
    have e:a.extract ia (ia+0) = #[]:=by simp; lia
    rw [e,Array.append_empty]
    exact m
  | k+1,h1,h2=>by
    have ih:=Mg.takeA m sa sb k (by lia) (fun i hi=>h2 i (by lia))
    have e:a[ia+k]? = some a[ia+k]:=Array.getElem?_eq_getElem (by lia)
    have e2:=rO e
    rw [show ia+(k+1)=ia+k+1 by lia,e2,Array.append_push]
    exact ih.pushA sa sb e (by lia) (h2 k (by lia))
theorem Mg.takeB (m:Mg a b out ia ib) (sa:cb a) (sb:cb b):∀ k,ib+k<=b.size->(∀ i,i < k->ia < a.size->K b (ib+i)<=K a ia)->Mg a b (out++b.extract ib (ib+k)) ia (ib+k)
  | 0,_,_=>by
    have e:b.extract ib (ib+0) = #[]:=by simp; lia
    rw [e,Array.append_empty]
    exact m
  | k+1,h1,h2=>by
    have ih:=Mg.takeB m sa sb k (by lia) (fun i hi=>h2 i (by lia))
    have e:b[ib+k]? = some b[ib+k]:=Array.getElem?_eq_getElem (by lia)
    have e2:=rO e
    rw [show ib+(k+1)=ib+k+1 by lia,e2,Array.append_push]
    exact ih.pushB sa sb e (by lia) (h2 k (by lia))
theorem Mg.fin (m:Mg a b out a.size b.size):Fin a b out:=by
  refine ⟨?_,m.srt⟩
  have h:=m.perm
  rw [List.drop_eq_nil_of_le (by simp),List.drop_eq_nil_of_le (by simp),List.append_nil,List.append_nil] at h
  exact h
theorem Mg.doneB (m:Mg a b out ia ib) (sa:cb a) (sb:cb b) (h:ib=b.size):Fin a b (out++a.extract ia a.size++b.extract ib b.size):=by
  subst h
  have h1:=m.takeA sa sb (a.size - ia) (by have:=m.ha; lia) (fun i _ z=>by lia)
  rw [show ia+(a.size - ia)=a.size by have:=m.ha; lia] at h1
  have e:b.extract b.size b.size = #[]:=by simp
  rw [e,Array.append_empty]
  exact h1.fin
theorem Mg.doneA (m:Mg a b out ia ib) (sa:cb a) (sb:cb b) (h:ia=a.size):Fin a b (out++a.extract ia a.size++b.extract ib b.size):=by
  subst h
  have e:a.extract a.size a.size = #[]:=by simp
  rw [e,Array.append_empty]
  have h1:=m.takeB sa sb (b.size - ib) (by have:=m.hb; lia) (fun i _ z=>by lia)
  rw [show ib+(b.size - ib)=b.size by have:=m.hb; lia] at h1
  exact h1.fin
theorem Mg.last (m:Mg a b out ia ib) (sa:cb a) (sb:cb b) (h:ia+1=a.size) (top:∀ j,j < b.size->K b j<=K a ia):Fin a b (out++b.extract ib b.size++a.extract ia a.size):=by
  have h1:=m.takeB sa sb (b.size - ib) (by have:=m.hb; lia) (fun i _ z=>top _ (by lia))
  rw [show ib+(b.size - ib)=b.size by have:=m.hb; lia] at h1
  have h2:=h1.takeA sa sb (a.size - ia) (by lia) (fun i _ z=>by lia)
  rw [show ia+(a.size - ia)=a.size by lia] at h2
  exact h2.fin
section
variable {prog:Program} {w:World} {A:Around} {E:Value->Shared->Prop} {s:Shared}
noncomputable def setG (st:SortSt) (g:Nat):SortSt:=SortSt.mk' (kindOf st) (arrOf st) (pendingOf st) g (failedOf st)
noncomputable def jh:Nat->StateT SortSt Sem Unit:=sortPriv% PySem.Builtin.setMinGallop
theorem mK (g:Nat):jh g=modify fun s=>setG s g:=rfl
noncomputable def r6:Array Keyed->Array Keyed->StateT SortSt Sem (Array Keyed):=sortPriv% PySem.Builtin.mergeLo
theorem fB {st:SortSt} {g:Nat} {Q:Unit->SortSt->Prop} (h:Q () (setG st g)):wpS (model prog w) A E s (jh g) Q st:=by
  rw [mK]
  exact wpS_modify h
theorem uy {st:SortSt} {a b:Array Keyed} {Q:Array Keyed->SortSt->Prop} (hk:kindOf st=oneType') (hA:IntKeys a) (hB:IntKeys b) (sa:cb a) (sb:cb b) (na:1<=a.size) (nb:1<=b.size) (first:K b 0<=K a 0) (top:∀ j,j < b.size->K b j<=K a (a.size - 1))
    (h:∀ R g,Fin a b R->Q R (setG st g)):wpS (model prog w) A E s (r6 a b) Q st:=by
  have top':∀ i,i+1=a.size->∀ j,j < b.size->K b j<=K a i:=fun i hi j hj=>by
    have:=top j hj
    rw [show a.size - 1=i by lia] at this
    exact this
  have m0:Mg a b #[] 0 0:=⟨Nat.zero_le _,Nat.zero_le _,List.Perm.refl _,.nil,(fun x hx=>by simp at hx),(fun x hx=>by simp at hx)⟩
  obtain ⟨t0,q0,e0⟩:=IntKeys.at hB (show 0 < b.size by lia)
  have m1:=m0.pushB sa sb e0 (by lia) (fun _=>first)
  unfold r6
  change wpS _ _ _ _ (bind _ _) _ _
  dsimp only
  refine wpS_bind (wpS_lift (wpAny_rule ⟨rfl,?_⟩))
  refine wpS_bind (aw e0 ?_)
  by_cases hb1:1=b.size
  · rw [if_pos (by simpa using hb1)]
    exact wpS_pure (h _ (gallopOf st) (m1.doneB sa sb hb1))
  rw [if_neg (by simpa using hb1)]
  by_cases ha1:0+1=a.size
  · rw [if_pos (by simpa using ha1)]
    exact wpS_pure (h _ (gallopOf st) (m1.last sa sb ha1 (top' _ ha1)))
  rw [if_neg (by simpa using ha1)]
  refine wpS_bind (wpS_get ?_)
  refine wpS_bind (wpS_mono (wpS_forRange (I:=fun x c st'=>∃ g out ia ib mg,st'=setG st g/\c=(none,out,ia,ib,mg)/\Mg a b out ia ib/\ia+1 < a.size/\ib < b.size/\x+1<=ia+ib)
    (Q:=fun c st'=>∃ R g r,c=(some R,r)/\st'=setG st g/\Fin a b R) ?step ?fin ⟨gallopOf st,_,0,1,_,rfl,rfl,m1,by lia,by lia,by lia⟩) ?post)
  case post =>
    rintro c st' ⟨R,g,r,rfl,rfl,f⟩
    exact wpS_pure (h R g f)
  case fin =>
    rintro c st' ⟨g,out,ia,ib,mg,rfl,rfl,m,h1,h2,h3⟩
    lia
  case step =>
    rintro x c st' _ hx ⟨g,out,ia,ib,mg,rfl,rfl,m,h1,h2,h3⟩
    dsimp only
    refine wpS_bind (wpS_mono (wpS_forRange (I:=fun y c st'=>st'=setG st g/\∃ out ia ib ac bc,c=(none,out,ia,ib,ac,bc)/\Mg a b out ia ib/\ia+1 < a.size/\ib < b.size/\x+1+y<=ia+ib)
      (Q:=fun c st'=>st'=setG st g/\((∃ R r,c=(some R,r)/\Fin a b R)\/∃ out ia ib ac bc,c=(none,out,ia,ib,ac,bc)/\Mg a b out ia ib/\ia+1 < a.size/\ib < b.size/\x+2<=ia+ib)) ?st1 ?fin1 ⟨rfl,out,ia,ib,0,0,rfl,m,h1,h2,by lia⟩) ?post1)
    case fin1 =>
      rintro c st' ⟨rfl,out,ia,ib,ac,bc,rfl,m,h1,h2,h3⟩
      exact ⟨rfl,.inr ⟨out,ia,ib,ac,bc,rfl,m,h1,h2,by lia⟩⟩
    case st1 =>
      rintro y c st' _ hy ⟨rfl,out,ia,ib,ac,bc,rfl,m,h1,h2,h3⟩
      dsimp only
      obtain ⟨tb,qb,eb⟩:=IntKeys.at hB h2
      obtain ⟨ta,qa,ea⟩:=IntKeys.at hA (show ia < a.size by lia)
      refine wpS_bind (aw eb ?_)
      refine wpS_bind (aw ea ?_)
      refine wpS_bind (ni (st:=setG st g) hk ?_)
      by_cases hw:K b ib < K a ia
      · simp only [hw,decide_true,if_true]
        have m2:=m.pushB sa sb eb h2 (fun _=>Int.le_of_lt hw)
        refine wpS_bind (aw eb ?_)
        by_cases h4:ib+1=b.size
        · rw [if_pos (by simpa using h4)]
          exact wpS_pure ⟨rfl,.inl ⟨_,_,rfl,m2.doneB sa sb h4⟩⟩
        · rw [if_neg (by simpa using h4)]
          split
          · exact wpS_pure ⟨rfl,.inr ⟨_,_,_,_,_,rfl,m2,by lia,by lia,by lia⟩⟩
          · exact wpS_pure ⟨rfl,_,_,_,_,_,rfl,m2,by lia,by lia,by lia⟩
      · simp only [hw,decide_false,Bool.false_eq_true,if_false]
        have m2:=m.pushA sa sb ea (by lia) (fun _=>Int.not_lt.mp hw)
        refine wpS_bind (aw ea ?_)
        by_cases h4:ia+1+1=a.size
        · rw [if_pos (by simpa using h4)]
          exact wpS_pure ⟨rfl,.inl ⟨_,_,rfl,m2.last sa sb h4 (top' _ h4)⟩⟩
        · rw [if_neg (by simpa using h4)]
          split
          · exact wpS_pure ⟨rfl,.inr ⟨_,_,_,_,_,rfl,m2,by lia,by lia,by lia⟩⟩
          · exact wpS_pure ⟨rfl,_,_,_,_,_,rfl,m2,by lia,by lia,by lia⟩
    case post1 =>
      rintro c st' ⟨rfl,⟨R,r,rfl,f⟩ | ⟨out,ia,ib,ac,bc,rfl,m,h1,h2,h3⟩⟩
      · exact wpS_pure ⟨R,g,_,rfl,rfl,f⟩
      dsimp only
      refine wpS_bind (wpS_lift (wpAny_rule ⟨rfl,?_⟩))
      refine wpS_bind (wpS_mono (wpS_forRange (I:=fun y c st'=>∃ g out ia ib mg ac bc,st'=setG st g/\c=(none,out,ia,ib,mg,ac,bc)/\Mg a b out ia ib/\ia+1 < a.size/\ib < b.size/\x+2<=ia+ib)
        (Q:=fun c st'=>(∃ R g r,c=(some R,r)/\st'=setG st g/\Fin a b R)\/∃ g out ia ib mg ac bc,st'=setG st g/\c=(none,out,ia,ib,mg,ac,bc)/\Mg a b out ia ib/\ia+1 < a.size/\ib < b.size/\x+2<=ia+ib) ?st2 ?fin2 ⟨g,out,ia,ib,_,ac,bc,rfl,rfl,m,h1,h2,h3⟩) ?post2)
      case fin2 =>
        rintro c st' ⟨g,out,ia,ib,mg,ac,bc,rfl,rfl,m,h1,h2,h3⟩
        exact .inr ⟨g,out,ia,ib,mg,ac,bc,rfl,rfl,m,h1,h2,h3⟩
      case post2 =>
        rintro c st' (⟨R,g,r,rfl,rfl,f⟩ | ⟨g,out,ia,ib,mg,ac,bc,rfl,rfl,m,h1,h2,h3⟩)
        · exact wpS_pure ⟨R,g,_,rfl,rfl,f⟩
        · dsimp only
          refine wpS_bind (fB ?_)
          exact wpS_pure ⟨mg+1,out,ia,ib,mg+1,rfl,rfl,m,h1,h2,by lia⟩
      case st2 =>
        rintro y c st' _ hy ⟨g,out,ia,ib,mg,ac,bc,rfl,rfl,m,h1,hib,h3⟩
        dsimp only
        by_cases hmg:mg > 1
        · rw [if_pos hmg]
          obtain ⟨tb,qb,eb⟩:=IntKeys.at hB hib
          refine wpS_bind (fB ?_)
          show wpS _ _ _ _ _ _ (setG st (mg - 1))
          obtain ⟨gg,egg⟩:∃ gg,(mg - 1)=gg:=⟨_,rfl⟩
          rw [egg]
          refine wpS_bind (aw eb ?_)
          refine wpS_bind (bK (st:=setG st gg) hk hA (by lia) (by lia) (fun i j h6 h7=>sa _ _ (by lia) (by lia)) fun k kn low high=>?_)
          dsimp only
          by_cases hk1:k > 0
          · rw [if_pos hk1]
            have m1:=m.takeA sa sb k (by lia) (fun i hi _=>by have:=low i hi; unfold bY at this; simp at this; lia)
            by_cases h2:ia+k+1=a.size
            · rw [if_pos (by simpa using h2)]
              exact wpS_pure (.inl ⟨_,_,_,rfl,rfl,m1.last sa sb h2 (top' _ h2)⟩)
            · rw [if_neg (by simpa using h2)]
              by_cases h3:ia+k=a.size
              · rw [if_pos (by simpa using h3)]
                exact wpS_pure (.inl ⟨_,_,_,rfl,rfl,m1.doneA sa sb h3⟩)
              · rw [if_neg (by simpa using h3)]
                have leb:ia+k < a.size->K b ib<=K a (ia+k):=fun z=>by have:=high k (Nat.le_refl _) (by lia); unfold bY at this; simp at this; lia
                have m2:=m1.pushB sa sb eb hib leb
                obtain ⟨ta,qa,ea2⟩:=IntKeys.at hA (show ia+k < a.size by lia)
                refine wpS_bind (aw eb ?_)
                by_cases h4:ib+1=b.size
                · rw [if_pos (by simpa using h4)]
                  exact wpS_pure (.inl ⟨_,_,_,rfl,rfl,m2.doneB sa sb h4⟩)
                · rw [if_neg (by simpa using h4)]
                  refine wpS_bind (aw ea2 ?_)
                  refine wpS_bind (bK (st:=setG st gg) hk hB (by lia) (by lia) (fun i j h6 h7=>sb _ _ (by lia) (by lia)) fun k2 k2n low2 high2=>?_)
                  dsimp only
                  by_cases hk2:k2 > 0
                  · rw [if_pos hk2]
                    have m2':=m2.takeB sa sb k2 (by lia) (fun i hi _=>Int.le_of_lt (of_decide_eq_true (low2 i hi)))
                    by_cases h8:ib+1+k2=b.size
                    · rw [if_pos (by simpa using h8)]
                      exact wpS_pure (.inl ⟨_,_,_,rfl,rfl,m2'.doneB sa sb h8⟩)
                    · rw [if_neg (by simpa using h8)]
                      have le3:ib+1+k2 < b.size->K a (ia+k)<=K b (ib+1+k2):=fun z=>Int.not_lt.mp (of_decide_eq_false (high2 k2 (Nat.le_refl _) (by lia)))
                      have m3:=m2'.pushA sa sb ea2 (by lia) le3
                      refine wpS_bind (aw ea2 ?_)
                      by_cases h5:ia+k+1+1=a.size
                      · rw [if_pos (by simpa using h5)]
                        exact wpS_pure (.inl ⟨_,_,_,rfl,rfl,m3.last sa sb h5 (top' _ h5)⟩)
                      · rw [if_neg (by simpa using h5)]
                        split
                        · exact wpS_pure (.inr ⟨_,_,_,_,_,_,_,rfl,rfl,m3,by lia,by lia,by lia⟩)
                        · exact wpS_pure ⟨_,_,_,_,_,_,_,rfl,rfl,m3,by lia,by lia,by lia⟩
                  · rw [if_neg hk2]
                    have k20:k2=0:=by lia
                    subst k20
                    have le3:ib+1 < b.size->K a (ia+k)<=K b (ib+1):=fun z=>Int.not_lt.mp (of_decide_eq_false (high2 0 (Nat.le_refl _) (by lia)))
                    have m3:=m2.pushA sa sb ea2 (by lia) le3
                    refine wpS_bind (aw ea2 ?_)
                    by_cases h5:ia+k+1+1=a.size
                    · rw [if_pos (by simpa using h5)]
                      exact wpS_pure (.inl ⟨_,_,_,rfl,rfl,m3.last sa sb h5 (top' _ h5)⟩)
                    · rw [if_neg (by simpa using h5)]
                      split
                      · exact wpS_pure (.inr ⟨_,_,_,_,_,_,_,rfl,rfl,m3,by lia,by lia,by lia⟩)
                      · exact wpS_pure ⟨_,_,_,_,_,_,_,rfl,rfl,m3,by lia,by lia,by lia⟩
          · rw [if_neg hk1]
            have k0:k=0:=by lia
            subst k0
            have leb:ia < a.size->K b ib<=K a (ia):=fun z=>by have:=high 0 (Nat.le_refl _) (by lia); unfold bY at this; simp at this; lia
            have m2:=m.pushB sa sb eb hib leb
            obtain ⟨ta,qa,ea2⟩:=IntKeys.at hA (show ia < a.size by lia)
            refine wpS_bind (aw eb ?_)
            by_cases h4:ib+1=b.size
            · rw [if_pos (by simpa using h4)]
              exact wpS_pure (.inl ⟨_,_,_,rfl,rfl,m2.doneB sa sb h4⟩)
            · rw [if_neg (by simpa using h4)]
              refine wpS_bind (aw ea2 ?_)
              refine wpS_bind (bK (st:=setG st gg) hk hB (by lia) (by lia) (fun i j h6 h7=>sb _ _ (by lia) (by lia)) fun k2 k2n low2 high2=>?_)
              dsimp only
              by_cases hk2:k2 > 0
              · rw [if_pos hk2]
                have m2':=m2.takeB sa sb k2 (by lia) (fun i hi _=>Int.le_of_lt (of_decide_eq_true (low2 i hi)))
                by_cases h8:ib+1+k2=b.size
                · rw [if_pos (by simpa using h8)]
                  exact wpS_pure (.inl ⟨_,_,_,rfl,rfl,m2'.doneB sa sb h8⟩)
                · rw [if_neg (by simpa using h8)]
                  have le3:ib+1+k2 < b.size->K a ia<=K b (ib+1+k2):=fun z=>Int.not_lt.mp (of_decide_eq_false (high2 k2 (Nat.le_refl _) (by lia)))
                  have m3:=m2'.pushA sa sb ea2 (by lia) le3
                  refine wpS_bind (aw ea2 ?_)
                  by_cases h5:ia+1+1=a.size
                  · rw [if_pos (by simpa using h5)]
                    exact wpS_pure (.inl ⟨_,_,_,rfl,rfl,m3.last sa sb h5 (top' _ h5)⟩)
                  · rw [if_neg (by simpa using h5)]
                    split
                    · exact wpS_pure (.inr ⟨_,_,_,_,_,_,_,rfl,rfl,m3,by lia,by lia,by lia⟩)
                    · exact wpS_pure ⟨_,_,_,_,_,_,_,rfl,rfl,m3,by lia,by lia,by lia⟩
              · rw [if_neg hk2]
                have k20:k2=0:=by lia
                subst k20
                have le3:ib+1 < b.size->K a ia<=K b (ib+1):=fun z=>Int.not_lt.mp (of_decide_eq_false (high2 0 (Nat.le_refl _) (by lia)))
                have m3:=m2.pushA sa sb ea2 (by lia) le3
                refine wpS_bind (aw ea2 ?_)
                by_cases h5:ia+1+1=a.size
                · rw [if_pos (by simpa using h5)]
                  exact wpS_pure (.inl ⟨_,_,_,rfl,rfl,m3.last sa sb h5 (top' _ h5)⟩)
                · rw [if_neg (by simpa using h5)]
                  split
                  · exact wpS_pure (.inr ⟨_,_,_,_,_,_,_,rfl,rfl,m3,by lia,by lia,by lia⟩)
                  · exact wpS_pure ⟨_,_,_,_,_,_,_,rfl,rfl,m3,by lia,by lia,by lia⟩
        · rw [if_neg hmg]
          obtain ⟨tb,qb,eb⟩:=IntKeys.at hB hib
          refine wpS_bind (fB ?_)
          show wpS _ _ _ _ _ _ (setG st mg)
          obtain ⟨gg,egg⟩:∃ gg,mg=gg:=⟨_,rfl⟩
          rw [egg]
          refine wpS_bind (aw eb ?_)
          refine wpS_bind (bK (st:=setG st gg) hk hA (by lia) (by lia) (fun i j h6 h7=>sa _ _ (by lia) (by lia)) fun k kn low high=>?_)
          dsimp only
          by_cases hk1:k > 0
          · rw [if_pos hk1]
            have m1:=m.takeA sa sb k (by lia) (fun i hi _=>by have:=low i hi; unfold bY at this; simp at this; lia)
            by_cases h2:ia+k+1=a.size
            · rw [if_pos (by simpa using h2)]
              exact wpS_pure (.inl ⟨_,_,_,rfl,rfl,m1.last sa sb h2 (top' _ h2)⟩)
            · rw [if_neg (by simpa using h2)]
              by_cases h3:ia+k=a.size
              · rw [if_pos (by simpa using h3)]
                exact wpS_pure (.inl ⟨_,_,_,rfl,rfl,m1.doneA sa sb h3⟩)
              · rw [if_neg (by simpa using h3)]
                have leb:ia+k < a.size->K b ib<=K a (ia+k):=fun z=>by have:=high k (Nat.le_refl _) (by lia); unfold bY at this; simp at this; lia
                have m2:=m1.pushB sa sb eb hib leb
                obtain ⟨ta,qa,ea2⟩:=IntKeys.at hA (show ia+k < a.size by lia)
                refine wpS_bind (aw eb ?_)
                by_cases h4:ib+1=b.size
                · rw [if_pos (by simpa using h4)]
                  exact wpS_pure (.inl ⟨_,_,_,rfl,rfl,m2.doneB sa sb h4⟩)
                · rw [if_neg (by simpa using h4)]
                  refine wpS_bind (aw ea2 ?_)
                  refine wpS_bind (bK (st:=setG st gg) hk hB (by lia) (by lia) (fun i j h6 h7=>sb _ _ (by lia) (by lia)) fun k2 k2n low2 high2=>?_)
                  dsimp only
                  by_cases hk2:k2 > 0
                  · rw [if_pos hk2]
                    have m2':=m2.takeB sa sb k2 (by lia) (fun i hi _=>Int.le_of_lt (of_decide_eq_true (low2 i hi)))
                    by_cases h8:ib+1+k2=b.size
                    · rw [if_pos (by simpa using h8)]
                      exact wpS_pure (.inl ⟨_,_,_,rfl,rfl,m2'.doneB sa sb h8⟩)
                    · rw [if_neg (by simpa using h8)]
                      have le3:ib+1+k2 < b.size->K a (ia+k)<=K b (ib+1+k2):=fun z=>Int.not_lt.mp (of_decide_eq_false (high2 k2 (Nat.le_refl _) (by lia)))
                      have m3:=m2'.pushA sa sb ea2 (by lia) le3
                      refine wpS_bind (aw ea2 ?_)
                      by_cases h5:ia+k+1+1=a.size
                      · rw [if_pos (by simpa using h5)]
                        exact wpS_pure (.inl ⟨_,_,_,rfl,rfl,m3.last sa sb h5 (top' _ h5)⟩)
                      · rw [if_neg (by simpa using h5)]
                        split
                        · exact wpS_pure (.inr ⟨_,_,_,_,_,_,_,rfl,rfl,m3,by lia,by lia,by lia⟩)
                        · exact wpS_pure ⟨_,_,_,_,_,_,_,rfl,rfl,m3,by lia,by lia,by lia⟩
                  · rw [if_neg hk2]
                    have k20:k2=0:=by lia
                    subst k20
                    have le3:ib+1 < b.size->K a (ia+k)<=K b (ib+1):=fun z=>Int.not_lt.mp (of_decide_eq_false (high2 0 (Nat.le_refl _) (by lia)))
                    have m3:=m2.pushA sa sb ea2 (by lia) le3
                    refine wpS_bind (aw ea2 ?_)
                    by_cases h5:ia+k+1+1=a.size
                    · rw [if_pos (by simpa using h5)]
                      exact wpS_pure (.inl ⟨_,_,_,rfl,rfl,m3.last sa sb h5 (top' _ h5)⟩)
                    · rw [if_neg (by simpa using h5)]
                      split
                      · exact wpS_pure (.inr ⟨_,_,_,_,_,_,_,rfl,rfl,m3,by lia,by lia,by lia⟩)
                      · exact wpS_pure ⟨_,_,_,_,_,_,_,rfl,rfl,m3,by lia,by lia,by lia⟩
          · rw [if_neg hk1]
            have k0:k=0:=by lia
            subst k0
            have leb:ia < a.size->K b ib<=K a (ia):=fun z=>by have:=high 0 (Nat.le_refl _) (by lia); unfold bY at this; simp at this; lia
            have m2:=m.pushB sa sb eb hib leb
            obtain ⟨ta,qa,ea2⟩:=IntKeys.at hA (show ia < a.size by lia)
            refine wpS_bind (aw eb ?_)
            by_cases h4:ib+1=b.size
            · rw [if_pos (by simpa using h4)]
              exact wpS_pure (.inl ⟨_,_,_,rfl,rfl,m2.doneB sa sb h4⟩)
            · rw [if_neg (by simpa using h4)]
              refine wpS_bind (aw ea2 ?_)
              refine wpS_bind (bK (st:=setG st gg) hk hB (by lia) (by lia) (fun i j h6 h7=>sb _ _ (by lia) (by lia)) fun k2 k2n low2 high2=>?_)
              dsimp only
              by_cases hk2:k2 > 0
              · rw [if_pos hk2]
                have m2':=m2.takeB sa sb k2 (by lia) (fun i hi _=>Int.le_of_lt (of_decide_eq_true (low2 i hi)))
                by_cases h8:ib+1+k2=b.size
                · rw [if_pos (by simpa using h8)]
                  exact wpS_pure (.inl ⟨_,_,_,rfl,rfl,m2'.doneB sa sb h8⟩)
                · rw [if_neg (by simpa using h8)]
                  have le3:ib+1+k2 < b.size->K a ia<=K b (ib+1+k2):=fun z=>Int.not_lt.mp (of_decide_eq_false (high2 k2 (Nat.le_refl _) (by lia)))
                  have m3:=m2'.pushA sa sb ea2 (by lia) le3
                  refine wpS_bind (aw ea2 ?_)
                  by_cases h5:ia+1+1=a.size
                  · rw [if_pos (by simpa using h5)]
                    exact wpS_pure (.inl ⟨_,_,_,rfl,rfl,m3.last sa sb h5 (top' _ h5)⟩)
                  · rw [if_neg (by simpa using h5)]
                    split
                    · exact wpS_pure (.inr ⟨_,_,_,_,_,_,_,rfl,rfl,m3,by lia,by lia,by lia⟩)
                    · exact wpS_pure ⟨_,_,_,_,_,_,_,rfl,rfl,m3,by lia,by lia,by lia⟩
              · rw [if_neg hk2]
                have k20:k2=0:=by lia
                subst k20
                have le3:ib+1 < b.size->K a ia<=K b (ib+1):=fun z=>Int.not_lt.mp (of_decide_eq_false (high2 0 (Nat.le_refl _) (by lia)))
                have m3:=m2.pushA sa sb ea2 (by lia) le3
                refine wpS_bind (aw ea2 ?_)
                by_cases h5:ia+1+1=a.size
                · rw [if_pos (by simpa using h5)]
                  exact wpS_pure (.inl ⟨_,_,_,rfl,rfl,m3.last sa sb h5 (top' _ h5)⟩)
                · rw [if_neg (by simpa using h5)]
                  split
                  · exact wpS_pure (.inr ⟨_,_,_,_,_,_,_,rfl,rfl,m3,by lia,by lia,by lia⟩)
                  · exact wpS_pure ⟨_,_,_,_,_,_,_,rfl,rfl,m3,by lia,by lia,by lia⟩
end
structure Mh (a b out:Array Keyed) (na nb:Nat):Prop where
  ha:na<=a.size
  hb:nb<=b.size
  perm:(a.toList.take na++(b.toList.take nb++out.toList.reverse)).Perm (a.toList++b.toList)
  srt:(out.toList.map key).Pairwise (fun x y=>y<=x)
  lea:∀ x∈out.toList,∀ i,i < na->K a i<=key x
  leb:∀ x∈out.toList,∀ j,j < nb->K b j<=key x
theorem uU {xs:Array Keyed} {n:Nat} {p:Keyed} (h:xs[n]? = some p):xs.toList.take (n+1)=xs.toList.take n++[p]:=by
  have hi:n < xs.size:=by
    rcases Nat.lt_or_ge n xs.size with z | z
    · exact z
    · rw [Array.getElem?_eq_none z] at h; cases h
  have hi':n < xs.toList.length:=by simpa using hi
  rw [List.take_succ_eq_append_getElem hi']
  congr 2
  rw [Array.getElem?_eq_getElem hi] at h
  simpa using h
variable {na nb:Nat}
theorem Mh.pushA (m:Mh a b out (na+1) nb) (sa:cb a) (sb:cb b) {p:Keyed} (e:a[na]? = some p) (le:0 < nb->K b (nb - 1)<=K a na):Mh a b (out.push p) na nb:=by
  have kp:=jI e
  have ha:=m.ha
  refine ⟨by lia,m.hb,?_,?_,?_,?_⟩
  · have h:=m.perm
    rw [uU e] at h
    rw [Array.toList_push,List.reverse_append]
    refine List.Perm.trans ?_ h
    rw [List.append_assoc]
    refine List.Perm.append_left _ ?_
    show (b.toList.take nb++p::out.toList.reverse).Perm (p::(b.toList.take nb++out.toList.reverse))
    exact List.perm_middle
  · rw [Array.toList_push,List.map_append,List.pairwise_append]
    refine ⟨m.srt,List.pairwise_singleton _ _,fun x hx y hy=>?_⟩
    obtain ⟨z,hz,rfl⟩:=List.mem_map.mp hx
    have hy:y=key p:=by simpa using hy
    rw [hy,<- kp]
    exact m.lea z hz na (by lia)
  · intro x hx i h1
    rw [Array.toList_push,List.mem_append] at hx
    rcases hx with hx | hx
    · exact m.lea x hx i (by lia)
    · have:x=p:=by simpa using hx
      rw [this,<- kp]
      exact sa i na (by lia) (by lia)
  · intro x hx j h1
    rw [Array.toList_push,List.mem_append] at hx
    rcases hx with hx | hx
    · exact m.leb x hx j h1
    · have:x=p:=by simpa using hx
      rw [this,<- kp]
      exact Int.le_trans (sb j (nb - 1) (by lia) (by have:=m.hb; lia)) (le (by lia))
theorem Mh.pushB (m:Mh a b out na (nb+1)) (sa:cb a) (sb:cb b) {p:Keyed} (e:b[nb]? = some p) (le:0 < na->K a (na - 1)<=K b nb):Mh a b (out.push p) na nb:=by
  have kp:=jI e
  have hb:=m.hb
  refine ⟨m.ha,by lia,?_,?_,?_,?_⟩
  · have h:=m.perm
    rw [uU e] at h
    rw [Array.toList_push,List.reverse_append]
    refine List.Perm.trans ?_ h
    rw [List.append_assoc]
    exact List.Perm.refl _
  · rw [Array.toList_push,List.map_append,List.pairwise_append]
    refine ⟨m.srt,List.pairwise_singleton _ _,fun x hx y hy=>?_⟩
    obtain ⟨z,hz,rfl⟩:=List.mem_map.mp hx
    have hy:y=key p:=by simpa using hy
    rw [hy,<- kp]
    exact m.leb z hz nb (by lia)
  · intro x hx i h1
    rw [Array.toList_push,List.mem_append] at hx
    rcases hx with hx | hx
    · exact m.lea x hx i h1
    · have:x=p:=by simpa using hx
      rw [this,<- kp]
      exact Int.le_trans (sa i (na - 1) (by lia) (by have:=m.ha; lia)) (le (by lia))
  · intro x hx j h1
    rw [Array.toList_push,List.mem_append] at hx
    rcases hx with hx | hx
    · exact m.leb x hx j (by lia)
    · have:x=p:=by simpa using hx
      rw [this,<- kp]
      exact sb j nb (by lia) (by lia)
theorem sN {xs:Array Keyed} {i n:Nat} {p:Keyed} (hi:i<=n) (e:xs[i]? = some p) (hn:n<=xs.size) (hlt:i < n):(xs.extract i n).reverse=(xs.extract (i+1) n).reverse.push p:=by
  have hz:i < xs.size:=by lia
  rw [Array.getElem?_eq_getElem hz] at e
  apply Array.ext'
  rw [Array.toList_push,Array.toList_reverse,Array.toList_reverse,Array.toList_extract,Array.toList_extract]
  simp only [List.extract_eq_take_drop]
  have hl:i < xs.toList.length:=by simpa using hz
  rw [List.drop_eq_getElem_cons hl,show n - i=(n - (i+1))+1 by lia,List.take_succ_cons,List.reverse_cons]
  congr 2
  simpa using e
theorem Mh.takeA (sa:cb a) (sb:cb b):∀ (k:Nat) {na:Nat} {out:Array Keyed},Mh a b out na nb->∀ lo,lo+k=na->(∀ i,lo<=i->i < na->0 < nb->K b (nb - 1)<=K a i)->Mh a b (out++(a.extract lo na).reverse) lo nb
  | 0,na,out,m,lo,h,_=>by
    have:lo=na:=by lia
    subst this
    have e:a.extract lo lo = #[]:=by simp; lia
    rw [e]
    simpa using m
  | k+1,na,out,m,lo,h,h2=>by
    have ih:=Mh.takeA sa sb k m (lo+1) (by lia) (fun i hi=>h2 i (by lia))
    have ha:=m.ha
    have e:a[lo]? = some a[lo]:=Array.getElem?_eq_getElem (by lia)
    rw [sN (by lia) e ha (by lia),Array.append_push]
    exact ih.pushA sa sb e (h2 lo (Nat.le_refl _) (by lia))
theorem Mh.takeB (sa:cb a) (sb:cb b):∀ (k:Nat) {nb:Nat} {out:Array Keyed},Mh a b out na nb->∀ lo,lo+k=nb->(∀ i,lo<=i->i < nb->0 < na->K a (na - 1)<=K b i)->Mh a b (out++(b.extract lo nb).reverse) na lo
  | 0,nb,out,m,lo,h,_=>by
    have:lo=nb:=by lia
    subst this
    have e:b.extract lo lo = #[]:=by simp; lia
    rw [e]
    simpa using m
  | k+1,nb,out,m,lo,h,h2=>by
    have ih:=Mh.takeB sa sb k m (lo+1) (by lia) (fun i hi=>h2 i (by lia))
    have hb:=m.hb
    have e:b[lo]? = some b[lo]:=Array.getElem?_eq_getElem (by lia)
    rw [sN (by lia) e hb (by lia),Array.append_push]
    exact ih.pushB sa sb e (h2 lo (Nat.le_refl _) (by lia))
theorem Mh.fin (m:Mh a b out 0 0):Fin a b out.reverse:=by
  have h:=m.perm
  refine ⟨?_,?_⟩
  · rw [Array.toList_reverse]; exact h
  · rw [Array.toList_reverse,List.map_reverse,List.pairwise_reverse]
    exact m.srt
theorem Mh.doneA (m:Mh a b out na nb) (sa:cb a) (sb:cb b) (h:na=0):Fin a b (a.extract 0 na++b.extract 0 nb++out.reverse):=by
  subst h
  have h1:=Mh.takeB sa sb nb m 0 (by lia) (fun i _ _ z=>by lia)
  have h2:=h1.fin
  have e:a.extract 0 0 = #[]:=by simp
  rw [e]
  simpa using h2
theorem Mh.doneB (m:Mh a b out na nb) (sa:cb a) (sb:cb b) (h:nb=0):Fin a b (a.extract 0 na++b.extract 0 nb++out.reverse):=by
  subst h
  have h1:=Mh.takeA sa sb na m 0 (by lia) (fun i _ _ z=>by lia)
  have h2:=h1.fin
  have e:b.extract 0 0 = #[]:=by simp
  rw [e]
  simpa using h2
theorem Mh.firstB (m:Mh a b out na nb) (sa:cb a) (sb:cb b) (h:nb=1) (first:∀ i,i < a.size->K b 0<=K a i):Fin a b (b.extract 0 nb++a.extract 0 na++out.reverse):=by
  subst h
  have h1:=Mh.takeA sa sb na m 0 (by lia) (fun i _ z _=>first i (by have:=m.ha; lia))
  have h2:=Mh.takeB sa sb 1 h1 0 rfl (fun i _ _ z=>by lia)
  have h3:=h2.fin
  simpa using h3
section
variable {prog:Program} {w:World} {A:Around} {E:Value->Shared->Prop} {s:Shared}
noncomputable def tX:Array Keyed->Array Keyed->StateT SortSt Sem (Array Keyed):=sortPriv% PySem.Builtin.mergeHi
theorem uD {st:SortSt} {a b:Array Keyed} {Q:Array Keyed->SortSt->Prop} (hk:kindOf st=oneType') (hA:IntKeys a) (hB:IntKeys b) (sa:cb a) (sb:cb b) (na0:1<=a.size) (nb0:1<=b.size) (first:K b 0<=K a 0) (top:∀ j,j < b.size->K b j<=K a (a.size - 1))
    (h:∀ R g,Fin a b R->Q R (setG st g)):wpS (model prog w) A E s (tX a b) Q st:=by
  have first':∀ i,i < a.size->K b 0<=K a i:=fun i hi=>Int.le_trans first (sa 0 i (Nat.zero_le _) hi)
  have m0:Mh a b #[] (a.size - 1+1) b.size:=⟨by lia,Nat.le_refl _,by rw [List.take_of_length_le (by simp; lia),List.take_of_length_le (by simp)]; simp,.nil,(fun x hx=>by simp at hx),(fun x hx=>by simp at hx)⟩
  obtain ⟨t0,q0,e0⟩:=IntKeys.at hA (show a.size - 1 < a.size by lia)
  have m1:=m0.pushA sa sb e0 (fun _=>top _ (by lia))
  unfold tX
  change wpS _ _ _ _ (bind _ _) _ _
  dsimp only
  refine wpS_bind (wpS_lift (wpAny_rule ⟨rfl,?_⟩))
  refine wpS_bind (aw e0 ?_)
  by_cases ha1:a.size - 1=0
  · rw [if_pos (by simpa using ha1)]
    exact wpS_pure (h _ (gallopOf st) (m1.doneA sa sb ha1))
  rw [if_neg (by simpa using ha1)]
  by_cases hb1:b.size=1
  · rw [if_pos (by simpa using hb1)]
    exact wpS_pure (h _ (gallopOf st) (m1.firstB sa sb hb1 first'))
  rw [if_neg (by simpa using hb1)]
  refine wpS_bind (wpS_get ?_)
  refine wpS_bind (wpS_mono (wpS_forRange (I:=fun x c st'=>∃ g na nb out mg,st'=setG st g/\c=(none,na,nb,out,mg)/\Mh a b out na nb/\1<=na/\2<=nb/\x+1+na+nb<=a.size+b.size)
    (Q:=fun c st'=>∃ R g r,c=(some R,r)/\st'=setG st g/\Fin a b R) ?step ?fin ⟨gallopOf st,a.size - 1,b.size,_,_,rfl,rfl,m1,by lia,by lia,by lia⟩) ?post)
  case post =>
    rintro c st' ⟨R,g,r,rfl,rfl,f⟩
    exact wpS_pure (h R g f)
  case fin =>
    rintro c st' ⟨g,na,nb,out,mg,rfl,rfl,m,h1,h2,h3⟩
    lia
  case step =>
    rintro x c st' _ hx ⟨g,na,nb,out,mg,rfl,rfl,m,h1,h2,h3⟩
    dsimp only
    refine wpS_bind (wpS_mono (wpS_forRange (I:=fun y c st'=>st'=setG st g/\∃ na nb out ac bc,c=(none,na,nb,out,ac,bc)/\Mh a b out na nb/\1<=na/\2<=nb/\x+1+y+na+nb<=a.size+b.size)
      (Q:=fun c st'=>st'=setG st g/\((∃ R r,c=(some R,r)/\Fin a b R)\/∃ na nb out ac bc,c=(none,na,nb,out,ac,bc)/\Mh a b out na nb/\1<=na/\2<=nb/\x+2+na+nb<=a.size+b.size)) ?st1 ?fin1 ⟨rfl,na,nb,out,0,0,rfl,m,h1,h2,by lia⟩) ?post1)
    case fin1 =>
      rintro c st' ⟨rfl,na,nb,out,ac,bc,rfl,m,h1,h2,h3⟩
      exact ⟨rfl,.inr ⟨na,nb,out,ac,bc,rfl,m,h1,h2,by lia⟩⟩
    case st1 =>
      rintro y c st' _ hy ⟨rfl,na,nb,out,ac,bc,rfl,m,h1,h2,h3⟩
      dsimp only
      have haz:=m.ha
      have hbz:=m.hb
      obtain ⟨tb,qb,eb⟩:=IntKeys.at hB (show nb - 1 < b.size by lia)
      obtain ⟨ta,qa,ea⟩:=IntKeys.at hA (show na - 1 < a.size by lia)
      refine wpS_bind (aw eb ?_)
      refine wpS_bind (aw ea ?_)
      refine wpS_bind (ni (st:=setG st g) hk ?_)
      by_cases hw:K b (nb - 1) < K a (na - 1)
      · simp only [hw,decide_true,if_true]
        have m2:Mh a b _ (na - 1) nb:=Mh.pushA (na:=na - 1) (by rw [show na - 1+1=na by lia]; exact m) sa sb ea (fun _=>Int.le_of_lt hw)
        refine wpS_bind (aw ea ?_)
        by_cases h4:na - 1=0
        · rw [if_pos (by simpa using h4)]
          exact wpS_pure ⟨rfl,.inl ⟨_,_,rfl,m2.doneA sa sb h4⟩⟩
        · rw [if_neg (by simpa using h4)]
          split
          · exact wpS_pure ⟨rfl,.inr ⟨_,_,_,_,_,rfl,m2,by lia,by lia,by lia⟩⟩
          · exact wpS_pure ⟨rfl,_,_,_,_,_,rfl,m2,by lia,by lia,by lia⟩
      · simp only [hw,decide_false,Bool.false_eq_true,if_false]
        have m2:Mh a b _ na (nb - 1):=Mh.pushB (nb:=nb - 1) (by rw [show nb - 1+1=nb by lia]; exact m) sa sb eb (fun _=>Int.not_lt.mp hw)
        refine wpS_bind (aw eb ?_)
        by_cases h4:nb - 1=1
        · rw [if_pos (by simpa using h4)]
          exact wpS_pure ⟨rfl,.inl ⟨_,_,rfl,m2.firstB sa sb h4 first'⟩⟩
        · rw [if_neg (by simpa using h4)]
          split
          · exact wpS_pure ⟨rfl,.inr ⟨_,_,_,_,_,rfl,m2,by lia,by lia,by lia⟩⟩
          · exact wpS_pure ⟨rfl,_,_,_,_,_,rfl,m2,by lia,by lia,by lia⟩
    case post1 =>
      rintro c st' ⟨rfl,⟨R,r,rfl,f⟩ | ⟨na,nb,out,ac,bc,rfl,m,h1,h2,h3⟩⟩
      · exact wpS_pure ⟨R,g,_,rfl,rfl,f⟩
      dsimp only
      refine wpS_bind (wpS_lift (wpAny_rule ⟨rfl,?_⟩))
      refine wpS_bind (wpS_mono (wpS_forRange (I:=fun y c st'=>∃ g na nb out mg ac bc,st'=setG st g/\c=(none,na,nb,out,mg,ac,bc)/\Mh a b out na nb/\1<=na/\2<=nb/\x+2+na+nb<=a.size+b.size)
        (Q:=fun c st'=>(∃ R g r,c=(some R,r)/\st'=setG st g/\Fin a b R)\/∃ g na nb out mg ac bc,st'=setG st g/\c=(none,na,nb,out,mg,ac,bc)/\Mh a b out na nb/\1<=na/\2<=nb/\x+2+na+nb<=a.size+b.size) ?st2 ?fin2 ⟨g,na,nb,out,_,ac,bc,rfl,rfl,m,h1,h2,h3⟩) ?post2)
      case fin2 =>
        rintro c st' ⟨g,na,nb,out,mg,ac,bc,rfl,rfl,m,h1,h2,h3⟩
        exact .inr ⟨g,na,nb,out,mg,ac,bc,rfl,rfl,m,h1,h2,h3⟩
      case post2 =>
        rintro c st' (⟨R,g,r,rfl,rfl,f⟩ | ⟨g,na,nb,out,mg,ac,bc,rfl,rfl,m,h1,h2,h3⟩)
        · exact wpS_pure ⟨R,g,_,rfl,rfl,f⟩
        · dsimp only
          refine wpS_bind (fB ?_)
          exact wpS_pure ⟨mg+1,na,nb,out,mg+1,rfl,rfl,m,h1,h2,by lia⟩
      case st2 =>
        rintro y c st' _ hy ⟨g,na,nb,out,mg,ac,bc,rfl,rfl,m,h1,hib,h3⟩
        dsimp only
        by_cases hmg:mg > 1
        · rw [if_pos hmg]
          have hbz:nb<=b.size:=m.hb
          have haz:na<=a.size:=m.ha
          obtain ⟨tb,qb,eb⟩:=IntKeys.at hB (show nb - 1 < b.size by lia)
          refine wpS_bind (fB ?_)
          show wpS _ _ _ _ _ _ (setG st (mg - 1))
          obtain ⟨gg,egg⟩:∃ gg,(mg - 1)=gg:=⟨_,rfl⟩
          rw [egg]
          refine wpS_bind (aw eb ?_)
          refine wpS_bind (bK (st:=setG st gg) hk hA (by lia) (by lia) (fun i j h6 h7=>sa _ _ (by lia) (by lia)) fun k kn low high=>?_)
          simp only [Nat.zero_add] at low high
          dsimp only
          by_cases hk1:na - k > 0
          · rw [if_pos hk1]
            have m1:=Mh.takeA sa sb (na - k) m k (by lia) (fun i hi hj _=>by have:=high i hi hj; unfold bY at this; simp at this; lia)
            by_cases h2:k=0
            · rw [if_pos (by simpa using h2)]
              exact wpS_pure (.inl ⟨_,_,_,rfl,rfl,m1.doneA sa sb h2⟩)
            · rw [if_neg (by simpa using h2)]
              have m2:Mh a b _ (k) (nb - 1):=Mh.pushB (nb:=nb - 1) (by rw [show nb - 1+1=nb by lia]; exact m1) sa sb eb (fun z=>by have:=low (k - 1) (by lia); unfold bY at this; simp at this; lia)
              have la:k<=a.size:=m2.ha
              obtain ⟨ta,qa,ea2⟩:=IntKeys.at hA (show k - 1 < a.size by lia)
              refine wpS_bind (aw eb ?_)
              by_cases h4:nb - 1=1
              · rw [if_pos (by simpa using h4)]
                exact wpS_pure (.inl ⟨_,_,_,rfl,rfl,m2.firstB sa sb h4 first'⟩)
              · rw [if_neg (by simpa using h4)]
                refine wpS_bind (aw ea2 ?_)
                refine wpS_bind (bK (st:=setG st gg) hk hB (by lia) (by lia) (fun i j h6 h7=>sb _ _ (by lia) (by lia)) fun k2 k2n low2 high2=>?_)
                simp only [Nat.zero_add] at low2 high2
                dsimp only
                by_cases hk2:nb - 1 - k2 > 0
                · rw [if_pos hk2]
                  have m2':=Mh.takeB sa sb (nb - 1 - k2) m2 k2 (by lia) (fun i hi hj _=>Int.not_lt.mp (of_decide_eq_false (high2 i hi hj)))
                  by_cases h8:k2=1
                  · rw [if_pos (by simpa using h8)]
                    exact wpS_pure (.inl ⟨_,_,_,rfl,rfl,m2'.firstB sa sb h8 first'⟩)
                  · rw [if_neg (by simpa using h8)]
                    by_cases h9:k2=0
                    · rw [if_pos (by simpa using h9)]
                      exact wpS_pure (.inl ⟨_,_,_,rfl,rfl,m2'.doneB sa sb h9⟩)
                    · rw [if_neg (by simpa using h9)]
                      have m3:Mh a b _ (k - 1) (k2):=Mh.pushA (na:=k - 1) (by rw [show k - 1+1=k by lia]; exact m2') sa sb ea2 (fun z=>Int.le_of_lt (of_decide_eq_true (low2 (k2 - 1) (by lia))))
                      refine wpS_bind (aw ea2 ?_)
                      by_cases h5:k - 1=0
                      · rw [if_pos (by simpa using h5)]
                        exact wpS_pure (.inl ⟨_,_,_,rfl,rfl,m3.doneA sa sb h5⟩)
                      · rw [if_neg (by simpa using h5)]
                        split
                        · exact wpS_pure (.inr ⟨_,_,_,_,_,_,_,rfl,rfl,m3,by lia,by lia,by lia⟩)
                        · exact wpS_pure ⟨_,_,_,_,_,_,_,rfl,rfl,m3,by lia,by lia,by lia⟩
                · rw [if_neg hk2]
                  have m3:Mh a b _ (k - 1) (nb - 1):=Mh.pushA (na:=k - 1) (by rw [show k - 1+1=k by lia]; exact m2) sa sb ea2 (fun z=>Int.le_of_lt (of_decide_eq_true (low2 (nb - 1 - 1) (by lia))))
                  refine wpS_bind (aw ea2 ?_)
                  by_cases h5:k - 1=0
                  · rw [if_pos (by simpa using h5)]
                    exact wpS_pure (.inl ⟨_,_,_,rfl,rfl,m3.doneA sa sb h5⟩)
                  · rw [if_neg (by simpa using h5)]
                    split
                    · exact wpS_pure (.inr ⟨_,_,_,_,_,_,_,rfl,rfl,m3,by lia,by lia,by lia⟩)
                    · exact wpS_pure ⟨_,_,_,_,_,_,_,rfl,rfl,m3,by lia,by lia,by lia⟩
          · rw [if_neg hk1]
            have m2:Mh a b _ (na) (nb - 1):=Mh.pushB (nb:=nb - 1) (by rw [show nb - 1+1=nb by lia]; exact m) sa sb eb (fun z=>by have:=low (na - 1) (by lia); unfold bY at this; simp at this; lia)
            have la:na<=a.size:=m2.ha
            obtain ⟨ta,qa,ea2⟩:=IntKeys.at hA (show na - 1 < a.size by lia)
            refine wpS_bind (aw eb ?_)
            by_cases h4:nb - 1=1
            · rw [if_pos (by simpa using h4)]
              exact wpS_pure (.inl ⟨_,_,_,rfl,rfl,m2.firstB sa sb h4 first'⟩)
            · rw [if_neg (by simpa using h4)]
              refine wpS_bind (aw ea2 ?_)
              refine wpS_bind (bK (st:=setG st gg) hk hB (by lia) (by lia) (fun i j h6 h7=>sb _ _ (by lia) (by lia)) fun k2 k2n low2 high2=>?_)
              simp only [Nat.zero_add] at low2 high2
              dsimp only
              by_cases hk2:nb - 1 - k2 > 0
              · rw [if_pos hk2]
                have m2':=Mh.takeB sa sb (nb - 1 - k2) m2 k2 (by lia) (fun i hi hj _=>Int.not_lt.mp (of_decide_eq_false (high2 i hi hj)))
                by_cases h8:k2=1
                · rw [if_pos (by simpa using h8)]
                  exact wpS_pure (.inl ⟨_,_,_,rfl,rfl,m2'.firstB sa sb h8 first'⟩)
                · rw [if_neg (by simpa using h8)]
                  by_cases h9:k2=0
                  · rw [if_pos (by simpa using h9)]
                    exact wpS_pure (.inl ⟨_,_,_,rfl,rfl,m2'.doneB sa sb h9⟩)
                  · rw [if_neg (by simpa using h9)]
                    have m3:Mh a b _ (na - 1) (k2):=Mh.pushA (na:=na - 1) (by rw [show na - 1+1=na by lia]; exact m2') sa sb ea2 (fun z=>Int.le_of_lt (of_decide_eq_true (low2 (k2 - 1) (by lia))))
                    refine wpS_bind (aw ea2 ?_)
                    by_cases h5:na - 1=0
                    · rw [if_pos (by simpa using h5)]
                      exact wpS_pure (.inl ⟨_,_,_,rfl,rfl,m3.doneA sa sb h5⟩)
                    · rw [if_neg (by simpa using h5)]
                      split
                      · exact wpS_pure (.inr ⟨_,_,_,_,_,_,_,rfl,rfl,m3,by lia,by lia,by lia⟩)
                      · exact wpS_pure ⟨_,_,_,_,_,_,_,rfl,rfl,m3,by lia,by lia,by lia⟩
              · rw [if_neg hk2]
                have m3:Mh a b _ (na - 1) (nb - 1):=Mh.pushA (na:=na - 1) (by rw [show na - 1+1=na by lia]; exact m2) sa sb ea2 (fun z=>Int.le_of_lt (of_decide_eq_true (low2 (nb - 1 - 1) (by lia))))
                refine wpS_bind (aw ea2 ?_)
                by_cases h5:na - 1=0
                · rw [if_pos (by simpa using h5)]
                  exact wpS_pure (.inl ⟨_,_,_,rfl,rfl,m3.doneA sa sb h5⟩)
                · rw [if_neg (by simpa using h5)]
                  split
                  · exact wpS_pure (.inr ⟨_,_,_,_,_,_,_,rfl,rfl,m3,by lia,by lia,by lia⟩)
                  · exact wpS_pure ⟨_,_,_,_,_,_,_,rfl,rfl,m3,by lia,by lia,by lia⟩
        · rw [if_neg hmg]
          have hbz:nb<=b.size:=m.hb
          have haz:na<=a.size:=m.ha
          obtain ⟨tb,qb,eb⟩:=IntKeys.at hB (show nb - 1 < b.size by lia)
          refine wpS_bind (fB ?_)
          show wpS _ _ _ _ _ _ (setG st mg)
          obtain ⟨gg,egg⟩:∃ gg,mg=gg:=⟨_,rfl⟩
          rw [egg]
          refine wpS_bind (aw eb ?_)
          refine wpS_bind (bK (st:=setG st gg) hk hA (by lia) (by lia) (fun i j h6 h7=>sa _ _ (by lia) (by lia)) fun k kn low high=>?_)
          simp only [Nat.zero_add] at low high
          dsimp only
          by_cases hk1:na - k > 0
          · rw [if_pos hk1]
            have m1:=Mh.takeA sa sb (na - k) m k (by lia) (fun i hi hj _=>by have:=high i hi hj; unfold bY at this; simp at this; lia)
            by_cases h2:k=0
            · rw [if_pos (by simpa using h2)]
              exact wpS_pure (.inl ⟨_,_,_,rfl,rfl,m1.doneA sa sb h2⟩)
            · rw [if_neg (by simpa using h2)]
              have m2:Mh a b _ (k) (nb - 1):=Mh.pushB (nb:=nb - 1) (by rw [show nb - 1+1=nb by lia]; exact m1) sa sb eb (fun z=>by have:=low (k - 1) (by lia); unfold bY at this; simp at this; lia)
              have la:k<=a.size:=m2.ha
              obtain ⟨ta,qa,ea2⟩:=IntKeys.at hA (show k - 1 < a.size by lia)
              refine wpS_bind (aw eb ?_)
              by_cases h4:nb - 1=1
              · rw [if_pos (by simpa using h4)]
                exact wpS_pure (.inl ⟨_,_,_,rfl,rfl,m2.firstB sa sb h4 first'⟩)
              · rw [if_neg (by simpa using h4)]
                refine wpS_bind (aw ea2 ?_)
                refine wpS_bind (bK (st:=setG st gg) hk hB (by lia) (by lia) (fun i j h6 h7=>sb _ _ (by lia) (by lia)) fun k2 k2n low2 high2=>?_)
                simp only [Nat.zero_add] at low2 high2
                dsimp only
                by_cases hk2:nb - 1 - k2 > 0
                · rw [if_pos hk2]
                  have m2':=Mh.takeB sa sb (nb - 1 - k2) m2 k2 (by lia) (fun i hi hj _=>Int.not_lt.mp (of_decide_eq_false (high2 i hi hj)))
                  by_cases h8:k2=1
                  · rw [if_pos (by simpa using h8)]
                    exact wpS_pure (.inl ⟨_,_,_,rfl,rfl,m2'.firstB sa sb h8 first'⟩)
                  · rw [if_neg (by simpa using h8)]
                    by_cases h9:k2=0
                    · rw [if_pos (by simpa using h9)]
                      exact wpS_pure (.inl ⟨_,_,_,rfl,rfl,m2'.doneB sa sb h9⟩)
                    · rw [if_neg (by simpa using h9)]
                      have m3:Mh a b _ (k - 1) (k2):=Mh.pushA (na:=k - 1) (by rw [show k - 1+1=k by lia]; exact m2') sa sb ea2 (fun z=>Int.le_of_lt (of_decide_eq_true (low2 (k2 - 1) (by lia))))
                      refine wpS_bind (aw ea2 ?_)
                      by_cases h5:k - 1=0
                      · rw [if_pos (by simpa using h5)]
                        exact wpS_pure (.inl ⟨_,_,_,rfl,rfl,m3.doneA sa sb h5⟩)
                      · rw [if_neg (by simpa using h5)]
                        split
                        · exact wpS_pure (.inr ⟨_,_,_,_,_,_,_,rfl,rfl,m3,by lia,by lia,by lia⟩)
                        · exact wpS_pure ⟨_,_,_,_,_,_,_,rfl,rfl,m3,by lia,by lia,by lia⟩
                · rw [if_neg hk2]
                  have m3:Mh a b _ (k - 1) (nb - 1):=Mh.pushA (na:=k - 1) (by rw [show k - 1+1=k by lia]; exact m2) sa sb ea2 (fun z=>Int.le_of_lt (of_decide_eq_true (low2 (nb - 1 - 1) (by lia))))
                  refine wpS_bind (aw ea2 ?_)
                  by_cases h5:k - 1=0
                  · rw [if_pos (by simpa using h5)]
                    exact wpS_pure (.inl ⟨_,_,_,rfl,rfl,m3.doneA sa sb h5⟩)
                  · rw [if_neg (by simpa using h5)]
                    split
                    · exact wpS_pure (.inr ⟨_,_,_,_,_,_,_,rfl,rfl,m3,by lia,by lia,by lia⟩)
                    · exact wpS_pure ⟨_,_,_,_,_,_,_,rfl,rfl,m3,by lia,by lia,by lia⟩
          · rw [if_neg hk1]
            have m2:Mh a b _ (na) (nb - 1):=Mh.pushB (nb:=nb - 1) (by rw [show nb - 1+1=nb by lia]; exact m) sa sb eb (fun z=>by have:=low (na - 1) (by lia); unfold bY at this; simp at this; lia)
            have la:na<=a.size:=m2.ha
            obtain ⟨ta,qa,ea2⟩:=IntKeys.at hA (show na - 1 < a.size by lia)
            refine wpS_bind (aw eb ?_)
            by_cases h4:nb - 1=1
            · rw [if_pos (by simpa using h4)]
              exact wpS_pure (.inl ⟨_,_,_,rfl,rfl,m2.firstB sa sb h4 first'⟩)
            · rw [if_neg (by simpa using h4)]
              refine wpS_bind (aw ea2 ?_)
              refine wpS_bind (bK (st:=setG st gg) hk hB (by lia) (by lia) (fun i j h6 h7=>sb _ _ (by lia) (by lia)) fun k2 k2n low2 high2=>?_)
              simp only [Nat.zero_add] at low2 high2
              dsimp only
              by_cases hk2:nb - 1 - k2 > 0
              · rw [if_pos hk2]
                have m2':=Mh.takeB sa sb (nb - 1 - k2) m2 k2 (by lia) (fun i hi hj _=>Int.not_lt.mp (of_decide_eq_false (high2 i hi hj)))
                by_cases h8:k2=1
                · rw [if_pos (by simpa using h8)]
                  exact wpS_pure (.inl ⟨_,_,_,rfl,rfl,m2'.firstB sa sb h8 first'⟩)
                · rw [if_neg (by simpa using h8)]
                  by_cases h9:k2=0
                  · rw [if_pos (by simpa using h9)]
                    exact wpS_pure (.inl ⟨_,_,_,rfl,rfl,m2'.doneB sa sb h9⟩)
                  · rw [if_neg (by simpa using h9)]
                    have m3:Mh a b _ (na - 1) (k2):=Mh.pushA (na:=na - 1) (by rw [show na - 1+1=na by lia]; exact m2') sa sb ea2 (fun z=>Int.le_of_lt (of_decide_eq_true (low2 (k2 - 1) (by lia))))
                    refine wpS_bind (aw ea2 ?_)
                    by_cases h5:na - 1=0
                    · rw [if_pos (by simpa using h5)]
                      exact wpS_pure (.inl ⟨_,_,_,rfl,rfl,m3.doneA sa sb h5⟩)
                    · rw [if_neg (by simpa using h5)]
                      split
                      · exact wpS_pure (.inr ⟨_,_,_,_,_,_,_,rfl,rfl,m3,by lia,by lia,by lia⟩)
                      · exact wpS_pure ⟨_,_,_,_,_,_,_,rfl,rfl,m3,by lia,by lia,by lia⟩
              · rw [if_neg hk2]
                have m3:Mh a b _ (na - 1) (nb - 1):=Mh.pushA (na:=na - 1) (by rw [show na - 1+1=na by lia]; exact m2) sa sb ea2 (fun z=>Int.le_of_lt (of_decide_eq_true (low2 (nb - 1 - 1) (by lia))))
                refine wpS_bind (aw ea2 ?_)
                by_cases h5:na - 1=0
                · rw [if_pos (by simpa using h5)]
                  exact wpS_pure (.inl ⟨_,_,_,rfl,rfl,m3.doneA sa sb h5⟩)
                · rw [if_neg (by simpa using h5)]
                  split
                  · exact wpS_pure (.inr ⟨_,_,_,_,_,_,_,rfl,rfl,m3,by lia,by lia,by lia⟩)
                  · exact wpS_pure ⟨_,_,_,_,_,_,_,rfl,rfl,m3,by lia,by lia,by lia⟩
end
theorem sO:∀ (l:List Keyed) (n:Nat) (xs:Array Keyed) (pos:Nat),pos+n+l.length<=xs.size->((l.zipIdx n).foldl (fun a x=>a.setIfInBounds (pos+x.2) x.1) xs).toList=xs.toList.take (pos+n)++(l++xs.toList.drop (pos+n+l.length))
  | [],n,xs,pos,h=>by simp
  | p::l,n,xs,pos,h=>by
    have hl:(p::l).length=l.length+1:=rfl
    rw [hl] at h |-
    rw [List.zipIdx_cons,List.foldl_cons]
    have ih:=sO l (n+1) (xs.setIfInBounds (pos+n) p) pos (by rw [Array.size_setIfInBounds]; lia)
    rw [ih,Array.toList_setIfInBounds]
    have hlen:xs.toList.length=xs.size:=by simp
    rw [show pos+(n+1)=pos+n+1 by lia,List.take_set,List.drop_set_of_lt (by lia)]
    rw [List.take_succ_eq_append_getElem (by lia),List.set_append_right _ _ (by rw [List.length_take]; lia)]
    rw [show pos+n - (xs.toList.take (pos+n)).length=0 by rw [List.length_take]; lia]
    show (xs.toList.take (pos+n)++[p])++(l++_)=_
    rw [List.append_assoc,show pos+n+1+l.length=pos+n+(l.length+1) by lia]
    rfl
theorem i5 {xs:Array Keyed} {lo m:Nat} {z:Keyed} (h:z∈(xs.toList.drop lo).take m):∃ i,lo<=i/\i < lo+m/\i < xs.size/\key z=K xs i:=by
  obtain ⟨j,hj⟩:=List.getElem?_of_mem h
  have hjl:=(List.getElem?_eq_some_iff.mp hj).1
  rw [List.length_take,List.length_drop] at hjl
  have hlen:xs.toList.length=xs.size:=by simp
  rw [List.getElem?_take_of_lt (by lia),List.getElem?_drop] at hj
  refine ⟨lo+j,by lia,by lia,by lia,?_⟩
  rw [jI (p:=z) (by rw [<- Array.getElem?_toList]; exact hj)]
theorem uR {xs:Array Keyed} {lo m:Nat} (h:∀ i j,lo<=i->i<=j->j < lo+m->j < xs.size->K xs i<=K xs j):(((xs.toList.drop lo).take m).map key).Pairwise (·<=·):=by
  rw [List.pairwise_iff_getElem]
  intro p q hp hq hpq
  have hlen:xs.toList.length=xs.size:=by simp
  have hq':=hq
  rw [List.length_map,List.length_take,List.length_drop] at hq'
  have e:∀ r (hr:r < (((xs.toList.drop lo).take m).map key).length),(((xs.toList.drop lo).take m).map key)[r]=K xs (lo+r):=by
    intro r hr
    have hr':=hr
    rw [List.length_map,List.length_take,List.length_drop] at hr'
    rw [List.getElem_map,List.getElem_take,List.getElem_drop]
    have hz:lo+r < xs.size:=by lia
    rw [jI (p:=xs[lo+r]) (Array.getElem?_eq_getElem hz)]
    rfl
  rw [e p hp,e q hq]
  exact h _ _ (by lia) (by lia) (by lia) (by lia)
theorem CD {xs:Array Keyed} (h:(xs.toList.map key).Pairwise (·<=·)):cb xs:=by
  intro i j hij hj
  by_cases e:i=j
  · subst e; exact Int.le_refl _
  · rw [List.pairwise_iff_getElem] at h
    have hj':j < (xs.toList.map key).length:=by simpa using hj
    have h3:=h i j (by lia) hj' (by lia)
    rw [List.getElem_map,List.getElem_map] at h3
    rw [jI (p:=xs[i]'(by lia)) (Array.getElem?_eq_getElem _),jI (p:=xs[j]) (Array.getElem?_eq_getElem _)]
    simpa using h3
theorem mI (xs:Array Keyed) (lo hi:Nat):(xs.extract lo hi).toList=(xs.toList.drop lo).take (hi - lo):=by
  rw [Array.toList_extract,List.extract_eq_take_drop]
theorem z7 {xs:Array Keyed} {lo hi i:Nat} (h:lo+i < hi) (hz:hi<=xs.size):K (xs.extract lo hi) i=K xs (lo+i):=by
  refine K_congr ?_
  rw [Array.getElem?_extract_of_lt (by lia)]
  exact (Array.getElem?_eq_getElem (by lia)).symm
theorem tL {xs:Array Keyed} (h:IntKeys xs) (lo hi:Nat):IntKeys (xs.extract lo hi):=fun p hp=>by
  rw [mI] at hp
  exact h p (List.mem_of_mem_drop (List.mem_of_mem_take hp))
section
variable {prog:Program} {w:World} {A:Around} {E:Value->Shared->Prop} {s:Shared}
theorem AR {σ:Type} {M:Model} {st st':σ} {Q:PUnit->σ->Prop} (h:Q ⟨⟩ st'):wpS M A E s (set st':StateT σ Sem PUnit) Q st:=by
  unfold wpS; rw [StateT.run_set]; exact wpAny_pure ⟨rfl,h⟩
theorem uC {st:SortSt} {Q:Bool->SortSt->Prop} {n1 n2 pw:Nat} (hk:kindOf st=oneType') (hI:IntKeys (arrOf st)) (hf:failedOf st=none) (hp:pendingOf st = #[(0,n1,pw),(n1,n2,0)]) (hz:(arrOf st).size=n1+n2) (h1:1<=n1) (h2:1<=n2)
    (s1:∀ i j,i<=j->j < n1->K (arrOf st) i<=K (arrOf st) j) (s2:∀ i j,n1<=i->i<=j->j < n1+n2->K (arrOf st) i<=K (arrOf st) j)
    (h:∀ st',failedOf st'=none->pendingOf st' = #[(0,n1+n2,pw)]->(arrOf st').Perm (arrOf st)->cb (arrOf st')->Q true st'):wpS (model prog w) A E s (mergeAt' 0) Q st:=by
  have both:∀ c:Nat,c < n1->(∀ i,i < n1->K (arrOf st) i<=K (arrOf st) n1)->cb (arrOf st):=fun c _ hc i j hij hj=>by
    rw [hz] at hj
    by_cases z1:j < n1
    · exact s1 i j hij z1
    · by_cases z2:n1<=i
      · exact s2 i j z2 hij hj
      · exact Int.le_trans (hc i (by lia)) (s2 n1 j (Nat.le_refl _) (by lia) hj)
  unfold mergeAt'
  change wpS _ _ _ _ (bind _ _) _ _
  refine wpS_bind (wpS_get ?_)
  dsimp only
  have hp':(sortPriv% PySem.Builtin.SortState.pending) st = #[(0,n1,pw),(n1,n2,0)]:=hp
  rw [hp']
  have ha':∀ z:SortSt,(sortPriv% PySem.Builtin.SortState.a) z=arrOf z:=fun _=>rfl
  simp only [ha']
  have ep:((#[(0,n1,pw),(n1,n2,0)]:Array (Nat × Nat × Nat)).setIfInBounds 0 (0,n1+n2,pw)).eraseIdxIfInBounds (0+1) = #[(0,n1+n2,pw)]:=by simp [Array.eraseIdxIfInBounds]
  show wpS _ _ _ _ (do
    set (setPending st (((#[(0,n1,pw),(n1,n2,0)]:Array (Nat × Nat × Nat)).setIfInBounds 0 (0,n1+n2,pw)).eraseIdxIfInBounds (0+1)))
    _) _ _
  rw [ep]
  refine wpS_bind (AR ?_)
  obtain ⟨tb,qb,eb⟩:=IntKeys.at hI (show n1 < (arrOf st).size by lia)
  refine wpS_bind (aw eb ?_)
  refine wpS_bind (bK (st:=setPending st #[(0,n1+n2,pw)]) hk hI (by lia) (by lia) (fun i j h6 h7=>by rw [Nat.zero_add,Nat.zero_add]; exact s1 _ _ h6 h7) fun k kn low high=>?_)
  simp only [Nat.zero_add] at low high
  dsimp only
  have lowK:∀ i,i < k->K (arrOf st) i<=K (arrOf st) n1:=fun i hi=>by have:=low i hi; unfold bY at this; simp at this; lia
  by_cases hk0:n1 - k=0
  · rw [if_pos (by simpa using hk0)]
    exact wpS_pure (h _ hf rfl (Array.Perm.refl _) (both 0 (by lia) fun i hi=>lowK i (by lia)))
  rw [if_neg (by simpa using hk0)]
  have highK:K (arrOf st) n1 < K (arrOf st) k:=by have:=high k (Nat.le_refl _) (by lia); unfold bY at this; simp at this; lia
  obtain ⟨ta,qa,ea⟩:=IntKeys.at hI (show n1 - 1 < (arrOf st).size by lia)
  rw [show 0+k+(n1 - k) - 1=n1 - 1 by lia]
  refine wpS_bind (aw ea ?_)
  refine wpS_bind (bK (st:=setPending st #[(0,n1+n2,pw)]) hk hI (by lia) (by lia) (fun i j h6 h7=>s2 _ _ (by lia) (by lia) (by lia)) fun nb nbn low2 high2=>?_)
  dsimp only
  by_cases hb0:nb=0
  · rw [if_pos (by simpa using hb0)]
    subst hb0
    have hh:K (arrOf st) (n1 - 1)<=K (arrOf st) n1:=Int.not_lt.mp (of_decide_eq_false (high2 0 (Nat.le_refl _) (by lia)))
    exact wpS_pure (h _ hf rfl (Array.Perm.refl _) (both 0 (by lia) fun i hi=>Int.le_trans (s1 i (n1 - 1) (by lia) (by lia)) hh))
  rw [if_neg (by simpa using hb0)]
  have lowB:∀ j,j < nb->K (arrOf st) (n1+j) < K (arrOf st) (n1 - 1):=fun j hj=>of_decide_eq_true (low2 j hj)
  have hX:=tL hI (0+k) n1
  have hY:=tL hI n1 (n1+nb)
  have zx:((arrOf st).extract (0+k) n1).size=n1 - k:=by rw [Array.size_extract]; lia
  have zy:((arrOf st).extract n1 (n1+nb)).size=nb:=by rw [Array.size_extract]; lia
  have kx:∀ i,i < n1 - k->K ((arrOf st).extract (0+k) n1) i=K (arrOf st) (k+i):=fun i hi=>by rw [z7 (by lia) (by lia),Nat.zero_add]
  have ky:∀ j,j < nb->K ((arrOf st).extract n1 (n1+nb)) j=K (arrOf st) (n1+j):=fun j hj=>z7 (by lia) (by lia)
  have sx:cb ((arrOf st).extract (0+k) n1):=fun i j hij hj=>by
    rw [zx] at hj
    rw [kx i (by lia),kx j hj]
    exact s1 _ _ (by lia) (by lia)
  have sy:cb ((arrOf st).extract n1 (n1+nb)):=fun i j hij hj=>by
    rw [zy] at hj
    rw [ky i (by lia),ky j hj]
    exact s2 _ _ (by lia) (by lia) (by lia)
  have fst':K ((arrOf st).extract n1 (n1+nb)) 0<=K ((arrOf st).extract (0+k) n1) 0:=by
    rw [ky 0 (by lia),kx 0 (by lia)]
    exact Int.le_of_lt highK
  have top':∀ j,j < ((arrOf st).extract n1 (n1+nb)).size->K ((arrOf st).extract n1 (n1+nb)) j<=K ((arrOf st).extract (0+k) n1) (((arrOf st).extract (0+k) n1).size - 1):=fun j hj=>by
    rw [zy] at hj
    rw [zx,ky j hj,kx _ (by lia),show k+(n1 - k - 1)=n1 - 1 by lia]
    exact Int.le_of_lt (lowB j hj)
  have done:∀ R g,Fin ((arrOf st).extract (0+k) n1) ((arrOf st).extract n1 (n1+nb)) R->Q true (setArr (setG (setPending st #[(0,n1+n2,pw)]) g) (R.toList.zipIdx.foldl (fun a x=>a.setIfInBounds (0+k+x.2) x.1) (arrOf st))):=by
    intro R g f
    have lx:((arrOf st).extract (0+k) n1).toList.length=n1 - k:=by rw [Array.length_toList]; exact zx
    have lyy:((arrOf st).extract n1 (n1+nb)).toList.length=nb:=by rw [Array.length_toList]; exact zy
    have lR:R.toList.length=n1 - k+nb:=by rw [f.1.length_eq,List.length_append,lx,lyy]
    have e1:=sO R.toList 0 (arrOf st) (0+k) (by rw [lR]; lia)
    rw [lR,show 0+k+0=k by lia,show k+(n1 - k+nb)=n1+nb by lia] at e1
    have ex:=mI (arrOf st) (0+k) n1
    have ey:=mI (arrOf st) n1 (n1+nb)
    rw [show n1+nb - n1=nb by lia] at ey
    rw [Nat.zero_add] at ex
    have e2:(arrOf st).toList=(arrOf st).toList.take k++((((arrOf st).toList.drop k).take (n1 - k)++((arrOf st).toList.drop n1).take nb)++(arrOf st).toList.drop (n1+nb)):=by
      rw [List.append_assoc]
      conv=>lhs; rw [<- List.take_append_drop k (arrOf st).toList]
      congr 1
      conv=>lhs; rw [<- List.take_append_drop (n1 - k) ((arrOf st).toList.drop k)]
      rw [List.drop_drop,show k+(n1 - k)=n1 by lia]
      congr 1
      conv=>lhs; rw [<- List.take_append_drop nb ((arrOf st).toList.drop n1)]
      rw [List.drop_drop]
    have fp:=f.1
    rw [Nat.zero_add,ex,ey] at fp
    refine h _ hf rfl ?_ (CD ?_)
    · refine Array.perm_iff_toList_perm.mpr ?_
      show (R.toList.zipIdx.foldl (fun a x=>a.setIfInBounds (0+k+x.2) x.1) (arrOf st)).toList.Perm _
      rw [e1]
      conv=>rhs; rw [e2]
      exact List.Perm.append_left _ (List.Perm.append_right _ fp)
    · show ((R.toList.zipIdx.foldl (fun a x=>a.setIfInBounds (0+k+x.2) x.1) (arrOf st)).toList.map key).Pairwise _
      rw [e1,List.map_append,List.map_append,List.pairwise_append,List.pairwise_append]
      have pP:(((arrOf st).toList.take k).map key).Pairwise (·<=·):=by
        have:=uR (xs:=arrOf st) (lo:=0) (m:=k) (fun i j _ hij hj _=>s1 i j hij (by lia))
        rw [List.drop_zero] at this
        exact this
      have hlen:(arrOf st).toList.length=n1+n2:=by simpa using hz
      have eS:(arrOf st).toList.drop (n1+nb)=((arrOf st).toList.drop (n1+nb)).take (n1+n2):=by rw [List.take_of_length_le (by rw [List.length_drop]; lia)]
      have pS:(((arrOf st).toList.drop (n1+nb)).map key).Pairwise (·<=·):=by
        rw [eS]
        exact uR (fun i j hi hij _ hj=>s2 i j (by lia) hij (by lia))
      have inR:∀ z∈R.toList,(∃ i,k<=i/\i < n1/\key z=K (arrOf st) i)\/∃ j,n1<=j/\j < n1+nb/\key z=K (arrOf st) j:=fun z hz'=>by
        have:=fp.mem_iff.mp hz'
        rw [List.mem_append] at this
        rcases this with this | this
        · obtain ⟨i,a1,a2,_,a4⟩:=i5 this
          exact .inl ⟨i,a1,by lia,a4⟩
        · obtain ⟨i,a1,a2,_,a4⟩:=i5 this
          exact .inr ⟨i,a1,a2,a4⟩
      have inP:∀ z∈(arrOf st).toList.take k,∃ i,i < k/\key z=K (arrOf st) i:=fun z hz'=>by
        obtain ⟨i,_,a2,_,a4⟩:=i5 (lo:=0) (m:=k) (by rw [List.drop_zero]; exact hz')
        exact ⟨i,by lia,a4⟩
      have inS:∀ z∈(arrOf st).toList.drop (n1+nb),∃ i,n1+nb<=i/\i < n1+n2/\key z=K (arrOf st) i:=fun z hz'=>by
        rw [eS] at hz'
        obtain ⟨i,a1,_,a3,a4⟩:=i5 hz'
        exact ⟨i,a1,by lia,a4⟩
      have RS:∀ x∈R.toList.map key,∀ y∈((arrOf st).toList.drop (n1+nb)).map key,x<=y:=by
        intro x hx y hy
        obtain ⟨p,hp',rfl⟩:=List.mem_map.mp hx
        obtain ⟨q,hq',rfl⟩:=List.mem_map.mp hy
        obtain ⟨j,j1,j2,ej⟩:=inS q hq'
        rw [ej]
        have hh:K (arrOf st) (n1 - 1)<=K (arrOf st) (n1+nb):=by
          exact Int.not_lt.mp (of_decide_eq_false (high2 nb (Nat.le_refl _) (by lia)))
        rcases inR p hp' with ⟨i,i1,i2,ei⟩ | ⟨i,i1,i2,ei⟩
        · rw [ei]
          exact Int.le_trans (s1 i (n1 - 1) (by lia) (by lia)) (Int.le_trans hh (s2 _ _ (by lia) j1 j2))
        · rw [ei]
          exact s2 _ _ i1 (by lia) j2
      refine ⟨pP,⟨f.2,pS,RS⟩,fun x hx y hy=>?_⟩
      obtain ⟨p,hp',rfl⟩:=List.mem_map.mp hx
      obtain ⟨i,i1,ei⟩:=inP p hp'
      rw [ei]
      rw [List.mem_append] at hy
      rcases hy with hy | hy
      · obtain ⟨q,hq',rfl⟩:=List.mem_map.mp hy
        rcases inR q hq' with ⟨j,j1,j2,ej⟩ | ⟨j,j1,j2,ej⟩
        · rw [ej]; exact s1 _ _ (by lia) j2
        · rw [ej]; exact Int.le_trans (lowK i i1) (s2 _ _ (Nat.le_refl _) j1 (by lia))
      · obtain ⟨q,hq',rfl⟩:=List.mem_map.mp hy
        obtain ⟨j,j1,j2,ej⟩:=inS q hq'
        rw [ej]
        exact Int.le_trans (lowK i i1) (s2 _ _ (Nat.le_refl _) (by lia) j2)
  by_cases hle:n1 - k<=nb
  · rw [if_pos hle]
    refine wpS_bind (uy (st:=setPending st #[(0,n1+n2,pw)]) hk hX hY sx sy (by lia) (by lia) fst' top' fun R g f=>?_)
    refine wpS_bind (wpS_modify ?_)
    refine wpS_bind (wpS_get ?_)
    refine wpS_pure ?_
    have ef:(failedOf (setArr (setG (setPending st #[(0,n1+n2,pw)]) g) (R.toList.zipIdx.foldl (fun a x=>a.setIfInBounds (0+k+x.2) x.1) (arrOf st)))).isNone=true:=by
      show (failedOf st).isNone=true
      rw [hf]; rfl
    show Q (failedOf (setArr (setG (setPending st #[(0,n1+n2,pw)]) g) (R.toList.zipIdx.foldl (fun a x=>a.setIfInBounds (0+k+x.2) x.1) (arrOf st)))).isNone _
    rw [ef]
    exact done R g f
  · rw [if_neg hle]
    refine wpS_bind (uD (st:=setPending st #[(0,n1+n2,pw)]) hk hX hY sx sy (by lia) (by lia) fst' top' fun R g f=>?_)
    refine wpS_bind (wpS_modify ?_)
    refine wpS_bind (wpS_get ?_)
    refine wpS_pure ?_
    have ef:(failedOf (setArr (setG (setPending st #[(0,n1+n2,pw)]) g) (R.toList.zipIdx.foldl (fun a x=>a.setIfInBounds (0+k+x.2) x.1) (arrOf st)))).isNone=true:=by
      show (failedOf st).isNone=true
      rw [hf]; rfl
    show Q (failedOf (setArr (setG (setPending st #[(0,n1+n2,pw)]) g) (R.toList.zipIdx.foldl (fun a x=>a.setIfInBounds (0+k+x.2) x.1) (arrOf st)))).isNone _
    rw [ef]
    exact done R g f
end
structure SB (a₀:Array Keyed) (P:Array (Nat × Nat × Nat)) (st:SortSt):Prop where
  perm:(arrOf st).Perm a₀
  kind:kindOf st=oneType'
  failed:failedOf st=none
  pend:pendingOf st=P
theorem SB.size {a₀:Array Keyed} {P:Array (Nat × Nat × Nat)} {st:SortSt} (h:SB a₀ P st):(arrOf st).size=a₀.size:=h.perm.size_eq
theorem SB.keys {a₀:Array Keyed} {P:Array (Nat × Nat × Nat)} {st:SortSt} (h:SB a₀ P st) (h0:IntKeys a₀):IntKeys (arrOf st):=fun p hp=>h0 p ((Array.perm_iff_toList_perm.mp h.perm).mem_iff.mp hp)
theorem SB.put {a₀:Array Keyed} {P:Array (Nat × Nat × Nat)} {st:SortSt} (h:SB a₀ P st) {xs:Array Keyed} (hp:xs.Perm (arrOf st)):SB a₀ P (setArr st xs):=⟨hp.trans h.perm,h.kind,h.failed,h.pend⟩
def SF (xs:Array Keyed) (lo k:Nat):Prop:=∀ i j,lo<=i->i<=j->j < lo+k->K xs i<=K xs j
section
variable {prog:Program} {w:World} {A:Around} {E:Value->Shared->Prop} {s:Shared} {a₀:Array Keyed} {P:Array (Nat × Nat × Nat)}
theorem cU {st:SortSt} {i j:Nat} {Q:Option Bool->SortSt->Prop} (hB:SB a₀ P st) (h0:IntKeys a₀) (hi:i < a₀.size) (hj:j < a₀.size)
    (h:Q (some (decide (K (arrOf st) i < K (arrOf st) j))) st):wpS (model prog w) A E s (ltAt' i j) Q st:=by
  have hz:=hB.size
  obtain ⟨t,p,e1⟩:=IntKeys.at (hB.keys h0) (show i < (arrOf st).size by lia)
  obtain ⟨u,q,e2⟩:=IntKeys.at (hB.keys h0) (show j < (arrOf st).size by lia)
  exact wpS_ltAt hB.kind e1 e2 h
theorem sM {st:SortSt} {lo n ok:Nat} {Q:Bool->SortSt->Prop} (h0:IntKeys a₀) (hn:lo+n<=a₀.size) (hok:ok<=n) (hB:SB a₀ P st) (hs:SF (arrOf st) lo ok)
    (h:∀ st',SB a₀ P st'->SF (arrOf st') lo n->(∀ i,i < lo->K (arrOf st') i=K (arrOf st) i)->Q true st'):wpS (model prog w) A E s (binarySort' lo n ok) Q st:=by
  rw [binarySort'_eq]
  refine wpS_bind (wpS_mono (wpS_forRange (I:=fun k c st'=>c=(none,())/\SB a₀ P st'/\SF (arrOf st') lo (min k n)/\∀ i,i < lo->K (arrOf st') i=K (arrOf st) i)
    (Q:=fun c st'=>c=(none,())/\SB a₀ P st'/\SF (arrOf st') lo n/\∀ i,i < lo->K (arrOf st') i=K (arrOf st) i) ?step ?fin ?init) ?post)
  case post =>
    rintro c st' ⟨rfl,b1,b2,b3⟩
    exact wpS_pure (h st' b1 b2 b3)
  case init =>
    refine ⟨rfl,hB,fun i j hi hij hj=>?_,fun _ _=>rfl⟩
    by_cases h1:ok=0
    · have:i=j:=by lia
      subst this; exact Int.le_refl _
    · exact hs i j hi hij (by lia)
  case fin =>
    rintro c st' ⟨b0,b1,b2,b3⟩
    refine ⟨b0,b1,?_,b3⟩
    rwa [show min (max (max ok 1) n) n=n by lia] at b2
  case step =>
    rintro k c st' hak hkn ⟨rfl,b1,b2,b3⟩
    rw [show min k n=k by lia] at b2
    refine wpS_bind (wpS_mono (wpS_forRange (I:=fun x c st''=>st''=st'/\∃ l r,c=(none,l,r)/\l<=r/\r<=k/\r - l<=k - x /\
        (∀ i,i < l->K (arrOf st') (lo+i)<=K (arrOf st') (lo+k))/\(∀ i,r<=i->i < k->K (arrOf st') (lo+k) < K (arrOf st') (lo+i)))
      (Q:=fun c st''=>st''=st'/\∃ l r,c=(none,l,r)/\l<=k /\
        (∀ i,i < l->K (arrOf st') (lo+i)<=K (arrOf st') (lo+k))/\(∀ i,l<=i->i < k->K (arrOf st') (lo+k) < K (arrOf st') (lo+i))) ?istep ?ifin ?iinit) ?ipost)
    case iinit=>exact ⟨rfl,0,k,rfl,by lia,by lia,by lia,fun i hi=>by lia,fun i h1 h2=>by lia⟩
    case ifin =>
      rintro c st'' ⟨rfl,l,r,rfl,h1,h2,h3,h4,h5⟩
      have:l=r:=by lia
      subst this
      exact ⟨rfl,l,l,rfl,h2,h4,h5⟩
    case istep =>
      rintro x c st'' _ hxk ⟨rfl,l,r,rfl,h1,h2,h3,h4,h5⟩
      dsimp only
      by_cases hge:l ≥ r
      · rw [if_pos hge]
        have:l=r:=by lia
        subst this
        exact wpS_pure ⟨rfl,l,l,rfl,h2,h4,h5⟩
      · rw [if_neg hge]
        refine wpS_bind (cU b1 h0 (by lia) (by lia) ?_)
        by_cases hl:K (arrOf st'') (lo+k) < K (arrOf st'') (lo+(l+r) / 2)
        · simp only [hl,decide_true,if_true]
          refine wpS_pure ⟨rfl,l,(l+r) / 2,rfl,by lia,by lia,by lia,h4,fun i h6 h7=>?_⟩
          exact Int.lt_of_lt_of_le hl (b2 _ _ (by lia) (by lia) (by lia))
        · simp only [hl,decide_false,Bool.false_eq_true,if_false]
          refine wpS_pure ⟨rfl,(l+r) / 2+1,r,rfl,by lia,by lia,by lia,fun i h6=>?_,h5⟩
          exact Int.le_trans (b2 (lo+i) (lo+(l+r) / 2) (by lia) (by lia) (by lia)) (Int.not_lt.mp hl)
    case ipost =>
      rintro c st'' ⟨rfl,l,r,rfl,hlk,h4,h5⟩
      show wpS _ _ _ _ (do moveDown' (lo+k) (lo+l); pure (ForInStep.yield (none,()))) _ _
      rw [moveDown'_eq]
      have hks:lo+k < (arrOf st'').size:=by rw [b1.size]; lia
      have kb:∀ i,K (bubble (arrOf st'') (lo+k) (lo+k - (lo+l))) i=if i=lo+l then K (arrOf st'') (lo+k) else if lo+l < i/\i<=lo+k then K (arrOf st'') (i - 1) else K (arrOf st'') i:=fun i=>by
        rw [K_bubble hks (by lia),show lo+k - (lo+k - (lo+l))=lo+l by lia]
      refine wpS_bind (wpS_modify (wpS_pure ⟨rfl,b1.put (bubble_perm _ _ _),?_,fun i hi=>?_⟩))
      · rw [show min (k+1) n=k+1 by lia]
        intro i j hi hij hj
        show K (bubble (arrOf st'') (lo+k) (lo+k - (lo+l))) i<=K (bubble (arrOf st'') (lo+k) (lo+k - (lo+l))) j
        have h4':∀ i,lo<=i->i < lo+l->K (arrOf st'') i<=K (arrOf st'') (lo+k):=fun i z1 z2=>by
          have:=h4 (i - lo) (by lia)
          rwa [show lo+(i - lo)=i by lia] at this
        have h5':∀ i,lo+l<=i->i < lo+k->K (arrOf st'') (lo+k) < K (arrOf st'') i:=fun i z1 z2=>by
          have:=h5 (i - lo) (by lia) (by lia)
          rwa [show lo+(i - lo)=i by lia] at this
        rw [kb,kb]
        repeat' split
        all_goals first
          | (exfalso; lia)
          | exact Int.le_refl _
          | exact h4' _ (by lia) (by lia)
          | exact Int.le_of_lt (h5' _ (by lia) (by lia))
          | exact b2 _ _ (by lia) (by lia) (by lia)
      · show K (bubble (arrOf st'') (lo+k) (lo+k - (lo+l))) i=_
        rw [kb,if_neg (by lia),if_neg (by lia)]
        exact b3 i hi
end
def ND (xs:Array Keyed) (lo k:Nat):Prop:=∀ i j,lo<=i->i<=j->j < lo+k->K xs j<=K xs i
theorem SF.more {xs:Array Keyed} {lo k:Nat} (h:SF xs lo k) (hk:1<=k) (e:K xs (lo+k - 1)<=K xs (lo+k)):SF xs lo (k+1):=fun i j hi hij hj=>by
  by_cases z:j < lo+k
  · exact h i j hi hij z
  · have:j=lo+k:=by lia
    subst this
    by_cases z2:i=lo+k
    · subst z2; exact Int.le_refl _
    · exact Int.le_trans (h i (lo+k - 1) hi (by lia) (by lia)) e
theorem ND.more {xs:Array Keyed} {lo k:Nat} (h:ND xs lo k) (hk:1<=k) (e:K xs (lo+k)<=K xs (lo+k - 1)):ND xs lo (k+1):=fun i j hi hij hj=>by
  by_cases z:j < lo+k
  · exact h i j hi hij z
  · have:j=lo+k:=by lia
    subst this
    by_cases z2:i=lo+k
    · subst z2; exact Int.le_refl _
    · exact Int.le_trans e (h i (lo+k - 1) hi (by lia) (by lia))
section
variable {prog:Program} {w:World} {A:Around} {E:Value->Shared->Prop} {s:Shared} {a₀:Array Keyed} {P:Array (Nat × Nat × Nat)}
theorem uh {st:SortSt} {lo nrem:Nat} {Q:Option Nat->SortSt->Prop} (h0:IntKeys a₀) (hn:lo+nrem<=a₀.size) (h1:1<=nrem) (hB:SB a₀ P st)
    (h:∀ m st',SB a₀ P st'->1<=m->m<=nrem->SF (arrOf st') lo m->(∀ i,i < lo->K (arrOf st') i=K (arrOf st) i)->Q (some m) st'):wpS (model prog w) A E s (countRun' lo nrem) Q st:=by
  have one:SF (arrOf st) lo 1:=fun i j hi hij hj=>by
    have:i=j:=by lia
    subst this; exact Int.le_refl _
  rw [countRun'_eq]
  dsimp only
  refine wpS_bind (wpS_mono (wpS_forRange (I:=fun x c st'=>st=st'/\c=(none,x)/\SF (arrOf st) lo x)
    (Q:=fun c st'=>st=st'/\∃ mm,c=(none,mm)/\1<=mm/\mm<=nrem/\SF (arrOf st) lo mm/\(mm=nrem\/K (arrOf st) (lo+mm) < K (arrOf st) (lo+mm - 1))) ?_ ?_ ⟨rfl,rfl,one⟩) ?_)
  · rintro x c st9 hax hxn ⟨rfl,rfl,hs⟩
    dsimp only
    refine wpS_bind (cU hB h0 (by lia) (by lia) ?_)
    by_cases hl:K (arrOf st) (lo+x) < K (arrOf st) (lo+x - 1)
    · simp only [hl,decide_true,if_true]
      exact wpS_pure ⟨rfl,x,rfl,hax,by lia,hs,.inr hl⟩
    · simp only [hl,decide_false,Bool.false_eq_true,if_false]
      exact wpS_pure ⟨rfl,rfl,SF.more hs (by lia) (Int.not_lt.mp hl)⟩
  · rintro c st9 ⟨rfl,rfl,hs⟩
    rw [show max 1 nrem=nrem by lia] at hs |-
    exact ⟨rfl,nrem,rfl,by lia,Nat.le_refl _,hs,.inl rfl⟩
  rintro c st7 ⟨rfl,n,rfl,n1,n2,sn,hor⟩
  dsimp only
  by_cases hnn:n=nrem
  · rw [if_pos (by simpa using hnn)]
    exact wpS_pure (h n _ hB n1 n2 sn fun _ _=>rfl)
  rw [if_neg (by simpa using hnn)]
  have hlt:K (arrOf st) (lo+n) < K (arrOf st) (lo+n - 1):=hor.resolve_left hnn
  by_cases hgt:n > 1
  · rw [if_pos hgt]
    refine wpS_bind (cU hB h0 (by lia) (by lia) ?_)
    by_cases hr:K (arrOf st) lo < K (arrOf st) (lo+n - 1)
    · simp only [hr,decide_true,if_true]
      exact wpS_pure (h n _ hB n1 n2 sn fun _ _=>rfl)
    · simp only [hr,decide_false,Bool.false_eq_true,if_false]
      have hsz:lo+n<=(arrOf st).size:=by rw [hB.size]; lia
      have hall:∀ k,lo<=k->k < lo+n->K (arrOf st) k=K (arrOf st) (lo+n - 1):=fun k k1 k2=>by
        have a1:=sn lo k (Nat.le_refl _) k1 k2
        have a2:=sn k (lo+n - 1) k1 (by lia) (by lia)
        lia
      have ke:=K_mirror_equal (i:=lo) hsz hall
      refine wpS_bind (wpS_reverse ?_)
      have d1:SB a₀ P (setArr st (mirror (arrOf st) lo (lo+n) ((lo+n - lo) / 2))):=hB.put (mirror_perm _ _ _ _)
      have d2:ND (arrOf (setArr st (mirror (arrOf st) lo (lo+n) ((lo+n - lo) / 2)))) lo (n+1):=fun i j hi hij hj=>by
        show K (mirror (arrOf st) _ _ _) j<=K (mirror (arrOf st) _ _ _) i
        rw [ke,ke]
        by_cases hjn:j < lo+n
        · rw [hall i hi (by lia),hall j (by lia) hjn]; exact Int.le_refl _
        · have:j=lo+n:=by lia
          subst this
          by_cases z2:i=lo+n
          · subst z2; exact Int.le_refl _
          · rw [hall i hi (by lia)]; exact Int.le_of_lt hlt
      have d3:∀ i,i < lo->K (arrOf (setArr st (mirror (arrOf st) lo (lo+n) ((lo+n - lo) / 2)))) i=K (arrOf st) i:=fun i hi=>ke i
      generalize setArr st (mirror (arrOf st) lo (lo+n) ((lo+n - lo) / 2))=st3 at d1 d2 d3 |-
      refine wpS_bind (wpS_lift (wpAny_rule ⟨rfl,?_⟩))
      refine wpS_bind (wpS_mono (wpS_forRange (I:=fun x c st'=>∃ neq,c=(none,x,neq)/\SB a₀ P st'/\ND (arrOf st') lo x/\neq+1<=x/\(∀ i,lo+x - (neq+1)<=i->i < lo+x->K (arrOf st') i=K (arrOf st') (lo+x - 1))/\∀ i,i < lo->K (arrOf st') i=K (arrOf st) i)
        (Q:=fun c st'=>∃ m neq,c=(none,m,neq)/\n+1<=m/\m<=nrem/\SB a₀ P st'/\ND (arrOf st') lo m/\neq+1<=m/\(∀ i,lo+m - (neq+1)<=i->i < lo+m->K (arrOf st') i=K (arrOf st') (lo+m - 1))/\∀ i,i < lo->K (arrOf st') i=K (arrOf st) i) ?_ ?_ ⟨0,rfl,d1,d2,by lia,(fun i h1 h2=>by congr 1; lia),d3⟩) ?_)
      · rintro x c st8 hax hxn ⟨neq,rfl,c1,c2,c3,c4,c5⟩
        dsimp only
        have hsz:lo+x<=(arrOf st8).size:=by rw [c1.size]; lia
        refine wpS_bind (cU c1 h0 (by lia) (by lia) ?_)
        by_cases hl:K (arrOf st8) (lo+x) < K (arrOf st8) (lo+x - 1)
        · simp only [hl,decide_true,if_true]
          by_cases hq:neq > 0
          · rw [if_pos hq]
            have ke:=K_mirror_equal (i:=lo+x - (neq+1)) hsz c4
            refine wpS_bind (wpS_reverse (wpS_pure ⟨0,rfl,c1.put (mirror_perm _ _ _ _),?_,by lia,(fun i h1 h2=>by congr 1; lia),fun i hi=>?_⟩))
            · intro i j hi hij hj
              show K (mirror (arrOf st8) _ _ _) j<=K (mirror (arrOf st8) _ _ _) i
              rw [ke,ke]
              exact ND.more c2 (by lia) (Int.le_of_lt hl) i j hi hij hj
            · show K (mirror (arrOf st8) _ _ _) i=_
              rw [ke]
              exact c5 i hi
          · rw [if_neg hq]
            exact wpS_pure ⟨0,rfl,c1,ND.more c2 (by lia) (Int.le_of_lt hl),by lia,(fun i h1 h2=>by congr 1; lia),c5⟩
        · simp only [hl,decide_false,Bool.false_eq_true,if_false]
          refine wpS_bind (cU c1 h0 (by lia) (by lia) ?_)
          by_cases hg:K (arrOf st8) (lo+x - 1) < K (arrOf st8) (lo+x)
          · simp only [hg,decide_true,if_true]
            exact wpS_pure ⟨x,neq,rfl,hax,by lia,c1,c2,c3,c4,c5⟩
          · simp only [hg,decide_false,Bool.false_eq_true,if_false]
            have he:K (arrOf st8) (lo+x)=K (arrOf st8) (lo+x - 1):=by lia
            refine wpS_pure ⟨neq+1,rfl,c1,ND.more c2 (by lia) (Int.le_of_eq he),by lia,(fun i h1 h2=>?_),c5⟩
            rw [show lo+(x+1) - 1=lo+x by lia]
            by_cases hix:i=lo+x
            · rw [hix]
            · rw [he]; exact c4 i (by lia) (by lia)
      · rintro c st8 ⟨neq,rfl,c1,c2,c3,c4,c5⟩
        rw [show max (n+1) nrem=nrem by lia] at c2 c3 c4 |-
        exact ⟨nrem,neq,rfl,by lia,Nat.le_refl _,c1,c2,c3,c4,c5⟩
      rintro c st4 ⟨m,neq,rfl,hm1,hm2,c1,c2,c3,c4,c5⟩
      dsimp only
      by_cases hq:neq > 0
      · rw [if_pos hq]
        have hsz4:lo+m<=(arrOf st4).size:=by rw [c1.size]; lia
        have ke:=K_mirror_equal (i:=lo+m - (neq+1)) hsz4 c4
        refine wpS_bind (wpS_reverse ?_)
        have d1:SB a₀ P (setArr st4 (mirror (arrOf st4) (lo+m - (neq+1)) (lo+m) ((lo+m - (lo+m - (neq+1))) / 2))):=c1.put (mirror_perm _ _ _ _)
        have d2:ND (arrOf (setArr st4 (mirror (arrOf st4) (lo+m - (neq+1)) (lo+m) ((lo+m - (lo+m - (neq+1))) / 2)))) lo m:=fun i j hi hij hj=>by
          show K (mirror (arrOf st4) _ _ _) j<=K (mirror (arrOf st4) _ _ _) i
          rw [ke,ke]
          exact c2 i j hi hij hj
        have d3:∀ i,i < lo->K (arrOf (setArr st4 (mirror (arrOf st4) (lo+m - (neq+1)) (lo+m) ((lo+m - (lo+m - (neq+1))) / 2)))) i=K (arrOf st) i:=fun i hi=>by
          show K (mirror (arrOf st4) _ _ _) i=_
          rw [ke]
          exact c5 i hi
        generalize setArr st4 (mirror (arrOf st4) (lo+m - (neq+1)) (lo+m) ((lo+m - (lo+m - (neq+1))) / 2))=st6 at d1 d2 d3 |-
        have hsz:lo+m<=(arrOf st6).size:=by rw [d1.size]; lia
        refine wpS_bind (wpS_reverse ?_)
        have q1:SB a₀ P (setArr st6 (mirror (arrOf st6) lo (lo+m) ((lo+m - lo) / 2))):=d1.put (mirror_perm _ _ _ _)
        have q2:SF (arrOf (setArr st6 (mirror (arrOf st6) lo (lo+m) ((lo+m - lo) / 2)))) lo m:=fun i j hi hij hj=>by
          show K (mirror (arrOf st6) lo (lo+m) ((lo+m - lo) / 2)) i<=K (mirror (arrOf st6) lo (lo+m) ((lo+m - lo) / 2)) j
          rw [K_mirror hsz,K_mirror hsz,if_pos (by lia),if_pos (by lia)]
          exact d2 _ _ (by lia) (by lia) (by lia)
        have q3:∀ i,i < lo->K (arrOf (setArr st6 (mirror (arrOf st6) lo (lo+m) ((lo+m - lo) / 2)))) i=K (arrOf st) i:=fun i hi=>by
          show K (mirror (arrOf st6) lo (lo+m) ((lo+m - lo) / 2)) i=_
          rw [K_mirror hsz,if_neg (by lia)]
          exact d3 i hi
        generalize setArr st6 (mirror (arrOf st6) lo (lo+m) ((lo+m - lo) / 2))=st5 at q1 q2 q3 |-
        refine wpS_bind (wpS_mono (wpS_forRange (I:=fun x c st'=>st5=st'/\c=(none,x)/\SF (arrOf st5) lo x)
          (Q:=fun c st'=>st5=st'/\∃ mm,c=(none,mm)/\m<=mm/\mm<=nrem/\SF (arrOf st5) lo mm/\(mm=nrem\/K (arrOf st5) (lo+mm) < K (arrOf st5) (lo+mm - 1))) ?_ ?_ ⟨rfl,rfl,q2⟩) ?_)
        · rintro x c st8 hax hxn ⟨rfl,rfl,hs⟩
          dsimp only
          refine wpS_bind (cU q1 h0 (by lia) (by lia) ?_)
          by_cases hl:K (arrOf st5) (lo+x) < K (arrOf st5) (lo+x - 1)
          · simp only [hl,decide_true,if_true]
            exact wpS_pure ⟨rfl,x,rfl,hax,by lia,hs,.inr hl⟩
          · simp only [hl,decide_false,Bool.false_eq_true,if_false]
            exact wpS_pure ⟨rfl,rfl,SF.more hs (by lia) (Int.not_lt.mp hl)⟩
        · rintro c st9 ⟨rfl,rfl,hs⟩
          rw [show max m nrem=nrem by lia] at hs |-
          exact ⟨rfl,nrem,rfl,by lia,Nat.le_refl _,hs,.inl rfl⟩
        rintro c st9 ⟨rfl,m',rfl,g1,g2,g3,_⟩
        exact wpS_pure (h m' _ q1 (by lia) g2 g3 q3)
      · rw [if_neg hq]
        have hsz:lo+m<=(arrOf st4).size:=by rw [c1.size]; lia
        refine wpS_bind (wpS_reverse ?_)
        have q1:SB a₀ P (setArr st4 (mirror (arrOf st4) lo (lo+m) ((lo+m - lo) / 2))):=c1.put (mirror_perm _ _ _ _)
        have q2:SF (arrOf (setArr st4 (mirror (arrOf st4) lo (lo+m) ((lo+m - lo) / 2)))) lo m:=fun i j hi hij hj=>by
          show K (mirror (arrOf st4) lo (lo+m) ((lo+m - lo) / 2)) i<=K (mirror (arrOf st4) lo (lo+m) ((lo+m - lo) / 2)) j
          rw [K_mirror hsz,K_mirror hsz,if_pos (by lia),if_pos (by lia)]
          exact c2 _ _ (by lia) (by lia) (by lia)
        have q3:∀ i,i < lo->K (arrOf (setArr st4 (mirror (arrOf st4) lo (lo+m) ((lo+m - lo) / 2)))) i=K (arrOf st) i:=fun i hi=>by
          show K (mirror (arrOf st4) lo (lo+m) ((lo+m - lo) / 2)) i=_
          rw [K_mirror hsz,if_neg (by lia)]
          exact c5 i hi
        generalize setArr st4 (mirror (arrOf st4) lo (lo+m) ((lo+m - lo) / 2))=st5 at q1 q2 q3 |-
        refine wpS_bind (wpS_mono (wpS_forRange (I:=fun x c st'=>st5=st'/\c=(none,x)/\SF (arrOf st5) lo x)
          (Q:=fun c st'=>st5=st'/\∃ mm,c=(none,mm)/\m<=mm/\mm<=nrem/\SF (arrOf st5) lo mm/\(mm=nrem\/K (arrOf st5) (lo+mm) < K (arrOf st5) (lo+mm - 1))) ?_ ?_ ⟨rfl,rfl,q2⟩) ?_)
        · rintro x c st8 hax hxn ⟨rfl,rfl,hs⟩
          dsimp only
          refine wpS_bind (cU q1 h0 (by lia) (by lia) ?_)
          by_cases hl:K (arrOf st5) (lo+x) < K (arrOf st5) (lo+x - 1)
          · simp only [hl,decide_true,if_true]
            exact wpS_pure ⟨rfl,x,rfl,hax,by lia,hs,.inr hl⟩
          · simp only [hl,decide_false,Bool.false_eq_true,if_false]
            exact wpS_pure ⟨rfl,rfl,SF.more hs (by lia) (Int.not_lt.mp hl)⟩
        · rintro c st9 ⟨rfl,rfl,hs⟩
          rw [show max m nrem=nrem by lia] at hs |-
          exact ⟨rfl,nrem,rfl,by lia,Nat.le_refl _,hs,.inl rfl⟩
        rintro c st9 ⟨rfl,m',rfl,g1,g2,g3,_⟩
        exact wpS_pure (h m' _ q1 (by lia) g2 g3 q3)
  · rw [if_neg hgt]
    have e1:n=1:=by lia
    subst e1
    have nd1:ND (arrOf st) lo 1:=fun i j hi hij hj=>by
      have e9:i=j:=by lia
      subst e9
      exact Int.le_refl _
    have nd:ND (arrOf st) lo (1+1):=ND.more nd1 (by lia) (Int.le_of_lt hlt)
    refine wpS_bind (wpS_lift (wpAny_rule ⟨rfl,?_⟩))
    refine wpS_bind (wpS_mono (wpS_forRange (I:=fun x c st'=>∃ neq,c=(none,x,neq)/\SB a₀ P st'/\ND (arrOf st') lo x/\neq+1<=x/\(∀ i,lo+x - (neq+1)<=i->i < lo+x->K (arrOf st') i=K (arrOf st') (lo+x - 1))/\∀ i,i < lo->K (arrOf st') i=K (arrOf st) i)
      (Q:=fun c st'=>∃ m neq,c=(none,m,neq)/\1+1<=m/\m<=nrem/\SB a₀ P st'/\ND (arrOf st') lo m/\neq+1<=m/\(∀ i,lo+m - (neq+1)<=i->i < lo+m->K (arrOf st') i=K (arrOf st') (lo+m - 1))/\∀ i,i < lo->K (arrOf st') i=K (arrOf st) i) ?_ ?_ ⟨0,rfl,hB,nd,by lia,(fun i h1 h2=>by congr 1; lia),(fun _ _=>rfl)⟩) ?_)
    · rintro x c st8 hax hxn ⟨neq,rfl,c1,c2,c3,c4,c5⟩
      dsimp only
      have hsz:lo+x<=(arrOf st8).size:=by rw [c1.size]; lia
      refine wpS_bind (cU c1 h0 (by lia) (by lia) ?_)
      by_cases hl:K (arrOf st8) (lo+x) < K (arrOf st8) (lo+x - 1)
      · simp only [hl,decide_true,if_true]
        by_cases hq:neq > 0
        · rw [if_pos hq]
          have ke:=K_mirror_equal (i:=lo+x - (neq+1)) hsz c4
          refine wpS_bind (wpS_reverse (wpS_pure ⟨0,rfl,c1.put (mirror_perm _ _ _ _),?_,by lia,(fun i h1 h2=>by congr 1; lia),fun i hi=>?_⟩))
          · intro i j hi hij hj
            show K (mirror (arrOf st8) _ _ _) j<=K (mirror (arrOf st8) _ _ _) i
            rw [ke,ke]
            exact ND.more c2 (by lia) (Int.le_of_lt hl) i j hi hij hj
          · show K (mirror (arrOf st8) _ _ _) i=_
            rw [ke]
            exact c5 i hi
        · rw [if_neg hq]
          exact wpS_pure ⟨0,rfl,c1,ND.more c2 (by lia) (Int.le_of_lt hl),by lia,(fun i h1 h2=>by congr 1; lia),c5⟩
      · simp only [hl,decide_false,Bool.false_eq_true,if_false]
        refine wpS_bind (cU c1 h0 (by lia) (by lia) ?_)
        by_cases hg:K (arrOf st8) (lo+x - 1) < K (arrOf st8) (lo+x)
        · simp only [hg,decide_true,if_true]
          exact wpS_pure ⟨x,neq,rfl,hax,by lia,c1,c2,c3,c4,c5⟩
        · simp only [hg,decide_false,Bool.false_eq_true,if_false]
          have he:K (arrOf st8) (lo+x)=K (arrOf st8) (lo+x - 1):=by lia
          refine wpS_pure ⟨neq+1,rfl,c1,ND.more c2 (by lia) (Int.le_of_eq he),by lia,(fun i h1 h2=>?_),c5⟩
          rw [show lo+(x+1) - 1=lo+x by lia]
          by_cases hix:i=lo+x
          · rw [hix]
          · rw [he]; exact c4 i (by lia) (by lia)
    · rintro c st8 ⟨neq,rfl,c1,c2,c3,c4,c5⟩
      rw [show max (1+1) nrem=nrem by lia] at c2 c3 c4 |-
      exact ⟨nrem,neq,rfl,by lia,Nat.le_refl _,c1,c2,c3,c4,c5⟩
    rintro c st4 ⟨m,neq,rfl,hm1,hm2,c1,c2,c3,c4,c5⟩
    dsimp only
    by_cases hq:neq > 0
    · rw [if_pos hq]
      have hsz4:lo+m<=(arrOf st4).size:=by rw [c1.size]; lia
      have ke:=K_mirror_equal (i:=lo+m - (neq+1)) hsz4 c4
      refine wpS_bind (wpS_reverse ?_)
      have d1:SB a₀ P (setArr st4 (mirror (arrOf st4) (lo+m - (neq+1)) (lo+m) ((lo+m - (lo+m - (neq+1))) / 2))):=c1.put (mirror_perm _ _ _ _)
      have d2:ND (arrOf (setArr st4 (mirror (arrOf st4) (lo+m - (neq+1)) (lo+m) ((lo+m - (lo+m - (neq+1))) / 2)))) lo m:=fun i j hi hij hj=>by
        show K (mirror (arrOf st4) _ _ _) j<=K (mirror (arrOf st4) _ _ _) i
        rw [ke,ke]
        exact c2 i j hi hij hj
      have d3:∀ i,i < lo->K (arrOf (setArr st4 (mirror (arrOf st4) (lo+m - (neq+1)) (lo+m) ((lo+m - (lo+m - (neq+1))) / 2)))) i=K (arrOf st) i:=fun i hi=>by
        show K (mirror (arrOf st4) _ _ _) i=_
        rw [ke]
        exact c5 i hi
      generalize setArr st4 (mirror (arrOf st4) (lo+m - (neq+1)) (lo+m) ((lo+m - (lo+m - (neq+1))) / 2))=st6 at d1 d2 d3 |-
      have hsz:lo+m<=(arrOf st6).size:=by rw [d1.size]; lia
      refine wpS_bind (wpS_reverse ?_)
      have q1:SB a₀ P (setArr st6 (mirror (arrOf st6) lo (lo+m) ((lo+m - lo) / 2))):=d1.put (mirror_perm _ _ _ _)
      have q2:SF (arrOf (setArr st6 (mirror (arrOf st6) lo (lo+m) ((lo+m - lo) / 2)))) lo m:=fun i j hi hij hj=>by
        show K (mirror (arrOf st6) lo (lo+m) ((lo+m - lo) / 2)) i<=K (mirror (arrOf st6) lo (lo+m) ((lo+m - lo) / 2)) j
        rw [K_mirror hsz,K_mirror hsz,if_pos (by lia),if_pos (by lia)]
        exact d2 _ _ (by lia) (by lia) (by lia)
      have q3:∀ i,i < lo->K (arrOf (setArr st6 (mirror (arrOf st6) lo (lo+m) ((lo+m - lo) / 2)))) i=K (arrOf st) i:=fun i hi=>by
        show K (mirror (arrOf st6) lo (lo+m) ((lo+m - lo) / 2)) i=_
        rw [K_mirror hsz,if_neg (by lia)]
        exact d3 i hi
      generalize setArr st6 (mirror (arrOf st6) lo (lo+m) ((lo+m - lo) / 2))=st5 at q1 q2 q3 |-
      refine wpS_bind (wpS_mono (wpS_forRange (I:=fun x c st'=>st5=st'/\c=(none,x)/\SF (arrOf st5) lo x)
        (Q:=fun c st'=>st5=st'/\∃ mm,c=(none,mm)/\m<=mm/\mm<=nrem/\SF (arrOf st5) lo mm/\(mm=nrem\/K (arrOf st5) (lo+mm) < K (arrOf st5) (lo+mm - 1))) ?_ ?_ ⟨rfl,rfl,q2⟩) ?_)
      · rintro x c st8 hax hxn ⟨rfl,rfl,hs⟩
        dsimp only
        refine wpS_bind (cU q1 h0 (by lia) (by lia) ?_)
        by_cases hl:K (arrOf st5) (lo+x) < K (arrOf st5) (lo+x - 1)
        · simp only [hl,decide_true,if_true]
          exact wpS_pure ⟨rfl,x,rfl,hax,by lia,hs,.inr hl⟩
        · simp only [hl,decide_false,Bool.false_eq_true,if_false]
          exact wpS_pure ⟨rfl,rfl,SF.more hs (by lia) (Int.not_lt.mp hl)⟩
      · rintro c st9 ⟨rfl,rfl,hs⟩
        rw [show max m nrem=nrem by lia] at hs |-
        exact ⟨rfl,nrem,rfl,by lia,Nat.le_refl _,hs,.inl rfl⟩
      rintro c st9 ⟨rfl,m',rfl,g1,g2,g3,_⟩
      exact wpS_pure (h m' _ q1 (by lia) g2 g3 q3)
    · rw [if_neg hq]
      have hsz:lo+m<=(arrOf st4).size:=by rw [c1.size]; lia
      refine wpS_bind (wpS_reverse ?_)
      have q1:SB a₀ P (setArr st4 (mirror (arrOf st4) lo (lo+m) ((lo+m - lo) / 2))):=c1.put (mirror_perm _ _ _ _)
      have q2:SF (arrOf (setArr st4 (mirror (arrOf st4) lo (lo+m) ((lo+m - lo) / 2)))) lo m:=fun i j hi hij hj=>by
        show K (mirror (arrOf st4) lo (lo+m) ((lo+m - lo) / 2)) i<=K (mirror (arrOf st4) lo (lo+m) ((lo+m - lo) / 2)) j
        rw [K_mirror hsz,K_mirror hsz,if_pos (by lia),if_pos (by lia)]
        exact c2 _ _ (by lia) (by lia) (by lia)
      have q3:∀ i,i < lo->K (arrOf (setArr st4 (mirror (arrOf st4) lo (lo+m) ((lo+m - lo) / 2)))) i=K (arrOf st) i:=fun i hi=>by
        show K (mirror (arrOf st4) lo (lo+m) ((lo+m - lo) / 2)) i=_
        rw [K_mirror hsz,if_neg (by lia)]
        exact c5 i hi
      generalize setArr st4 (mirror (arrOf st4) lo (lo+m) ((lo+m - lo) / 2))=st5 at q1 q2 q3 |-
      refine wpS_bind (wpS_mono (wpS_forRange (I:=fun x c st'=>st5=st'/\c=(none,x)/\SF (arrOf st5) lo x)
        (Q:=fun c st'=>st5=st'/\∃ mm,c=(none,mm)/\m<=mm/\mm<=nrem/\SF (arrOf st5) lo mm/\(mm=nrem\/K (arrOf st5) (lo+mm) < K (arrOf st5) (lo+mm - 1))) ?_ ?_ ⟨rfl,rfl,q2⟩) ?_)
      · rintro x c st8 hax hxn ⟨rfl,rfl,hs⟩
        dsimp only
        refine wpS_bind (cU q1 h0 (by lia) (by lia) ?_)
        by_cases hl:K (arrOf st5) (lo+x) < K (arrOf st5) (lo+x - 1)
        · simp only [hl,decide_true,if_true]
          exact wpS_pure ⟨rfl,x,rfl,hax,by lia,hs,.inr hl⟩
        · simp only [hl,decide_false,Bool.false_eq_true,if_false]
          exact wpS_pure ⟨rfl,rfl,SF.more hs (by lia) (Int.not_lt.mp hl)⟩
      · rintro c st9 ⟨rfl,rfl,hs⟩
        rw [show max m nrem=nrem by lia] at hs |-
        exact ⟨rfl,nrem,rfl,by lia,Nat.le_refl _,hs,.inl rfl⟩
      rintro c st9 ⟨rfl,m',rfl,g1,g2,g3,_⟩
      exact wpS_pure (h m' _ q1 (by lia) g2 g3 q3)
end
section
variable {prog:Program} {w:World} {A:Around} {E:Value->Shared->Prop} {s:Shared} {a₀:Array Keyed}
theorem SB.pending {P P':Array (Nat × Nat × Nat)} {st:SortSt} (h:SB a₀ P st):SB a₀ P' (setPending st P'):=⟨h.perm,h.kind,h.failed,rfl⟩
def Ad (a₀:Array Keyed) (st:SortSt):Prop:=(SB a₀ #[(0,a₀.size,0)] st/\SF (arrOf st) 0 a₀.size)\/∃ n1 n2 pw,SB a₀ #[(0,n1,pw),(n1,n2,0)] st/\n1+n2=a₀.size/\1<=n1/\1<=n2/\SF (arrOf st) 0 n1/\SF (arrOf st) n1 n2
theorem zF {st:SortSt} {Q:Unit->SortSt->Prop} (h0:IntKeys a₀) (hB:SB a₀ #[] st) (h64:64<=a₀.size) (h128:a₀.size < 128)
    (h:∀ st',(arrOf st').Perm a₀->failedOf st'=none->SortedTo (arrOf st') a₀.size->Q () st'):wpS (model prog w) A E s sortRuns' Q st:=by
  rw [sortRuns'_eq]
  refine wpS_bind (wpS_get ?_)
  dsimp only
  have hmr:minRun' a₀.size a₀.size 0=a₀.size / 2+a₀.size % 2:=by
    obtain ⟨f,hf⟩:∃ f,a₀.size=f+1+1:=⟨a₀.size - 2,by lia⟩
    have:minRun' (f+1+1) a₀.size 0=a₀.size / 2+a₀.size % 2:=by
      rw [minRun'_succ,if_neg (by lia),minRun'_succ,if_pos (by lia),Nat.max_eq_right (Nat.zero_le _)]
    rwa [<- hf] at this
  simp only [hB.size,hmr]
  refine wpS_bind (wpS_mono (wpS_forRange
    (I:=fun x c st'=>(x=0/\c=(none,0)/\SB a₀ #[] st')\/(x=1/\∃ n,c=(none,n)/\a₀.size / 2+a₀.size % 2<=n/\n < a₀.size/\SB a₀ #[(0,n,0)] st'/\SF (arrOf st') 0 n)\/(1<=x/\c=(none,a₀.size)/\Ad a₀ st'))
    (Q:=fun c st'=>c=(none,a₀.size)/\Ad a₀ st') ?step ?fin (.inl ⟨rfl,rfl,hB⟩)) ?post)
  case fin =>
    rintro c st' (⟨hx,_⟩ | ⟨hx,_⟩ | ⟨_,hc,hD⟩)
    · lia
    · lia
    · exact ⟨hc,hD⟩
  case step =>
    rintro x c st' _ hx (⟨rfl,rfl,b⟩ | ⟨rfl,n,rfl,n1,n2,b,sf⟩ | ⟨hx1,rfl,hD⟩)
    · dsimp only
      rw [if_neg (by lia)]
      simp only [Nat.sub_zero,Nat.zero_add]
      refine wpS_bind (uh h0 (by lia) (by lia) b fun m st2 b2 m1 m2 sf2 _=>?_)
      dsimp only
      have go:∀ (n:Nat) (st3:SortSt),a₀.size / 2+a₀.size % 2<=n->n<=a₀.size->SB a₀ #[] st3->SF (arrOf st3) 0 n ->
          ((1=0/\((none:Option Unit),n)=(none,0)/\SB a₀ #[] (setPending st3 ((pendingOf st3).push (0,n,0))))\/(True/\∃ n',((none:Option Unit),n)=(none,n')/\a₀.size / 2+a₀.size % 2<=n'/\n' < a₀.size/\SB a₀ #[(0,n',0)] (setPending st3 ((pendingOf st3).push (0,n,0)))/\SF (arrOf (setPending st3 ((pendingOf st3).push (0,n,0)))) 0 n')\/(1<=1/\((none:Option Unit),n)=(none,a₀.size)/\Ad a₀ (setPending st3 ((pendingOf st3).push (0,n,0))))):=by
        intro n st3 g1 g2 g3 g4
        have ep:(pendingOf st3).push (0,n,0) = #[(0,n,0)]:=by rw [g3.pend]; rfl
        rw [ep]
        by_cases z:n=a₀.size
        · exact .inr (.inr ⟨Nat.le_refl _,by rw [z],.inl ⟨by rw [<- z]; exact g3.pending,by rw [<- z]; exact g4⟩⟩)
        · exact .inr (.inl ⟨trivial,n,rfl,g1,by lia,g3.pending,g4⟩)
      by_cases hlt:m < a₀.size / 2+a₀.size % 2
      · rw [if_pos hlt]
        refine wpS_bind (wpS_lift (wpAny_rule ⟨rfl,?_⟩))
        refine wpS_bind (sM h0 (by lia) (by lia) b2 sf2 fun st3 b3 sf3 _=>?_)
        simp only [Bool.not_true,Bool.false_eq_true,if_false]
        refine wpS_bind (wpS_get ?_)
        have hb:(pendingOf st3).back? = none:=by rw [b3.pend]; rfl
        rw [hb]
        dsimp only
        exact wpS_bind (wpS_modify (wpS_pure (go _ st3 (by lia) (by lia) b3 sf3)))
      · rw [if_neg hlt]
        refine wpS_bind (wpS_get ?_)
        have hb:(pendingOf st2).back? = none:=by rw [b2.pend]; rfl
        rw [hb]
        dsimp only
        exact wpS_bind (wpS_modify (wpS_pure (go _ st2 (by lia) m2 b2 sf2)))
    · dsimp only
      rw [if_neg (by lia)]
      refine wpS_bind (uh h0 (by lia) (by lia) b fun m st2 b2 m1 m2 sf2 pre2=>?_)
      dsimp only
      have keep:∀ st3:SortSt,(∀ i,i < n->K (arrOf st3) i=K (arrOf st') i)->SF (arrOf st3) 0 n:=fun st3 hp i j hi hij hj=>by
        rw [hp i (by lia),hp j (by lia)]
        exact sf i j hi hij hj
      by_cases hlt:m < a₀.size / 2+a₀.size % 2
      · rw [if_pos hlt]
        refine wpS_bind (wpS_lift (wpAny_rule ⟨rfl,?_⟩))
        rw [show min (a₀.size - n) (a₀.size / 2+a₀.size % 2)=a₀.size - n by lia]
        refine wpS_bind (sM h0 (by lia) (by lia) b2 sf2 fun st3 b3 sf3 pre3=>?_)
        simp only [Bool.not_true,Bool.false_eq_true,if_false]
        refine wpS_bind (wpS_get ?_)
        have hb:(pendingOf st3).back? = some (0,n,0):=by rw [b3.pend]; rfl
        rw [hb]
        dsimp only
        refine wpS_bind (wpS_mono (wpS_forRange (I:=fun _ c st''=>st3=st''/\c=(none,())) (Q:=fun c st''=>st3=st''/\c=(none,())) ?_ (fun _ _ hh=>hh) ⟨rfl,rfl⟩) ?_)
        · rintro y c st'' _ _ ⟨rfl,rfl⟩
          refine wpS_bind (wpS_get ?_)
          skip
          rw [b3.pend]
          exact wpS_pure ⟨rfl,rfl⟩
        · rintro c st'' ⟨rfl,rfl⟩
          dsimp only
          refine wpS_bind (wpS_modify ?_)
          refine wpS_bind (wpS_modify ?_)
          refine wpS_pure (.inr (.inr ⟨by lia,(by congr 1; lia),.inr ⟨n,a₀.size - n,power' a₀.size (2*0+n) (2*0+n+n+(a₀.size - n)) a₀.size,⟨b3.perm,b3.kind,b3.failed,?_⟩,by lia,by lia,by lia,keep st3 (fun i hi=>(pre3 i hi).trans (pre2 i hi)),sf3⟩⟩))
          show ((pendingOf st3).modify ((pendingOf st3).size - 1) _).push (n,_,0)=_
          rw [b3.pend]
          first | rfl | simp [Array.modify] | (apply Array.ext'; simp [Array.modify])
      · rw [if_neg hlt]
        have em:m=a₀.size - n:=by lia
        subst em
        refine wpS_bind (wpS_get ?_)
        have hb:(pendingOf st2).back? = some (0,n,0):=by rw [b2.pend]; rfl
        rw [hb]
        dsimp only
        refine wpS_bind (wpS_mono (wpS_forRange (I:=fun _ c st''=>st2=st''/\c=(none,())) (Q:=fun c st''=>st2=st''/\c=(none,())) ?_ (fun _ _ hh=>hh) ⟨rfl,rfl⟩) ?_)
        · rintro y c st'' _ _ ⟨rfl,rfl⟩
          refine wpS_bind (wpS_get ?_)
          skip
          rw [b2.pend]
          exact wpS_pure ⟨rfl,rfl⟩
        · rintro c st'' ⟨rfl,rfl⟩
          dsimp only
          refine wpS_bind (wpS_modify ?_)
          refine wpS_bind (wpS_modify ?_)
          refine wpS_pure (.inr (.inr ⟨by lia,(by congr 1; lia),.inr ⟨n,a₀.size - n,power' a₀.size (2*0+n) (2*0+n+n+(a₀.size - n)) a₀.size,⟨b2.perm,b2.kind,b2.failed,?_⟩,by lia,by lia,by lia,keep st2 pre2,sf2⟩⟩))
          show ((pendingOf st2).modify ((pendingOf st2).size - 1) _).push (n,_,0)=_
          rw [b2.pend]
          first | rfl | simp [Array.modify] | (apply Array.ext'; simp [Array.modify])
    · dsimp only
      rw [if_pos (Nat.le_refl _)]
      exact wpS_pure ⟨rfl,hD⟩
  case post =>
    rintro c st' ⟨rfl,hD⟩
    dsimp only
    refine wpS_bind (wpS_mono (wpS_forRange (I:=fun y c st''=>c=(none,())/\((y=0/\Ad a₀ st'')\/((arrOf st'').Perm a₀/\failedOf st''=none/\(pendingOf st'').size<=1/\SortedTo (arrOf st'') a₀.size)))
      (Q:=fun c st''=>c=(none,())/\(arrOf st'').Perm a₀/\failedOf st''=none/\SortedTo (arrOf st'') a₀.size) ?_ ?_ ⟨rfl,.inl ⟨rfl,hD⟩⟩) ?_)
    · rintro y c st'' _ _ ⟨rfl,⟨rfl,hD⟩ | ⟨q1,q2,q3,q4⟩⟩
      · refine wpS_bind (wpS_get ?_)
        skip
        rcases hD with ⟨b,sf⟩ | ⟨n1,n2,pw,b,e,g1,g2,s1,s2⟩
        · rw [if_pos (by rw [b.pend]; exact Nat.le_refl 1)]
          exact wpS_pure ⟨rfl,b.perm,b.failed,fun i j hij hj=>sf i j (Nat.zero_le _) hij (by lia)⟩
        · rw [if_neg (by rw [b.pend]; simp)]
          rw [b.pend]
          refine wpS_bind (uC b.kind (b.keys h0) b.failed b.pend (by rw [b.size]; lia) g1 g2 (fun i j hij hj=>s1 i j (Nat.zero_le _) hij (by lia)) (fun i j hi hij hj=>s2 i j hi hij hj) fun st5 f5 p5 pm5 so5=>?_)
          refine wpS_pure ⟨rfl,.inr ⟨pm5.trans b.perm,f5,by rw [p5]; exact Nat.le_refl 1,fun i j hij hj=>so5 i j hij (by rw [pm5.size_eq,b.size]; exact hj)⟩⟩
      · refine wpS_bind (wpS_get ?_)
        skip
        rw [if_pos q3]
        exact wpS_pure ⟨rfl,q1,q2,q4⟩
    · rintro c st'' ⟨rfl,⟨hy,_⟩ | ⟨q1,q2,q3,q4⟩⟩
      · lia
      · exact ⟨rfl,q1,q2,q4⟩
    · rintro c st'' ⟨rfl,q1,q2,q4⟩
      exact wpS_pure (h _ q1 q2 q4)
end
section
variable {prog:Program} {w:World} {A:Around} {E:Value->Shared->Prop} {s:Shared}
theorem yX {c:Addr} {us:List Value} {ks:List Int} {m:Nat} {P:PySem.Fin->Shared->Prop} (hc:s.heap.get? c=some (seqObj "list" us.toArray m)) (hu:IntsAre us ks) (l1:64<=us.length) (l2:us.length < 128)
    (q:∀ (out:Array Value) (js:List Int),IntsAre out.toList js->js.Perm ks->js.Pairwise (·<=·)->P (.done (.ret .none)) { s with heap:=sortedHeap s.heap c us out }):wpAny (model prog w) A (Builtin.«list.sort» ⟨[.ref c],[]⟩) P E s:=by
  have hlt:c < s.heap.objs.size:=Heap.lt_size hc
  have hn:us.toArray.size=us.length:=by simp
  obtain ⟨e,h1⟩:∃ e,(s.heap.update c (Obj.mapSeq fun _=>#[])).get? c=some (seqObj "list" #[] e):=⟨_,get?_update_seq hc _⟩
  have h2:(((s.heap.update c (Obj.mapSeq fun _=>#[])).push (seqObj "tuple" us.toArray 0)).push (seqObj "list" #[] 0)).get? c=some (seqObj "list" #[] e):=Heap.get?_push_of_some _ (Heap.get?_push_of_some _ h1)
  have hz1:us.length<=sizeLine:=by rw [sizeLine_eq]; lia
  rw [list_sort_plain]
  refine wpAny_bind (listItems_at hc rfl (wpAny_bind (listUpdate_at hc rfl (wpAny_bind (seqEpoch_at h1 rfl (wpAny_bind (wpAny_newTuple (wpAny_bind (wpAny_newList (wpAny_holding ?_) (Nat.zero_le _))) hz1)))) (by rw [List.size_toArray]; exact hz1) (Nat.zero_le _))))
  show wpAny (model prog w) A _ P E { s with heap:=((s.heap.update c (Obj.mapSeq fun _=>#[])).push (seqObj "tuple" us.toArray 0)).push (seqObj "list" #[] 0) }
  have b2:¬ us.toArray.size < 2:=by lia
  dsimp only
  rw [if_neg b2,if_neg b2]
  obtain ⟨u1,u2,ut,rfl⟩:∃ u1 u2 ut,us=u1::u2::ut:=by
    match us,l1 with
    | u1::u2::ut,_=>exact ⟨u1,u2,ut,rfl⟩
  rw [keyKind_ints hu]
  refine wpAny_bind (wpAny_pure (wpAny_bind (wpAny_mono (zF (a₀:=pairsOf (u1::u2::ut)) (Q:=fun _ z=>(arrOf z).Perm (pairsOf (u1::u2::ut))/\failedOf z=none/\SortedTo (arrOf z) (pairsOf (u1::u2::ut)).size)
    hu.intKeys ⟨Array.Perm.refl _,rfl,rfl,rfl⟩ (by rw [pairsOf_size]; exact l1) (by rw [pairsOf_size]; exact l2) fun z z1 z2 z3=>⟨z1,z2,z3⟩) ?_ fun _ _ x=>x)))
  rintro ⟨⟨⟩,z⟩ s' ⟨rfl,z1,z2,z3⟩
  obtain ⟨js,j1,j2,j3⟩:=sorted_out hu z1 z3
  have hz:((arrOf z).map (·.2)).size<=sizeLine+1:=by
    rw [Array.size_map,z1.size_eq,pairsOf_size,sizeLine_eq]
    lia
  dsimp only
  refine wpAny_bind (seqEpoch_at h2 rfl (wpAny_bind (listUpdate_at h2 rfl ?_ (hsz2:=hz))))
  rw [z2]
  simp only [bne_self_eq_false,Bool.false_eq_true,if_false]
  exact wpAny_pure (q _ js j1 j2 j3)
theorem sorted_far {c:Addr} {us:List Value} {ks:List Int} {Q:Value->Shared->Prop} (hc:s.heap.IsList c us.toArray) (hu:IntsAre us ks) (l1:64<=us.length) (l2:us.length < 128)
    (q:∀ (out:Array Value) (js:List Int),IntsAre out.toList js->js.Perm ks->js.Pairwise (·<=·)->Q (.ref (s.heap.objs.size+1)) { s with heap:=sortedAll s.heap us out }):wpAny (model prog w) A (call (.builtin "sorted") [.ref c]) Q E s:=by
  have hn:((s.heap.push (seqObj "list" #[] 0)).update s.heap.objs.size (Obj.mapSeq (·++us.toArray))).objs.size=s.heap.objs.size+1:=(Heap.size_update _ _ _).trans (size_push' _ _)
  have hL:=hn▸Heap.get?_push_size ((s.heap.push (seqObj "list" #[] 0)).update s.heap.objs.size (Obj.mapSeq (·++us.toArray))) (o:=seqObj "list" us.toArray 0) rfl
  refine Calls.call_function_entry kind_sorted plain_sorted entry_sorted (args_sorted1 _) ?_
  unfold Builtin.«sorted»
  have hz1:us.length<=sizeLine:=by rw [sizeLine_eq]; lia
  refine wpAny_bind (m:=checkCount "sorted" 1 1 _) (wpAny_pure (wpAny_bind (collect_list hc (wpAny_bind (wpAny_newList ?_ hz1)) hz1)))
  show wpAny _ _ _ _ _ { s with heap:=((s.heap.push (seqObj "list" #[] 0)).update s.heap.objs.size (Obj.mapSeq (·++us.toArray))).push (seqObj "list" us.toArray 0) }
  rw [hn]
  exact wpAny_bind (wpAny_holding (wpAny_call_entry slot_list_sort ⟨_,hL,rfl⟩ entry_list_sort (yX hL hu l1 l2 fun out js a1 a2 a3=>⟨_,rfl,wpAny_pure ⟨_,rfl,q out js a1 a2 a3⟩⟩) (args_list_sort _)))
end
end Lg
namespace L2
open PySem PySem.Spec PyProof.Rows
theorem qT {X:Cx}:dY X (.builtin "sorted") (fun xs H Q=>∃ (p:Addr) (ns:List Int),xs=[.ref p]/\au X.K H p (ns.map V.int)/\ns.length < 128/\∀ (q:Addr) (ms:List Int),H q=none->ms.Perm ns->ms.Pairwise (·<=·)->Q (.ref q) (upd H q (.lst (ms.map V.int)))):=by
  intro pins s σ H xs us Q I r h
  obtain ⟨p,ns,rfl,hl,h2,q⟩:=h
  by_cases h64:ns.length < 64
  · exact uI pins s σ H _ us Q I r ⟨p,ns,rfl,hl,h64,q⟩
  obtain ⟨u,rfl,ru⟩:=vals1 r
  cases ru
  obtain ⟨its,r',pl,hz⟩:=I.list hl
  have hi:IntsAre its ns:=intsAre_of r'
  refine Lg.sorted_far pl.isList hi (by rw [hi.length]; lia) (by rw [hi.length]; exact h2) fun out ms ho hp hs=>?_
  obtain ⟨e,he⟩:=sortedAll_at s.heap its out
  have lm:(ms.map V.int).length<=sizeLine:=by rw [List.length_map,hp.length_eq]; exact sz (by lia)
  exact ⟨.ref _,_,I.laid (t':=s.toks) (o:=.lst (ms.map V.int)) (fun b u e=>sortedAll_old e) (Nat.le_succ _) ⟨lm,out.toList,e,iQ ho,by simpa [seqObj] using he⟩,rfl,q _ ms (I.hok.fresh (Nat.le_succ _)) hp hs⟩
end L2
set_option Elab.async false
set_option linter.all false
set_option maxRecDepth 100000
set_option maxHeartbeats 4000000
namespace L2
open PySem PySem.Spec PyProof.Rows
section
variable {X:Cx} {tg:Expr}
end
section
variable {X:Cx} {a b c d:Expr} {ta tb tc td:TE} {pos:Pos}
noncomputable def EZ (r1 r2 r3:R2) (ta tb tc td:TE):TE:=fun σ H Q=>ta σ H fun x H1=>tb σ H1 fun y H2=>r1 x y H2 fun z H3=>∃ k,z = .bl k /\
  (if k=true then tc σ H3 fun w' H4=>r2 y w' H4 fun z' H5=>∃ k',z' = .bl k'/\(if k'=true then td σ H5 fun v' H6=>r3 w' v' H6 Q else Q (.bl false) H5) else Q (.bl false) H3)
theorem B5 {o1 o2 o3:CmpOp} {r1 r2 r3:R2} (h1:cp X (compareOp o1) r1) (h2:cp X (compareOp o2) r2) (h3:cp X (compareOp o3) r3) (ha:PE X a ta) (hb:PE X b tb) (hc:PE X c tc) (hd:PE X d td)
    (hm:lastMarks [o1,o2,o3] [b,c,d]=false:=by with_unfolding_all rfl):PT X (.Compare a [o1,o2,o3] [b,c,d] pos) (Ah (EZ r1 r2 r3 ta tb tc td)):=by
  intro pins s σ H Q I h
  refine isTrue_chain (aH (ha pins s σ H _ I h) fun v s1 ⟨x,H1,I1,x1,q1⟩=>test_link (aH (hb pins s1 σ H1 _ I1 q1) fun u s2 ⟨y,H2,I2,x2,q2⟩ =>
    aH (h1 pins s2 σ H2 x y v u _ I2 x1 x2 q2) fun e s3 ⟨z,H3,I3,x3,k,ek,q3⟩=>?_)) hm
  subst ek
  cases x3
  refine wpAny_truthy_bool ?_
  cases k with
  | false =>
    obtain ⟨k',e',q'⟩:=q3
    cases e'
    exact ite_ff ⟨H3,I3,q'⟩
  | true =>
    refine ite_tt (test_link (aH (hc pins s3 σ H3 _ I3 q3) fun w' s4 ⟨z',H4,I4,x4,q4⟩=>aH (h2 pins s4 σ H4 y z' u w' _ I4 x2 x4 q4) fun d' s5 ⟨z2,H5,I5,x5,k2,e2,q5⟩=>?_))
    subst e2
    cases x5
    refine wpAny_truthy_bool ?_
    cases k2 with
    | false =>
      obtain ⟨k',e',q'⟩:=q5
      cases e'
      exact ite_ff ⟨H5,I5,q'⟩
    | true =>
      refine ite_tt (test_last (aH (hd pins s5 σ H5 _ I5 q5) fun w2 s6 ⟨z3,H6,I6,x6,q6⟩=>aH (h3 pins s6 σ H6 z' z3 w' w2 _ I6 x4 x6 q6) fun d2 s7 ⟨z4,H7,I7,x7,k3,e3,q7⟩=>?_))
      subst e3
      cases x7
      exact wpAny_truthy_bool ⟨H7,I7,q7⟩
end
end L2
namespace Ck
open PySem L2
theorem bC.prs {K:W.Frag} {H:Hp} {a b:Addr} {ps qs:List Pair} (ne:a≠b) (ha:bL H a ps) (hb:bL H b qs):bC K H 2 (.ref a) (.ref b) (decide (ps=qs)):=by
  obtain ⟨xs,ea,lx,px⟩:=ha.len
  obtain ⟨ys,eb,ly,py⟩:=hb.len
  by_cases hl:ps.length=qs.length
  · have h:=bC.lst (K:=K) (n:=1) (e:=fun j=>decide (ps.getD j (0,0)=qs.getD j (0,0))) ne (au.of ea) (au.of eb) (by lia) (fun j x y hx hy=>by
      obtain ⟨p,t,hp,rfl,ht⟩:=px.get hx
      obtain ⟨r,u,hr,rfl,hu⟩:=py.get hy
      rw [List.getD_eq_getElem?_getD,List.getD_eq_getElem?_getD,hp,hr]
      show bC K H 1 _ _ (decide (p=r))
      by_cases e:t=u
      · subst e
        have:p=r:=by
          rw [ht] at hu
          injection hu with hu; injection hu with hu
          injection hu with h1 h2; injection h2 with h2 _
          injection h1 with h1; injection h2 with h2
          exact Prod.ext h1 h2
        rw [decide_eq_true this]
        exact bC.same
      · have:=bC.two (K:=K) (n:=0) e ht hu
        have e2:decide (p=r)=(decide (p.1=r.1)&&decide (p.2=r.2)):=by
          rw [Bool.eq_iff_iff,Bool.and_eq_true,decide_eq_true_iff,decide_eq_true_iff,decide_eq_true_iff]
          exact ⟨fun z=>by rw [z]; exact ⟨rfl,rfl⟩,fun z=>Prod.ext z.1 z.2⟩
        rw [e2]
        exact this)
    have e:(List.range xs.length).all (fun j=>decide (ps.getD j (0,0)=qs.getD j (0,0)))=decide (ps=qs):=by
      rw [Bool.eq_iff_iff,List.all_eq_true,decide_eq_true_iff]
      constructor
      · intro h
        refine List.ext_getElem hl fun k h1 h2=>?_
        have:=of_decide_eq_true (h k (List.mem_range.mpr (by lia)))
        rw [List.getD_eq_getElem?_getD,List.getD_eq_getElem?_getD,List.getElem?_eq_getElem h1,List.getElem?_eq_getElem h2] at this
        exact this
      · intro h k _
        rw [h]
        exact decide_eq_true rfl
    rw [e] at h
    exact h
  · have:decide (ps=qs)=false:=decide_eq_false fun z=>hl (by rw [z])
    rw [this]
    exact bC.lstN ne (au.of ea) (au.of eb) (by lia)
end Ck
namespace Ck
open PySem L2
noncomputable def br:List Pair->List Int
  | []=>[]
  | p::ps=>p.1::p.2::br ps
theorem fG:∀ ps:List Pair,(br ps).length=2*ps.length
  | []=>rfl
  | p::ps=>by
    show (br ps).length+1+1=2*(ps.length+1)
    have:=fG ps
    lia
theorem jt:∀ ps qs:List Pair,br (ps++qs)=br ps++br qs
  | [],qs=>rfl
  | p::ps,qs=>by
    show p.1::p.2::br (ps++qs)=_
    rw [jt ps qs]
    rfl
theorem eA {x:Int}:∀ {ps:List Pair},x∈br ps↔∃ p∈ps,x=p.1\/x=p.2
  | []=>by simp [br]
  | p::ps=>by
    show x∈p.1::p.2::br ps↔_
    rw [List.mem_cons,List.mem_cons,eA (ps:=ps)]
    constructor
    · rintro (h | h | ⟨r,hr,h⟩)
      · exact ⟨p,List.mem_cons_self ..,.inl h⟩
      · exact ⟨p,List.mem_cons_self ..,.inr h⟩
      · exact ⟨r,List.mem_cons_of_mem _ hr,h⟩
    · rintro ⟨r,hr,h⟩
      rcases List.mem_cons.mp hr with rfl | hr
      · rcases h with h | h
        · exact .inl h
        · exact .inr (.inl h)
      · exact .inr (.inr ⟨r,hr,h⟩)
noncomputable abbrev cN (ps:List Pair) (k:Nat):Int:=(ps.getD k (0,0)).1
noncomputable abbrev rE (ps:List Pair) (k:Nat):Int:=(ps.getD k (0,0)).2
noncomputable def yo (ps:List Pair) (k:Nat):Bool:=decide (cN ps k < rE ps k)&&(decide (k=0) || decide (cN ps (k - 1) < cN ps k))
noncomputable def ic (p r:Pair):Bool:=decide (p.1 < r.1)&&(decide (r.1 < p.2)&&decide (p.2 < r.2))
noncomputable def dh (ps:List Pair):Bool:=ps.any fun p=>ps.any (ic p)
noncomputable def cn (ps:List Pair):Bool:=(List.range ps.length).all (yo ps)&&(dC (br ps)&&!dh ps)
theorem iq {ps:List Pair}:(List.range ps.length).all (yo ps)=true↔∀ k,k < ps.length->cN ps k < rE ps k/\(k=0\/cN ps (k - 1) < cN ps k):=by
  rw [List.all_eq_true]
  constructor
  · intro h k hk
    have:=h k (List.mem_range.mpr hk)
    unfold yo at this
    simpa using this
  · intro h k hk
    have:=h k (List.mem_range.mp hk)
    unfold yo
    simpa using this
theorem yB {ps:List Pair} (h:∀ k,k < ps.length->k=0\/cN ps (k - 1) < cN ps k):∀ (j i:Nat),i < j->j < ps.length->cN ps i < cN ps j
  | 0,i,hi,_=>absurd hi (Nat.not_lt_zero _)
  | j+1,i,hi,hj=>by
    have h1:=(h (j+1) hj).resolve_left (by lia)
    rw [Nat.add_sub_cancel] at h1
    by_cases e:i=j
    · subst e; exact h1
    · exact Int.lt_trans (yB h j i (by lia) (by lia)) h1
theorem p6 {ps:List Pair} {k:Nat} (h:k < ps.length):ps.getD k (0,0)∈ps:=by
  rw [List.getD_eq_getElem?_getD,List.getElem?_eq_getElem h]
  exact List.getElem_mem h
theorem xU {ps:List Pair} {p:Pair} (h:p∈ps):∃ k,k < ps.length/\ps.getD k (0,0)=p:=by
  obtain ⟨k,hk,e⟩:=List.getElem_of_mem h
  exact ⟨k,hk,by rw [List.getD_eq_getElem?_getD,List.getElem?_eq_getElem hk]; exact e⟩
theorem pV {ps:List Pair} (h:(br ps).Nodup):ps.Pairwise fun p q=>p.1≠q.1:=by
  induction ps with
  | nil=>exact .nil
  | cons p ps ih =>
    have h':(p.1::p.2::br ps).Nodup:=h
    rw [List.nodup_cons,List.nodup_cons] at h'
    refine .cons (fun q hq e=>h'.1 ?_) (ih h'.2.2)
    rw [e]
    exact List.mem_cons_of_mem _ (eA.mpr ⟨q,hq,.inl rfl⟩)
theorem nz (n:Nat):(cA n).Nodup:=(nE n).imp fun h=>Int.ne_of_lt h
theorem ji {ps qs:List Pair} (hp:qs.Perm ps) (hs:qs.Pairwise bR) (hE:dC (br ps)=true):decide (ps=qs)=true↔∀ k,k < ps.length->k=0\/cN ps (k - 1) < cN ps k:=by
  have nd:(br ps).Nodup:=((dc _).mp hE).nodup_iff.mpr (nz _)
  have ne:=pV nd
  rw [decide_eq_true_iff]
  constructor
  · intro e k hk
    rw [<- e] at hs
    by_cases h0:k=0
    · exact .inl h0
    refine .inr ?_
    have h1:=List.pairwise_iff_getElem.mp hs (k - 1) k (by lia) hk (by lia)
    have h2:=List.pairwise_iff_getElem.mp ne (k - 1) k (by lia) hk (by lia)
    have e1:ps.getD (k - 1) (0,0)=ps[k - 1]:=by rw [List.getD_eq_getElem?_getD,List.getElem?_eq_getElem (by lia)]; rfl
    have e2:ps.getD k (0,0)=ps[k]:=by rw [List.getD_eq_getElem?_getD,List.getElem?_eq_getElem hk]; rfl
    unfold cN
    rw [e1,e2]
    unfold bR at h1
    lia
  · intro h
    refine List.Perm.eq_of_pairwise (le:=bR) (fun a b _ _ h1 h2=>?_) ?_ hs hp.symm
    · unfold bR at h1 h2
      exact Prod.ext (by lia) (by lia)
    · refine List.pairwise_iff_getElem.mpr fun i j hi hj hij=>?_
      have:=yB h j i hij hj
      unfold cN at this
      rw [List.getD_eq_getElem?_getD,List.getD_eq_getElem?_getD,List.getElem?_eq_getElem hi,List.getElem?_eq_getElem hj] at this
      exact .inl this
theorem CP {ps:List Pair}:(ps.all fun p=>decide (p.1 < p.2))=true↔∀ k,k < ps.length->cN ps k < rE ps k:=by
  rw [List.all_eq_true]
  constructor
  · intro h k hk
    exact of_decide_eq_true (h _ (p6 hk))
  · intro h p hp
    obtain ⟨k,hk,rfl⟩:=xU hp
    exact decide_eq_true (h k hk)
theorem yq {ps:List Pair} (h:dC (br ps)=false):cn ps=false:=by unfold cn; rw [h]; simp
theorem wR {ps qs:List Pair} (hp:qs.Perm ps) (hs:qs.Pairwise bR) (hE:dC (br ps)=true) (h:ps≠qs):cn ps=false:=by
  cases e:cn ps with
  | false=>rfl
  | true =>
    unfold cn at e
    rw [Bool.and_eq_true] at e
    exact absurd (of_decide_eq_true ((ji hp hs hE).mpr fun k hk=>(iq.mp e.1 k hk).2)) h
theorem uz {ps qs:List Pair} (hp:qs.Perm ps) (hs:qs.Pairwise bR) (hE:dC (br ps)=true) (h:ps=qs):cn ps=((ps.all fun p=>decide (p.1 < p.2))&&!dh ps):=by
  have a:=(ji hp hs hE).mp (decide_eq_true h)
  have b:(List.range ps.length).all (yo ps)=ps.all fun p=>decide (p.1 < p.2):=by
    rw [Bool.eq_iff_iff,iq,CP]
    exact ⟨fun h k hk=>(h k hk).1,fun h k hk=>⟨h k hk,a k hk⟩⟩
  unfold cn
  rw [b,hE,Bool.true_and]
theorem gh {ps:List Pair}:dh ps=true↔∃ p∈ps,∃ r∈ps,p.1 < r.1/\r.1 < p.2/\p.2 < r.2:=by
  unfold dh
  rw [List.any_eq_true]
  constructor
  · rintro ⟨p,hp,h⟩
    obtain ⟨r,hr,h⟩:=List.any_eq_true.mp h
    unfold ic at h
    exact ⟨p,hp,r,hr,by simpa using h⟩
  · rintro ⟨p,hp,r,hr,h⟩
    exact ⟨p,hp,List.any_eq_true.mpr ⟨r,hr,by unfold ic; simpa using h⟩⟩
end Ck
set_option Elab.async false
set_option linter.all false
set_option maxRecDepth 100000
set_option maxHeartbeats 4000000
namespace L2
open PySem PySem.Spec PyProof.Rows
noncomputable def uW (x:Str):It:=⟨fun i _=>i < x.cps.size,fun i H v H'=>∃ T c,H T=none/\x.cps[i]? = some c/\v = .ref T/\H'=upd H T (.tup [.int i,.str ⟨#[c]⟩]),fun i _=>i=x.cps.size⟩
theorem nA {P:Program} {w:World} {K:W.Frag} {elts:List Expr} {k0:Nat} {tp:Pos} (e it:Addr) (hei:e≠it) (ty:String) (x:Str) (t:Tok)
    (D:∀ A:Around,A.handled=none->Draws P w A it [it] x.cps.size (fun i v=>∃ c u,x.cps[i]? = some c/\v = .str ⟨#[c]⟩ u) (fun i h=>h.IsStrIter it ty x t i)) :
    Turn P w K (.Tuple elts k0 tp) (uW x) [e,it] e (fun i h=>(∃ old,IsEnum h e it i old)/\h.IsStrIter it ty x t i) where
  mem:=by simp
  obj:=fun i h st b hb=>by
    obtain ⟨⟨old,he⟩,o,ho,c,d⟩:=st
    rcases List.mem_cons.mp hb with z | z
    · rw [z]
      exact ⟨_,he,fun v z=>by
        have z':Data.fields _=Data.cell v:=z
        cases z'⟩
    · rw [show b=it by simpa using z]
      exact ⟨o,ho,fun v z=>by rw [d] at z; cases z⟩
  keep:=fun i h h' st k=>⟨let ⟨old,he⟩:=st.1; ⟨old,k e (by simp) _ he⟩,let ⟨o,ho,r⟩:=st.2; ⟨o,k it (by simp) o ho,r⟩⟩
  item:=by
    intro X hP hw hK hc i pins s σ H E I hf st hg
    subst hP hw hK
    obtain ⟨⟨old,he⟩,hit⟩:=st
    have fe:=hf e (by simp)
    have fi:=hf it (by simp)
    refine wpAny_pyNext_enum_itemD (D X.A.in1 (I.ok.hd hc)) he hit hg hei (by simpa using hei) fun v h1 tk hv ho hit1 hT hsz hk=>?_
    obtain ⟨c,u,ec,rfl⟩:=hv
    refine ⟨_,rfl,wpAny_letOwnedTupleGo_enum ho fun h2 he2 sb=>?_⟩
    have elt:e < s.heap.objs.size:=Heap.lt_size he
    have ilt:it < s.heap.objs.size:=by obtain ⟨_,q,_⟩:=hit; exact Heap.lt_size q
    have hit2:h2.IsStrIter it ty x t (i+1):=let ⟨o,q,r⟩:=hit1; ⟨o,(sb.2 it (Ne.symm hei)).trans q,r⟩
    have k2:∀ b o,b≠e->b≠it->s.heap.get? b=some o->h2.get? b=some o:=fun b o b1 b2 q=>(sb.2 b b1).trans (hk b o b1 b2 q)
    have I2:Inv X pins σ H { s with heap:=h2,toks:=tk+1 }:=I.turned2 k2 ⟨_,he2⟩ (by obtain ⟨o,q,_⟩:=hit2; exact ⟨o,q⟩) fe fi
    have oT:zZ X pins H s.heap.objs.size:=by
      have fT:gP X pins H s.heap.objs.size:=I.fpOk (Nat.le_refl _) (I.hok.fresh (Nat.le_refl _))
      exact ⟨Heap.get?_none_of_le I.sz,fT.1,fT.2.1,fT.2.2.2.2.1,fT.2.2.2.2.2⟩
    have hT2:h2.get? s.heap.objs.size=some { cls:=.type "tuple",data:=.seq #[.int i tk,.str ⟨#[c]⟩ u] }:=(sb.2 _ (Nat.ne_of_gt elt)).trans hT
    have I3:=I2.trackO (o':=.tup [.int i,.str ⟨#[c]⟩]) oT ⟨sz (n:=2) (by decide),[.int i tk,.str ⟨#[c]⟩ u],.cons ⟨_,rfl⟩ (.cons ⟨_,rfl⟩ .nil),_,hT2,rfl,_,rfl⟩
    refine ⟨.ref s.heap.objs.size,_,I3,rfl,⟨_,c,oT.free,ec,rfl,rfl⟩,⟨⟨_,by simpa using he2⟩,hit2⟩,fun b hb=>?_⟩
    rcases List.mem_cons.mp hb with z | z
    · rw [z,upd_ne (Nat.ne_of_lt elt)]; exact fe.1
    · rw [show b=it by simpa using z,upd_ne (Nat.ne_of_lt ilt)]; exact fi.1
  done:=by
    intro X hP hw hK hc i pins s σ H E I hf st hg
    subst hP hw hK
    obtain ⟨⟨old,he⟩,hit⟩:=st
    obtain ⟨f0,f1,f2,f3,f4,f5⟩:=hf it (by simp)
    have hi:i=x.cps.size:=hg
    subst hi
    refine wpAny_pyNext_enum_endD (D X.A.in1 (I.ok.hd hc)) he hit fun h2 eb=>⟨rfl,?_⟩
    exact I.turned (t':=s.toks) (fun b o hb q=>eb b o hb q) f0 f1 f3 f4 f5
  self:=fun _ _ _ _ _ st h=>by
    obtain ⟨⟨old,he⟩,_⟩:=st
    exact wpAny_pyIter_enum he h
noncomputable def CG (ta:TA):TI:=fun σ H R=>ta σ H fun vs H1=>∃ x,vs=[.str x]/\R (uW x) H1
section
variable {X:Cx}
theorem yW {elts:List Expr} {k0:Nat} {tp:Pos} {a:Expr} {ta:TA} {p pos:Pos} (hg:Gl X "enumerate") (hm:X.mg "enumerate" = none) (ha:PA X [a] ta) (hs:starEach [a] X.env=[(false,eval a X.env)]:=by rfl) :
    PI X (.Tuple elts k0 tp) (.Call (.Name "enumerate" p) [a] [] pos) (CG ta):=by
  intro pins s σ H R I h
  refine Call_ (cV I hg hm boot_enumerate (PyProof.Rows.callWith_type1 (aH (ha pos pins s σ H _ I h) fun us s1 ⟨vs,H1,I1,r1,q1⟩=>?_) hs rfl))
  obtain ⟨x,rfl,q⟩:=q1
  obtain ⟨u,rfl,ru⟩:=vals1 r1
  obtain ⟨t,rfl⟩:=ru
  refine call_enumerate_str fun h2 he hit hsz hk=>?_
  have I2:Inv X pins σ H1 { s1 with heap:=h2 }:=I1.kept (t':=s1.toks) hk
  have T:Turn X.prog X.w X.K (.Tuple elts k0 tp) (uW x) [s1.heap.objs.size+1,s1.heap.objs.size] (s1.heap.objs.size+1) (fun i h=>(∃ old,IsEnum h (s1.heap.objs.size+1) s1.heap.objs.size i old)/\h.IsStrIter s1.heap.objs.size (strIterType x) x t i):=by
    cases hA:x.cps.all (· < 128)
    · rw [show strIterType x = "str_iterator" by simp [strIterType,hA]]
      exact nA _ _ (Nat.succ_ne_self _) _ x t fun A' h'=>Draws.strWide h' _ x t
    · rw [show strIterType x = "str_ascii_iterator" by simp [strIterType,hA]]
      exact nA _ _ (Nat.succ_ne_self _) _ x t fun A' h'=>Draws.strAscii h' _ x t
  refine wpAny_pyIter_enum he ⟨_,[s1.heap.objs.size+1,s1.heap.objs.size],_,_,H1,rfl,I2,T,⟨⟨_,he⟩,hit⟩,fun b hb=>?_,q⟩
  rcases List.mem_cons.mp hb with z | z
  · rw [z]; exact I1.fpOk (Nat.le_succ _) (I1.hok.fresh (Nat.le_succ _))
  · rw [show b=s1.heap.objs.size by simpa using z]; exact I1.fpOk (Nat.le_refl _) (I1.hok.fresh (Nat.le_refl _))
theorem yO {x:Str} {g:TG} {tb:TS} {D:Ends} {σ:St} {H:Hp} (Pv:Nat->St->Hp->Prop) (h0:Pv 0 σ H)
    (hs:∀ i c σ H T,x.cps[i]? = some c->Pv i σ H->H T=none->g (.ref T) σ (upd H T (.tup [.int i,.str ⟨#[c]⟩])) fun σ2 H2=>tb { D with nx:=Pv (i+1),ct:=Pv (i+1),bk:=D.nx } σ2 H2) (hd:∀ σ H,Pv x.cps.size σ H->D.nx σ H) :
    ∃ W:Nat->Nat->St->Hp->Prop,(∃ m,W 0 m σ H)/\∀ i m σ H,W i m σ H ->
      ((uW x).stop i H/\D.nx σ H)\/((uW x).go i H/\∃ N:St->Hp->Prop,(∀ σ' H',N σ' H'->∃ m',m' < m/\W (i+1) m' σ' H')/\∀ v H',(uW x).yld i H v H'->g v σ H' fun σ2 H2=>tb { D with nx:=N,ct:=N,bk:=D.nx } σ2 H2):=by
  refine ⟨fun i m σ H=>m=x.cps.size - i/\i<=x.cps.size/\Pv i σ H,⟨x.cps.size,by simp,Nat.zero_le _,h0⟩,?_⟩
  rintro i m σ H ⟨rfl,hi,p⟩
  by_cases hlt:i < x.cps.size
  · refine .inr ⟨hlt,Pv (i+1),fun σ' H' p'=>⟨x.cps.size - (i+1),by lia,rfl,hlt,p'⟩,fun v H' y=>?_⟩
    obtain ⟨T,c,nT,hx,rfl,rfl⟩:=y
    exact hs i c σ H T hx p nT
  · have e:i=x.cps.size:=by lia
    subst e
    exact .inl ⟨rfl,hd σ H p⟩
end
section
variable {X:Cx}
noncomputable def EW:R2:=fun x y H Q=>∃ a i j,x = .ref a/\y = .ref a/\H a=some (.tup [.int i,.int j])/\Q (.bl false) H
theorem Dt (hu:X.A.units+100 < cLine):cp X (compareOp .NotEq) EW:=by
  intro pins s σ H x y u v Q I ru rv h
  obtain ⟨a,i,j,rfl,rfl,ha,q⟩:=h
  cases (show u=Value.ref _ from ru)
  cases (show v=Value.ref _ from rv)
  obtain ⟨us,r,pl,_⟩:=I.tuple (aT.of ha)
  refine SeqAt.RcNeAt.tuples (e:=fun _=>true) pl pl (by lia) (fun j h1 h2=>?_) _ _ _ _ ⟨.bl _,H,I,rfl,?_⟩
  · obtain ⟨x,ex,rx⟩:=cX r h1
    obtain ⟨k,rfl⟩:∃ k,x = .int k:=by
      rcases List.mem_cons.mp (List.mem_of_getElem? ex) with z | z
      · exact ⟨_,z⟩
      · exact ⟨_,by simpa using z⟩
    have z:=bC.flat (K:=X.K) (H:=H) (n:=0) (x:=V.int k) (y:=V.int k) rfl rfl
    rw [show nu (V.int k) (V.int k)=true from decide_eq_true rfl] at z
    exact z.at_ (A:=X.A.in1) (by show X.A.units+1+0 < cLine; lia) I rx rx
  · have e (k:Nat):(List.range k).all (fun _=>true)=true:=List.all_eq_true.mpr fun _ _=>rfl
    rw [e]
    simpa using q
end
end L2
namespace Ck
open PySem L2
noncomputable def Dp (c:List Nat) (j:Nat):Int:=(j:Int) - 2*((c.take j).count 41:Nat)
theorem A6 (c:List Nat):Dp c 0=0:=by unfold Dp; simp
theorem iK {c:List Nat} {j:Nat} (h:j < c.length):Dp c (j+1)=Dp c j+1 - 2*(if c.getD j 0=41 then 1 else 0):=by
  unfold Dp
  have e:c.getD j 0=c[j]:=by rw [List.getD_eq_getElem?_getD,List.getElem?_eq_getElem h]; rfl
  rw [List.take_add_one,List.getElem?_eq_getElem h,List.count_append,e]
  have:((some c[j]).toList).count 41=if c[j]=41 then 1 else 0:=by
    show [c[j]].count 41=_
    rw [List.count_singleton]
    by_cases z:c[j]=41<;>simp [z]
  rw [this]
  split<;>lia
noncomputable def bI (c:List Nat) (k:Nat):Int:=match (List.range c.length).find? (fun j=>decide (k<=j)&&decide (Dp c (j+1)=Dp c k)) with
  | some j=>(j:Int)
  | none=>-1
theorem oE {c:List Nat} {k j:Nat} (hk:k<=j) (hj:j < c.length) (h:Dp c (j+1)=Dp c k) (before:∀ m,k<=m->m < j->Dp c (m+1)≠Dp c k):bI c k=(j:Int):=by
  have:(List.range c.length).find? (fun j=>decide (k<=j)&&decide (Dp c (j+1)=Dp c k))=some j:=by
    rw [List.find?_range_eq_some]
    refine ⟨by simp [hk,h],List.mem_range.mpr hj,fun m hm=>?_⟩
    by_cases z:k<=m
    · have:=before m z hm
      simp [this]
    · simp [z]
  unfold bI
  rw [this]
theorem AD {c:List Nat} {k:Nat} (h:∀ m,k<=m->m < c.length->Dp c (m+1)≠Dp c k):bI c k = -1:=by
  have:(List.range c.length).find? (fun j=>decide (k<=j)&&decide (Dp c (j+1)=Dp c k))=none:=by
    rw [List.find?_eq_none]
    intro m hm
    by_cases z:k<=m
    · have:=h m z (List.mem_range.mp hm)
      simp [this]
    · simp [z]
  unfold bI
  rw [this]
noncomputable def bu (c:List Nat) (i:Nat):List Pair:=(List.range i).filterMap fun k=>if c.getD k 0=40 then some ((k:Int),bI c k) else none
theorem d6 (c:List Nat) (i:Nat):bu c (i+1)=bu c i++(if c.getD i 0=40 then [((i:Int),bI c i)] else []):=by
  unfold bu
  rw [List.range_succ,List.filterMap_append]
  congr 1
  by_cases h:c.getD i 0=40
  · rw [if_pos h,List.filterMap_cons_some (by rw [if_pos h]),List.filterMap_nil]
  · rw [if_neg h,List.filterMap_cons_none (by rw [if_neg h]),List.filterMap_nil]
theorem jx (c:List Nat) (i:Nat):(bu c i).Pairwise fun p q=>p.1 < q.1:=by
  unfold bu
  refine List.Pairwise.filterMap _ ?_ List.pairwise_lt_range
  intro a b hab p hp q hq
  by_cases ha:c.getD a 0=40
  · by_cases hb:c.getD b 0=40
    · rw [if_pos ha] at hp
      rw [if_pos hb] at hq
      injection hp with hp
      injection hq with hq
      subst hp; subst hq
      show (a:Int) < (b:Int)
      lia
    · rw [if_neg hb] at hq
      cases hq
  · rw [if_neg ha] at hp
    cases hp
theorem kf {c:List Nat} {i:Nat} {p:Pair}:p∈bu c i↔∃ k,k < i/\c.getD k 0=40/\p=((k:Int),bI c k):=by
  unfold bu
  rw [List.mem_filterMap]
  constructor
  · rintro ⟨k,hk,h⟩
    by_cases ha:c.getD k 0=40
    · rw [if_pos ha] at h
      injection h with h
      exact ⟨k,List.mem_range.mp hk,ha,h.symm⟩
    · rw [if_neg ha] at h
      cases h
  · rintro ⟨k,hk,ha,rfl⟩
    exact ⟨k,List.mem_range.mpr hk,by rw [if_pos ha]⟩
structure Wk (c:List Nat) (i:Nat) (fd:List Pair) (sk:List Int):Prop where
  prm:(fd++sk.map fun k=>(k,bI c k.toNat)).Perm (bu c i)
  flt:(br fd++sk).Perm (cA i)
  dep:(sk.length:Int)=Dp c i
  stk:∀ (s:Nat) (k:Int),sk[s]? = some k->0<=k/\k < (i:Int)/\Dp c k.toNat=(s:Int)/\∀ j,k.toNat<=j->j < i->(s:Int) < Dp c (j+1)
  prs:∀ p∈fd,0<=p.1/\p.1 < p.2/\p.2 < (i:Int)/\Dp c (p.2.toNat+1)=Dp c p.1.toNat/\∀ j:Nat,p.1.toNat<=j->(j:Int) < p.2->Dp c p.1.toNat < Dp c (j+1)
theorem Wk.nil (c:List Nat):Wk c 0 [] []:=⟨.nil,.nil,by rw [A6]; rfl,fun s k h=>by simp at h,fun p hp=>by cases hp⟩
theorem Wk.up {c:List Nat} {i:Nat} {fd:List Pair} {sk:List Int} (w:Wk c i fd sk) (hi:i < c.length) (h:c.getD i 0=40):Wk c (i+1) fd (sk++[(i:Int)]):=by
  have hD:=iK hi
  rw [h] at hD
  simp at hD
  refine ⟨?_,?_,?_,?_,?_⟩
  · rw [d6,if_pos h,List.map_append,<- List.append_assoc]
    have:[(i:Int)].map (fun k=>(k,bI c k.toNat))=[((i:Int),bI c i)]:=by simp
    rw [this]
    exact w.prm.append_right _
  · rw [mz,<- List.append_assoc]
    exact w.flt.append_right _
  · rw [List.length_append,hD,<- w.dep]
    simp
  · intro s k hk
    by_cases e:s < sk.length
    · rw [List.getElem?_append_left e] at hk
      obtain ⟨h1,h2,h3,h4⟩:=w.stk s k hk
      refine ⟨h1,by lia,h3,fun j hj hji=>?_⟩
      by_cases ej:j=i
      · subst ej
        have:=w.dep
        lia
      · exact h4 j hj (by lia)
    · rw [List.getElem?_append_right (by lia)] at hk
      have es:s=sk.length:=by
        have:=(List.getElem?_eq_some_iff.mp hk).1
        simp at this
        lia
      subst es
      have ek:(i:Int)=k:=by simpa using hk
      subst ek
      refine ⟨by lia,by lia,?_,fun j hj hji=>?_⟩
      · rw [show ((i:Nat):Int).toNat=i by lia,w.dep]
      · have:j=i:=by lia
        subst this
        have:=w.dep
        lia
  · intro p hp
    obtain ⟨h1,h2,h3,h4,h5⟩:=w.prs p hp
    exact ⟨h1,h2,by lia,h4,h5⟩
theorem Wk.down {c:List Nat} {i:Nat} {fd:List Pair} {sk:List Int} {m:Int} (w:Wk c i fd (sk++[m])) (hi:i < c.length) (h:c.getD i 0=41):Wk c (i+1) (fd++[(m,(i:Int))]) sk:=by
  have hD:=iK hi
  rw [if_pos h] at hD
  obtain ⟨m0,m1,m2,m3⟩:=w.stk sk.length m (by simp)
  have dep:=w.dep
  rw [List.length_append] at dep
  have dep':(sk.length:Int)+1=Dp c i:=by simpa using dep
  have hm:bI c m.toNat=(i:Int):=oE (by lia) hi (by lia) (fun j hj hji=>by have:=m3 j hj hji; lia)
  refine ⟨?_,?_,by lia,?_,?_⟩
  · rw [d6,if_neg (by rw [h]; decide),List.append_nil]
    have p:=w.prm
    rw [List.map_append] at p
    have e:[m].map (fun k=>(k,bI c k.toNat))=[(m,(i:Int))]:=by simp [hm]
    rw [e] at p
    refine List.Perm.trans ?_ p
    rw [List.append_assoc]
    exact List.Perm.append_left _ List.perm_append_comm
  · rw [mz,jt]
    have p:=w.flt
    have e:br [(m,(i:Int))]=[m]++[(i:Int)]:=rfl
    rw [e]
    refine List.Perm.trans ?_ (p.append_right _)
    rw [List.append_assoc,List.append_assoc,List.append_assoc]
    refine List.Perm.append_left _ ?_
    rw [<- List.append_assoc]
    exact List.perm_append_comm.trans (by rw [List.append_assoc])
  · intro s k hk
    have hs:=(List.getElem?_eq_some_iff.mp hk).1
    obtain ⟨h1,h2,h3,h4⟩:=w.stk s k (by rw [List.getElem?_append_left hs]; exact hk)
    refine ⟨h1,by lia,h3,fun j hj hji=>?_⟩
    by_cases ej:j=i
    · subst ej; lia
    · exact h4 j hj (by lia)
  · intro p hp
    rcases List.mem_append.mp hp with z | z
    · obtain ⟨h1,h2,h3,h4,h5⟩:=w.prs p z
      exact ⟨h1,h2,by lia,h4,h5⟩
    · have e:p=(m,(i:Int)):=by simpa using z
      subst e
      refine ⟨m0,m1,by show (i:Int) < ((i+1:Nat):Int); lia,?_,fun j hj hji=>?_⟩
      · show Dp c ((i:Int).toNat+1)=Dp c m.toNat
        rw [show ((i:Nat):Int).toNat=i by lia]
        lia
      · show Dp c m.toNat < _
        have hji:(j:Int) < (i:Int):=hji
        have:=m3 j hj (by lia)
        lia
theorem Wk.sorted {c:List Nat} {n:Nat} {fd qs:List Pair} (w:Wk c n fd []) (hp:qs.Perm fd) (hs:qs.Pairwise bR):qs=bu c n:=by
  have p:=w.prm
  rw [List.map_nil,List.append_nil] at p
  refine List.Perm.eq_of_pairwise (le:=bR) (fun a b _ _ h1 h2=>?_) hs ((jx c n).imp fun h=>.inl h) (hp.trans p)
  unfold bR at h1 h2
  exact Prod.ext (by lia) (by lia)
theorem Wk.bows {c:List Nat} {n:Nat} {fd:List Pair} (w:Wk c n fd []):cn (bu c n)=true:=by
  have p:=w.prm
  rw [List.map_nil,List.append_nil] at p
  have f:=w.flt
  rw [List.append_nil] at f
  have fp:(br (bu c n)).Perm (br fd):=by
    have go:∀ {as bs:List Pair},as.Perm bs->(br as).Perm (br bs):=by
      intro as bs h
      induction h with
      | nil=>exact .nil
      | cons x _ ih=>exact (ih.cons _).cons _
      | swap x y l =>
        show (y.1::y.2::x.1::x.2::br l).Perm (x.1::x.2::y.1::y.2::br l)
        exact (List.perm_append_comm (l₁:=[y.1,y.2]) (l₂:=[x.1,x.2])).append_right (br l)
      | trans _ _ i1 i2=>exact i1.trans i2
    exact go p.symm
  have al:∀ k,k < (bu c n).length->(bu c n).getD k (0,0)∈fd:=fun k hk=>p.mem_iff.mpr (p6 hk)
  unfold cn
  rw [Bool.and_eq_true,Bool.and_eq_true]
  refine ⟨iq.mpr fun k hk=>⟨(w.prs _ (al k hk)).2.1,?_⟩,(dc _).mpr ?_,?_⟩
  · by_cases e:k=0
    · exact .inl e
    · refine .inr ?_
      have:=List.pairwise_iff_getElem.mp (jx c n) (k - 1) k (by lia) hk (by lia)
      unfold cN
      rw [List.getD_eq_getElem?_getD,List.getD_eq_getElem?_getD,List.getElem?_eq_getElem hk,List.getElem?_eq_getElem (show k - 1 < (bu c n).length by lia)]
      exact this
  · have e:=(fp.trans f).length_eq
    rw [oF] at e
    rw [e]
    exact fp.trans f
  · cases e:dh (bu c n) with
    | false=>rfl
    | true =>
      obtain ⟨a,ha,b,hb,h1,h2,h3⟩:=gh.mp e
      obtain ⟨a1,a2,a3,a4,a5⟩:=w.prs a (p.mem_iff.mpr ha)
      obtain ⟨b1,b2,b3,b4,b5⟩:=w.prs b (p.mem_iff.mpr hb)
      have x1:=b5 a.2.toNat (by lia) (by lia)
      have x2:=a5 (b.1.toNat - 1) (by lia) (by lia)
      rw [show b.1.toNat - 1+1=b.1.toNat by lia] at x2
      lia
theorem dH:∀ (c:List Nat) (d:Nat),clo d c=true->∀ x∈c,x=40\/x=41
  | [],d,h,x,hx=>by cases hx
  | y::c,d,h,x,hx=>by
    by_cases e:y=40
    · subst e
      rw [cT] at h
      rcases List.mem_cons.mp hx with z | z
      · exact .inl z
      · exact dH c _ h x z
    · by_cases e2:y=41
      · subst e2
        cases d with
        | zero=>rw [dI] at h; cases h
        | succ d =>
          rw [cq] at h
          rcases List.mem_cons.mp hx with z | z
          · exact .inr z
          · exact dH c _ h x z
      · rw [cZ e e2] at h; cases h
theorem sV {c:List Nat} (h:clo 0 c=true):c.count 41=c.count 40:=by
  have h1:=sF h
  have h2:∀ l:List Nat,(∀ x∈l,x=40\/x=41)->l.count 40+l.count 41=l.length:=by
    intro l
    induction l with
    | nil=>intro _; rfl
    | cons x l ih =>
      intro hl
      have:=ih fun y hy=>hl y (List.mem_cons_of_mem _ hy)
      rcases hl x (List.mem_cons_self ..) with e | e
      · subst e; rw [List.count_cons_self,List.count_cons_of_ne (by decide),List.length_cons]; lia
      · subst e; rw [List.count_cons_self,List.count_cons_of_ne (by decide),List.length_cons]; lia
  have:=h2 c (dH c 0 h)
  lia
theorem BA {c:List Nat} {n:Nat} {p:Pair} (h:p∈bu c n):0<=p.1/\p.1 < (n:Int):=by
  obtain ⟨k,hk,_,rfl⟩:=kf.mp h
  show 0<=(k:Int)/\(k:Int) < (n:Int)
  lia
end Ck
set_option Elab.async false
set_option linter.all false
set_option maxRecDepth 100000
set_option maxHeartbeats 4000000
namespace Sx
open PySem PySem.SetTable
theorem sub_len:∀ {l1 l2:List Nat},l1.Nodup->(∀ x∈l1,x∈l2)->l1.length<=l2.length
  | [],l2,_,_=>Nat.zero_le _
  | a::l1,l2,nd,h=>by
    rw [List.nodup_cons] at nd
    have ha:=h a (List.mem_cons_self ..)
    have:=sub_len (l1:=l1) (l2:=l2.erase a) nd.2 fun x hx=>(List.mem_erase_of_ne (fun e=>nd.1 (by rw [<- e]; exact hx))).mpr (h x (List.mem_cons_of_mem _ hx))
    rw [List.length_erase_of_mem ha] at this
    have hp:=List.length_pos_of_mem ha
    simp only [List.length_cons]
    lia
theorem rh {l:List Nat} {m:Nat} (h:l.length<=m):∃ t,t<=m/\t∉l:=by
  apply Classical.byContradiction
  intro hn
  have:=sub_len (l1:=List.range (m+1)) (l2:=l) List.nodup_range fun x hx=>by
    apply Classical.byContradiction
    intro hx'
    exact hn ⟨x,Nat.lt_succ_iff.mp (List.mem_range.mp hx),hx'⟩
  rw [List.length_range] at this
  lia
def cH (xs:List Nat):Prop:=xs.Pairwise (· < ·)
theorem mR (xs:Array Nat) (j:Nat) (hr:cH xs.toList):∀ (fuel lo hi:Nat),hi - lo<=fuel->lo<=hi->hi<=xs.size->(∀ i x,i < lo->xs[i]? = some x->x < j)->(∀ i x,hi<=i->xs[i]? = some x->j<=x) ->
    below.go xs j fuel lo hi<=xs.size/\(∀ i x,i < below.go xs j fuel lo hi->xs[i]? = some x->x < j)/\∀ i x,below.go xs j fuel lo hi<=i->xs[i]? = some x->j<=x
  | 0,lo,hi,hf,hl,hh,h1,h2=>by
    have e:lo=hi:=by lia
    subst e
    exact ⟨hh,h1,h2⟩
  | fuel+1,lo,hi,hf,hl,hh,h1,h2=>by
    unfold below.go
    by_cases h:lo < hi
    · rw [if_pos h]
      have hm:(lo+hi) / 2 < xs.size:=by lia
      have gm:xs[(lo+hi) / 2]? = some xs[(lo+hi) / 2]:=Array.getElem?_eq_getElem hm
      have gd:xs.getD ((lo+hi) / 2) j=xs[(lo+hi) / 2]:=by simp [hm]
      simp only [gd]
      have mono:∀ a b x y,a < b->xs[a]? = some x->xs[b]? = some y->x < y:=fun a b x y hab ha hb=>by
        obtain ⟨la,ea⟩:=Array.getElem?_eq_some_iff.mp ha
        obtain ⟨lb,eb⟩:=Array.getElem?_eq_some_iff.mp hb
        have:=List.pairwise_iff_getElem.mp hr a b (by simpa using la) (by simpa using lb) hab
        simp only [Array.getElem_toList] at this
        omega
      by_cases c:xs[(lo+hi) / 2] < j
      · rw [if_pos c]
        refine mR xs j hr fuel _ _ (by lia) (by lia) hh (fun i x hlt hx=>?_) h2
        by_cases e:i=(lo+hi) / 2
        · subst e; rw [gm] at hx; cases hx; exact c
        · have:=mono i ((lo+hi) / 2) x _ (by lia) hx gm; lia
      · rw [if_neg c]
        refine mR xs j hr fuel _ _ (by lia) (by lia) (by lia) h1 (fun i x hlt hx=>?_)
        by_cases e:i=(lo+hi) / 2
        · subst e; rw [gm] at hx; cases hx; lia
        · have:=mono ((lo+hi) / 2) i _ x (by lia) gm hx; lia
    · rw [if_neg h]
      have e:lo=hi:=by lia
      subst e
      exact ⟨hh,h1,h2⟩
theorem below_at (xs:Array Nat) (j:Nat) (hr:cH xs.toList):below xs j<=xs.size/\(∀ i x,i < below xs j->xs[i]? = some x->x < j)/\∀ i x,below xs j<=i->xs[i]? = some x->j<=x:=by
  unfold below
  refine mR xs j hr xs.size 0 xs.size (by lia) (Nat.zero_le _) (Nat.le_refl _) (fun i x hi _=>absurd hi (Nat.not_lt_zero _)) fun i x hi hx=>?_
  rw [Array.getElem?_eq_none hi] at hx
  cases hx
theorem vO {xs:Array Nat} {j:Nat} (hr:cH xs.toList) (h:j∉xs.toList):(xs[below xs j]? == some j)=false:=by
  rw [beq_eq_false_iff_ne]
  intro e
  exact h (by rw [Array.mem_toList_iff]; exact Array.mem_of_getElem? e)
theorem yt {t:SetTable} {j:Nat} (hr:cH t.place.toList) (hd:t.dummies = #[]) (h:j∉t.place.toList):t.slot j = .empty:=by
  unfold SetTable.slot
  simp only [vO hr h,Bool.false_eq_true,if_false]
  have:has t.dummies j=false:=by rw [hd]; rfl
  rw [this]
  rfl
theorem ou {t:SetTable} {j:Nat} (hd:t.dummies = #[]):t.slot j = .empty\/∃ i,t.slot j = .live i:=by
  unfold SetTable.slot
  have:has t.dummies j=false:=by rw [hd]; rfl
  simp only [this]
  split
  · exact .inr ⟨_,rfl⟩
  · exact .inl rfl
theorem wq {t:SetTable} {j:Nat} (hr:cH t.place.toList) (h:t.slot j = .empty):j∉t.place.toList:=by
  intro hj
  unfold SetTable.slot at h
  obtain ⟨h0,h1,h2⟩:=below_at t.place j hr
  obtain ⟨i,hi⟩:=List.getElem?_of_mem hj
  have hi':t.place[i]? = some j:=by simpa using hi
  have e:below t.place j=i:=by
    rcases Nat.lt_trichotomy i (below t.place j) with z | z | z
    · have:=h1 i j z hi'; lia
    · exact z.symm
    · have lt:below t.place j < t.place.size:=Nat.lt_trans z (Array.getElem?_eq_some_iff.mp hi').1
      have g:=Array.getElem?_eq_getElem lt
      have:=h2 _ _ (Nat.le_refl _) g
      obtain ⟨li,ei⟩:=Array.getElem?_eq_some_iff.mp hi'
      have m:=List.pairwise_iff_getElem.mp hr _ _ (by simpa using lt) (by simpa using li) z
      simp only [Array.getElem_toList] at m
      lia
  simp only [e,hi',beq_self_eq_true,if_true] at h
  cases h
noncomputable def iter (m:Nat):Nat->Nat × Nat->Nat × Nat
  | 0,p=>p
  | k+1,p=>iter m k (leap m p.1 p.2)
theorem gN (m:Nat):∀ (a b:Nat) (p:Nat × Nat),iter m (a+b) p=iter m b (iter m a p)
  | 0,b,p=>by rw [Nat.zero_add]; rfl
  | a+1,b,p=>by rw [show a+1+b=(a+b)+1 by lia]; exact gN m a b _
theorem my (m:Nat):∀ (k:Nat) (p:Nat × Nat),(iter m k p).2=p.2 / 32 ^ k
  | 0,p=>by show p.2=_; simp
  | k+1,p=>by
    show (iter m k (leap m p.1 p.2)).2=_
    rw [my m k]
    show p.2 / 32 / 32 ^ k=_
    rw [Nat.div_div_eq_div_mul,Nat.pow_succ,Nat.mul_comm]
theorem qX (m:Nat):∀ (k:Nat) (p:Nat × Nat),p.1<=m->(iter m k p).1<=m
  | 0,p,h=>h
  | k+1,p,h=>qX m k _ (by show (p.1*5+1+p.2 / 32) % (m+1)<=m; exact Nat.lt_succ_iff.mp (Nat.mod_lt _ (Nat.succ_pos _)))
noncomputable def v7 (m:Nat):Nat->Nat->List Nat
  | 0,_=>[]
  | k+1,i=>i::v7 m k ((i*5+1) % (m+1))
theorem nt (m:Nat):∀ (k i t:Nat),t∈v7 m k i->∃ n,n < k/\(iter m n (i,0)).1=t
  | k+1,i,t,h=>by
    rcases List.mem_cons.mp h with rfl | h
    · exact ⟨0,Nat.succ_pos _,rfl⟩
    · obtain ⟨n,hn,e⟩:=nt m k _ t h
      exact ⟨n+1,by lia,by
        show (iter m n (leap m i 0)).1=t
        have:leap m i 0=((i*5+1) % (m+1),0):=rfl
        rw [this]; exact e⟩
def mq (m:Nat):Prop:=m=7\/m=31\/m=127
noncomputable def whole (m:Nat):Bool:=(let o:=v7 m (m+1) 0; (List.range (m+1)).all fun t=>o.contains t)&&decide (iter m (m+1) (0,0)=(0,0))
theorem AZ:whole 7=true:=by decide +kernel
theorem zj:whole 31=true:=by decide +kernel
theorem yg:whole 127=true:=by decide +kernel
theorem mq.whole {m:Nat} (h:mq m):whole m=true:=by
  rcases h with rfl | rfl | rfl
  · exact AZ
  · exact zj
  · exact yg
theorem yh (m:Nat) (k i:Nat):iter m k (i,0)=((iter m k (i,0)).1,0):=by
  have:(iter m k (i,0)).2=0:=by rw [my]; exact Nat.zero_div _
  exact Prod.ext rfl this
theorem around {m i t:Nat} (hm:mq m) (hi:i<=m) (ht:t<=m):∃ n,n<=m/\(iter m n (i,0)).1=t:=by
  have hw:=hm.whole
  unfold Sx.whole at hw
  rw [Bool.and_eq_true,decide_eq_true_iff] at hw
  have at_:∀ s,s<=m->∃ n,n < m+1/\(iter m n (0,0)).1=s:=fun s hs=>by
    have:=List.all_eq_true.mp hw.1 s (List.mem_range.mpr (Nat.lt_succ_iff.mpr hs))
    exact nt m (m+1) 0 s (by simpa using this)
  obtain ⟨a,ha,ea⟩:=at_ i hi
  obtain ⟨b,hb,eb⟩:=at_ t ht
  have ei:iter m a (0,0)=(i,0):=by rw [yh,ea]
  by_cases c:a<=b
  · refine ⟨b - a,by lia,?_⟩
    rw [<- ei,<- gN,show a+(b - a)=b by lia,eb]
  · refine ⟨b+(m+1) - a,by lia,?_⟩
    rw [<- ei,<- gN,show a+(b+(m+1) - a)=m+1+b by lia,gN,hw.2,eb]
theorem reach {m i x t:Nat} (hm:mq m) (hi:i<=m) (hx:x < 2 ^ 64) (ht:t<=m):∃ k,k<=13+m/\(iter m k (i,x)).1=t:=by
  have h13:(iter m 13 (i,x)).2=0:=by
    rw [my]
    exact Nat.div_eq_of_lt (Nat.lt_of_lt_of_le hx (by decide))
  have hf:=qX m 13 (i,x) hi
  obtain ⟨n,hn,e⟩:=around hm hf ht
  refine ⟨13+n,by lia,?_⟩
  rw [gN,<- e]
  have ep:iter m 13 (i,x)=((iter m 13 (i,x)).1,0):=by rw [<- h13]
  rw [ep]
theorem uY (h:Int):bits h < 2 ^ 64:=by
  unfold bits
  have h0:=Int.emod_nonneg h (show (2 ^ 64:Int)≠0 by decide)
  have h1:=Int.emod_lt_of_pos h (show (0:Int) < 2 ^ 64 by decide)
  have e:(2:Int) ^ 64=18446744073709551616:=by decide
  have e2:(2:Nat) ^ 64=18446744073709551616:=by decide
  rw [e] at h0 h1 |-
  rw [e2]
  lia
noncomputable def begin_ (m i x:Nat):Probe:={ j:=i,more:=runEnd m i - i,i:=i,perturb:=x,dummy:=none }
theorem yp {t:SetTable} {hashAt:Nat->Int} {h:Int} (hd:t.dummies = #[]) (nh:∀ i,i < t.place.size->hashAt i≠h) (nl:∀ j i,t.slot j = .live i->i < t.place.size) :
    ∀ (r fuel:Nat) (p:Probe),p.more=r->p.dummy=none->p.j+r<=t.mask->r+1<=fuel->(∃ j,probe.go t hashAt h fuel p=some (.empty j none)/\t.slot j = .empty/\j<=t.mask)\/probe.go t hashAt h fuel p=probe.go t hashAt h (fuel - (r+1)) (begin_ t.mask (leap t.mask p.i p.perturb).1 (leap t.mask p.i p.perturb).2)
  | r,0,p,hr,hdm,hb,hf=>by lia
  | r,fuel+1,p,hr,hdm,hb,hf=>by
    rcases ou (t:=t) (j:=p.j) hd with e | ⟨i,e⟩
    · refine .inl ⟨p.j,?_,e,by lia⟩
      unfold probe.go
      rw [e,hdm]
    · have ne:(hashAt i == h)=false:=beq_eq_false_iff_ne.mpr (nh i (nl _ _ e))
      have st:probe.go t hashAt h (fuel+1) p=probe.go t hashAt h fuel (t.advance p):=by
        conv=>lhs; unfold probe.go
        rw [e]
        simp only [ne,Bool.false_eq_true,if_false]
      rw [st]
      cases r with
      | zero =>
        refine .inr ?_
        have ea:t.advance p=begin_ t.mask (leap t.mask p.i p.perturb).1 (leap t.mask p.i p.perturb).2:=by
          unfold advance
          rw [hr,if_neg (Nat.lt_irrefl _)]
          unfold begin_
          rw [hdm]
        rw [ea]
        rfl
      | succ r =>
        have ea:t.advance p={ p with j:=p.j+1,more:=r }:=by
          unfold advance
          rw [hr,if_pos (Nat.succ_pos _),Nat.add_sub_cancel]
        rw [ea]
        rcases yp hd nh nl r fuel { p with j:=p.j+1,more:=r } rfl hdm (by show p.j+1+r<=t.mask; lia) (by lia) with z | z
        · exact .inl z
        · refine .inr (z.trans ?_)
          rw [show fuel+1 - (r+1+1)=fuel - (r+1) by lia]
theorem xQ (m i:Nat):runEnd m i - i<=9:=by unfold runEnd; split<;>lia
theorem wQ {m i:Nat} (h:i<=m):i+(runEnd m i - i)<=m:=by unfold runEnd; split<;>lia
theorem tG {t:SetTable} {hashAt:Nat->Int} {h:Int} (hd:t.dummies = #[]) (nh:∀ i,i < t.place.size->hashAt i≠h) (nl:∀ j i,t.slot j = .live i->i < t.place.size) :
    ∀ (k fuel i x:Nat),i<=t.mask->t.slot (iter t.mask k (i,x)).1 = .empty->10*(k+1)<=fuel->∃ j,probe.go t hashAt h fuel (begin_ t.mask i x)=some (.empty j none)/\t.slot j = .empty/\j<=t.mask
  | 0,fuel,i,x,hi,he,hf=>by
    obtain ⟨f,rfl⟩:∃ f,fuel=f+1:=⟨fuel - 1,by lia⟩
    refine ⟨i,?_,he,hi⟩
    have he':t.slot (begin_ t.mask i x).j = .empty:=he
    unfold probe.go
    rw [he']
    rfl
  | k+1,fuel,i,x,hi,he,hf=>by
    have rl:=xQ t.mask i
    rcases yp hd nh nl (runEnd t.mask i - i) fuel (begin_ t.mask i x) rfl rfl (wQ hi) (by lia) with z | z
    · exact z
    · rw [z]
      exact tG hd nh nl k _ _ _ (by show (i*5+1+x / 32) % (t.mask+1)<=t.mask; exact Nat.lt_succ_iff.mp (Nat.mod_lt _ (Nat.succ_pos _))) he (by lia)
theorem sH {t:SetTable} {j i:Nat} (h:t.slot j = .live i):i < t.place.size:=by
  have e:t.slot j=if (t.place[below t.place j]? == some j)=true then .live (below t.place j) else if has t.dummies j=true then .dummy else .empty:=rfl
  rw [e] at h
  by_cases c:(t.place[below t.place j]? == some j)=true
  · rw [if_pos c] at h
    cases h
    exact (Array.getElem?_eq_some_iff.mp (by simpa using c)).1
  · rw [if_neg c] at h
    by_cases d:has t.dummies j=true
    · rw [if_pos d] at h; cases h
    · rw [if_neg d] at h; cases h
theorem xa {t:SetTable} {hashAt:Nat->Int} {h:Int} (hm:mq t.mask) (hr:cH t.place.toList) (hd:t.dummies = #[]) (hs:t.place.size<=t.mask) (nh:∀ i,i < t.place.size->hashAt i≠h) :
    ∃ j,t.probe hashAt h (t.probeStart h)=some (.empty j none)/\j∉t.place.toList/\j<=t.mask:=by
  obtain ⟨g,hg,ng⟩:=rh (l:=t.place.toList) (m:=t.mask) (by simpa using hs)
  have hi:bits h % (t.mask+1)<=t.mask:=Nat.lt_succ_iff.mp (Nat.mod_lt _ (Nat.succ_pos _))
  obtain ⟨k,hk,ek⟩:=reach hm hi (uY h) hg
  obtain ⟨j,hj,he,jm⟩:=tG (hashAt:=hashAt) (h:=h) hd nh (fun j i e=>sH e) k (10*turns t.mask) (bits h % (t.mask+1)) (bits h) hi (by rw [ek]; exact yt hr hd ng) (by unfold turns; lia)
  exact ⟨j,hj,wq hr he,jm⟩
theorem fP {α:Type} (xs:Array α) (p:Nat) (x:α) (hp:p<=xs.size):(insertAt xs p x).toList=xs.toList.take p++x::xs.toList.drop p:=by
  unfold insertAt
  rw [Array.toList_append,Array.toList_push,Array.toList_extract,Array.toList_extract]
  simp [List.extract_eq_drop_take]
  exact List.take_of_length_le (by simp)
theorem ml {α:Type} (xs:List α) (p:Nat) (x:α):(xs.take p++x::xs.drop p).Perm (x::xs):=by
  have:=List.perm_middle (a:=x) (l₁:=xs.take p) (l₂:=xs.drop p)
  rwa [List.take_append_drop] at this
theorem xb {xs:Array Nat} {j:Nat} (hr:cH xs.toList) (h:j∉xs.toList):cH (insertAt xs (below xs j) j).toList:=by
  obtain ⟨h0,h1,h2⟩:=below_at xs j hr
  rw [fP _ _ _ h0]
  have lt:∀ x∈xs.toList.take (below xs j),x < j:=fun x hx=>by
    obtain ⟨i,hi⟩:=List.getElem?_of_mem hx
    rw [List.getElem?_take] at hi
    split at hi
    · rename_i hlt; exact h1 i x hlt (by simpa using hi)
    · cases hi
  have gt:∀ x∈xs.toList.drop (below xs j),j < x:=fun x hx=>by
    obtain ⟨i,hi⟩:=List.getElem?_of_mem hx
    rw [List.getElem?_drop] at hi
    have:=h2 (below xs j+i) x (Nat.le_add_right _ _) (by simpa using hi)
    have ne:x≠j:=fun e=>h (by rw [<- e]; exact List.mem_of_getElem? hi)
    lia
  refine List.pairwise_append.mpr ⟨hr.sublist (List.take_sublist _ _),List.pairwise_cons.mpr ⟨gt,hr.sublist (List.drop_sublist _ _)⟩,fun a ha b hb=>?_⟩
  rcases List.mem_cons.mp hb with rfl | hb
  · exact lt a ha
  · exact Nat.lt_trans (lt a ha) (gt b hb)
structure Tab (t:SetTable) (n:Nat):Prop where
  msk:mq t.mask
  ris:cH t.place.toList
  top:∀ j∈t.place.toList,j<=t.mask
  dum:t.dummies = #[]
  len:t.place.size=n
  few:t.place.size<=t.mask
theorem Tab.fresh (f mv:Nat) (led:Bool):Tab (.fresh f mv led) 0:=⟨.inl rfl,List.Pairwise.nil,(fun j h=>nomatch h),rfl,rfl,Nat.zero_le _⟩
theorem Tab.put {t:SetTable} {n j:Nat} (T:Tab t n) (hj:j∉t.place.toList) (hjm:j<=t.mask) (room:n+1<=t.mask):Tab (t.put j).1 (n+1)/\(t.put j).2=below t.place j/\(t.put j).1.plain=t.plain/\(t.put j).1.led=t.led/\(t.put j).1.mask=t.mask:=by
  have h0:=(below_at t.place j T.ris).1
  have hd:has t.dummies j=false:=by rw [T.dum]; rfl
  have el:=fP t.place (below t.place j) j h0
  have ls:(insertAt t.place (below t.place j) j).size=n+1:=by
    rw [<- Array.length_toList,el,List.length_append,List.length_take,List.length_cons,List.length_drop,Array.length_toList,T.len]
    have:=T.len
    lia
  refine ⟨⟨T.msk,xb T.ris hj,fun i hi=>?_,?_,ls,by show (insertAt t.place (below t.place j) j).size<=t.mask; lia⟩,rfl,rfl,rfl,rfl⟩
  · have hi':i∈(insertAt t.place (below t.place j) j).toList:=hi
    rw [el] at hi'
    rcases List.mem_cons.mp ((ml t.place.toList (below t.place j) j).mem_iff.mp hi') with rfl | hi'
    · exact hjm
    · exact T.top i hi'
  · show (if has t.dummies j=true then _ else t.dummies) = #[]
    rw [hd]
    exact T.dum
theorem m7 {m:Nat} {owner:Array (Option Nat)}:∀ (k fuel i x:Nat),(owner.getD (iter m k (i,x)).1 (some 0)).isNone=true->k+1<=fuel->∃ j,layClean.free m owner fuel i x=some j/\(owner.getD j (some 0)).isNone=true
  | k,0,i,x,_,hf=>by lia
  | k,fuel+1,i,x,he,hf=>by
    unfold layClean.free
    cases e:(List.range (runEnd m i+1 - i)).find? fun k=>(owner.getD (i+k) (some 0)).isNone with
    | some a=>exact ⟨i+a,rfl,by have:=List.find?_some e; exact this⟩
    | none =>
      cases k with
      | zero =>
        have h0:(0:Nat)∈List.range (runEnd m i+1 - i):=List.mem_range.mpr (by unfold runEnd; split<;>lia)
        have:=List.find?_eq_none.mp e 0 h0
        have he':(owner.getD i (some 0)).isNone=true:=he
        exact absurd he' (by simpa using this)
      | succ k=>exact m7 k fuel _ _ he (by lia)
structure Own (m:Nat) (owner:Array (Option Nat)) (js:List Nat):Prop where
  size:owner.size=m+1
  nd:js.Nodup
  top:∀ j∈js,j<=m
  own:∀ j k:Nat,owner.getD j none=some k↔js[k]? = some j
theorem Own.start (m:Nat):Own m (Array.replicate (m+1) none) [] where
  size:=by simp
  nd:=List.nodup_nil
  top:=fun j h=>nomatch h
  own:=fun j k=>by
    have e:(Array.replicate (m+1) (none:Option Nat)).getD j none=none:=by
      rw [Array.getD_eq_getD_getElem?,Array.getElem?_replicate]
      split<;>rfl
    rw [e]
    simp
theorem Own.at_none {m:Nat} {owner:Array (Option Nat)} {js:List Nat} (O:Own m owner js) {j:Nat} (hj:j<=m) (h:j∉js):(owner.getD j (some 0)).isNone=true:=by
  have lt:j < owner.size:=by rw [O.size]; lia
  have e1:owner.getD j (some 0)=owner.getD j none:=by simp [lt]
  rw [e1]
  cases e:owner.getD j none with
  | none=>rfl
  | some k=>exact absurd (List.mem_of_getElem? ((O.own j k).mp e)) h
theorem Own.none_at {m:Nat} {owner:Array (Option Nat)} {js:List Nat} (O:Own m owner js) {j:Nat} (h:(owner.getD j (some 0)).isNone=true):j<=m/\j∉js:=by
  have lt:j < owner.size:=by
    apply Classical.byContradiction
    intro hn
    have:owner.getD j (some 0)=some 0:=by simp [hn]
    rw [this] at h
    cases h
  refine ⟨by rw [O.size] at lt; lia,fun hj=>?_⟩
  obtain ⟨k,hk⟩:=List.getElem?_of_mem hj
  have:=(O.own j k).mpr hk
  have e1:owner.getD j (some 0)=owner.getD j none:=by simp [lt]
  rw [e1,this] at h
  cases h
theorem Own.step {m:Nat} {owner:Array (Option Nat)} {js:List Nat} (O:Own m owner js) {j:Nat} (hj:j<=m) (h:j∉js):Own m (owner.setIfInBounds j (some js.length)) (js++[j]):=by
  have lt:j < owner.size:=by rw [O.size]; lia
  refine ⟨by simp [O.size],List.nodup_append.mpr ⟨O.nd,by simp,fun a ha b hb=>by
    have:b=j:=by simpa using hb
    rw [this]; exact fun e=>h (e▸ha)⟩,fun i hi=>?_,fun i k=>?_⟩
  · rcases List.mem_append.mp hi with hi | hi
    · exact O.top i hi
    · have:i=j:=by simpa using hi
      lia
  · by_cases e:i=j
    · subst e
      have:(owner.setIfInBounds i (some js.length)).getD i none=some js.length:=by simp [lt]
      rw [this]
      constructor
      · intro h'
        have:js.length=k:=by simpa using h'
        rw [<- this]
        simp
      · intro h'
        by_cases hk:k < js.length
        · rw [List.getElem?_append_left hk] at h'
          exact absurd (List.mem_of_getElem? h') h
        · rw [List.getElem?_append_right (by lia)] at h'
          have:k - js.length=0:=by
            have:=(List.getElem?_eq_some_iff.mp h').1
            simp at this
            lia
          rw [show k=js.length by lia]
    · have:(owner.setIfInBounds j (some js.length)).getD i none=owner.getD i none:=by
        simp only [Array.getD_eq_getD_getElem?]
        rw [Array.getElem?_setIfInBounds_ne (Ne.symm e)]
      rw [this,O.own]
      by_cases hk:k < js.length
      · rw [List.getElem?_append_left hk]
      · rw [List.getElem?_append_right (by lia),List.getElem?_eq_none (by lia)]
        constructor
        · intro z; cases z
        · intro z
          have:i=j:=by
            have l:=(List.getElem?_eq_some_iff.mp z).1
            simp at l
            rw [show k - js.length=0 by lia] at z
            simpa using z.symm
          exact absurd this e
theorem vg {m:Nat} (hm:mq m):∀ (hs:List Int) (owner:Array (Option Nat)) (js:List Nat),Own m owner js->js.length+hs.length<=m ->
    ∃ owner' js',hs.foldl (fun acc h=>(do
      let (owner,k) <- acc
      let j <- layClean.free m owner (turns m) (bits h % (m+1)) (bits h)
      pure (owner.setIfInBounds j (some k),k+1))) (some (owner,js.length))=some (owner',js'.length)/\Own m owner' js'/\js'.length=js.length+hs.length
  | [],owner,js,O,_=>⟨owner,js,rfl,O,rfl⟩
  | h::hs,owner,js,O,hl=>by
    simp only [List.length_cons] at hl
    obtain ⟨g,hg,ng⟩:=rh (l:=js) (m:=m) (by lia)
    have hi:bits h % (m+1)<=m:=Nat.lt_succ_iff.mp (Nat.mod_lt _ (Nat.succ_pos _))
    obtain ⟨k,hk,ek⟩:=reach hm hi (uY h) hg
    obtain ⟨j,hj,fj⟩:=m7 (owner:=owner) k (turns m) (bits h % (m+1)) (bits h) (by rw [ek]; exact O.at_none hg ng) (by unfold turns; lia)
    obtain ⟨jm,nj⟩:=O.none_at fj
    obtain ⟨o',js',e,O',l'⟩:=vg hm hs _ _ (O.step jm nj) (by simp; lia)
    refine ⟨o',js',?_,O',by rw [l']; simp; lia⟩
    rw [List.foldl_cons,<- e]
    congr 1
    show (do let j <- layClean.free m owner (turns m) (bits h % (m+1)) (bits h); pure (owner.setIfInBounds j (some js.length),js.length+1))=_
    rw [hj]
    simp
theorem uG {m:Nat} (hm:mq m) (hs:Array Int) (hl:hs.size<=m):∃ owner js,layClean m hs=some owner/\Own m owner js/\js.length=hs.size:=by
  obtain ⟨o',js',e,O',l'⟩:=vg hm hs.toList _ [] (Own.start m) (by simpa using hl)
  refine ⟨o',js',?_,O',by simpa using l'⟩
  unfold layClean
  rw [<- Array.foldl_toList]
  have e':=congrArg (Option.map (·.1)) e
  exact e'
noncomputable def cF (m:Nat) (owner:Array (Option Nat)):List (Nat × Nat):=(List.range (m+1)).filterMap fun j=>(owner.getD j none).map (j,·)
theorem fZ {m:Nat} {owner:Array (Option Nat)} {js:List Nat} (O:Own m owner js) {j k:Nat}:(j,k)∈cF m owner↔js[k]? = some j:=by
  unfold cF
  rw [List.mem_filterMap]
  constructor
  · rintro ⟨i,hi,e⟩
    cases o:owner.getD i none with
    | none=>rw [o] at e; cases e
    | some q =>
      rw [o] at e
      have:i=j/\q=k:=by simpa using e
      rw [<- this.1,<- this.2]
      exact (O.own i q).mp o
  · intro h
    have hj:=O.top j (List.mem_of_getElem? h)
    exact ⟨j,List.mem_range.mpr (by lia),by rw [(O.own j k).mpr h]; rfl⟩
theorem i4 {m:Nat} {owner:Array (Option Nat)}:((cF m owner).map (·.1)).Sublist (List.range (m+1)):=by
  unfold cF
  generalize List.range (m+1)=l
  induction l with
  | nil=>exact .slnil
  | cons j l ih =>
    rw [List.filterMap_cons]
    cases o:owner.getD j none with
    | none=>exact ih.cons j
    | some k=>exact ih.cons₂ j
theorem xO (n:Nat):(List.range n).Pairwise (· < ·):=List.pairwise_lt_range
theorem Au {l:List (Nat × Nat)} (h1:(l.map (·.1)).Nodup) (h2:∀ j j' k,(j,k)∈l->(j',k)∈l->j=j'):(l.map (·.2)).Nodup:=by
  induction l with
  | nil=>exact List.nodup_nil
  | cons p l ih =>
    rw [List.map_cons,List.nodup_cons] at h1 |-
    refine ⟨fun z=>?_,ih h1.2 fun j j' k a b=>h2 j j' k (List.mem_cons_of_mem _ a) (List.mem_cons_of_mem _ b)⟩
    obtain ⟨q,hq,e⟩:=List.mem_map.mp z
    have:p.1=q.1:=h2 p.1 q.1 p.2 (List.mem_cons_self ..) (by rw [<- e]; exact List.mem_cons_of_mem _ hq)
    exact h1.1 (List.mem_map.mpr ⟨q,hq,this.symm⟩)
theorem A3 {m:Nat} (hm:mq m) (f mv:Nat) (led plain:Bool) (hs:Array Int) (hl:hs.size<=m) :
    ∃ t order,SetTable.laid m f mv led plain hs=some (t,order)/\Tab t hs.size/\t.mask=m/\t.led=led/\t.plain=plain/\order.toList.Perm (List.range hs.size):=by
  obtain ⟨owner,js,e,O,l⟩:=uG hm hs hl
  have nd1:((cF m owner).map (·.1)).Nodup:=(i4 (m:=m) (owner:=owner)).nodup List.nodup_range
  have nd2:((cF m owner).map (·.2)).Nodup:=Au nd1 fun j j' k a b=>by
    have x:=(fZ O).mp a
    have y:=(fZ O).mp b
    rw [x] at y
    exact Option.some.inj y
  have pm:((cF m owner).map (·.2)).Perm (List.range hs.size):=by
    refine (List.perm_ext_iff_of_nodup nd2 List.nodup_range).mpr fun k=>?_
    rw [List.mem_map,List.mem_range]
    constructor
    · rintro ⟨⟨j,k'⟩,h,rfl⟩
      have:=(List.getElem?_eq_some_iff.mp ((fZ O).mp h)).1
      show k' < hs.size
      lia
    · intro h
      have g:js[k]? = some (js[k]'(by lia)):=List.getElem?_eq_getElem (by lia)
      exact ⟨(_,k),(fZ O).mpr g,rfl⟩
  have len:(cF m owner).length=hs.size:=by have:=pm.length_eq; rwa [List.length_map,List.length_range] at this
  refine ⟨{ mask:=m,place:=((cF m owner).map (·.1)).toArray,dummies:=#[],finger:=f,led:=led,moves:=mv,plain:=plain },((cF m owner).map (·.2)).toArray,?_,⟨hm,?_,?_,rfl,?_,?_⟩,rfl,rfl,rfl,by simpa using pm⟩
  · unfold SetTable.laid
    rw [e]
    rfl
  · show cH (((cF m owner).map (·.1)).toArray).toList
    rw [List.toList_toArray]
    exact (xO (m+1)).sublist i4
  · intro j hj
    have hj':j∈(((cF m owner).map (·.1)).toArray).toList:=hj
    rw [List.toList_toArray] at hj'
    have:=List.mem_range.mp (i4.subset hj')
    show j<=m
    lia
  · show (((cF m owner).map (·.1)).toArray).size=hs.size
    simp [len]
  · show (((cF m owner).map (·.1)).toArray).size<=m
    simp [len]
    exact hl
structure Good (t:SetTable) (n:Nat):Prop where
  tab:Tab t n
  lax:t.tooFull=false
theorem Good.room {t:SetTable} {n:Nat} (G:Good t n):n*5 < t.mask*3:=by
  have h:=G.lax
  unfold tooFull fill at h
  rw [G.tab.dum,G.tab.len] at h
  simp at h
  lia
theorem Good.fresh (f mv:Nat) (led:Bool):Good (.fresh f mv led) 0:=⟨Tab.fresh f mv led,by unfold tooFull fill SetTable.fresh; simp⟩
theorem Tab.fits {t:SetTable} {n:Nat} (T:Tab t n):(t.place.size != n || decide (t.fill > t.mask))=false:=by
  have:=T.few
  unfold fill
  rw [T.dum,T.len] at *
  simp
  lia
theorem Good.put {t:SetTable} {n j:Nat} (G:Good t n) (h64:n < 64) (hj:j∉t.place.toList) (hjm:j<=t.mask) :
    Tab (t.put j).1 (n+1)/\(t.put j).2=below t.place j/\(t.put j).1.plain=t.plain/\(t.put j).1.led=t.led /\
      ((t.put j).1.tooFull=true->∀ hs:Array Int,hs.size=n+1->sizeAbove (grown (n+1))<=128/\∃ t' order,(t.put j).1.relaid hs (grown (n+1))=some (t',order)/\Good t' (n+1)/\t'.led=t.led/\t'.plain=t.plain/\order.toList.Perm (List.range (n+1))):=by
  have r:=G.room
  have hm:=G.tab.msk
  obtain ⟨T,e2,e3,e4,e5⟩:=G.tab.put hj hjm (by rcases hm with e | e | e<;>lia)
  refine ⟨T,e2,e3,e4,fun hf hs hsz=>?_⟩
  have hf':t.mask*3<=(n+1)*5:=by
    unfold tooFull fill at hf
    rw [T.dum,T.len,e5] at hf
    simpa using hf
  have key:∀ m,mq m->sizeAbove (grown (n+1))=m+1->n+1<=m->(n+1)*5 < m*3->∃ t' order,(t.put j).1.relaid hs (grown (n+1))=some (t',order)/\Good t' (n+1)/\t'.led=t.led/\t'.plain=t.plain/\order.toList.Perm (List.range (n+1)):=fun m mm em le lx=>by
    unfold relaid
    rw [em,Nat.add_sub_cancel]
    obtain ⟨t',order,a1,a2,a3,a4,a5,a6⟩:=A3 mm (t.put j).1.finger ((t.put j).1.movedTo m) (t.put j).1.led (t.put j).1.plain hs (by lia)
    rw [hsz] at a2 a6
    refine ⟨t',order,a1,⟨a2,?_⟩,a4.trans e4,a5.trans e3,a6⟩
    unfold tooFull fill
    rw [a2.dum,a2.len,a3]
    simp
    lia
  rcases hm with e | e | e
  · have en:n=4:=by lia
    subst en
    exact ⟨by decide,key 31 (.inr (.inl rfl)) (by decide) (by decide) (by decide)⟩
  · have en:n=18:=by lia
    subst en
    exact ⟨by decide,key 127 (.inr (.inr rfl)) (by decide) (by decide) (by decide)⟩
  · lia
end Sx
set_option Elab.async false
set_option linter.all false
set_option maxRecDepth 100000
set_option maxHeartbeats 4000000
namespace Sx
open PySem PyProof.Rows
noncomputable def cC (p:Int × Int):Int:=reduceHash (Builtin.Tuple.tupleHashOf [hashInt p.1,hashInt p.2])
noncomputable def DI:List (Int × Int):=(List.range 44).flatMap fun (b:Nat)=>(List.range b).map fun (a:Nat)=>((a:Int),(b:Int))
noncomputable def uO (m:Int):List (Int × Int)->Nat->Bool
  | [],_=>true
  | p::l,B=>!Nat.testBit B (cC p % m).toNat&&uO m l (B ||| 1 <<< (cC p % m).toNat)
theorem Be:uO 8247 DI 0=true:=by decide +kernel
theorem uZ {m:Int}:∀ {l:List (Int × Int)} {B:Nat},uO m l B=true->∀ p∈l,Nat.testBit B (cC p % m).toNat=false
  | q::l,B,h,p,hp=>by
    unfold uO at h
    rw [Bool.and_eq_true,Bool.not_eq_true'] at h
    rcases List.mem_cons.mp hp with rfl | hp
    · exact h.1
    · have:=uZ h.2 p hp
      rw [Nat.testBit_or,Bool.or_eq_false_iff] at this
      exact this.1
theorem Av {m:Int} {l:List (Int × Int)}:∀ {B:Nat},uO m l B=true->∀ p∈l,∀ q∈l,cC p=cC q->p=q:=by
  induction l with
  | nil=>intro B _ p hp; cases hp
  | cons r l ih =>
    intro B h p hp q hq e
    have h':(!Nat.testBit B (cC r % m).toNat&&uO m l (B ||| 1 <<< (cC r % m).toNat))=true:=h
    rw [Bool.and_eq_true] at h'
    have bit:∀ s∈l,cC s≠cC r:=fun s hs z=>by
      have:=uZ h'.2 s hs
      rw [Nat.testBit_or,Bool.or_eq_false_iff,z] at this
      have t1:=this.2
      rw [Nat.one_shiftLeft,Nat.testBit_two_pow_self] at t1
      cases t1
    rcases List.mem_cons.mp hp with e1 | hp'
    · rcases List.mem_cons.mp hq with e2 | hq'
      · rw [e1,e2]
      · rw [e1] at e; exact absurd e.symm (bit q hq')
    · rcases List.mem_cons.mp hq with e2 | hq'
      · rw [e2] at e; exact absurd e (bit p hp')
      · exact ih h'.2 p hp' q hq' e
def Lo (p:Int × Int):Prop:=0<=p.1/\p.1 < p.2/\p.2 < 44
theorem Lo.mem {p:Int × Int} (h:Lo p):p∈DI:=by
  obtain ⟨h1,h2,h3⟩:=h
  unfold DI
  rw [List.mem_flatMap]
  refine ⟨p.2.toNat,List.mem_range.mpr (by lia),List.mem_map.mpr ⟨p.1.toNat,List.mem_range.mpr (by lia),?_⟩⟩
  refine Prod.ext ?_ ?_
  · show ((p.1.toNat:Nat):Int)=p.1; lia
  · show ((p.2.toNat:Nat):Int)=p.2; lia
theorem BH {p q:Int × Int} (hp:Lo p) (hq:Lo q) (e:cC p=cC q):p=q:=Av Be p hp.mem q hq.mem e
section
variable {prog:Program} {w:World} {A:Around} {E:Value->Shared->Prop} {s:Shared}
noncomputable abbrev gY (prog:Program) (w:World) (h:Heap) (T:Addr) (p:Int × Int):Prop:=IsTupleKey (intKind prog w) h [p.1,p.2] T
theorem AK {h:Heap} {T:Addr} {p:Int × Int} {o:Obj} {n:Nat} {t u:Tok} (ho:h.get? T=some o) (hc:o.cls = .type "tuple") (hd:o.data = .seq #[.int p.1 t,.int p.2 u] n):gY prog w h T p :=
  ⟨o,_,n,ho,hc,hd,.cons (intKind_is _ _ _ _) (.cons (intKind_is _ _ _ _) .nil)⟩
theorem pR {p:Int × Int} {items:List Value} (h:ItemsAre (intKind prog w) [p.1,p.2] items):∃ t u,items=[.int p.1 t,.int p.2 u]:=by
  cases h with
  | cons h1 h =>
    cases h with
    | cons h2 h =>
      cases h
      obtain ⟨t,rfl⟩:=Value.isInt_shape h1
      obtain ⟨u,rfl⟩:=Value.isInt_shape h2
      exact ⟨t,u,rfl⟩
theorem uK {T:Addr} {p:Int × Int} {Q:Bool->Shared->Prop} (hk:gY prog w s.heap T p) (q:Q true s):wpAny (model prog w) A (hashByValue 8 (.ref T)) Q E s:=by
  have hT:=hk.typeIs
  obtain ⟨o,items,n,ho,hc,hd,hi⟩:=hk
  obtain ⟨t,u,ei⟩:=pR hi
  have ea:items = #[.int p.1 t,.int p.2 u]:=by
    cases items
    simp only at ei
    rw [ei]
  subst ea
  unfold hashByValue
  refine wpAny_bind (wpAny_specialOf hT F.slot_tuple_hash.lookup ?_)
  simp only
  refine wpAny_bind ?_
  unfold seqItems?
  refine wpAny_bind (wpAny_load ho ?_)
  rw [hd]
  refine wpAny_pure ?_
  simp only [Option.getD_some,<- Array.forIn_toList,List.forIn_cons,List.forIn_nil,hashByValue,pure_bind]
  simp only [Bool.not_true,Bool.false_eq_true,if_false,pure_bind]
  exact wpAny_pure q
structure fv (h:Heap) (a:Addr) (led:Bool) (es:Array (Int × Value)):Prop where
  at_:∃ o ep t,h.get? a=some o/\o.ExactSet/\o.data = .set es ep t/\Good t es.size/\t.led=led/\t.plain=true
theorem fits_of {t:SetTable} {n:Nat} (T:Tab t n):t.fits n=true:=by
  have h:=T.fits
  unfold SetTable.fits
  rw [Bool.or_eq_false_iff] at h
  rw [Bool.and_eq_true]
  refine ⟨by simpa using h.1,?_⟩
  have:=h.2
  simp at this
  simp
  lia
theorem uE {a:Addr} {o:Obj} {es:Array (Int × Value)} {ep:Nat} {t:SetTable} {x:Value} {h:Int} {Q:SetFound->Shared->Prop} (ho:s.heap.get? a=some o) (hd:o.data = .set es ep t) (G:Good t es.size)
    (nh:∀ e∈es.toList,e.1≠h) (q:∀ j,j∉t.place.toList->j<=t.mask->Q (.free j false) s):wpAny (model prog w) A (setSearch a x h true) Q E s:=by
  have T:=G.tab
  obtain ⟨j,hj,nj,jm⟩:=xa (t:=t) (hashAt:=fun i=>(es[i]?.map (·.1)).getD 0) (h:=h) T.msk T.ris T.dum T.few fun i hi=>by
    rw [T.len] at hi
    rw [Array.getElem?_eq_getElem hi]
    exact nh _ (by rw [Array.mem_toList_iff]; exact Array.getElem_mem hi)
  unfold setSearch setSearchFrom
  refine wpAny_bind (wpAny_setState_of ho hd (fits_of T) ?_)
  have gw:t.gaveWay=false:=by
    unfold SetTable.gaveWay
    rcases T.msk with e | e | e<;>rw [e]<;>rfl
  simp only [gw,Bool.false_eq_true,if_false,Option.getD_none]
  erw [hj]
  exact wpAny_pure (q j nj jm)
theorem nF {h:Heap} {a:Addr} {o:Obj} {es es':Array (Int × Value)} {ep:Nat} {t t':SetTable} (ho:h.get? a=some o) (hd:o.data = .set es ep t):(h.update a (Obj.putSet es' t')).get? a=some { o with data:=.set es' (ep+1) t' }:=by
  have:=Heap.get?_update_self (Obj.putSet es' t') ho (by rw [putSet_of es' t' hd]; rfl)
  rw [putSet_of es' t' hd] at this
  exact this
theorem mj {α:Type} {es:Array α} {order:Array Nat} (h:order.toList.Perm (List.range es.size)):(order.filterMap (es[·]?)).toList.Perm es.toList:=by
  rw [Array.toList_filterMap]
  refine (h.filterMap _).trans ?_
  have:(List.range es.size).filterMap (fun i=>es[i]?)=es.toList:=by
    have e:(fun i=>es[i]?)=fun i=>es.toList[i]?:=funext fun i=>Array.getElem?_toList.symm
    rw [e,show es.size=es.toList.length from Array.length_toList.symm]
    generalize es.toList=l
    induction l with
    | nil=>rfl
    | cons a l ih =>
      rw [List.length_cons,List.range_succ_eq_map,List.filterMap_cons]
      simp only [List.getElem?_cons_zero,List.filterMap_map]
      congr 1
  rw [this]
theorem zB {a:Addr} {o:Obj} {es:Array (Int × Value)} {ep:Nat} {t t':SetTable} {order:Array Nat} {wanted:Nat} {Q:Unit->Shared->Prop} (ho:s.heap.get? a=some o) (hd:o.data = .set es ep t) (T:Tab t es.size) (h64:es.size<=64)
    (hz:SetTable.sizeAbove wanted<=128) (hr:t.relaid (es.map (·.1)) wanted=some (t',order)) (pm:order.toList.Perm (List.range es.size))
    (q:Q () { s with heap:=s.heap.update a (Obj.putSet (order.filterMap (es[·]?)) t') }):wpAny (model prog w) A (setRelay a wanted) Q E s:=by
  have fp:=mj pm
  have fs:(order.filterMap (es[·]?)).size=es.size:=by rw [<- Array.length_toList,fp.length_eq,Array.length_toList]
  unfold setRelay
  refine wpAny_bind (wpAny_setState_of ho hd (fits_of T) ?_)
  simp only
  rw [if_neg (by rw [sizeLine_eq]; lia),hr]
  refine wpAny_bind ?_
  show wpAny (model prog w) A (if ((order.filterMap (es[·]?)).size != es.size)=true then _ else _) _ E s
  rw [if_neg (by rw [fs]; simp)]
  refine wpAny_pure ?_
  exact wpAny_storeSet_of ho hd q (by rw [fs,sizeLine_eq]; lia)
theorem zO {a x:Addr} {p:Int × Int} {led:Bool} {es:Array (Int × Value)} {Q:Bool->Shared->Prop} (hu:A.units < cLine) (hS:fv s.heap a led es) (hk:gY prog w s.heap x p) (nh:∀ e∈es.toList,e.1≠cC p) (h64:es.size < 64)
    (q:∀ h' es',Heap.SameBut a s.heap h'->fv h' a led es'->es'.toList.Perm ((cC p,.ref x)::es.toList)->Q true { s with heap:=h',toks:=s.toks+3 }):wpAny (model prog w) A (setAdd a (.ref x)) Q E s:=by
  obtain ⟨o,ep,t,ho,hex,hd,G,el,ep1⟩:=hS.at_
  unfold setAdd
  refine wpAny_holding (wpAny_bind (wpAny_pyHash_tuple hu hk ?_))
  show wpAny (model prog w) A (setAddHashed a (.ref x) (cC p)) Q E { s with toks:=s.toks+3 }
  unfold setAddHashed setAddHashedIn
  refine wpAny_holding (wpAny_bind (wpAny_setState_of (s:={ s with toks:=s.toks+3 }) ho hd (fits_of G.tab) ?_))
  have bs:byScan (.ref x) es=false:=rfl
  simp only [bs,Bool.false_eq_true,if_false]
  refine wpAny_bind (uE (s:={ s with toks:=s.toks+3 }) ho hd G nh fun j nj jm=>?_)
  simp only
  refine wpAny_bind (wpAny_setState_of (s:={ s with toks:=s.toks+3 }) ho hd (fits_of G.tab) ?_)
  obtain ⟨T1,e2,e3,e4,rel⟩:=G.put h64 nj jm
  obtain ⟨t1,p1,e1⟩:∃ t1 p1,t.put j=(t1,p1):=⟨_,_,rfl⟩
  rw [e1] at T1 e2 e3 e4 rel
  simp only at T1 e2 e3 e4 rel
  simp only [e1]
  have pl:t1.plain=true:=by rw [e3,ep1]
  have h0:=(below_at t.place j G.tab.ris).1
  have hp1:p1<=es.size:=by rw [e2,<- G.tab.len]; exact h0
  have el1:=fP es p1 (cC p,Value.ref x) hp1
  have pm1:(SetTable.insertAt es p1 (cC p,.ref x)).toList.Perm ((cC p,.ref x)::es.toList):=by rw [el1]; exact ml _ _ _
  have sz1:(SetTable.insertAt es p1 (cC p,.ref x)).size=es.size+1:=by rw [<- Array.length_toList,pm1.length_eq,List.length_cons,Array.length_toList]
  simp only [pl,if_true]
  refine wpAny_bind (uK (s:={ s with toks:=s.toks+3 }) hk ?_)
  simp only [if_true]
  refine wpAny_bind (wpAny_storeSet_of (s:={ s with toks:=s.toks+3 }) ho hd ?_ (by rw [sz1,sizeLine_eq]; lia))
  have g1:=nF (es':=SetTable.insertAt es p1 (cC p,.ref x)) (t':=t1) ho hd
  have sb1:=Heap.SameBut.update s.heap a (Obj.putSet (SetTable.insertAt es p1 (cC p,.ref x)) t1)
  cases hf:t1.tooFull with
  | false =>
    simp only [Bool.not_false,Bool.true_and,Bool.false_eq_true,if_false]
    refine wpAny_pure (q _ _ sb1 ⟨_,ep+1,t1,g1,hex,rfl,⟨by rw [sz1]; exact T1,hf⟩,by rw [e4,el],pl⟩ pm1)
  | true =>
    simp only [Bool.not_false,Bool.true_and,if_true]
    obtain ⟨z1,t',order,r1,G2,l2,pl2,po⟩:=rel hf ((SetTable.insertAt es p1 (cC p,.ref x)).map (·.1)) (by rw [Array.size_map,sz1])
    have sz2:((SetTable.insertAt es p1 (cC p,.ref x))).size=es.size+1:=sz1
    refine wpAny_bind (zB (s:={ s with heap:=s.heap.update a (Obj.putSet (SetTable.insertAt es p1 (cC p,.ref x)) t1),toks:=s.toks+3 }) g1 rfl (by rw [sz1]; exact T1) (by lia) z1 r1 (by rw [sz1]; exact po) (wpAny_pure ?_))
    have g2:=nF (es':=order.filterMap ((SetTable.insertAt es p1 (cC p,.ref x))[·]?)) (t':=t') g1 rfl
    have fp:=mj (es:=SetTable.insertAt es p1 (cC p,.ref x)) (order:=order) (by rw [sz1]; exact po)
    have sz3:(order.filterMap ((SetTable.insertAt es p1 (cC p,.ref x))[·]?)).size=es.size+1:=by rw [<- Array.length_toList,fp.length_eq,Array.length_toList,sz1]
    exact q _ _ (sb1.trans (Heap.SameBut.update _ a _)) ⟨_,ep+1+1,t',g2,hex,rfl,by rw [sz3]; exact G2,by rw [l2,el],by rw [pl2,ep1]⟩ (fp.trans pm1)
end
end Sx
set_option Elab.async false
set_option linter.all false
set_option maxRecDepth 100000
set_option maxHeartbeats 4000000
namespace Sx
open PySem PyProof.Rows
theorem slot_next:Slot "set_iterator" "__next__" "set_iterator.__next__" :=
  .of (owner:="set_iterator") (n:="__next__") (by rw [typeLookup_type,builtinLookup_eq_fast]; kernel_rfl) (by decide +kernel) (by decide +kernel) (by decide +kernel)
    (by first | exact .inl (by decide +kernel) | exact .inr (by decide +kernel)) (by rw [isSubtype_type]; kernel_rfl)
theorem entry_next:entryFor table "set_iterator.__next__" = some Builtin.«set_iterator.__next__»:=entryFor_of_tree (by kernel_rfl)
theorem xl:entryFor table "set.__iter__" = some Builtin.«frozenset.__iter__» :=
  entryFor_alias (id':="frozenset.__iter__") (by kernel_rfl) rfl (by decide +kernel) (by kernel_rfl)
theorem uu:Manifest.owners.lookup (String.ofList ['r','o','t','a','r','e','t','i','_','t','e','s'].reverse)=some Manifest.sig_set_iterator:=by kernel_rfl
theorem args_next (a:Value):argsOk "set_iterator.__next__" ⟨[a],[]⟩:=by
  unfold argsOk; rw [signature?_of (id:="set_iterator.__next__") (n:=['_','_','t','x','e','n','_','_']) (o:=['r','o','t','a','r','e','t','i','_','t','e','s']) (by kernel_rfl) uu]; kernel_rfl
theorem vm {α:Type} (next:Nat->Nat):∀ (fuel k:Nat) (left:List α) (out:Array α),left.length=fuel->(pickOrder.go next fuel k left out).toList.Perm (out.toList++left)
  | 0,k,left,out,h=>by
    have:left=[]:=List.eq_nil_of_length_eq_zero h
    subst this
    unfold pickOrder.go
    rw [List.append_nil]
  | fuel+1,k,left,out,h=>by
    have lt:next k % left.length < left.length:=Nat.mod_lt _ (by lia)
    unfold pickOrder.go
    rw [List.getElem?_eq_getElem lt]
    simp only
    refine (vm next fuel (k+1) _ _ (by rw [List.length_eraseIdx_of_lt lt]; lia)).trans ?_
    rw [Array.toList_push,List.append_assoc]
    refine List.Perm.append_left _ ?_
    rw [List.eraseIdx_eq_take_drop_succ]
    have e:=List.perm_middle (a:=left[next k % left.length]) (l₁:=left.take (next k % left.length)) (l₂:=left.drop (next k % left.length+1))
    rw [List.getElem_cons_drop,List.take_append_drop] at e
    exact e.symm
theorem xE {α:Type} (next:Nat->Nat) (xs:Array α):(pickOrder next xs).toList.Perm xs.toList:=by
  have:=vm next xs.size 0 xs.toList #[] (by simp)
  exact this
noncomputable def bU (w:World):Bool:=w.params.followText "set-order"
noncomputable def wk (w:World) (a:Addr) (ep:Nat) (es:Array (Int × Value)):Array (Int × Value):=if bU w=true then pickOrder (w.params.setOrder a ep) es else es
theorem u0 (w:World) (a:Addr) (ep:Nat) (es:Array (Int × Value)):(wk w a ep es).toList.Perm es.toList:=by
  unfold wk
  split
  · exact xE _ _
  · exact .refl _
theorem iJ (w:World) (a:Addr) (ep:Nat) (es:Array (Int × Value)):(wk w a ep es).size=es.size:=by
  rw [<- Array.length_toList,(u0 w a ep es).length_eq,Array.length_toList]
noncomputable abbrev AS (h:Heap) (I a:Addr) (slot i n ep:Nat):Prop:=h.get? I=some { cls:=.type "set_iterator",dict:=none,data:=.fields #[rawInt slot,rawInt i,.ref a,rawInt n,rawInt ep],slots:=#[] }
theorem mV (xs:Array Nat) (hr:cH xs.toList):SetTable.below xs 0=0:=by
  obtain ⟨h0,h1,h2⟩:=below_at xs 0 hr
  rcases Nat.eq_zero_or_pos (SetTable.below xs 0) with z | z
  · exact z
  · have:=h1 0 xs[0] z (Array.getElem?_eq_getElem (by lia))
    lia
theorem v5 {xs:Array Nat} {i j:Nat} (hr:cH xs.toList) (h:xs[i]? = some j):SetTable.below xs (j+1)=i+1:=by
  obtain ⟨h0,h1,h2⟩:=below_at xs (j+1) hr
  obtain ⟨li,ei⟩:=Array.getElem?_eq_some_iff.mp h
  have mono:∀ a b x y,a < b->xs[a]? = some x->xs[b]? = some y->x < y:=fun a b x y hab ha hb=>by
    obtain ⟨la,ea⟩:=Array.getElem?_eq_some_iff.mp ha
    obtain ⟨lb,eb⟩:=Array.getElem?_eq_some_iff.mp hb
    have:=List.pairwise_iff_getElem.mp hr a b (by simpa using la) (by simpa using lb) hab
    simp only [Array.getElem_toList] at this
    omega
  rcases Nat.lt_trichotomy (SetTable.below xs (j+1)) (i+1) with z | z | z
  · have:=h2 i j (by lia) h; lia
  · exact z
  · have l:i+1 < xs.size:=by lia
    have g:=Array.getElem?_eq_getElem l
    have a1:=h1 (i+1) _ z g
    have a2:=mono i (i+1) j _ (by lia) h g
    lia
section
variable {prog:Program} {w:World} {A:Around} {E:Value->Shared->Prop} {s:Shared}
theorem i3 {Q:Bool->Shared->Prop} (q:Q (bU w) s):wpAny (model prog w) A setsByText Q E s:=by
  unfold setsByText
  exact wpAny_bind (wpAny_askSetting (wpAny_pure q))
theorem zR {a:Addr} {o:Obj} {es:Array (Int × Value)} {ep:Nat} {t:SetTable} {Q:Value->Shared->Prop} (ho:s.heap.get? a=some o) (hex:o.ExactSet) (hd:o.data = .set es ep t) (T:Tab t es.size) (pl:t.plain=true)
    (q:Q (.ref s.heap.objs.size) { s with heap:=s.heap.push { cls:=.type "set_iterator",dict:=none,data:=.fields #[rawInt 0,rawInt 0,.ref a,rawInt es.size,rawInt ep],slots:=#[] } }):wpAny (model prog w) A (pyIter (.ref a)) Q E s:=by
  have hT:s.TypeIs (.ref a) "set":=⟨o,ho,hex.1⟩
  refine wpAny_pyIter_slot hT F.slot_set_iter (wpAny_call_entry F.slot_set_iter hT xl ?_ (F.args_set_iter_1 _))
  unfold Builtin.«frozenset.__iter__» Builtin.Frozenset.slot0 slotArgs
  simp only [List.isEmpty_nil,Bool.not_true,Bool.false_eq_true,↓reduceIte,bind_assoc,List.length_nil,bne_self_eq_false]
  unfold Builtin.Frozenset.addrOf Builtin.Frozenset.sizeOf
  refine wpAny_bind (wpAny_pure ?_)
  try dsimp only
  refine wpAny_bind (wpAny_pure ?_)
  refine wpAny_bind (wpAny_bind (wpAny_setEntries_of ho hd (fits_of T) (wpAny_pure ?_)))
  refine wpAny_bind ?_
  unfold setDrawn
  refine wpAny_bind (wpAny_setState_of ho hd (fits_of T) ?_)
  refine wpAny_bind (i3 (wpAny_pure ?_))
  have nd:¬ ((!bU w&&(!t.plain&&decide (es.size > 1)))=true):=by rw [pl]; simp
  refine wpAny_ite_split (fun h=>absurd h nd) (fun _=>?_)
  refine wpAny_bind (wpAny_pure ?_)
  refine wpAny_bind (wpAny_setEpoch_of ho hd (fits_of T) ?_)
  unfold newFields
  refine wpAny_bind (wpAny_newObj_type ?_)
  refine wpAny_pure ⟨_,rfl,"set_iterator",_,⟨_,Heap.get?_push_size _ rfl,rfl⟩,slot_next.lookup,q⟩
structure lV (w:World) (h:Heap) (I a:Addr) (es:Array (Int × Value)) (ep:Nat) (t:SetTable) (i:Nat):Prop where
  it:∃ slot,AS h I a slot i es.size ep/\(bU w=false->SetTable.below t.place slot=i)
  st:∃ o,h.get? a=some o/\o.data = .set es ep t
theorem vp {a:Addr} {o:Obj} {es:Array (Int × Value)} {ep slot i:Nat} {t:SetTable} {Q:Option (Value × Nat)->Shared->Prop} (ho:s.heap.get? a=some o) (hd:o.data = .set es ep t) (T:Tab t es.size) (pl:t.plain=true) (ld:t.led = !bU w)
    (hs:bU w=false->SetTable.below t.place slot=i)
    (q0:es.size<=i->Q none s) (q1:∀ e nx,(wk w a ep es)[i]? = some e->(bU w=false->SetTable.below t.place nx=i+1)->Q (some (e.2,nx)) s):wpAny (model prog w) A (setNext a slot i ep) Q E s:=by
  unfold setNext
  refine wpAny_bind (wpAny_setState_of ho hd (fits_of T) ?_)
  refine wpAny_bind (i3 ?_)
  cases hb:bU w with
  | true =>
    simp only [if_true,bne_self_eq_false,Bool.false_eq_true,if_false]
    refine wpAny_bind ?_
    unfold setWalk
    refine wpAny_bind (wpAny_setState_of ho hd (fits_of T) ?_)
    refine wpAny_bind (i3 ?_)
    simp only [hb,if_true]
    refine wpAny_bind (wpAny_askSetting (wpAny_pure (wpAny_pure ?_)))
    have ew:wk w a ep es=pickOrder (w.params.setOrder a ep) es:=by unfold wk; rw [if_pos hb]
    show Q (((pickOrder (w.params.setOrder a ep) es)[i]?).map fun e=>(e.2,slot)) s
    rw [<- ew]
    by_cases hi:i < es.size
    · rw [Array.getElem?_eq_getElem (show i < (wk w a ep es).size by rw [iJ]; exact hi)]
      exact q1 _ slot (Array.getElem?_eq_getElem (show i < (wk w a ep es).size by rw [iJ]; exact hi)) fun z=>by rw [hb] at z; cases z
    · rw [Array.getElem?_eq_none (by rw [iJ]; lia)]
      exact q0 (by lia)
  | false =>
    simp only [Bool.false_eq_true,if_false]
    have nd:¬ ((!t.plain&&decide (es.size > 1))=true):=by rw [pl]; simp
    refine wpAny_ite_split (fun h=>absurd h nd) (fun _=>?_)
    refine wpAny_bind ?_
    show wpAny (model prog w) A (if (!t.led&&!es.isEmpty)=true then _ else _) _ E s
    rw [if_neg (by rw [ld,hb]; simp)]
    refine wpAny_pure (wpAny_pure ?_)
    rw [hs hb]
    have ew:wk w a ep es=es:=by unfold wk; rw [hb,if_neg (by decide)]
    by_cases hi:i < es.size
    · have g1:=Array.getElem?_eq_getElem hi
      have g2:=Array.getElem?_eq_getElem (show i < t.place.size by rw [T.len]; exact hi)
      rw [g1,g2]
      exact q1 _ _ (by rw [ew]; exact g1) fun _=>v5 T.ris g2
    · rw [Array.getElem?_eq_none (show es.size<=i by lia)]
      exact q0 (by lia)
theorem ym {I a:Addr} {es:Array (Int × Value)} {ep i:Nat} {t:SetTable} {Q:Value->Shared->Prop} (hne:a≠I) (S:lV w s.heap I a es ep t i) (T:Tab t es.size) (pl:t.plain=true) (ld:t.led = !bU w) (hi:i < es.size)
    (q:∀ e h',(wk w a ep es)[i]? = some e->lV w h' I a es ep t (i+1)->Heap.SameBut I s.heap h'->Q e.2 { s with heap:=h' }) :
    wpAny (model prog w) A (Builtin.«set_iterator.__next__» ⟨[.ref I],[]⟩) (fun fin s'=>∃ v,fin = .done (.ret v)/\Q v s') E s:=by
  obtain ⟨⟨slot,hit,hs⟩,o,ho,hd⟩:=S
  unfold Builtin.«set_iterator.__next__» slotArgs
  simp only [List.isEmpty_nil,Bool.not_true,Bool.false_eq_true,↓reduceIte,List.length_nil,bne_self_eq_false,pure_bind]
  refine wpAny_bind (wpAny_fieldsOf hit rfl ?_)
  show wpAny (model prog w) A (setEntries a >>= _) _ E s
  refine wpAny_bind (wpAny_setEntries_of ho hd (fits_of T) ?_)
  rw [if_neg (by simp)]
  show wpAny (model prog w) A (setNext a ((slot:Int)).toNat ((i:Int)).toNat ((ep:Int)).toNat >>= _) _ E s
  rw [Int.toNat_natCast,Int.toNat_natCast,Int.toNat_natCast]
  refine wpAny_bind (vp ho hd T pl ld hs (fun z=>absurd z (by lia)) fun e nx he hn=>?_)
  show wpAny (model prog w) A (setField (.ref I) 0 (rawInt nx) >>= _) _ E s
  refine wpAny_bind (wpAny_setField_rec hit (by simp) fun h1 hit1 sb1=>?_)
  show wpAny (model prog w) A (setField (.ref I) 1 (rawInt ((i:Int)+1)) >>= _) _ E _
  refine wpAny_bind (wpAny_setField_rec hit1 (by simp) fun h2 hit2 sb2=>?_)
  have sb:=sb1.trans sb2
  refine wpAny_pure ⟨_,rfl,q e h2 he ⟨⟨nx,?_,hn⟩,o,(sb.2 a hne).trans ho,hd⟩ sb⟩
  show h2.get? I=_
  rw [hit2]
  rfl
theorem y3 {I a:Addr} {es:Array (Int × Value)} {ep i:Nat} {t:SetTable} {Q:PySem.Fin->Shared->Prop} (hh:A.handled=none) (S:lV w s.heap I a es ep t i) (T:Tab t es.size) (pl:t.plain=true) (ld:t.led = !bU w) (hi:es.size<=i)
    (hE:∀ h' e,Heap.ExtBut I s.heap h'->(∃ o,h'.get? e=some o/\o.cls = .type "StopIteration")->E (.ref e) { s with heap:=h' }) :
    wpAny (model prog w) A (Builtin.«set_iterator.__next__» ⟨[.ref I],[]⟩) Q E s:=by
  obtain ⟨⟨slot,hit,hs⟩,o,ho,hd⟩:=S
  unfold Builtin.«set_iterator.__next__» slotArgs
  simp only [List.isEmpty_nil,Bool.not_true,Bool.false_eq_true,↓reduceIte,List.length_nil,bne_self_eq_false,pure_bind]
  refine wpAny_bind (wpAny_fieldsOf hit rfl ?_)
  show wpAny (model prog w) A (setEntries a >>= _) _ E s
  refine wpAny_bind (wpAny_setEntries_of ho hd (fits_of T) ?_)
  rw [if_neg (by simp)]
  show wpAny (model prog w) A (setNext a ((slot:Int)).toNat ((i:Int)).toNat ((ep:Int)).toNat >>= _) _ E s
  rw [Int.toNat_natCast,Int.toNat_natCast,Int.toNat_natCast]
  refine wpAny_bind (vp ho hd T pl ld hs (fun _=>?_) fun e nx he hn=>?_)
  · show wpAny (model prog w) A (setField (.ref I) 2 .none >>= _) _ E s
    refine wpAny_bind (wpAny_setField_rec hit (by simp) fun h1 hit1 sb1=>?_)
    show wpAny _ _ (newExc (.type "StopIteration") [] >>= _) _ _ _
    refine wpAny_bind ?_
    simp only [newExc,newTuple]
    refine wpAny_bind (wpAny_newObj_type ?_ (by size_fits))
    refine wpAny_bind (m:=firstArgMember _ _) (wpAny_of_eq (a:=Value.none) (by first | rfl | (simp only [firstArgMember]; rfl)) ?_)
    refine wpAny_newObj_type ?_ (by size_fits)
    simp only [raiseNew]
    refine wpAny_bind (wpAny_handled ?_)
    rw [hh]
    refine wpAny_bind (wpAny_pure (wpAny_throw ?_))
    exact hE _ _ (fun b o hb e=>Heap.get?_push_of_some _ (Heap.get?_push_of_some _ (sb1.extBut b o hb e))) ⟨_,Heap.get?_push_size _ rfl,rfl⟩
  · have:=(Array.getElem?_eq_some_iff.mp he).1
    rw [iJ] at this
    lia
theorem slot_self:Slot "set_iterator" "__iter__" "set_iterator.__iter__" :=
  .of (owner:="set_iterator") (n:="__iter__") (by rw [typeLookup_type,builtinLookup_eq_fast]; kernel_rfl) (by decide +kernel) (by decide +kernel) (by decide +kernel)
    (by first | exact .inl (by decide +kernel) | exact .inr (by decide +kernel)) (by rw [isSubtype_type]; kernel_rfl)
theorem entry_self:entryFor table "set_iterator.__iter__" = some Builtin.«dict_keyiterator.__iter__» :=
  entryFor_alias (id':="dict_keyiterator.__iter__") (by kernel_rfl) rfl (by decide +kernel) (by kernel_rfl)
theorem args_self (a:Value):argsOk "set_iterator.__iter__" ⟨[a],[]⟩:=by
  unfold argsOk; rw [signature?_of (id:="set_iterator.__iter__") (n:=['_','_','r','e','t','i','_','_']) (o:=['r','o','t','a','r','e','t','i','_','t','e','s']) (by kernel_rfl) uu]; kernel_rfl
theorem yE (hh:A.handled=none) (I a:Addr) (hne:a≠I) (es:Array (Int × Value)) (ep:Nat) (t:SetTable) (T:Tab t es.size) (pl:t.plain=true) (ld:t.led = !bU w) :
    Walks prog w A I [I,a] [I] es.size (fun i v=>∃ e,(wk w a ep es)[i]? = some e/\v=e.2) (fun i h=>lV w h I a es ep t i) where
  sub:=fun b hb=>by simp at hb; simp [hb]
  frame:=fun i h h' st hk=>by
    obtain ⟨⟨slot,hit,hs⟩,o,ho,hd⟩:=st
    exact ⟨⟨slot,hk I (by simp) _ hit,hs⟩,o,hk a (by simp) _ ho,hd⟩
  item:=fun i s Q E hi st hQ=>by
    obtain ⟨slot,hit,_⟩:=st.it
    have hT:s.TypeIs (.ref I) "set_iterator":=⟨_,hit,rfl⟩
    unfold pyNext
    refine wpAny_bind (wpAny_attempt (wpAny_callSpecial?_slot (name:=Str.ofString "__next__") hT slot_next (wpAny_call_entry slot_next hT entry_next
      (ym hne st T pl ld hi fun e h' he S' sb=>wpAny_pure ?_) (args_next _))))
    exact hQ e.2 h' s.toks ⟨e,he,rfl⟩ S' fun b o hb x=>sb.extBut b o (fun z=>hb (by simp [z])) x
  done:=fun s Q E st hQ=>by
    obtain ⟨slot,hit,_⟩:=st.it
    have hT:s.TypeIs (.ref I) "set_iterator":=⟨_,hit,rfl⟩
    unfold pyNext
    refine wpAny_bind (wpAny_attempt (wpAny_callSpecial?_slot (name:=Str.ofString "__next__") hT slot_next (wpAny_call_entry slot_next hT entry_next
      (y3 (A:=A.in1) hh st T pl ld (Nat.le_refl _) fun h' e k he=>?_) (args_next _))))
    obtain ⟨o,ho,hc⟩:=he
    exact wpAny_bind (wpAny_isInstance (T:="StopIteration") (b:=true) ⟨o,ho,hc⟩ isSubtype_stop (wpAny_pure (hQ _ s.toks fun b o hb x=>k b o (fun z=>hb (by simp [z])) x)))
  self:=fun i s Q E st hQ=>by
    obtain ⟨slot,hit,_⟩:=st.it
    have hT:s.TypeIs (.ref I) "set_iterator":=⟨_,hit,rfl⟩
    refine wpAny_pyIter_slot hT slot_self (wpAny_call_entry slot_self hT entry_self ?_ (args_self _))
    show wpAny _ _ (ret (.ref I)) _ _ s
    exact wpAny_pure ⟨_,rfl,"set_iterator",_,hT,slot_next.lookup,hQ⟩
end
end Sx
set_option Elab.async false
set_option linter.all false
set_option maxRecDepth 100000
set_option maxHeartbeats 4000000
namespace Sx
open PySem PyProof.Rows
noncomputable def el (e:Addr × (Int × Int)):Int × Value:=(cC e.2,.ref e.1)
theorem oC {prog:Program} {w:World} {h h':Heap} {T:Addr} {p:Int × Int} (k:gY prog w h T p) (e:∀ o,h.get? T=some o->h'.get? T=some o):gY prog w h' T p:=by
  obtain ⟨o,items,n,ho,r⟩:=k
  exact ⟨o,items,n,e o ho,r⟩
section
variable {prog:Program} {w:World} {A:Around} {R:Result->Shared->Prop} {I:Addr} {fp wr:List Addr} {G:Array GenState->Array GenState->Prop} {n:Nat} {P:Nat->Value->Prop} {St:Nat->Shared->Prop}
theorem fv.at' {h h':Heap} {a:Addr} {led:Bool} {es:Array (Int × Value)} (S:fv h a led es) (e:∀ o,h.get? a=some o->h'.get? a=some o):fv h' a led es:=by
  obtain ⟨o,ep,t,ho,r⟩:=S.at_
  exact ⟨o,ep,t,e o ho,r⟩
theorem tE (W:WalksS prog w A.in1 I fp wr G n P St) (S:Addr) (hSf:S∉fp) (hu:A.in1.units < cLine) (led:Bool) (Tp:List (Addr × (Int × Int))) (hn:Tp.length=n) (hval:∀ i v,P i v->∃ e,Tp[i]? = some e/\v = .ref e.1)
    (hT:∀ e∈Tp,e.1≠S/\e.1∉wr) (lo:∀ e∈Tp,Lo e.2) (nd:(Tp.map (·.2)).Nodup) (n64:n<=64) :
    ∀ (k i:Nat) (s:Shared) (es:Array (Int × Value)),n - i=k->i<=n->St i s->(∀ e∈Tp,gY prog w s.heap e.1 e.2)->fv s.heap S led es->es.toList.Perm ((Tp.take i).map el) ->
      (∀ s' es',Moved (S::wr) G s s'->fv s'.heap S led es'->es'.toList.Perm (Tp.map el)->R (.ok (.ret .none)) s') ->
      codeAny (model prog w) A (.builtin "set.update.loop" ⟨[.ref S,.ref I],[]⟩) R s:=by
  have hSw:S∉wr:=fun h=>hSf (W.sub _ h)
  have hsub:∀ b∈wr,b∈S::wr:=fun b hb=>List.mem_cons_of_mem _ hb
  intro k
  induction k with
  | zero =>
    intro i s es hk hi hst hP hS hp hR
    have hin:i=n:=by lia
    subst hin
    refine codeAny_builtin F.entry_set_update_loop ?_
    rw [Around.under_plainId F.plain_set_update_loop _]
    show wpAny _ A.in1 (pyNext (.ref I) >>= _) _ _ s
    refine wpAny_bind (W.done s _ _ hst fun s' hm=>?_)
    show wpAny _ A.in1 (ret Value.none) _ _ s'
    rw [List.take_of_length_le (by lia)] at hp
    exact wpAny_pure (hR s' es (hm.mono hsub) (hS.at' fun o e=>hm.heap S _ hSw e) hp)
  | succ k ih =>
    intro i s es hk hi hst hP hS hp hR
    have hlt:i < n:=by lia
    refine codeAny_builtin F.entry_set_update_loop ?_
    rw [Around.under_plainId F.plain_set_update_loop _]
    show wpAny _ A.in1 (pyNext (.ref I) >>= _) _ _ s
    refine wpAny_bind (W.item i s _ _ hlt hst fun v s' hv hst' hm=>?_)
    obtain ⟨e,he,rfl⟩:=hval i v hv
    have em:=List.mem_of_getElem? he
    have hS':fv s'.heap S led es:=hS.at' fun o x=>hm.heap S _ hSw x
    have hP':∀ f∈Tp,gY prog w s'.heap f.1 f.2:=fun f hf=>oC (hP f hf) fun o x=>hm.heap _ _ (hT f hf).2 x
    have les:es.size=i:=by rw [<- Array.length_toList,hp.length_eq,List.length_map,List.length_take]; lia
    have nh:∀ x∈es.toList,x.1≠cC e.2:=fun x hx z=>by
      obtain ⟨f,hf,rfl⟩:=List.mem_map.mp (hp.mem_iff.mp hx)
      have z':cC f.2=cC e.2:=z
      have fm:=List.mem_of_mem_take hf
      have ef:=BH (lo f fm) (lo e em) z'
      obtain ⟨j,hj⟩:=List.getElem?_of_mem hf
      have hji:j < i:=by
        have:=(List.getElem?_eq_some_iff.mp hj).1
        rw [List.length_take] at this
        lia
      rw [List.getElem?_take_of_lt hji] at hj
      have g1:(Tp.map (·.2))[j]? = some f.2:=by rw [List.getElem?_map,hj]; rfl
      have g2:(Tp.map (·.2))[i]? = some e.2:=by rw [List.getElem?_map,he]; rfl
      rw [ef] at g1
      have:=(List.getElem?_inj (by rw [List.length_map]; lia) nd).mp (g1.trans g2.symm)
      lia
    show wpAny _ A.in1 (holding [Value.ref e.1] (setAdd S (.ref e.1)) >>= _) _ _ s'
    refine wpAny_bind (wpAny_holding (zO hu hS' (hP' e em) nh (by lia) fun h' es' sb S2 p2=>?_))
    refine wpAny_pure ⟨plainId_quiet F.plain_set_update_loop _,ih (i+1) _ es' (by lia) hlt (W.frame _ s' _ _ hst' (Nat.le_add_right _ _) fun b hb o x=>?_) (fun f hf=>oC (hP' f hf) fun o x=>(sb.2 _ (hT f hf).1).trans x) S2 ?_ fun s'' es'' hm'' S'' p''=>?_⟩
    · rw [sb.2 b (fun h:b=S=>hSf (by rw [<- h]; exact hb))]; exact x
    · rw [List.take_add_one,he,List.map_append]
      exact (p2.trans (List.Perm.cons _ hp)).trans (List.perm_append_singleton (el e) _).symm
    · refine hR s'' es'' (Moved.trans W.gtrans ((hm.mono hsub).then_heap (Nat.le_add_right _ _) fun b o hb x=>?_) hm'') S'' p''
      rw [sb.2 b (fun h:b=S=>hb (by rw [h]; exact List.mem_cons_self))]; exact x
end
section
variable {prog:Program} {w:World} {A:Around} {E:Value->Shared->Prop} {s:Shared}
theorem Bb (a:Value) {Q₁:Value->Shared->Prop} (h:Q₁ (.ref s.heap.objs.size) { s with heap:=s.heap.push { cls:=.type "set",dict:=none,data:=.set #[] 0 (.fresh 0 0 (!bU w)) } }) :
    codeAny (model prog w) A (.call (.builtin "set.__new__") ⟨[.type "set",a],[]⟩) (wants Q₁ E) s:=by
  refine codeAny_of_tree ?_
  show wpAny _ A.in1 (do checkBuiltinCall "set.__new__" ⟨[.type "set",a],[]⟩; again (.builtin "set.__new__" ⟨[.type "set",a],[]⟩)) _ _ s
  refine wpAny_bind (wpAny_of_eq (F.newCall_set_1 a) (wpAny_pure ⟨plainId_quiet F.plain_set_new _,codeAny_builtin F.entry_set_new ?_⟩))
  rw [Around.under_plainId F.plain_set_new _]
  unfold Builtin.«set.__new__» Builtin.Frozenset.newClass
  have hsub:=sub_set_self
  obtain ⟨hp,g,d,tk,os⟩:=s
  dsimp only
  wp_walk
  refine wpAny_askSetting (wpAny_pure ?_)
  dsimp only
  simp only [newObj]
  refine wpAny_bind (wpAny_alloc (wpAny_pure ?_))
  exact wpAny_pure h
theorem n6 {l:Addr} {items:Array Value} {Tp:List (Addr × (Int × Int))} {Q:Value->Shared->Prop} (hh:A.handled=none) (hu:A.units+10 < cLine) (hl:s.heap.IsList l items) (hi:items.toList=Tp.map fun e=>.ref e.1)
    (hP:∀ e∈Tp,gY prog w s.heap e.1 e.2) (lo:∀ e∈Tp,Lo e.2) (nd:(Tp.map (·.2)).Nodup) (n64:Tp.length<=64)
    (h:∀ (h':Heap) (tk:Nat) (es:Array (Int × Value)),fv h' s.heap.objs.size (!bU w) es->es.toList.Perm (Tp.map el)->(∀ b o,b < s.heap.objs.size->s.heap.get? b=some o->h'.get? b=some o)->Q (.ref s.heap.objs.size) { s with heap:=h',toks:=tk }) :
    wpAny (model prog w) A (call (.type "set") [.ref l]) Q E s:=by
  obtain ⟨c,tl,hmro⟩:=F.called_set.mro
  have hmade:=F.called_set.made
  have hsub:=F.called_set.sub
  refine wpAny_call (codeAny_of_tree ?_)
  show wpAny _ _ (callAny (.type "set") _) _ _ _
  refine wpAny_pure ⟨Code.quiet_builtin _ (by decide +kernel),codeAny_builtin F.entry_type_call ?_⟩
  rw [Around.under_plain (weight_type_call_type "set" [.ref l] []) rfl]
  have h1:=F.called_set.notType
  have h2:=F.called_set.canCreate
  have hct:=F.typeCall_set_1 (.ref l)
  repeat (any_goals (first | assumption | wp_step))
  refine codeAny_mono (Bb (.ref l) (E:=E) (Q₁:=fun obj s₁=>obj = .ref s.heap.objs.size/\s₁={ s with heap:=s.heap.push { cls:=.type "set",dict:=none,data:=.set #[] 0 (.fresh 0 0 (!bU w)) } }) ⟨rfl,rfl⟩) fun r s₁ hr=>?_
  cases r with
  | error e=>exact hr
  | ok fl =>
    cases fl with
    | ret obj =>
      obtain ⟨rfl,rfl⟩:=hr
      have hS:(s.heap.push { cls:=.type "set",dict:=none,data:=.set #[] 0 (.fresh 0 0 (!bU w)) }).get? s.heap.objs.size=some { cls:=.type "set",dict:=none,data:=.set #[] 0 (.fresh 0 0 (!bU w)) }:=Heap.get?_push_size _ rfl
      have hT:Shared.TypeIs { s with heap:=s.heap.push { cls:=.type "set",dict:=none,data:=.set #[] 0 (.fresh 0 0 (!bU w)) } } (.ref s.heap.objs.size) "set":=⟨_,hS,rfl⟩
      have hli:=F.called_set.init.lookup
      have hbi:=F.called_set.init.bind (.ref s.heap.objs.size)
      repeat (any_goals (first | assumption | wp_step))
      refine codeAny_mono (codeAny_call_builtin (R:=wants (fun r s₂=>r = .none/\∃ h' tk es,s₂={ s with heap:=h',toks:=tk }/\fv h' s.heap.objs.size (!bU w) es/\es.toList.Perm (Tp.map el) /\
          (∀ b o,b < s.heap.objs.size->s.heap.get? b=some o->h'.get? b=some o)) E) F.called_set.init.plain F.entry_set_init (check_set_init_1 hT ?_)) fun r₂ s₂ hr₂=>?_
      · obtain ⟨ol,hol,hcl,nl,hdl⟩:=hl
        obtain ⟨ocls,odict,odata,oslots⟩:=ol
        simp only at hcl hdl
        subst hcl; subst hdl
        have hol':(s.heap.push { cls:=.type "set",dict:=none,data:=.set #[] 0 (.fresh 0 0 (!bU w)) }).get? l=some { cls:=.type "list",dict:=odict,data:=.seq items nl,slots:=oslots }:=Heap.get?_push_of_some _ hol
        have hsls:=F.sub_list_set
        have hslf:=F.sub_list_frozenset
        have hne:(Value.type "list" == Value.type "dict")=false:=by decide
        have hl1:(s.heap.push { cls:=.type "set",dict:=none,data:=.set #[] 0 (.fresh 0 0 (!bU w)) }).IsList l items:=⟨_,hol',rfl,nl,rfl⟩
        unfold Builtin.«set.__init__» noKeywords Builtin.Frozenset.updateFrom
        generalize hPI:pyIter=PI
        wp_walk
        subst hPI
        refine wpAny_pyIter_list hl1 ?_
        refine wpAny_bind (wpAny_runValue ?_)
        have hlS:l < s.heap.objs.size:=Heap.lt_size hol
        have hh3:A.in1.in1.in1.handled=none:=by simp [hh]
        have hneI:l≠(s.heap.push { cls:=.type "set",dict:=none,data:=.set #[] 0 (.fresh 0 0 (!bU w)) }).objs.size:=by
          rw [Heap.size_push]; exact Nat.ne_of_lt (Nat.lt_succ_of_lt hlS)
        have hSf:s.heap.objs.size∉[(s.heap.push { cls:=.type "set",dict:=none,data:=.set #[] 0 (.fresh 0 0 (!bU w)) }).objs.size,l]:=by
          rw [Heap.size_push]; simp only [List.mem_cons,List.mem_singleton,List.not_mem_nil,or_false,not_or]
          exact ⟨Nat.ne_of_lt (Nat.lt_succ_self _),Nat.ne_of_gt hlS⟩
        have hlt:∀ e∈Tp,e.1 < s.heap.objs.size:=fun e he=>by
          obtain ⟨o,_,_,ho,_⟩:=hP e he
          exact Heap.lt_size ho
        have hsz:items.size=Tp.length:=by rw [<- Array.length_toList,hi,List.length_map]
        refine tE (R:=_) ((Walks.list hh3 _ l hneI items).toS) s.heap.objs.size hSf ?hu (!bU w) Tp hsz.symm (fun i v hv=>?hval) (fun e he=>⟨Nat.ne_of_lt (hlt e he),?hw⟩) lo nd (by lia) (items.size - 0) 0 _ #[] (by lia) (Nat.zero_le _)
          ⟨⟨_,Heap.get?_push_size _ rfl,rfl,rfl⟩,(hl1.push _)⟩ (fun e he=>oC (hP e he) fun o x=>Heap.get?_push_of_some _ (Heap.get?_push_of_some _ x)) ?hS0 (List.Perm.refl _) ?hR
        case hu=>simp only [Around.in1_units]; lia
        case hval =>
          have e1:items.toList[i]? = some v:=by rw [Array.getElem?_toList]; exact hv
          rw [hi,List.getElem?_map] at e1
          cases g:Tp[i]? with
          | none=>rw [g] at e1; cases e1
          | some e=>rw [g] at e1; exact ⟨e,rfl,(Option.some.inj e1).symm⟩
        case hw =>
          rw [Heap.size_push]
          simp only [List.mem_singleton]
          exact Nat.ne_of_lt (Nat.lt_succ_of_lt (hlt e he))
        case hS0 =>
          exact ⟨_,0,_,Heap.get?_push_of_some _ hS,⟨rfl,rfl,rfl⟩,rfl,Good.fresh 0 0 _,rfl,rfl⟩
        case hR =>
          intro s' es' hm hS' hp'
          obtain ⟨h',g',d',tk',os'⟩:=s'
          have eg:g'=s.gens:=hm.gens
          have ed:d'=s.drawn:=hm.drawn
          have eo:os'=s.os:=hm.os
          subst eg; subst ed; subst eo
          show wpAny _ _ _ _ _ _
          refine wpAny_pure ?_
          show wpAny _ _ (ret Value.none) _ _ _
          refine wpAny_pure ⟨rfl,h',tk',es',rfl,hS',hp',fun b o hb e=>?_⟩
          have hb1:b≠s.heap.objs.size:=Nat.ne_of_lt hb
          have hb2:b≠(s.heap.push { cls:=.type "set",dict:=none,data:=.set #[] 0 (.fresh 0 0 (!bU w)) }).objs.size:=by
            rw [Heap.size_push]; exact Nat.ne_of_lt (Nat.lt_succ_of_lt hb)
          exact hm.heap b o (by simp only [List.mem_cons,List.mem_singleton,List.not_mem_nil,or_false,not_or]; exact ⟨hb1,hb2⟩) (Heap.get?_push_of_some _ (Heap.get?_push_of_some _ e))
      · cases r₂ with
        | error e=>exact hr₂
        | ok fl₂ =>
          cases fl₂ with
          | ret r =>
            obtain ⟨rfl,h',tk,es,rfl,hS',hp',hk'⟩:=hr₂
            repeat (any_goals (first | assumption | wp_step))
            exact h _ _ _ hS' hp' hk'
          | _=>exact hr₂.elim
    | _=>exact hr.elim
end
end Sx
set_option Elab.async false
set_option linter.all false
set_option maxRecDepth 100000
set_option maxHeartbeats 4000000
namespace Sx
open PySem PyProof.Rows
section
variable {prog:Program} {w:World} {A:Around} {E:Value->Shared->Prop} {s:Shared}
theorem zD {a:Addr} {o:Obj} {Q:Bool->Shared->Prop} (ho:s.heap.get? a=some o) (hc:o.cls = .type "set") (q:Q false s):wpAny (model prog w) A (Builtin.List.listLengthHint (.ref a)) Q E s:=by
  have hT:s.TypeIs (.ref a) "set":=⟨o,ho,hc⟩
  unfold Builtin.List.listLengthHint
  refine wpAny_bind (wpAny_specialOf hT F.slot_set_len.lookup ?_)
  generalize hid:("set.__len__" : String)=id0
  wp_delta
  rw [show splitId id0=some ("set","__len__") from by subst hid; decide +kernel]
  subst hid
  refine wpAny_bind (wpAny_isInstance (T:="set") (b:=true) hT (by rw [isSubtype_type]; kernel_rfl) ?_)
  refine wpAny_ite_split (fun hab=>absurd hab (by decide)) (fun _=>?_)
  refine wpAny_ite_split (fun _=>?_) (fun hab=>absurd (by decide +kernel) hab)
  refine wpAny_bind (wpAny_typeOf hT (wpAny_pure ?_))
  exact q
theorem uL {a:Addr} {o:Obj} {es:Array (Int × Value)} {ep:Nat} {t:SetTable} {Q:List Value->Shared->Prop} (hh:A.handled=none) (ho:s.heap.get? a=some o) (hex:o.ExactSet) (hd:o.data = .set es ep t) (T:Tab t es.size) (pl:t.plain=true) (ld:t.led = !bU w) (h64:es.size<=64)
    (q:∀ h' tk,(∀ b o,s.heap.get? b=some o->h'.get? b=some o)->Q ((wk w a ep es).toList.map (·.2)) { s with heap:=h',toks:=tk }):wpAny (model prog w) A (collect (.ref a)) Q E s:=by
  have lta:a < s.heap.objs.size:=Heap.lt_size ho
  have hz:es.size<=sizeLine:=by rw [sizeLine_eq]; lia
  unfold collect
  refine wpAny_bind (wpAny_runValue (codeAny_builtin F.entry_proto_collect ?_))
  rw [Around.under_plainId F.plain_proto_collect _]
  show wpAny _ A.in1 (newList [] >>= fun l=>again (.builtin "list.__iadd__" ⟨[l,.ref a],[]⟩)) _ _ s
  refine wpAny_bind (wpAny_newObj_type ?_)
  refine wpAny_pure ⟨plainId_quiet F.plain_list_iadd _,codeAny_builtin F.entry_list_iadd ?_⟩
  rw [Around.under_plainId F.plain_list_iadd _]
  have ho1:(s.heap.push { cls:=.type "list",data:=.seq ([]:List Value).toArray }).get? a=some o:=Heap.get?_push_of_some _ ho
  have hS1:(s.heap.push { cls:=.type "list",data:=.seq ([]:List Value).toArray }).get? s.heap.objs.size=some { cls:=.type "list",data:=.seq ([]:List Value).toArray }:=Heap.get?_push_size _ rfl
  have sz1:(s.heap.push { cls:=.type "list",data:=.seq ([]:List Value).toArray }).objs.size=s.heap.objs.size+1:=Heap.size_push ..
  have keep1:∀ b o,s.heap.get? b=some o->(s.heap.push { cls:=.type "list",data:=.seq ([]:List Value).toArray }).get? b=some o:=fun b o e=>Heap.get?_push_of_some _ e
  show wpAny _ A.in1 (Builtin.List.listExtendWith (.ref s.heap.objs.size) (.ref a) (.ref s.heap.objs.size)) _ _ _
  generalize s.heap.push { cls:=.type "list",data:=.seq ([]:List Value).toArray }=h1 at ho1 hS1 sz1 keep1 |-
  unfold Builtin.List.listExtendWith
  refine wpAny_bind (wpAny_typeOf (T:="set") ⟨o,ho1,hex.1⟩ ?_)
  have e1:Builtin.List.listSameRef (.ref s.heap.objs.size) (.ref a)=false:=by simp [Builtin.List.listSameRef]; exact Nat.ne_of_gt lta
  have e2:(Value.type "set" == Value.type "list")=false:=by decide
  have e3:(Value.type "set" == Value.type "tuple")=false:=by decide
  simp only [e1,e2,e3,Bool.or_false,Bool.false_eq_true,if_false]
  refine wpAny_bind (zR (s:={ s with heap:=h1 }) ho1 hex hd T pl ?_)
  have hI:(h1.push { cls:=.type "set_iterator",dict:=none,data:=.fields #[rawInt 0,rawInt 0,.ref a,rawInt es.size,rawInt ep],slots:=#[] }).get? h1.objs.size=some _:=Heap.get?_push_size _ rfl
  have up:∀ b o,h1.get? b=some o->(h1.push { cls:=.type "set_iterator",dict:=none,data:=.fields #[rawInt 0,rawInt 0,.ref a,rawInt es.size,rawInt ep],slots:=#[] }).get? b=some o:=fun b o e=>Heap.get?_push_of_some _ e
  have sz2:(h1.push { cls:=.type "set_iterator",dict:=none,data:=.fields #[rawInt 0,rawInt 0,.ref a,rawInt es.size,rawInt ep],slots:=#[] }).objs.size=h1.objs.size+1:=Heap.size_push ..
  have ho2:=up _ _ ho1
  have hS2:=up _ _ hS1
  show wpAny _ A.in1 (holding [.ref h1.objs.size] (Builtin.List.listLengthHint (.ref a)) >>= _) _ _ { s with heap:=h1.push { cls:=.type "set_iterator",dict:=none,data:=.fields #[rawInt 0,rawInt 0,.ref a,rawInt es.size,rawInt ep],slots:=#[] } }
  generalize h1.push { cls:=.type "set_iterator",dict:=none,data:=.fields #[rawInt 0,rawInt 0,.ref a,rawInt es.size,rawInt ep],slots:=#[] }=h2 at hI up sz2 ho2 hS2 |-
  refine wpAny_bind (wpAny_holding (zD (s:={ s with heap:=h2 }) ho2 hex.1 ?_))
  have nSI:s.heap.objs.size≠h1.objs.size:=by rw [sz1]; exact Nat.ne_of_lt (Nat.lt_succ_self _)
  have naI:a≠h1.objs.size:=by rw [sz1]; exact Nat.ne_of_lt (Nat.lt_succ_of_lt lta)
  have naS:a≠s.heap.objs.size:=Nat.ne_of_lt lta
  have W:=(yE (prog:=prog) (w:=w) (A:=A.in1) hh h1.objs.size a naI es ep t T pl ld).toS
  have key:∀ (h:Heap) (c:Nat) (tk:Nat),lV w h h1.objs.size a es ep t 0->(∀ b o,b≠s.heap.objs.size->h2.get? b=some o->h.get? b=some o)->h.get? s.heap.objs.size=some { cls:=.type "list",data:=.seq #[] c } ->
      codeAny (model prog w) A (.builtin "list.extend.loop" ⟨[.ref s.heap.objs.size,.ref h1.objs.size,.ref s.heap.objs.size],[]⟩) (fun r s'=>match r with | .ok (.ret v)=>wpAny (model prog w) A (match v with | .ref a=>(load a >>= fun o=>match o.data with | .seq xs _=>pure xs.toList | _=>unsupported "internal:collect") | _=>unsupported "internal:collect") Q E s' | .ok _=>False | .error e=>E e s') { s with heap:=h,toks:=tk }:=by
    intro h c tk on kp hS
    refine codeAny_extend_loopS W hz s.heap.objs.size (by simp only [List.mem_cons,List.not_mem_nil,or_false,not_or]; exact ⟨nSI,Ne.symm naS⟩) _ es.size 0 _ #[] c rfl (Nat.zero_le _) on hS (ItemsOf.nil _) fun s' acc' c' hm hS' hacc=>?_
    rw [Moved.eq_with hm]
    show wpAny _ A (load s.heap.objs.size >>= _) _ _ _
    refine wpAny_bind (wpAny_load hS' (wpAny_pure ?_))
    have ea:acc'.toList=(wk w a ep es).toList.map (·.2):=by
      refine List.ext_getElem? fun j=>?_
      by_cases hj:j < es.size
      · have lj:j < acc'.size:=by rw [hacc.1]; exact hj
        have g:=hacc.2 j acc'[j] (Array.getElem?_eq_getElem lj)
        obtain ⟨e,he,ev⟩:=g
        rw [Array.getElem?_toList,Array.getElem?_eq_getElem lj,List.getElem?_map,Array.getElem?_toList,he,ev]
        rfl
      · rw [List.getElem?_eq_none (by rw [Array.length_toList,hacc.1]; lia),List.getElem?_eq_none (by rw [List.length_map,Array.length_toList,iJ]; lia)]
    rw [ea]
    refine q _ _ fun b o e=>?_
    have lb:=Heap.lt_size e
    exact hm.heap b o (by simp only [List.mem_cons,List.not_mem_nil,or_false,not_or]; exact ⟨Nat.ne_of_lt lb,by rw [sz1]; exact Nat.ne_of_lt (Nat.lt_succ_of_lt lb)⟩) (kp b o (Nat.ne_of_lt lb) (up b o (keep1 b o e)))
  have on2:lV w h2 h1.objs.size a es ep t 0:=⟨⟨0,hI,fun _=>mV _ T.ris⟩,o,ho2,hd⟩
  refine wpAny_ite_split (fun _=>?_) (fun _=>wpAny_pure ⟨plainId_quiet F.plain_extend_loop _,key h2 0 _ on2 (fun b o _ e=>e) hS2⟩)
  refine wpAny_bind (wpAny_rule ?_)
  refine wpAny_bind ?_
  show wpAny _ _ (updateSeq s.heap.objs.size (·.push .none) >>= fun _=>updateSeq s.heap.objs.size (·.pop)) _ _ _
  have hS3:=Heap.get?_update_self (Obj.mapSeq (·.push Value.none)) hS2 rfl
  have hS4:=Heap.get?_update_self (Obj.mapSeq (·.pop)) hS3 rfl
  have oth:∀ b o,b≠s.heap.objs.size->h2.get? b=some o->((h2.update s.heap.objs.size (Obj.mapSeq (·.push Value.none))).update s.heap.objs.size (Obj.mapSeq (·.pop))).get? b=some o:=fun b o hb e=>(Heap.get?_update_other _ _ (Ne.symm hb)).trans ((Heap.get?_update_other _ _ (Ne.symm hb)).trans e)
  refine wpAny_bind (wpAny_updateSeq (s:={ s with heap:=h2 }) hS2 rfl (wpAny_updateSeq hS3 rfl (wpAny_pure ⟨plainId_quiet F.plain_extend_loop _,key _ _ _ ⟨⟨0,oth _ _ (Ne.symm nSI) hI,fun _=>mV _ T.ris⟩,o,oth _ _ naS ho2,hd⟩ oth hS4⟩) (by show 1<=sizeLine; rw [sizeLine_eq]; lia) (by show 0<=_; exact Nat.zero_le _)) (Nat.zero_le _) (by show 1<=_; rw [sizeLine_eq]; lia))
end
end Sx
namespace Ck
open PySem L2 Sx
theorem qR {α β:Type} {f:α->β} {L M:List β} (h:L.Perm M):∀ T:List α,M=T.map f->∃ T':List α,T'.Perm T/\L=T'.map f:=by
  induction h with
  | nil=>intro T e; exact ⟨T,.refl _,e⟩
  | @cons x l1 l2 _ ih =>
    intro T e
    cases T with
    | nil=>cases e
    | cons a T =>
      rw [List.map_cons,List.cons.injEq] at e
      obtain ⟨T',p,e'⟩:=ih T e.2
      exact ⟨a::T',.cons a p,by rw [List.map_cons,<- e',<- e.1]⟩
  | @swap x y l =>
    intro T e
    match T,e with
    | a::b::T,e =>
      simp only [List.map_cons,List.cons.injEq] at e
      exact ⟨b::a::T,.swap a b T,by simp only [List.map_cons,<- e.1,<- e.2.1,<- e.2.2]⟩
  | trans _ _ ih1 ih2 =>
    intro T e
    obtain ⟨T1,p1,e1⟩:=ih2 T e
    obtain ⟨T2,p2,e2⟩:=ih1 T1 e1
    exact ⟨T2,p2.trans p1,e2⟩
end Ck
namespace L2
open PySem PySem.Spec PyProof.Rows Ck Sx
section
variable {X:Cx}
theorem pW {pins:List (Addr × Obj)} {σ:St} {H:Hp} {s:Shared} (I:Inv X pins σ H s):∀ {us:List V} {ps:List Pair} {vs:List Value},bM H us ps->Vals us vs ->
    ∃ Tp:List (Addr × Pair),us=Tp.map (fun e=>V.ref e.1)/\vs=Tp.map (fun e=>Value.ref e.1)/\Tp.map (·.2)=ps/\∀ e∈Tp,H e.1=some (.tup [.int e.2.1,.int e.2.2])/\gY X.prog X.w s.heap e.1 e.2
  | _,_,_,.nil,.nil=>⟨[],rfl,rfl,rfl,fun e h=>by cases h⟩
  | _,_,_,.cons (b:=p) r t,.cons rv tv=>by
    obtain ⟨a,rfl,ha⟩:=r
    cases rv
    obtain ⟨Tp,e1,e2,e3,e4⟩:=pW I t tv
    obtain ⟨its,r',tu,_⟩:=I.tuple (aT.of ha)
    refine ⟨(a,p)::Tp,by rw [e1]; rfl,by rw [e2]; rfl,by rw [<- e3]; rfl,fun e he=>?_⟩
    rcases List.mem_cons.mp he with rfl | he
    · refine ⟨ha,?_⟩
      cases r' with
      | cons x1 r2 =>
        cases r2 with
        | cons x2 r3 =>
          cases r3
          obtain ⟨t1,rfl⟩:=x1
          obtain ⟨t2,rfl⟩:=x2
          obtain ⟨o,ho,hc,n,hd⟩:=tu
          exact AK ho hc hd
    · exact e4 e he
theorem AU:bootBuiltins "set" = some (.type "set"):=by decide +kernel
theorem nS {h:Heap} {prog:Program} {w:World}:∀ {Tp:List (Addr × Pair)},(∀ e∈Tp,gY prog w h e.1 e.2)->iO h (Tp.map fun e=>Value.ref e.1) (Tp.map (·.2))
  | [],_=>.nil
  | e::Tp,hP=>by
    refine .cons ?_ (nS fun f hf=>hP f (List.mem_cons_of_mem _ hf))
    obtain ⟨o,items,n,ho,hc,hd,hi⟩:=hP e (List.mem_cons_self ..)
    obtain ⟨t,u,ei⟩:=pR hi
    have ea:items = #[.int e.2.1 t,.int e.2.2 u]:=by
      cases items
      simp only at ei
      rw [ei]
    subst ea
    exact ⟨e.1,t,u,rfl,o,ho,hc,n,hd⟩
noncomputable def Fl (ta:TA):TE:=fun σ H Q=>ta σ H fun vs H1=>∃ (l:Addr) (ps:List Pair),vs=[.ref l]/\bL H1 l ps/\ps.Nodup/\(∀ p∈ps,Lo p)/\ps.length < 64 /\
  ∀ (q:Addr) (qs:List Pair) (H':Hp),af H1 H'->H1 q=none->bL H' q qs->qs.Perm ps->qs.Pairwise bR->Q (.ref q) H'
theorem v9 {a:Expr} {ta:TA} {p p2 pos pos2:Pos} (hc:X.calm=true) (hu:X.A.units+100 < cLine) (hgl:Gl X "sorted") (hml:X.mg "sorted" = none) (hg:Gl X "set") (hm:X.mg "set" = none) (ha:PA X [a] ta) (hs:starEach [a] X.env=[(false,eval a X.env)]:=by rfl)
    (he:starEach [.Call (.Name "set" p) [a] [] pos] X.env=[(false,eval (.Call (.Name "set" p) [a] [] pos) X.env)]:=by rfl) :
    PE X (.Call (.Name "sorted" p2) [.Call (.Name "set" p) [a] [] pos] [] pos2) (Fl ta):=by
  intro pins s σ H Q I h
  refine wpAny_Call_Name_kw (cV I hgl hml c0 ?_ (by decide) (by decide))
  refine PyProof.Rows.callWith_builtin1 ?_ he rfl
  rw [he]
  show wpAny _ _ (spliced ((false,eval (.Call (.Name "set" p) [a] [] pos) X.env)::backTo pos2 [])) _ _ s
  refine Calls.spliced_cons (Call_ (cV I hg hm AU (PyProof.Rows.callWith_type1 (aH (ha pos pins s σ H _ I h) fun us s1 ⟨vs,H1,I1,r1,q1⟩=>?_) hs rfl)))
  obtain ⟨l,ps,e,⟨ws,hl,pr⟩,nd,lo,h64,q⟩:=q1
  subst e
  obtain ⟨u,rfl,ru⟩:=vals1 r1
  cases ru
  obtain ⟨its,r',pl,hz⟩:=I1.list (au.of hl)
  obtain ⟨Tp,e1,e2,e3,e4⟩:=pW I1 pr r'
  have lT:Tp.length=ps.length:=by rw [<- e3,List.length_map]
  refine n6 (I.ok.hd hc) (show X.A.units+10 < cLine by lia) pl.isList (Tp:=Tp) (by simpa using e2) (fun e he=>(e4 e he).2) (fun e he=>lo e.2 (by rw [<- e3]; exact List.mem_map.mpr ⟨e,he,rfl⟩)) (by rw [e3]; exact nd) (by lia) fun h' tk es S pm kp=>Calls.spliced_nil ?_
  obtain ⟨o,ep,t,ho,hex,hd,G,ld,plain⟩:=S.at_
  have les:es.size=Tp.length:=by rw [<- Array.length_toList,pm.length_eq,List.length_map]
  refine Calls.call_function_entry kind_sorted plain_sorted entry_sorted (args_sorted1 _) ?_
  unfold Builtin.«sorted»
  refine wpAny_bind (m:=checkCount "sorted" 1 1 _) (wpAny_pure (wpAny_bind (uL (s:={ s1 with heap:=h',toks:=tk }) (A:=X.A.in1) (I.ok.hd hc) ho hex hd G.tab plain ld (by lia) fun h2 tk2 kp2=>?_)))
  obtain ⟨Tq,pq,eq⟩:=qR ((u0 X.w s1.heap.objs.size ep es).trans pm) Tp rfl
  have ev:(wk X.w s1.heap.objs.size ep es).toList.map (·.2)=Tq.map fun e=>Value.ref e.1:=by
    rw [eq,List.map_map]
    rfl
  rw [ev]
  have lq:Tq.length=Tp.length:=pq.length_eq
  have lv:(Tq.map fun e=>Value.ref e.1).length=Tq.length:=List.length_map _
  have keep:∀ b o,s1.heap.get? b=some o->h2.get? b=some o:=fun b o e=>kp2 b o (kp b o (Heap.lt_size e) e)
  refine wpAny_bind (wpAny_newList ?_ (by rw [lv,sizeLine_eq]; lia))
  have hoL:(h2.push (seqObj "list" (Tq.map fun e=>Value.ref e.1).toArray 0)).get? h2.objs.size=some (seqObj "list" (Tq.map fun e=>Value.ref e.1).toArray 0):=Heap.get?_push_size _ rfl
  have up:∀ b o,h2.get? b=some o->(h2.push (seqObj "list" (Tq.map fun e=>Value.ref e.1).toArray 0)).get? b=some o:=fun b o e=>Heap.get?_push_of_some _ e
  show wpAny _ _ _ _ _ { s1 with heap:=h2.push (seqObj "list" (Tq.map fun e=>Value.ref e.1).toArray 0),toks:=tk2 }
  have hPq:∀ e∈Tq,gY X.prog X.w s1.heap e.1 e.2:=fun e he=>(e4 e (pq.mem_iff.mp he)).2
  have pv:=nS hPq
  have hz2:s1.heap.objs.size<=h2.objs.size:=Nat.le_of_lt (Heap.lt_size (kp2 _ _ ho))
  refine wpAny_bind (wpAny_holding (wpAny_call_entry slot_list_sort ⟨_,hoL,rfl⟩ entry_list_sort (sW (s:={ s1 with heap:=h2.push (seqObj "list" (Tq.map fun e=>Value.ref e.1).toArray 0),toks:=tk2 }) (Bq (Tq.map (·.2))) hoL (by rw [lv]; lia)
    (fun h6 old h2'=>z8 (s1:={ s1 with heap:=h6,toks:=tk2 }) (pv.mono fun b o e=>old b o (fun z=>by
      have lt:=Heap.lt_size (keep b o e)
      rw [z] at lt
      exact Nat.lt_irrefl _ lt) (up b o (keep b o e))) h2') fun g ok ri=>⟨_,rfl,?_⟩) (args_list_sort _)))
  refine wpAny_pure ⟨_,rfl,?_⟩
  obtain ⟨e,hat⟩:=sortedHeap_at (out:=(fC (Tq.map fun e=>Value.ref e.1) g).toArray) hoL
  have hb:∀ i∈g.toList,i < Tq.length:=fun i hi=>by
    have:=List.mem_range.mp (ok.mem_iff.mp hi)
    rwa [lv] at this
  have lg:g.toList.length=Tq.length:=by rw [ok.length_eq,List.length_range,lv]
  have rq:Vals (Tq.map fun e=>V.ref e.1) (Tq.map fun e=>Value.ref e.1):=by
    clear hoL up hPq pv eq ev pq lq lv ok ri hat hb lg
    induction Tq with
    | nil=>exact .nil
    | cons a T ih=>exact .cons rfl ih
  have prq:bM H1 (Tq.map fun e=>V.ref e.1) (Tq.map (·.2)):=by
    have all:∀ e∈Tq,H1 e.1=some (.tup [.int e.2.1,.int e.2.2]):=fun e he=>(e4 e (pq.mem_iff.mp he)).1
    clear hoL up hPq pv eq ev pq lq lv ok ri hat hb lg rq
    induction Tq with
    | nil=>exact .nil
    | cons a T ih=>exact .cons ⟨a.1,rfl,all a (List.mem_cons_self ..)⟩ (ih fun e he=>all e (List.mem_cons_of_mem _ he))
  have vs2:Vals (g.toList.map fun i=>(Tq.map fun e=>V.ref e.1).getD i V.non) (fC (Tq.map fun e=>Value.ref e.1) g):=eG rq V.non Value.none g.toList (fun i hi=>by rw [List.length_map]; exact hb i hi)
  have pr2:bM H1 (g.toList.map fun i=>(Tq.map fun e=>V.ref e.1).getD i V.non) (g.toList.map fun i=>(Tq.map (·.2)).getD i (0,0)):=eG prq V.non (0,0) g.toList (fun i hi=>by rw [List.length_map]; exact hb i hi)
  have fr:H1 h2.objs.size=none:=I1.hok.fresh hz2
  have sz2:(g.toList.map fun i=>(Tq.map fun e=>V.ref e.1).getD i V.non).length<=sizeLine:=by rw [List.length_map,lg]; exact sz (by lia)
  refine ⟨.ref h2.objs.size,_,I1.laid (t':=tk2) (o:=.lst (g.toList.map fun i=>(Tq.map fun e=>V.ref e.1).getD i V.non)) (fun b u x=>?_) hz2 ⟨sz2,fC (Tq.map fun e=>Value.ref e.1) g,e,vs2,by simpa [seqObj] using hat⟩,rfl,?_⟩
  · have lt:=Heap.lt_size (keep b u x)
    rw [sortedHeap_old (Nat.ne_of_lt lt) (Heap.lt_size (up b u (keep b u x)))]
    exact up b u (keep b u x)
  have pmq:(Tq.map (·.2)).Perm ps:=by rw [<- e3]; exact pq.map _
  refine q _ _ _ (af.new (af.refl H1) fr _) fr ⟨_,upd_same,pr2.updN fr _⟩ ((pZ (0,0) (Tq.map (·.2)) (by rw [List.length_map,<- lv]; exact ok)).trans pmq) ?_
  rw [List.pairwise_map]
  have gs:g.size=Tq.length:=by rw [<- lg]; simp
  refine List.pairwise_iff_getElem.mpr fun i j hi hj hij=>?_
  have:=ri i j (by lia) (by rw [lv,<- gs]; simpa using hj)
  rw [ju] at this
  unfold gA at this
  simpa [show i < g.size by simpa using hi,show j < g.size by simpa using hj] using this
end
end L2
set_option Elab.async false
set_option linter.all false
set_option maxRecDepth 100000
set_option maxHeartbeats 4000000
namespace Ck
open PySem L2
def BI (m:Int) (p:Pair):Prop:=0<=p.1/\p.1 < p.2/\p.2 < m
def EH (p q:Pair):Prop:=p.1 < q.1/\q.1 < p.2/\p.2 < q.2
def NC (ps:List Pair):Prop:=∀ p∈ps,∀ q∈ps,¬ EH p q
theorem mQ {ps:List Pair}:dh ps=false↔NC ps:=by
  constructor
  · intro h p hp q hq c
    have:dh ps=true:=gh.mpr ⟨p,hp,q,hq,c.1,c.2.1,c.2.2⟩
    rw [h] at this
    cases this
  · intro h
    cases e:dh ps with
    | false=>rfl
    | true =>
      obtain ⟨p,hp,q,hq,c⟩:=gh.mp e
      exact absurd c (h p hp q hq)
theorem p8 {α β:Type} {f:α->β} {g:β->α} {l:List α} (h:l.Nodup) (e:∀ x∈l,g (f x)=x):(l.map f).Nodup:=by
  induction l with
  | nil=>exact List.nodup_nil
  | cons a l ih =>
    rw [List.nodup_cons] at h
    rw [List.map_cons,List.nodup_cons]
    refine ⟨fun z=>?_,ih h.2 fun x hx=>e x (List.mem_cons_of_mem _ hx)⟩
    obtain ⟨b,hb,eb⟩:=List.mem_map.mp z
    have:b=a:=by rw [<- e b (List.mem_cons_of_mem _ hb),eb,e a (List.mem_cons_self ..)]
    exact h.1 (this▸hb)
def Ct (c:Int) (p:Pair):Prop:=0<=p.1/\p.1+1 < p.2/\p.2 < c/\¬ (p.1=0/\p.2=c - 1)
theorem Ct.inR {c:Int} {p:Pair} (h:Ct c p):BI c p:=⟨h.1,by have:=h.2.1; lia,h.2.2.1⟩
structure xm (c:Int) (ps:List Pair):Prop where
  c2:2<=c
  len:(ps.length:Int)=if c - 3 > 0 then c - 3 else 0
  ct:∀ p∈ps,Ct c p
  nc:NC ps
  nd:ps.Nodup
  ris:ps.Pairwise bR
noncomputable def nm (x y:Int):Pair:=if x < y then (x,y) else (y,x)
end Ck
set_option Elab.async false
set_option linter.all false
set_option maxRecDepth 100000
set_option maxHeartbeats 4000000
namespace Ck
open PySem L2
structure oZ (ps:List Pair):Prop where
  inr:∀ p∈ps,BI (2*(ps.length:Int)) p
  flat:(br ps).Perm (cA (2*ps.length))
  nc:NC ps
  ris:ps.Pairwise bR
theorem sZ {n:Nat} {x:Int}:x∈cA n↔0<=x/\x < (n:Int):=by
  unfold cA
  rw [List.mem_map]
  constructor
  · rintro ⟨k,hk,rfl⟩
    have:=List.mem_range.mp hk
    lia
  · intro h
    exact ⟨x.toNat,List.mem_range.mpr (by lia),by lia⟩
theorem Ef {ps:List Pair} (h:cn ps=true):oZ ps:=by
  unfold cn at h
  rw [Bool.and_eq_true,Bool.and_eq_true,Bool.not_eq_true'] at h
  obtain ⟨h1,h2,h3⟩:=h
  have st:=iq.mp h1
  have fl:=(dc _).mp h2
  rw [fG] at fl
  have bd:∀ p∈ps,0<=p.1/\p.2 < 2*(ps.length:Int):=fun p hp=>by
    have a:=sZ.mp (fl.mem_iff.mp (eA.mpr ⟨p,hp,.inl rfl⟩))
    have b:=sZ.mp (fl.mem_iff.mp (eA.mpr ⟨p,hp,.inr rfl⟩))
    lia
  have mono:∀ (j i:Nat),i < j->j < ps.length->cN ps i < cN ps j:=by
    intro j
    induction j with
    | zero=>intro i hi; lia
    | succ j ih =>
      intro i hi hj
      have:=(st (j+1) hj).2
      rw [Nat.add_sub_cancel] at this
      have z:cN ps j < cN ps (j+1):=this.resolve_left (by lia)
      by_cases e:i=j
      · rw [e]; exact z
      · have:=ih i (by lia) (by lia); lia
  refine ⟨fun p hp=>?_,fl,mQ.mp h3,?_⟩
  · obtain ⟨k,hk⟩:=List.getElem?_of_mem hp
    have lk:=(List.getElem?_eq_some_iff.mp hk).1
    have:=(st k lk).1
    have b:=bd p hp
    have e1:cN ps k=p.1:=by unfold cN; rw [List.getD_eq_getElem?_getD,hk]; rfl
    have e2:rE ps k=p.2:=by unfold rE; rw [List.getD_eq_getElem?_getD,hk]; rfl
    exact ⟨b.1,by lia,b.2⟩
  · refine List.pairwise_iff_getElem.mpr fun i j hi hj hij=>?_
    have:=mono j i hij hj
    have e1:cN ps i=ps[i].1:=by unfold cN; rw [List.getD_eq_getElem?_getD,List.getElem?_eq_getElem hi]; rfl
    have e2:cN ps j=ps[j].1:=by unfold cN; rw [List.getD_eq_getElem?_getD,List.getElem?_eq_getElem hj]; rfl
    exact .inl (by lia)
theorem oZ.bows {ps:List Pair} (h:oZ ps):cn ps=true:=by
  have nd:(br ps).Nodup:=h.flat.nodup_iff.mpr (nz _)
  unfold cn
  rw [Bool.and_eq_true,Bool.and_eq_true,Bool.not_eq_true']
  refine ⟨iq.mpr fun k hk=>?_,(dc _).mpr (by rw [fG]; exact h.flat),mQ.mpr h.nc⟩
  have ek:∀ i (hi:i < ps.length),cN ps i=ps[i].1/\rE ps i=ps[i].2:=fun i hi=>by
    refine ⟨?_,?_⟩
    · unfold cN; rw [List.getD_eq_getElem?_getD,List.getElem?_eq_getElem hi]; rfl
    · unfold rE; rw [List.getD_eq_getElem?_getD,List.getElem?_eq_getElem hi]; rfl
  obtain ⟨e1,e2⟩:=ek k hk
  rw [e1,e2]
  refine ⟨(h.inr _ (List.getElem_mem hk)).2.1,?_⟩
  by_cases k0:k=0
  · exact .inl k0
  · refine .inr ?_
    have hk':k - 1 < ps.length:=by lia
    rw [(ek (k - 1) hk').1]
    have le:=List.pairwise_iff_getElem.mp h.ris (k - 1) k hk' hk (by lia)
    have ne:=pV nd
    have:=List.pairwise_iff_getElem.mp ne (k - 1) k (by simpa using hk') (by simpa using hk) (by lia)
    unfold bR at le
    simp at this
    lia
end Ck
set_option Elab.async false
set_option linter.all false
set_option maxRecDepth 100000
set_option maxHeartbeats 4000000
namespace Ck
open PySem L2
noncomputable def one (n k:Nat):Nat:=if 0 < k/\0 < n then 1 else 0
end Ck
set_option Elab.async false
set_option linter.all false
set_option maxRecDepth 100000
set_option maxHeartbeats 4000000
namespace Ck
open PySem L2
theorem xR {c:List Nat} (h:clo 0 c=true):∀ i,i<=c.length->∃ fd sk,Wk c i fd sk/\clo sk.length (c.drop i)=true
  | 0,_=>⟨[],[],Wk.nil c,by rw [List.drop_zero]; exact h⟩
  | i+1,hi=>by
    obtain ⟨fd,sk,w,hc⟩:=xR h i (by lia)
    have lt:i < c.length:=by lia
    have ge:c.getD i 0=c[i]:=by rw [List.getD_eq_getElem?_getD,List.getElem?_eq_getElem lt]; rfl
    rw [List.drop_eq_getElem_cons lt] at hc
    by_cases e1:c[i]=40
    · rw [e1,cT] at hc
      exact ⟨fd,sk++[(i:Int)],w.up lt (by rw [ge]; exact e1),by rw [List.length_append]; exact hc⟩
    · by_cases e2:c[i]=41
      · rw [e2] at hc
        rcases List.eq_nil_or_concat sk with rfl | ⟨sk0,m,rfl⟩
        · rw [show ([]:List Int).length=0 from rfl,dI] at hc
          cases hc
        · rw [List.concat_eq_append] at hc w
          rw [List.length_append,show [m].length=1 from rfl,cq] at hc
          exact ⟨_,sk0,w.down lt (by rw [ge]; exact e2),hc⟩
      · rw [cZ e1 e2] at hc
        cases hc
theorem zu {c:List Nat} (h:clo 0 c=true):cn (bu c c.length)=true:=by
  obtain ⟨fd,sk,w,hc⟩:=xR h c.length (Nat.le_refl _)
  rw [List.drop_length,ee] at hc
  have:sk=[]:=List.eq_nil_of_length_eq_zero (by simpa using hc)
  subst this
  exact w.bows
theorem oa (c:List Nat):∀ i,i<=c.length->(bu c i).length=(c.take i).count 40
  | 0,_=>rfl
  | i+1,hi=>by
    have lt:i < c.length:=by lia
    have ge:c.getD i 0=c[i]:=by rw [List.getD_eq_getElem?_getD,List.getElem?_eq_getElem lt]; rfl
    rw [d6,List.length_append,oa c i (by lia),ge,List.take_succ_eq_append_getElem lt,List.count_append]
    by_cases e:c[i]=40
    · simp [e]
    · simp [e]
theorem jv {c:List Nat} {n:Nat} (h:clo 0 c=true) (hn:c.length=2*n):oZ (bu c c.length)/\(bu c c.length).length=n:=by
  refine ⟨Ef (zu h),?_⟩
  rw [oa c _ (Nat.le_refl _),List.take_length]
  obtain ⟨t,rfl⟩:=iA c.length c (Nat.le_refl _) h
  rw [yP]
  rw [cS] at hn
  lia
end Ck
set_option Elab.async false
set_option linter.all false
set_option maxRecDepth 100000
set_option maxHeartbeats 4000000
namespace Ck
open PySem L2
noncomputable def bH:Bt->Int->List Pair
  | .leaf,_=>[]
  | .node l r,a=>(a,a+2+(l.size:Int)+(r.size:Int))::(bH l a++bH r (a+1+(l.size:Int)))
noncomputable def jy:Bt->Int->List Pair
  | .leaf,_=>[]
  | .node l r,a=>bH l a++bH r (a+1+(l.size:Int))
noncomputable def dQ:Bt->Int->List Pair
  | .leaf,_=>[]
  | .node l r,a=>dQ l a++dQ r (a+1+(l.size:Int))++[(a,a+2+(l.size:Int)+(r.size:Int))]
theorem fh:∀ (t:Bt) (a:Int),(bH t a).length=t.size
  | .leaf,_=>rfl
  | .node l r,a=>by
    show (_::(bH l a++bH r _)).length=l.size+r.size+1
    rw [List.length_cons,List.length_append,fh l,fh r]
theorem gH:∀ (t:Bt) (a:Int),(dQ t a).Perm (bH t a)
  | .leaf,_=>List.Perm.refl _
  | .node l r,a=>by
    show (dQ l a++dQ r (a+1+(l.size:Int))++[(a,a+2+(l.size:Int)+(r.size:Int))]).Perm (_::_)
    exact (List.perm_append_singleton _ _).trans (((gH l a).append (gH r _)).cons _)
theorem lJ (t:Bt) (a:Int):(dQ t a).length=t.size:=by rw [(gH t a).length_eq,fh]
theorem Bv:∀ (t:Bt) (a:Int),(dQ t a).dropLast.Perm (jy t a)
  | .leaf,_=>List.Perm.refl _
  | .node l r,a=>by
    show (dQ l a++dQ r (a+1+(l.size:Int))++[(a,a+2+(l.size:Int)+(r.size:Int))]).dropLast.Perm _
    rw [List.dropLast_concat]
    exact (gH l a).append (gH r _)
theorem di:∀ (t:Bt) (a:Int),∀ p∈bH t a,a<=p.1/\p.1+2<=p.2/\p.2<=a+1+(t.size:Int)
  | .leaf,_,p,hp=>nomatch hp
  | .node l r,a,p,hp=>by
    have sn:(Bt.node l r).size=l.size+r.size+1:=rfl
    rcases List.mem_cons.mp hp with rfl | hp
    · simp only
      lia
    · rcases List.mem_append.mp hp with hp | hp
      · have:=di l a p hp
        lia
      · have:=di r _ p hp
        lia
theorem wy:∀ (t:Bt) (a:Int),∀ p∈jy t a,p≠(a,a+1+(t.size:Int))
  | .leaf,_,p,hp=>nomatch hp
  | .node l r,a,p,hp=>by
    have sn:(Bt.node l r).size=l.size+r.size+1:=rfl
    intro z
    subst z
    rcases List.mem_append.mp hp with hp | hp
    · have:=di l a _ hp
      simp only at this
      lia
    · have:=di r _ _ hp
      simp only at this
      lia
theorem tD:∀ (t:Bt) (a:Int),(bH t a).Nodup
  | .leaf,_=>List.nodup_nil
  | .node l r,a=>by
    refine List.nodup_cons.mpr ⟨fun h=>?_,List.nodup_append.mpr ⟨tD l a,tD r _,fun p hp q hq e=>?_⟩⟩
    · refine wy (.node l r) a _ h ?_
      have sn:(Bt.node l r).size=l.size+r.size+1:=rfl
      rw [sn]
      congr 1
      lia
    · have h1:=di l a p hp
      have h2:=di r _ q hq
      rw [e] at h1
      lia
theorem ug:∀ (t:Bt) (a:Int),NC (bH t a)
  | .leaf,_=>fun p hp=>nomatch hp
  | .node l r,a=>by
    have bd:=di (.node l r) a
    have sn:(Bt.node l r).size=l.size+r.size+1:=rfl
    intro p hp q hq c
    have bp:=bd p hp
    have bq:=bd q hq
    have c1:=c.1; have c2:=c.2.1; have c3:=c.2.2
    rcases List.mem_cons.mp hp with rfl | hp
    · simp only at c1 c2 c3
      lia
    · rcases List.mem_cons.mp hq with rfl | hq
      · simp only at c1 c2 c3
        lia
      · rcases List.mem_append.mp hp with hp | hp<;>rcases List.mem_append.mp hq with hq | hq
        · exact ug l a p hp q hq c
        · have:=di l a p hp
          have:=di r _ q hq
          lia
        · have:=di r _ p hp
          have:=di l a q hq
          lia
        · exact ug r _ p hp q hq c
theorem r9:∀ (t:Bt) (a:Int),∀ p∈jy t a,p∈bH t a
  | .leaf,_,p,hp=>hp
  | .node l r,a,p,hp=>List.mem_cons_of_mem _ hp
theorem rA:∀ (t:Bt) (a:Int),bH t a=(if t.size=0 then [] else [(a,a+1+(t.size:Int))])++jy t a
  | .leaf,_=>rfl
  | .node l r,a=>by
    have sn:(Bt.node l r).size=l.size+r.size+1:=rfl
    rw [if_neg (by lia),sn]
    show (a,a+2+(l.size:Int)+(r.size:Int))::(bH l a++bH r (a+1+(l.size:Int)))=(a,a+1+((l.size+r.size+1:Nat):Int))::(bH l a++bH r (a+1+(l.size:Int)))
    rw [show a+2+(l.size:Int)+(r.size:Int)=a+1+((l.size+r.size+1:Nat):Int) by lia]
theorem mW (t:Bt) (a:Int):(jy t a).length=t.size - 1:=by
  have:=fh t a
  rw [rA,List.length_append] at this
  split at this<;>simp at this<;>lia
theorem yN (t:Bt) (a:Int):(bH t a).filter (fun p=>!(decide (p.1=a)&&decide (p.2=a+1+(t.size:Int))))=jy t a:=by
  rw [rA,List.filter_append]
  have e1:(if t.size=0 then [] else [(a,a+1+(t.size:Int))]).filter (fun p:Pair=>!(decide (p.1=a)&&decide (p.2=a+1+(t.size:Int))))=[]:=by
    split<;>simp
  rw [e1,List.nil_append]
  refine List.filter_eq_self.mpr fun p hp=>?_
  have:=wy t a p hp
  cases z:(decide (p.1=a)&&decide (p.2=a+1+(t.size:Int))) with
  | false=>rfl
  | true =>
    rw [Bool.and_eq_true,decide_eq_true_iff,decide_eq_true_iff] at z
    exact absurd (Prod.ext z.1 z.2) this
theorem Ai {t:Bt} {qs:List Pair} (pm:qs.Perm (jy t 0)) (rs:qs.Pairwise bR):xm ((t.size:Int)+2) qs where
  c2:=by lia
  len:=by
    rw [pm.length_eq,mW]
    split<;>lia
  ct:=fun p hp=>by
    have hm:=pm.mem_iff.mp hp
    have b:=di t 0 p (r9 t 0 p hm)
    have n:=wy t 0 p hm
    refine ⟨by lia,by lia,by lia,fun z=>n (Prod.ext z.1 ?_)⟩
    show p.2=0+1+(t.size:Int)
    lia
  nc:=fun p hp q hq=>ug t 0 p (r9 t 0 p (pm.mem_iff.mp hp)) q (r9 t 0 q (pm.mem_iff.mp hq))
  nd:=by
    have:=tD t 0
    rw [rA] at this
    exact pm.nodup_iff.mpr (List.nodup_append.mp this).2.1
  ris:=rs
end Ck
set_option Elab.async false
set_option linter.all false
set_option maxRecDepth 100000
set_option maxHeartbeats 4000000
namespace L2
open PySem PySem.Spec PyProof.Rows
section
variable {X:Cx}
noncomputable def DW (K:W.Frag):R2:=fun x y H Q=>∃ p xs w,x = .ref p/\y = .str w/\aT K H p xs/\Q (.bl false) H
theorem A7 (hu:X.A.units+100 < cLine):cp X (compareOp .Eq) (DW X.K):=by
  intro pins s σ H x y u v Q I ru rv h
  obtain ⟨p,xs,w,rfl,rfl,ht,q⟩:=h
  cases (show u=Value.ref _ from ru)
  obtain ⟨t',rfl⟩:=rv
  obtain ⟨us,r,pl,_⟩:=I.tuple ht
  exact SeqAt.RcAt.tuple_str _ _ pl (by lia) _ _ _ _ ⟨.bl false,H,I,rfl,q⟩
end
end L2
namespace Ck
open PySem L2
theorem yU (xs:List V):fU xs none (some (-1))=xs.dropLast:=by
  unfold fU
  have e:HT.sIx xs.length xs.length (some (-1))=xs.length - 1:=by
    show (if (-1:Int) < 0 then ((-1:Int)+(xs.length:Int)).toNat else min (-1:Int).toNat xs.length)=xs.length - 1
    rw [if_pos (by decide)]
    lia
  rw [HT.sIx_none,e,List.drop_zero,Nat.sub_zero,List.dropLast_eq_take]
theorem bM.dropLast {H:Hp} {xs:List V} {ps:List Pair} (h:bM H xs ps):bM H xs.dropLast ps.dropLast:=by
  have l:=h.length
  rw [List.dropLast_eq_take,List.dropLast_eq_take,l]
  exact h.take _
theorem fX.trans {l:Addr} {H H' H'':Hp} (a:fX l H H') (b:fX l H' H''):fX l H H'':=fun x u n h=>b x u n (a x u n h)
inductive dE (H:Hp):List V->List (Option Bt)->Prop
  | nil:dE H [] []
  | tree {v:V} {t:Bt} {xs:List V} {ts:List (Option Bt)} (h:Tw H v t) (r:dE H xs ts):dE H (v::xs) (some t::ts)
  | sign {xs:List V} {ts:List (Option Bt)} (r:dE H xs ts):dE H (.str (Str.ofString ")")::xs) (none::ts)
theorem dE.len {H:Hp} {xs:List V} {ts:List (Option Bt)} (h:dE H xs ts):xs.length=ts.length:=by
  induction h with
  | nil=>rfl
  | tree h r ih=>rw [List.length_cons,List.length_cons,ih]
  | sign r ih=>rw [List.length_cons,List.length_cons,ih]
theorem dE.app {H:Hp} {xs ys:List V} {ts us:List (Option Bt)} (h:dE H xs ts) (g:dE H ys us):dE H (xs++ys) (ts++us):=by
  induction h with
  | nil=>exact g
  | tree h r ih=>exact .tree h ih
  | sign r ih=>exact .sign ih
theorem dE.unsnoc {H:Hp} {xs:List V} {ts:List (Option Bt)} (h:dE H xs ts) (ne:xs≠[]):∃ ys y us u,xs=ys++[y]/\ts=us++[u]/\dE H ys us/\dE H [y] [u]:=by
  induction h with
  | nil=>exact absurd rfl ne
  | @tree v t xs ts h r ih =>
    by_cases e:xs=[]
    · subst e
      cases r
      exact ⟨[],_,[],_,rfl,rfl,.nil,.tree h .nil⟩
    · obtain ⟨ys,y,us,u,rfl,rfl,g,z⟩:=ih e
      exact ⟨v::ys,y,some t::us,u,rfl,rfl,.tree h g,z⟩
  | @sign xs ts r ih =>
    by_cases e:xs=[]
    · subst e
      cases r
      exact ⟨[],_,[],_,rfl,rfl,.nil,.sign .nil⟩
    · obtain ⟨ys,y,us,u,rfl,rfl,g,z⟩:=ih e
      exact ⟨_::ys,y,none::us,u,rfl,rfl,.sign g,z⟩
noncomputable def eU:List (Option Bt)->List Nat
  | []=>[]
  | some t::ts=>eU ts++brk t
  | none::ts=>eU ts++[41]
theorem ko:∀ (ts us:List (Option Bt)),eU (ts++us)=eU us++eU ts
  | [],us=>by simp [eU]
  | some t::ts,us=>by
    show eU (ts++us)++brk t=eU us++(eU ts++brk t)
    rw [ko ts us,List.append_assoc]
  | none::ts,us=>by
    show eU (ts++us)++[41]=eU us++(eU ts++[41])
    rw [ko ts us,List.append_assoc]
noncomputable def cY:List (Option Bt)->Nat
  | []=>0
  | some t::ts=>3*t.size+1+cY ts
  | none::ts=>1+cY ts
theorem gC:∀ (ts us:List (Option Bt)),cY (ts++us)=cY ts+cY us
  | [],us=>by simp [cY]
  | some t::ts,us=>by
    show 3*t.size+1+cY (ts++us)=3*t.size+1+cY ts+cY us
    rw [gC ts us]; lia
  | none::ts,us=>by
    show 1+cY (ts++us)=1+cY ts+cY us
    rw [gC ts us]; lia
theorem oh:∀ ts:List (Option Bt),ts.length<=cY ts
  | []=>Nat.le_refl _
  | some t::ts=>by have:=oh ts; show ts.length+1<=3*t.size+1+cY ts; lia
  | none::ts=>by have:=oh ts; show ts.length+1<=1+cY ts; lia
end Ck
set_option Elab.async false
set_option maxRecDepth 100000
set_option maxHeartbeats 4000000
set_option linter.all false
namespace Ck
open PySem L2
noncomputable def dD (m:Int) (p:Pair):Pair:=(m - p.2,m - p.1)
theorem uP (m:Int) (p:Pair):dD m (dD m p)=p:=by
  obtain ⟨a,b⟩:=p
  unfold dD
  simp only [Prod.mk.injEq]
  lia
theorem Cs {m a b:Int} (h:a < b):nm (m - a) (m - b)=dD m (a,b):=by
  unfold nm dD
  rw [if_neg (by lia)]
noncomputable def g9 (c:Nat):Nat:=if c=41 then 40 else 41
noncomputable def aU (c:List Nat):List Nat:=(c.map g9).reverse
theorem AM {c:Nat} (h:c=40\/c=41):g9 (g9 c)=c:=by rcases h with rfl | rfl<;>rfl
theorem pQ {c:List Nat} (h:∀ x∈c,x=40\/x=41):aU (aU c)=c:=by
  unfold aU
  rw [List.map_reverse,List.reverse_reverse,List.map_map,List.map_congr_left (f:=g9 ∘ g9) (g:=id) fun x hx=>AM (h x hx)]
  exact List.map_id c
theorem jF (x:Nat) (c:List Nat):aU (x::c)=aU c++[g9 x]:=by unfold aU; rw [List.map_cons,List.reverse_cons]
theorem sG (a b:List Nat):aU (a++b)=aU b++aU a:=by unfold aU; rw [List.map_append,List.reverse_append]
theorem dg (c:List Nat):(aU c).length=c.length:=by unfold aU; simp
theorem n9:∀ (t:Bt) (d:Nat) (r:List Nat),clo d (aU (brk t)++r)=clo d r
  | .leaf,d,r=>rfl
  | .node l k,d,r=>by
    show clo d (aU (40::(brk l++41::brk k))++r)=clo d r
    rw [jF,sG,jF,List.append_assoc,List.append_assoc,List.append_assoc,n9 k]
    show clo d (40::(aU (brk l)++(41::r)))=clo d r
    rw [cT,n9 l,cq]
noncomputable def eC (p:Pair):Pair:=(p.2,p.1)
noncomputable def ba (c:List Nat) (k:Int):Int:=(((c.take k.toNat).count 40:Nat):Int)
theorem uS:∀ {ps:List Pair},(br ps).Nodup->∀ {p q:Pair},p∈ps->q∈ps->p.2=q.2->p=q
  | [],_,_,_,hp,_,_=>by cases hp
  | r::ps,nd,p,q,hp,hq,e=>by
    have nd':(r.1::r.2::br ps).Nodup:=nd
    rw [List.nodup_cons,List.nodup_cons] at nd'
    rcases List.mem_cons.mp hp with rfl | hp2
    · rcases List.mem_cons.mp hq with rfl | hq2
      · rfl
      · exact absurd (eA.mpr ⟨q,hq2,.inr e⟩) nd'.2.1
    · rcases List.mem_cons.mp hq with rfl | hq2
      · exact absurd (show q.2∈br ps from eA.mpr ⟨p,hp2,.inr e.symm⟩) nd'.2.1
      · exact uS nd'.2.2 hp2 hq2 e
theorem zJ {ps qs:List Pair} (h:oZ ps) (f:Int->Int) (hf:∀ (j:Nat) (p:Pair),ps[j]? = some p->f p.1=(j:Int)) (pm:qs.Perm (ps.map fun p=>(p.2,p.1))) (rs:qs.Pairwise bR) :
    dW (qs.map fun q=>f q.2)=true:=by
  have lq:qs.length=ps.length:=by rw [pm.length_eq,List.length_map]
  have back:∀ q∈qs,(q.2,q.1)∈ps:=fun q hq=>by
    obtain ⟨p,hp,rfl⟩:=List.mem_map.mp (pm.mem_iff.mp hq)
    exact hp
  have idx:∀ p∈ps,∃ j:Nat,j < ps.length/\ps[j]? = some p/\f p.1=(j:Int):=fun p hp=>by
    obtain ⟨j,hj⟩:=List.getElem?_of_mem hp
    exact ⟨j,(List.getElem?_eq_some_iff.mp hj).1,hj,hf j p hj⟩
  have mono:∀ p∈ps,∀ r∈ps,f p.1 < f r.1->p.1<=r.1:=fun p hp r hr lt=>by
    obtain ⟨i,hi,ei,fi⟩:=idx p hp
    obtain ⟨j,hj,ej,fj⟩:=idx r hr
    have:=List.pairwise_iff_getElem.mp h.ris i j hi hj (by lia)
    rw [(List.getElem?_eq_some_iff.mp ei).2,(List.getElem?_eq_some_iff.mp ej).2] at this
    unfold bR at this
    lia
  unfold dW
  rw [Bool.and_eq_true]
  refine ⟨(dc _).mpr ?_,pF fun k hk=>?_⟩
  · have a:=pm.map (fun q:Pair=>f q.2)
    rw [List.map_map] at a
    rw [List.length_map,lq]
    refine a.trans ?_
    have e:ps.map ((fun q:Pair=>f q.2) ∘ fun p=>(p.2,p.1))=cA ps.length:=by
      refine List.ext_getElem? fun i=>?_
      rw [List.getElem?_map]
      by_cases hi:i < ps.length
      · rw [List.getElem?_eq_getElem hi,A9 hi]
        exact congrArg some (hf i _ (List.getElem?_eq_getElem hi))
      · rw [List.getElem?_eq_none (by lia),List.getElem?_eq_none (by rw [oF]; lia)]
        rfl
    rw [e]
  · cases z:jd (qs.map fun q=>f q.2) k with
    | false=>rfl
    | true =>
      obtain ⟨i,j,hi,hj,hl,h1,h2⟩:=(mL _ _).mp z
      rw [List.length_map] at hl hk
      have g:∀ m (hm:m < qs.length),(qs.map fun q=>f q.2).getD m 0=f (qs[m]).2:=fun m hm=>by
        rw [List.getD_eq_getElem?_getD,List.getElem?_map,List.getElem?_eq_getElem hm]
        rfl
      rw [g k (by lia),g j (by lia)] at h1
      rw [g j (by lia),g i (by lia)] at h2
      have bi:=back _ (List.getElem_mem (show i < qs.length by lia))
      have bk:=back _ (List.getElem_mem hk)
      have bj:=back _ (List.getElem_mem hl)
      have m1:=mono _ bk _ bj h1
      have m2:=mono _ bj _ bi h2
      have s1:=List.pairwise_iff_getElem.mp rs i k (by lia) hk hi
      have s2:=List.pairwise_iff_getElem.mp rs k j hk hl hj
      have ri:=h.inr _ bi
      have rj:=h.inr _ bj
      have rk:=h.inr _ bk
      have n:=h.nc _ bk _ bj
      have nd:(br ps).Nodup:=h.flat.nodup_iff.mpr (nz _)
      have sj:=fun e=>uS nd bk bj e
      generalize qs[i]=qi at *
      generalize qs[k]=qk at *
      generalize qs[j]=qj at *
      unfold EH at n
      unfold BI at ri rj rk
      unfold bR at s1 s2
      simp only at *
      have e1:qk.2≠qj.2:=fun e=>by rw [e] at h1; lia
      have e2:qj.2≠qi.2:=fun e=>by rw [e] at h2; lia
      have e3:qk.1≠qj.1:=fun e=>e1 (congrArg Prod.fst (sj e))
      lia
noncomputable def fS (row:List Int):List Int:=(List.range row.length).map fun (k:Nat)=>(row.length:Int) - 1 - ((row.idxOf ((row.length:Int) - 1 - (k:Int)):Nat):Int)
noncomputable def fq (row:List Int) (i:Nat):List Int:=(List.range row.length).map fun (k:Nat)=>if row.idxOf ((row.length:Int) - 1 - (k:Int)) < i then (row.length:Int) - 1 - ((row.idxOf ((row.length:Int) - 1 - (k:Int)):Nat):Int) else 0
theorem tN (row:List Int):(fS row).length=row.length:=by unfold fS; simp
theorem tR (row:List Int) (i:Nat):(fq row i).length=row.length:=by unfold fq; simp
theorem yc (row:List Int):fq row 0=List.replicate row.length 0:=by
  unfold fq
  refine List.eq_replicate_iff.mpr ⟨by simp,fun b hb=>?_⟩
  obtain ⟨k,_,rfl⟩:=List.mem_map.mp hb
  rw [if_neg (Nat.not_lt_zero _)]
theorem ig {row:List Int} (h:row.Perm (cA row.length)) {v:Int}:v∈row↔0<=v/\v < (row.length:Int):=by rw [h.mem_iff,iB]
theorem Dd {row:List Int} (h:row.Perm (cA row.length)):row.Nodup:=h.nodup_iff.mpr (nz _)
theorem rn {row:List Int} (h:row.Perm (cA row.length)) {i:Nat} {x:Int} (hx:row[i]? = some x):row.idxOf x=i:=by
  obtain ⟨hi,rfl⟩:=List.getElem?_eq_some_iff.mp hx
  exact (Dd h).idxOf_getElem i hi
theorem yT {row:List Int} (h:row.Perm (cA row.length)):fq row row.length=fS row:=by
  unfold fq fS
  refine List.map_congr_left fun k hk=>?_
  have:=List.mem_range.mp hk
  rw [if_pos (List.idxOf_lt_length_iff.mpr ((ig h).mpr (by lia)))]
theorem yI {row:List Int} (h:row.Perm (cA row.length)) {i:Nat} {x:Int} (hx:row[i]? = some x) :
    (fq row i).set ((row.length:Int) - 1 - x).toNat ((row.length:Int) - 1 - (i:Int))=fq row (i+1):=by
  have xr:=(ig h).mp (List.mem_of_getElem? hx)
  have ix:=rn h hx
  refine List.ext_getElem? fun m=>?_
  rw [List.getElem?_set]
  have gm:∀ (z m:Nat),(fq row z)[m]? = if m < row.length then some (if row.idxOf ((row.length:Int) - 1 - (m:Int)) < z then (row.length:Int) - 1 - ((row.idxOf ((row.length:Int) - 1 - (m:Int)):Nat):Int) else 0) else none:=fun z m=>by
    unfold fq
    rw [List.getElem?_map]
    by_cases hm:m < row.length
    · rw [List.getElem?_range hm,if_pos hm]; rfl
    · rw [List.getElem?_eq_none (by simpa using hm),if_neg hm]; rfl
  rw [tR,gm,gm]
  by_cases e:((row.length:Int) - 1 - x).toNat=m
  · have em:(row.length:Int) - 1 - (m:Int)=x:=by lia
    rw [if_pos e,if_pos (by lia),if_pos (by lia),em,ix,if_pos (by lia)]
  · rw [if_neg e]
    by_cases hm:m < row.length
    · rw [if_pos hm,if_pos hm]
      have hv:=(ig h).mpr (show 0<=(row.length:Int) - 1 - (m:Int)/\(row.length:Int) - 1 - (m:Int) < (row.length:Int) by lia)
      have ne:row.idxOf ((row.length:Int) - 1 - (m:Int))≠i:=fun z=>by
        have g:=List.getElem_idxOf (List.idxOf_lt_length_iff.mpr hv)
        have:row[i]? = some ((row.length:Int) - 1 - (m:Int)):=by
          rw [<- z,List.getElem?_eq_getElem (List.idxOf_lt_length_iff.mpr hv),g]
        rw [hx] at this
        have:=Option.some.inj this
        lia
      refine congrArg some ?_
      by_cases lt:row.idxOf ((row.length:Int) - 1 - (m:Int)) < i
      · rw [if_pos lt,if_pos (by lia)]
      · rw [if_neg lt,if_neg (by lia)]
    · rw [if_neg hm,if_neg hm]
theorem Aw {row:List Int} (h:row.Perm (cA row.length)) {k:Nat} (hk:k < row.length):∃ (j:Nat),j < row.length/\row[j]? = some ((row.length:Int) - 1 - (k:Int))/\(fS row)[k]? = some ((row.length:Int) - 1 - (j:Int)):=by
  have hv:=(ig h).mpr (show 0<=(row.length:Int) - 1 - (k:Int)/\(row.length:Int) - 1 - (k:Int) < (row.length:Int) by lia)
  have hj:=List.idxOf_lt_length_iff.mpr hv
  refine ⟨_,hj,by rw [List.getElem?_eq_getElem hj,List.getElem_idxOf hj],?_⟩
  unfold fS
  rw [List.getElem?_map,List.getElem?_range hk]
  rfl
end Ck
namespace Ck
open PySem L2
theorem AG {c:List Nat} {i z:Nat} (hi:i < c.length) (h:c[c.length - 1 - i]? = some z):(aU c)[i]? = some (g9 z):=by
  unfold aU
  rw [List.getElem?_reverse (by rw [List.length_map]; exact hi),List.length_map,List.getElem?_map,h]
  rfl
noncomputable def cB:Bt->Bt
  | .leaf=>.leaf
  | .node l r=>.node (cB r) (cB l)
theorem dN:∀ t:Bt,(cB t).size=t.size
  | .leaf=>rfl
  | .node l r=>by
    show (cB r).size+(cB l).size+1=l.size+r.size+1
    rw [dN l,dN r]
    lia
end Ck
namespace Ck
open PySem L2
theorem u5 (c:List Nat) {i:Nat}:∀ {n:Nat},i<=n->bu c i <+: bu c n
  | 0,h=>by
    obtain rfl:i=0:=by lia
    exact List.prefix_refl _
  | n+1,h=>by
    by_cases e:i=n+1
    · subst e; exact List.prefix_refl _
    · rw [d6]
      exact (u5 c (n:=n) (by lia)).trans (List.prefix_append _ _)
theorem A1 {c:List Nat} {n j k:Nat} {m:Int} (hk:k < n) (h40:c.getD k 0=40) (hj:(bu c n)[j]? = some ((k:Int),m)):j=(bu c k).length:=by
  have e:(bu c (k+1))[(bu c k).length]? = some ((k:Int),bI c k):=by rw [d6,if_pos h40,List.getElem?_append_right (Nat.le_refl _),Nat.sub_self]; rfl
  obtain ⟨r,er⟩:=u5 c (i:=k+1) (n:=n) hk
  have lt:=(List.getElem?_eq_some_iff.mp e).1
  have e2:(bu c n)[(bu c k).length]? = some ((k:Int),bI c k):=by rw [<- er,List.getElem?_append_left lt,e]
  obtain ⟨h1,g1⟩:=List.getElem?_eq_some_iff.mp e2
  obtain ⟨h2,g2⟩:=List.getElem?_eq_some_iff.mp hj
  have pw:=List.pairwise_iff_getElem.mp (jx c n)
  by_cases l1:j < (bu c k).length
  · have:=pw j _ h2 h1 l1
    rw [g1,g2] at this
    simp at this
  · by_cases l2:(bu c k).length < j
    · have:=pw _ j h1 h2 l2
      rw [g1,g2] at this
      simp at this
    · lia
end Ck
set_option Elab.async false
set_option linter.all false
set_option maxRecDepth 100000
set_option maxHeartbeats 4000000
namespace L2
open PySem PySem.Spec PyProof.Rows
theorem AJ {X:Cx} {K:W.Frag} (h:X.K=K):yw X (Bi K):=h▸bD
theorem pG:Manifest.owners.lookup (String.ofList ['d','e','s','r','e','v','e','r'].reverse)=some Manifest.sig_reversed:=by kernel_rfl
theorem dq:Slot "reversed" "__next__" "reversed.__next__" :=
  .of (owner:="reversed") (n:="__next__") (by rw [typeLookup_type,builtinLookup_eq_fast]; kernel_rfl) (by decide +kernel) (by decide +kernel) (by decide +kernel)
    (by first | exact .inl (by decide +kernel) | exact .inr (by decide +kernel)) (by rw [isSubtype_type]; kernel_rfl)
theorem iN:entryFor table "reversed.__next__" = some Builtin.«reversed.__next__»:=entryFor_of_tree (by kernel_rfl)
theorem jg (a:Value):argsOk "reversed.__next__" ⟨[a],[]⟩:=by
  unfold argsOk; rw [signature?_of (id:="reversed.__next__") (n:=['_','_','t','x','e','n','_','_']) (o:=['d','e','s','r','e','v','e','r']) (by kernel_rfl) pG]; kernel_rfl
theorem jj:Slot "reversed" "__iter__" "reversed.__iter__" :=
  .of (owner:="reversed") (n:="__iter__") (by rw [typeLookup_type,builtinLookup_eq_fast]; kernel_rfl) (by decide +kernel) (by decide +kernel) (by decide +kernel)
    (by first | exact .inl (by decide +kernel) | exact .inr (by decide +kernel)) (by rw [isSubtype_type]; kernel_rfl)
theorem qh (a:Value):argsOk "reversed.__iter__" ⟨[a],[]⟩:=by
  unfold argsOk; rw [signature?_of (id:="reversed.__iter__") (n:=['_','_','r','e','t','i','_','_']) (o:=['d','e','s','r','e','v','e','r']) (by kernel_rfl) pG]; kernel_rfl
theorem oP:entryFor table "reversed.__iter__" = some Builtin.«dict_keyiterator.__iter__» :=
  entryFor_alias (id':="dict_keyiterator.__iter__") (by kernel_rfl) (by first | rfl | decide +kernel | (unfold String.splitOn; simp +decide [String.splitOnAux])) (by decide +kernel) (by kernel_rfl)
theorem qg:Slot "reversed" "__init__" "object.__init__" :=
  .of (owner:="object") (n:="__init__") (by rw [typeLookup_type,builtinLookup_eq_fast]; kernel_rfl) (by decide +kernel) (by decide +kernel) (by decide +kernel)
    (by first | exact .inl (by decide +kernel) | exact .inr (by decide +kernel)) (by rw [isSubtype_type]; kernel_rfl)
theorem xf:TypeCalled "reversed" "reversed.__new__" "object.__init__" :=
  ⟨by decide +kernel,by decide +kernel,⟨_,_,F.mro_reversed⟩,F.made_reversed,by decide +kernel,by rw [isSubtype_type]; kernel_rfl,qg⟩
theorem vT:typeLookup (.type "str") "__reversed__" = pure none:=by rw [typeLookup_type,builtinLookup_eq_fast]; kernel_rfl
theorem uN:isSubtype (.type "str") (.type "dict")=pure false:=by rw [isSubtype_type]; kernel_rfl
noncomputable def mZ (x:Str) (t:Tok) (i:Int):Obj:={ cls:=.type "reversed",data:=.fields #[.str x t,rawInt i] }
theorem qd (x:Str) (t:Tok):Meets (Builtin.«reversed.__new__» ⟨[.type "reversed",.str x t],[]⟩) (fun _ R s=>x.length<=sizeLine /\
    R (.ok (.ret (.ref s.heap.objs.size))) { s with heap:=s.heap.push (mZ x t ((x.length:Int) - 1)),toks:=s.toks+1+1 }) :=
  .of_wp fun prog w A R s h=>by
    obtain ⟨hz,h⟩:=h
    unfold Builtin.«reversed.__new__»
    refine wpAny_bind (wpAny_of_eq (newClass_reversed _) ?_)
    try dsimp only
    refine wpAny_bind (wpAny_of_eq (a:=()) (by first | rfl | kernel_rfl) ?_)
    refine wpAny_bind (wpAny_of_eq (a:=()) (by first | rfl | kernel_rfl) ?_)
    try dsimp only
    refine wpAny_bind (wpAny_specialOf (typeIs_str _ x t) vT ?_)
    try dsimp only
    refine wpAny_bind ?_
    show wpAny _ _ (isInstance (.str x t) (.type "dict") >>= _) _ _ _
    refine wpAny_bind (wpAny_isInstance (typeIs_str _ x t) uN ?_)
    refine wpAny_bind (wpAny_specialOf (typeIs_str _ x t) F.slot_str_getitem.lookup ?_)
    refine wpAny_pure ?_
    refine wpAny_bind (len_str (by have:=hz; have:sizeLine < 2 ^ 62:=by decide +kernel
                                   lia) ?_)
    refine wpAny_bind (wpAny_of_eq (a:=some ((x.length:Nat):Int)) (by first | rfl | kernel_rfl) ?_)
    refine wpAny_bind (wpAny_newObj_type (data:=.fields #[.str x t,rawInt ((x.length:Int) - 1)]) ?_ (by size_fits))
    exact wpAny_pure ⟨_,rfl,h⟩
section
variable {prog:Program} {w:World} {A:Around} {E:Value->Shared->Prop} {s:Shared}
theorem rQ {x:Str} {t:Tok} {Q:Value->Shared->Prop} (hz:x.length<=sizeLine)
    (h:Q (.ref s.heap.objs.size) { s with heap:=s.heap.push (mZ x t ((x.length:Int) - 1)),toks:=s.toks+1+1 }):wpAny (model prog w) A (call (.type "reversed") [.str x t]) Q E s :=
  callType_new xf (by decide) (F.typeCall_reversed_1 _) (F.newCall_reversed_1 _) (fun obj=>F.args_object_init_2 obj _) F.entry_reversed_new (qd x t)
    ⟨hz,⟨_,Heap.get?_push_size _ rfl,rfl⟩,h⟩
def gr (h:Heap) (a:Addr) (x:Str) (t:Tok) (i:Int):Prop:=∃ o,h.get? a=some o/\o.cls = .type "reversed"/\o.data = .fields #[.str x t,rawInt i]
theorem gr.typeIs {a:Addr} {x:Str} {t:Tok} {i:Int} (z:gr s.heap a x t i):s.TypeIs (.ref a) "reversed":=let ⟨o,ho,hc,_⟩:=z; ⟨o,ho,hc⟩
theorem zg {it:Addr} {x:Str} {t:Tok} {i c:Nat} {Q:Option Value->Shared->Prop} (hz:x.length<=sizeLine) (hit:gr s.heap it x t (i:Int)) (hx:x.cps[i]? = some c)
    (hQ:∀ h',gr h' it x t ((i:Int) - 1)->(∀ b o,b≠it->s.heap.get? b=some o->h'.get? b=some o)->Q (some (.str ⟨#[c]⟩ (s.toks+1))) { s with heap:=h',toks:=s.toks+1+1 }):wpAny (model prog w) A (pyNext (.ref it)) Q E s:=by
  obtain ⟨o,ho,hc,hd⟩:=id hit
  have hlt:i < x.cps.size:=by
    have:=Array.getElem?_eq_some_iff.mp hx
    exact this.1
  have hlen:x.length=x.cps.size:=rfl
  have h62:sizeLine < 2 ^ 62:=by decide +kernel
  unfold pyNext
  refine wpAny_bind (wpAny_attempt (wpAny_callSpecial?_slot (name:=Str.ofString "__next__") hit.typeIs dq
    (wpAny_call_entry dq hit.typeIs iN ?_ (jg _))))
  unfold Builtin.«reversed.__next__»
  refine wpAny_bind (wpAny_of_eq (a:=(Value.ref it,[])) rfl ?_)
  try dsimp only
  refine wpAny_bind (wpAny_field ho hd (x:=.str x t) rfl ?_)
  refine wpAny_bind (wpAny_field ho hd (x:=rawInt (i:Int)) rfl ?_)
  show wpAny _ _ (if (i:Int) < 0 then _ else _) _ _ s
  rw [if_neg (by lia)]
  refine wpAny_bind (wpAny_specialOf (typeIs_str _ x t) F.slot_str_getitem.lookup ?_)
  show wpAny _ _ (mkInt (i:Int) >>= _) _ _ s
  refine wpAny_bind (wpAny_mkInt ?_)
  have e1:decide ((i:Int) < -(2 ^ 63:Int))=false:=decide_eq_false (by lia)
  have e2:decide ((i:Int) ≥ 2 ^ 63)=false:=decide_eq_false (by lia)
  have e:seqIndex? (i:Int) x.length=some (i:Int).toNat:=PySem.StrLaws.seqIndex_nonneg (by lia) (by lia)
  refine wpAny_bind (wpAny_attempt (getItem_str (c:=c) (by rw [e1,e2]<;>rfl) (by rw [e]; exact hx) ?_))
  try dsimp only
  refine wpAny_bind (wpAny_field (s:={ s with toks:=s.toks+1+1 }) ho hd (x:=rawInt (i:Int)) rfl ?_)
  show wpAny _ _ (setField (.ref it) 1 (rawInt ((i:Int) - 1)) >>= _) _ _ _
  refine wpAny_bind (wpAny_setField (s:={ s with toks:=s.toks+1+1 }) ho hd (by simp) ?_)
  refine wpAny_pure ⟨_,rfl,wpAny_pure (hQ _ ?_ fun b o' hb q=>?_)⟩
  · exact ⟨_,Heap.get?_update_self _ ho (Obj.isFreed_of_fields (Obj.data_mapFields hd _)),(Obj.cls_mapFields ..).trans hc,by
      rw [Obj.data_mapFields hd]; simp⟩
  · exact (Heap.get?_update_ne _ _ _ _ hb).trans q
theorem AQ {it:Addr} {x:Str} {t:Tok} {Q:Option Value->Shared->Prop} (hh:A.handled=none) (hit:gr s.heap it x t (-1))
    (hQ:∀ h',(∀ b o,b≠it->s.heap.get? b=some o->h'.get? b=some o)->Q none { s with heap:=h' }):wpAny (model prog w) A (pyNext (.ref it)) Q E s:=by
  obtain ⟨o,ho,hc,hd⟩:=id hit
  unfold pyNext
  refine wpAny_bind (wpAny_attempt (wpAny_callSpecial?_slot (name:=Str.ofString "__next__") hit.typeIs dq
    (wpAny_call_entry dq hit.typeIs iN ?_ (jg _))))
  unfold Builtin.«reversed.__next__»
  refine wpAny_bind (wpAny_of_eq (a:=(Value.ref it,[])) rfl ?_)
  try dsimp only
  refine wpAny_bind (wpAny_field ho hd (x:=.str x t) rfl ?_)
  refine wpAny_bind (wpAny_field ho hd (x:=rawInt (-1)) rfl ?_)
  show wpAny _ _ (if (-1:Int) < 0 then _ else _) _ _ s
  rw [if_pos (by decide)]
  refine wpAny_bind (wpAny_rule ?_)
  refine wpAny_bind ?_
  show wpAny _ _ (setField (.ref it) 1 (rawInt (-1)) >>= fun _=>setField (.ref it) 0 .none) _ _ _
  refine wpAny_bind (wpAny_setField ho hd (by simp) ?_)
  have ho1:=Heap.get?_update_self (h:=s.heap) (Obj.mapFields (·.setIfInBounds 1 (rawInt (-1)))) ho (Obj.isFreed_of_fields (Obj.data_mapFields hd _))
  have hd1:=Obj.data_mapFields (f:=(·.setIfInBounds 1 (rawInt (-1)))) hd
  refine wpAny_setField ho1 hd1 (by simp) ?_
  first
  | show wpAny _ _ (newExc (.type "StopIteration") [] >>= _) _ _ _
  | (refine wpAny_bind ?_; show wpAny _ _ (newExc (.type "StopIteration") [] >>= _) _ _ _)
  refine wpAny_bind ?_
  simp only [newExc,newTuple]
  refine wpAny_bind (wpAny_newObj_type ?_ (by size_fits))
  refine wpAny_bind (m:=firstArgMember _ _) (wpAny_of_eq (a:=Value.none) (by first | rfl | (simp only [firstArgMember]; rfl)) ?_)
  refine wpAny_newObj_type ?_ (by size_fits)
  simp only [raiseNew]
  refine wpAny_bind (wpAny_handled ?_)
  first | rw [show A.in1.handled=none from hh] | rw [hh]
  refine wpAny_bind (wpAny_pure (wpAny_throw ?_))
  refine wpAny_bind (wpAny_isInstance (T:="StopIteration") (b:=true) ⟨_,Heap.get?_push_size _ rfl,rfl⟩ isSubtype_stop ?_)
  refine wpAny_pure (hQ _ fun b o' hb q=>Heap.get?_push_of_some _ (Heap.get?_push_of_some _ ?_))
  exact ((Heap.get?_update_ne _ _ _ _ hb).trans (Heap.get?_update_ne _ _ _ _ hb)).trans q
theorem ub {it:Addr} {x:Str} {t:Tok} {i:Int} {Q:Value->Shared->Prop} (hit:gr s.heap it x t i) (h:Q (.ref it) s):wpAny (model prog w) A (pyIter (.ref it)) Q E s:=by
  refine wpAny_pyIter_slot hit.typeIs jj (wpAny_call_entry jj hit.typeIs oP ?_ (qh _))
  show wpAny _ _ (ret (.ref it)) _ _ s
  exact wpAny_pure ⟨_,rfl,"reversed",_,hit.typeIs,dq.lookup,h⟩
end
noncomputable def DE (x:Str):It:=⟨fun i _=>i < x.cps.size,fun i H v H'=>H'=H/\∃ c,x.cps[x.cps.size - 1 - i]? = some c/\v = .str ⟨#[c]⟩,fun i _=>i=x.cps.size⟩
theorem zQ {P:Program} {w:World} {K:W.Frag} {tg:Expr} (it:Addr) (x:Str) (t:Tok) (hz:x.length<=sizeLine) :
    Turn P w K tg (DE x) [it] it (fun i h=>gr h it x t ((x.cps.size:Int) - 1 - (i:Int))) where
  mem:=by simp
  obj:=fun i h st b hb=>by
    have e:b=it:=by simpa using hb
    subst e
    obtain ⟨o,e,c,d⟩:=st
    exact ⟨o,e,fun v z=>by rw [d] at z; cases z⟩
  keep:=fun i h h' st k=>by
    obtain ⟨o,e,c,d⟩:=st
    exact ⟨o,k it (by simp) o e,c,d⟩
  item:=by
    intro X hP hw hK hc i pins s σ H E I hf st hg
    subst hP hw hK
    obtain ⟨f0,f1,f2,f3,f4,f5⟩:=hf it (by simp)
    have hg':i < x.cps.size:=hg
    have e1:(x.cps.size:Int) - 1 - (i:Int)=((x.cps.size - 1 - i:Nat):Int):=by lia
    rw [e1] at st
    have hx:x.cps[x.cps.size - 1 - i]? = some (x.cps[x.cps.size - 1 - i]'(by lia)):=Array.getElem?_eq_getElem _
    refine zg hz st hx fun h' st' kk=>?_
    have I1:Inv X pins σ H { s with heap:=h',toks:=s.toks+1+1 }:=I.turned (fun b o hb e=>kk b o hb e) f0 f1 f3 f4 f5
    have st2:gr h' it x t ((x.cps.size:Int) - 1 - ((i+1:Nat):Int)):=by
      rw [show (x.cps.size:Int) - 1 - ((i+1:Nat):Int)=((x.cps.size - 1 - i:Nat):Int) - 1 by lia]
      exact st'
    obtain ⟨o,e,cl,d⟩:=id st'
    exact ⟨_,rfl,mU (s:={ s with heap:=h',toks:=s.toks+1+1 }) e cl d (by decide) ⟨.str ⟨#[_]⟩,H,I1,⟨_,rfl⟩,⟨rfl,_,hx,rfl⟩,st2,fun b hb=>(hf b hb).1⟩⟩
  done:=by
    intro X hP hw hK hc i pins s σ H E I hf st hg
    subst hP hw hK
    obtain ⟨f0,f1,f2,f3,f4,f5⟩:=hf it (by simp)
    have hi:i=x.cps.size:=hg
    subst hi
    rw [show (x.cps.size:Int) - 1 - (x.cps.size:Int) = -1 by lia] at st
    exact AQ (I.ok.hd hc) st fun h' kk=>⟨rfl,I.turned (t':=s.toks) (fun b o hb e=>kk b o hb e) f0 f1 f3 f4 f5⟩
  self:=fun _ _ _ _ _ st h=>ub st h
noncomputable def E9 (ta:TA):TI:=fun σ H R=>ta σ H fun vs H1=>∃ x,vs=[.str x]/\x.length<=sizeLine/\R (DE x) H1
section
variable {X:Cx}
theorem C3 {tg a:Expr} {ta:TA} {p pos:Pos} (hg:Gl X "reversed") (hm:X.mg "reversed" = none) (ha:PA X [a] ta) (hs:starEach [a] X.env=[(false,eval a X.env)]:=by rfl) :
    PI X tg (.Call (.Name "reversed" p) [a] [] pos) (E9 ta):=by
  intro pins s σ H R I h
  refine Call_ (cV I hg hm boot_reversed (PyProof.Rows.callWith_type1 (aH (ha pos pins s σ H _ I h) fun us s1 ⟨vs,H1,I1,r1,q1⟩=>?_) hs rfl))
  obtain ⟨x,rfl,hz,q⟩:=q1
  obtain ⟨u,rfl,ru⟩:=vals1 r1
  obtain ⟨t,rfl⟩:=ru
  refine rQ hz ?_
  have I2:Inv X pins σ H1 { s1 with heap:=s1.heap.push (mZ x t ((x.length:Int) - 1)),toks:=s1.toks+1+1 }:=I1.kept fun b o e=>Heap.get?_push_of_some _ e
  have st:gr (s1.heap.push (mZ x t ((x.length:Int) - 1))) s1.heap.objs.size x t ((x.cps.size:Int) - 1 - ((0:Nat):Int)):=⟨_,Heap.get?_push_size _ rfl,rfl,by
    rw [show (x.cps.size:Int) - 1 - ((0:Nat):Int)=(x.length:Int) - 1 by show _=(x.cps.size:Int) - 1; lia]; rfl⟩
  refine ub st ⟨_,[s1.heap.objs.size],_,_,H1,rfl,I2,zQ _ x t hz,st,fun b hb=>?_,q⟩
  rw [show b=s1.heap.objs.size by simpa using hb]
  exact I1.fpOk (Nat.le_refl _) (I1.hok.fresh (Nat.le_refl _))
end
theorem zd {x:Str} {g:TG} {tt:TT} {te:TE} {σ0:St} {H:Hp} {D:Addr} {Q:VK} (Pv:Nat->List V->Hp->Prop) (hz:x.length<=sizeLine)
    (h0:Pv 0 [] (upd H D (.lst []))) (hl:∀ i ys H',i<=x.cps.size->Pv i ys H'->ys.length<=i)
    (hs:∀ (i c:Nat) (ys:List V) (H':Hp) (R:VK) (R0:Hp->Prop),i < x.cps.size->x.cps[x.cps.size - 1 - i]? = some c->Pv i ys H'->(∀ v H3,H3 D=some (.lst ys)->Pv (i+1) (ys++[v]) (upd H3 D (.lst (ys++[v])))->R v H3)->(∀ H3,Pv (i+1) ys H3->R0 H3) ->
      g (.str ⟨#[c]⟩) σ0 H' fun σ2 H2=>Ext σ0 σ2/\tt σ2 H2 fun b H3=>if b=true then te σ2 H3 R else R0 H3)
    (hq:∀ ys H',Pv x.cps.size ys H'->Q (.ref D) H') :
    nr (DE x) g tt te σ0 D Q H:=by
  have hzz:x.cps.size<=sizeLine:=hz
  refine ⟨fun i m ys H'=>m=x.cps.size - i/\i<=x.cps.size/\Pv i ys H',⟨x.cps.size,by simp,Nat.zero_le _,h0⟩,?_⟩
  rintro i m ys H' ⟨rfl,hi,p⟩
  have ly:=hl i ys H' hi p
  by_cases hlt:i < x.cps.size
  · refine .inr ⟨hlt,fun v H'' y=>?_⟩
    obtain ⟨e,c,hc,y⟩:=y
    subst e y
    refine hs i c ys _ _ _ hlt hc p (fun v H3 hD p'=>⟨hD,by lia,x.cps.size - (i+1),by lia,rfl,hlt,p'⟩) fun H3 p'=>⟨x.cps.size - (i+1),by lia,rfl,hlt,p'⟩
  · have e:i=x.cps.size:=by lia
    subst e
    exact .inl ⟨rfl,hq ys H' p⟩
end L2
set_option Elab.async false
set_option linter.all false
set_option maxRecDepth 100000
set_option maxHeartbeats 4000000
namespace L2
open PySem PySem.Spec PyProof.Rows PySem.W PySem.SeqAt Ck
section
variable {prog:Program} {w:World} {A:Around} {E:Value->Shared->Prop} {s:Shared}
end
end L2
set_option Elab.async false
set_option linter.all false
set_option maxRecDepth 100000
set_option maxHeartbeats 4000000
namespace Zp
open PySem PyProof.Rows
section
variable {prog:Program} {w:World} {A:Around} {E:Value->Shared->Prop} {s:Shared}
end
end Zp
namespace Zp
open PySem PyProof.Rows
section
variable {prog:Program} {w:World} {A:Around} {E:Value->Shared->Prop} {s:Shared}
end
section
variable {prog:Program} {w:World} {A:Around} {R:Result->Shared->Prop}
end
end Zp
namespace Zp
open PySem PyProof.Rows
section
variable {prog:Program} {w:World} {A:Around} {E:Value->Shared->Prop} {s:Shared}
end
end Zp
namespace Ck
open PySem L2
end Ck
namespace L2
open PySem PySem.Spec PyProof.Rows Ck
section
variable {X:Cx}
end
end L2
set_option Elab.async false
set_option linter.all false
set_option maxRecDepth 100000
set_option maxHeartbeats 4000000
namespace Ck
open PySem L2
noncomputable abbrev bB (H0 H:Hp) (a:Addr):List Addr->List (List Int)->Prop:=Paired (fun (b:Addr) (ns:List Int)=>H b=some (.lst (ns.map V.int))/\H0 b=none/\b≠a)
def cM (H0 H:Hp) (a:Addr) (rs:List (List Int)):Prop:=∃ bs:List Addr,H a=some (.lst (bs.map V.ref))/\bB H0 H a bs rs/\bs.Nodup
theorem cM.nil {H0 H:Hp} {a:Addr} (h:H a=some (.lst [])):cM H0 H a []:=⟨[],h,.nil,List.nodup_nil⟩
theorem cM.same {H0 H H':Hp} {a:Addr} {rs:List (List Int)} (h:cM H0 H a rs) (s:af H H'):cM H0 H' a rs :=
  let ⟨bs,e,r,n⟩:=h
  ⟨bs,s _ _ e,Paired.mapP r fun _ _ ⟨p,q⟩=>⟨s _ _ p,q⟩,n⟩
theorem cM.since {H0 H1 H:Hp} {a:Addr} {rs:List (List Int)} (h:cM H0 H a rs) (s:af H1 H0):cM H1 H a rs :=
  let ⟨bs,e,r,n⟩:=h
  ⟨bs,e,Paired.mapP r fun _ _ ⟨p,q,z⟩=>⟨p,s.free q,z⟩,n⟩
theorem cM.len {H0 H:Hp} {a:Addr} {rs:List (List Int)} (h:cM H0 H a rs):∃ xs,H a=some (.lst xs)/\xs.length=rs.length :=
  let ⟨bs,e,r,_⟩:=h
  ⟨_,e,by rw [List.length_map]; exact Paired.length r⟩
theorem bB.get {H0 H:Hp} {a:Addr}:∀ {bs:List Addr} {rs:List (List Int)},bB H0 H a bs rs->∀ {j:Nat} {ns:List Int},rs[j]? = some ns->∃ b,bs[j]? = some b/\H b=some (.lst (ns.map V.int))/\H0 b=none/\b≠a
  | _,_,.nil,j,ns,e=>by cases e
  | _,_,.cons r t,0,ns,e=>by
    rw [List.getElem?_cons_zero] at e
    cases e
    exact ⟨_,rfl,r⟩
  | _,_,.cons r t,j+1,ns,e=>bB.get t (j:=j) (by simpa using e)
theorem cM.get {H0 H:Hp} {a:Addr} {rs:List (List Int)} (h:cM H0 H a rs) {xs:List V} (hx:H a=some (.lst xs)) {j:Nat} {ns:List Int} (e:rs[j]? = some ns):∃ b,xs[j]? = some (.ref b)/\H b=some (.lst (ns.map V.int))/\H0 b=none/\b≠a:=by
  obtain ⟨bs,e1,r,_⟩:=h
  rw [hx] at e1
  cases e1
  obtain ⟨b,h1,h2⟩:=r.get e
  exact ⟨b,by rw [List.getElem?_map,h1]; rfl,h2⟩
theorem bB.updC {H0 H:Hp} {a c:Addr} {o:HO}:∀ {bs:List Addr} {rs:List (List Int)},bB H0 H a bs rs->(∀ b∈bs,b≠c)->bB H0 (upd H c o) a bs rs
  | _,_,.nil,_=>.nil
  | _,_,.cons ⟨p,q⟩ t,n=>.cons ⟨(upd_ne (n _ (by simp))).trans p,q⟩ (bB.updC t fun b hb=>n b (by simp [hb]))
theorem bB.all {H0 H:Hp} {a:Addr}:∀ {bs:List Addr} {rs:List (List Int)},bB H0 H a bs rs->∀ b∈bs,(∃ ns:List Int,H b=some (.lst (ns.map V.int)))/\H0 b=none/\b≠a
  | _,_,.nil,b,hb=>by cases hb
  | _,_,.cons ⟨p,q⟩ t,b,hb=>by
    rcases List.mem_cons.mp hb with rfl | z
    · exact ⟨⟨_,p⟩,q⟩
    · exact bB.all t b z
theorem cM.updC {H0 H:Hp} {a c:Addr} {o o':HO} {rs:List (List Int)} (h:cM H0 H a rs) (hc:H0 c=some o') (ne:a≠c):cM H0 (upd H c o) a rs:=by
  obtain ⟨bs,e,r,n⟩:=h
  exact ⟨bs,(upd_ne ne).trans e,r.updC (fun b hb z=>by have:=(r.all b hb).2.1; rw [z,hc] at this; cases this),n⟩
theorem bB.snoc {H0 H:Hp} {a b:Addr} {ns:List Int} (hb:H b=some (.lst (ns.map V.int))) (h0:H0 b=none) (ne:b≠a):∀ {bs:List Addr} {rs:List (List Int)},bB H0 H a bs rs->bB H0 H a (bs++[b]) (rs++[ns])
  | _,_,.nil=>.cons ⟨hb,h0,ne⟩ .nil
  | _,_,.cons r t=>.cons r (bB.snoc hb h0 ne t)
theorem cM.snoc {H0 H:Hp} {a b:Addr} {rs:List (List Int)} {xs:List V} (h:cM H0 H a rs) (hx:H a=some (.lst xs)) (hb:H b=none) (h0:H0 b=none) (ns:List Int) :
    cM H0 (upd (upd H b (.lst (ns.map V.int))) a (.lst (xs++[.ref b]))) a (rs++[ns]):=by
  obtain ⟨bs,e,r,n⟩:=h
  rw [hx] at e
  cases e
  have ne:b≠a:=fun z=>by rw [z,hx] at hb; cases hb
  have nb:∀ c∈bs,c≠b:=fun c hc z=>by
    obtain ⟨⟨ms,e⟩,_⟩:=r.all c hc
    rw [z,hb] at e
    cases e
  have r1:bB H0 (upd H b (.lst (ns.map V.int))) a bs rs:=r.updC nb
  have r2:bB H0 (upd (upd H b (.lst (ns.map V.int))) a (.lst (bs.map V.ref++[.ref b]))) a bs rs:=r1.updC fun c hc=>(r.all c hc).2.2
  refine ⟨bs++[b],by rw [upd_same,List.map_append]; rfl,bB.snoc ((upd_ne ne).trans upd_same) h0 ne r2,?_⟩
  refine List.nodup_append.mpr ⟨n,by simp,?_⟩
  intro c hc d hd
  have:d=b:=by simpa using hd
  rw [this]
  exact nb c hc
theorem bB.put {H0 H:Hp} {a b:Addr} {ms:List Int}:∀ {bs:List Addr} {rs:List (List Int)} {j:Nat},bB H0 H a bs rs->bs.Nodup->bs[j]? = some b->bB H0 (upd H b (.lst (ms.map V.int))) a bs (rs.set j ms)
  | _,_,j,.nil,_,e=>by cases e
  | _,_,0,.cons r t,n,e=>by
    rw [List.getElem?_cons_zero] at e
    cases e
    rw [List.nodup_cons] at n
    exact .cons ⟨upd_same,r.2⟩ (bB.updC t fun c hc z=>n.1 (z▸hc))
  | _,_,j+1,.cons r t,n,e=>by
    rw [List.nodup_cons] at n
    have e':=e
    rw [List.getElem?_cons_succ] at e'
    have hb:=List.mem_of_getElem? e'
    exact .cons ⟨(upd_ne (fun z=>n.1 (by rw [z]; exact hb))).trans r.1,r.2⟩ (bB.put t n.2 e')
theorem cM.put {H0 H:Hp} {a b:Addr} {rs:List (List Int)} {xs:List V} (h:cM H0 H a rs) (hx:H a=some (.lst xs)) {j:Nat} (e:xs[j]? = some (.ref b)) (ms:List Int):cM H0 (upd H b (.lst (ms.map V.int))) a (rs.set j ms):=by
  obtain ⟨bs,e1,r,n⟩:=h
  rw [hx] at e1
  cases e1
  have e2:bs[j]? = some b:=by
    rw [List.getElem?_map] at e
    cases hb:bs[j]? with
    | none=>rw [hb] at e; cases e
    | some c =>
      rw [hb] at e
      have:V.ref c=V.ref b:=by simpa using e
      cases this
      rfl
  exact ⟨bs,(upd_ne (Ne.symm (r.all b (List.mem_of_getElem? e2)).2.2)).trans hx,r.put n e2,n⟩
end Ck
namespace Ck
open PySem L2
def eZ (H H':Hp):Prop:=∀ b,H' b=none->H b=none
theorem eZ.refl (H:Hp):eZ H H:=fun _ h=>h
theorem eZ.free' {H H':Hp} {b:Addr} (s:eZ H H') (h:H' b=none):H b=none:=s b h
theorem eZ.upd {H H':Hp} (s:eZ H H') (a:Addr) (o:HO):eZ H (L2.upd H' a o):=fun b h=>s b (by
  by_cases e:b=a
  · rw [e,upd_same] at h; cases h
  · rw [upd_ne e] at h; exact h)
theorem eZ.new {H H':Hp} {o:HO} (s:eZ H H') (a:Addr):eZ H (L2.upd H' a o):=s.upd a o
end Ck
set_option Elab.async false
set_option linter.all false
set_option maxRecDepth 100000
set_option maxHeartbeats 4000000
namespace Ck
open PySem PySem.Spec PyProof.Rows L2
end Ck
namespace L2
open PySem PySem.Spec PyProof.Rows PySem.W Ck
section
variable {X:Cx}
end
end L2
namespace Ck
open PySem L2
noncomputable abbrev hd (r:List Int):Int:=r.getD 0 0
noncomputable def iota (k:Nat):List Int:=(List.range k).map fun (i:Nat)=>(i:Int)
structure EG (k:Nat) (rs:List (List Int)):Prop where
  ne:∀ r∈rs,r≠[]
  inc:∀ r∈rs,r.Pairwise (· < ·)
  heads:(rs.map hd).Pairwise (· < ·)
  flat:rs.flatten.Perm (iota k)
section
variable {i:Nat} {ls:List (List Int)} (h:EG i ls)
include h
variable {j:Nat} {rs:List (List Int)} (h':EG j rs)
include h'
end
end Ck
set_option Elab.async false
set_option linter.all false
set_option maxRecDepth 100000
set_option maxHeartbeats 4000000
namespace L2
open PySem PySem.Spec PyProof.Rows
end L2
namespace Ck
open PySem L2
def E8 (H:Hp) (a c:Addr):Prop:=c≠a/\∀ xs,H a=some (.lst xs)->V.ref c∉xs
def wa (a:Addr) (H H':Hp):Prop:=∀ c,E8 H a c->∀ o,H c=some o->H' c=some o
end Ck
namespace L2
open PySem PySem.Spec PyProof.Rows
section
variable {κ:Type} [DecidableEq κ]
noncomputable def DG (kvs:List (κ × V)) (k:κ):Option V:=(kvs.find? fun kv=>decide (kv.1=k)).map (·.2)
end
section
variable {P:Program} {w:World} {H:Hp} {h:Heap} {a:Addr}
end
section
variable {X:Cx} {pins:List (Addr × Obj)} {σ:St} {H:Hp} {s:Shared} {a:Addr} {y v:V} {u r:Value} {o:Option V} {A:Around} {E:Value->Shared->Prop}
end
section
variable {X:Cx} {pins:List (Addr × Obj)} {σ:St} {H:Hp} {s:Shared} {a:Addr} {kvs:List (Key × V)} {k:Key} {u:Value} {A:Around} {E:Value->Shared->Prop}
end
section
variable {X:Cx} {o i e value:Expr} {pos pos' tpos:Pos} {td ty tv:TE}
end
section
variable {X:Cx} {pos:Pos}
end
section
variable {X:Cx} {pins:List (Addr × Obj)} {σ:St} {H:Hp} {s:Shared} {a:Addr} {y d:V} {u r:Value} {o:Option V} {A:Around} {E:Value->Shared->Prop}
end
section
variable {X:Cx} {o e f:Expr} {apos cpos:Pos} {td ty tx:TE}
end
section
variable {X:Cx} {pins:List (Addr × Obj)} {σ:St} {H:Hp} {s:Shared} {a:Addr} {kvs:List (Key × V)} {A:Around} {E:Value->Shared->Prop}
end
section
variable {X:Cx} {pins:List (Addr × Obj)} {σ:St} {H:Hp} {s:Shared} {a:Addr} {y:V} {u:Value} {A:Around} {E:Value->Shared->Prop}
end
end L2
namespace L2
open PySem PySem.Spec PyProof.Rows
section
variable {κ:Type} [DecidableEq κ]
end
end L2
set_option Elab.async false
set_option linter.all false
set_option maxRecDepth 100000
set_option maxHeartbeats 4000000
namespace Ck
open PySem L2
end Ck
namespace L2
open PySem PySem.Spec PyProof.Rows Ck
end L2
namespace Ck
open PySem L2
end Ck
namespace Ck
open PySem L2
noncomputable abbrev lst (r:List Int):Int:=r.getD (r.length - 1) 0
end Ck
namespace L2
open PySem PySem.Spec PyProof.Rows Ck
end L2
namespace Ck
open PySem L2
def hJ (H:Hp) (bs:List Addr) (xss:List (List V)):Prop:=Paired (fun (b:Addr) (xs:List V)=>H b=some (.lst xs)) bs xss
theorem hJ.get {H:Hp}:∀ {bs:List Addr} {xss:List (List V)},hJ H bs xss->∀ {j:Nat} {v:V},(bs.map V.ref)[j]? = some v->∃ b xs,v = .ref b/\xss[j]? = some xs/\H b=some (.lst xs)
  | _,_,.nil,j,v,e=>by simp at e
  | _,_,.cons r t,0,v,e=>⟨_,_,(by simpa using e.symm),rfl,r⟩
  | _,_,.cons r t,j+1,v,e=>by
    obtain ⟨b,xs,h1,h2,h3⟩:=hJ.get t (j:=j) (by simpa using e)
    exact ⟨b,xs,h1,by simpa using h2,h3⟩
theorem cM.rws {H0 H:Hp} {a:Addr} {rs:List (List Int)} (h:cM H0 H a rs):∃ bs:List Addr,H a=some (.lst (bs.map V.ref))/\hJ H bs (rs.map fun r=>r.map V.int):=by
  obtain ⟨bs,e,r,_⟩:=h
  refine ⟨bs,e,?_⟩
  have go:∀ {bs:List Addr} {rs:List (List Int)},bB H0 H a bs rs->hJ H bs (rs.map fun r=>r.map V.int):=by
    intro bs rs r
    induction r with
    | nil=>exact .nil
    | cons x _ ih=>exact .cons x.1 ih
  exact go r
theorem hJ.len {H:Hp} {bs:List Addr} {xss:List (List V)} (h:hJ H bs xss):bs.length=xss.length:=Paired.length h
end Ck
namespace Ck
open PySem L2
structure Hm (rs:List (List Int)) (fl:List Int) (kvs:List (Key × V)):Prop where
  len:kvs.length=fl.length
  nd:fl.Nodup
  has:∀ m∈fl,∃ (j:Nat) (r:List Int),DG kvs (.inl m)=some (.int (j:Int))/\rs[j]? = some r/\m∈r
  no:∀ m:Int,m∉fl->DG kvs (.inl m)=none
end Ck
namespace Ck
open PySem L2
end Ck
set_option Elab.async false
set_option linter.all false
set_option maxRecDepth 100000
set_option maxHeartbeats 4000000
namespace Ck
open PySem L2
theorem jJ (c:List Nat) (hs:∀ x∈c,x=40\/x=41):∀ i,i<=c.length->(c.take i).count 40+(c.take i).count 41=i
  | 0,_=>by simp
  | i+1,hi=>by
    have lt:i < c.length:=by lia
    have ih:=jJ c hs i (by lia)
    rw [List.take_succ_eq_append_getElem lt,List.count_append,List.count_append]
    rcases hs _ (List.getElem_mem lt) with e | e<;>rw [e]<;>simp<;>lia
theorem xP (c:List Nat) (i:Nat):(aU c).take i=aU (c.drop (c.length - i)):=by
  unfold aU
  rw [List.take_reverse,List.length_map,<- List.map_drop]
theorem mB (a b:Nat) (hab:(a=40/\b=41)\/(a=41/\b=40)):∀ c:List Nat,(∀ x∈c,x=40\/x=41)->(aU c).count a=c.count b
  | [],_=>rfl
  | x::c,h=>by
    rw [jF,List.count_append,mB a b hab c fun y hy=>h y (List.mem_cons_of_mem _ hy)]
    rcases h x (List.mem_cons_self ..) with rfl | rfl<;>rcases hab with ⟨rfl,rfl⟩ | ⟨rfl,rfl⟩<;>simp [g9,List.count_cons]
theorem oz {c:List Nat} (hs:∀ x∈c,x=40\/x=41) (a b:Nat) (hab:(a=40/\b=41)\/(a=41/\b=40)) {i:Nat} (hi:i<=c.length):((aU c).take i).count a+(c.take (c.length - i)).count b=c.count b:=by
  rw [xP,mB a b hab _ fun x hx=>hs x (List.mem_of_mem_drop hx)]
  have:=congrArg (List.count b) (List.take_append_drop (c.length - i) c)
  rw [List.count_append] at this
  lia
theorem BJ {c:List Nat} (hs:∀ x∈c,x=40\/x=41) (hh:c.count 41=c.count 40) {i:Nat} (hi:i<=c.length):Dp (aU c) i=Dp c (c.length - i):=by
  have a:=oz hs 41 40 (.inr ⟨rfl,rfl⟩) hi
  have b:=jJ c hs (c.length - i) (by lia)
  have d:=jJ c hs c.length (Nat.le_refl _)
  rw [List.take_length] at d
  unfold Dp
  lia
theorem xY {c:List Nat} {i:Nat} (hi:i < c.length):(aU c).getD i 0=g9 (c.getD (c.length - 1 - i) 0):=by
  have e:c[c.length - 1 - i]? = some (c.getD (c.length - 1 - i) 0):=by
    rw [List.getD_eq_getElem?_getD,List.getElem?_eq_getElem (by lia)]; rfl
  rw [List.getD_eq_getElem?_getD]
  unfold aU
  rw [List.getElem?_reverse (by rw [List.length_map]; exact hi),List.length_map,List.getElem?_map,e]
  rfl
structure Wf (c:List Nat) (i:Nat) (fd:List Pair):Prop where
  ln:fd.length=(c.take i).count 41
  ix:∀ (j:Nat) (p:Pair),fd[j]? = some p->(c.take p.2.toNat).count 41=j
theorem Wf.up {c:List Nat} {i:Nat} {fd:List Pair} (w:Wf c i fd) (hi:i < c.length) (h:c.getD i 0=40):Wf c (i+1) fd:=by
  refine ⟨?_,w.ix⟩
  have ge:c.getD i 0=c[i]:=by rw [List.getD_eq_getElem?_getD,List.getElem?_eq_getElem hi]; rfl
  rw [List.take_succ_eq_append_getElem hi,List.count_append,<- ge,h,w.ln]
  rfl
theorem Wf.down {c:List Nat} {i:Nat} {fd:List Pair} {m:Int} (w:Wf c i fd) (hi:i < c.length) (h:c.getD i 0=41):Wf c (i+1) (fd++[(m,(i:Int))]):=by
  have ge:c.getD i 0=c[i]:=by rw [List.getD_eq_getElem?_getD,List.getElem?_eq_getElem hi]; rfl
  refine ⟨?_,fun j p hp=>?_⟩
  · rw [List.take_succ_eq_append_getElem hi,List.count_append,<- ge,h,List.length_append,w.ln]
    rfl
  · by_cases e:j < fd.length
    · rw [List.getElem?_append_left e] at hp
      exact w.ix j p hp
    · rw [List.getElem?_append_right (by lia)] at hp
      have e2:j - fd.length=0:=by
        have:=(List.getElem?_eq_some_iff.mp hp).1
        simpa using this
      rw [e2] at hp
      have hp:=Option.some.inj hp
      subst hp
      show (c.take ((i:Nat):Int).toNat).count 41=j
      rw [Int.toNat_natCast,<- w.ln]
      lia
theorem yJ {c:List Nat} (h:clo 0 c=true):∀ i,i<=c.length->∃ fd sk,Wk c i fd sk/\Wf c i fd/\clo sk.length (c.drop i)=true
  | 0,_=>⟨[],[],Wk.nil c,⟨by simp,fun j p hp=>by simp at hp⟩,by rw [List.drop_zero]; exact h⟩
  | i+1,hi=>by
    obtain ⟨fd,sk,w,f,hc⟩:=yJ h i (by lia)
    have lt:i < c.length:=by lia
    have ge:c.getD i 0=c[i]:=by rw [List.getD_eq_getElem?_getD,List.getElem?_eq_getElem lt]; rfl
    rw [List.drop_eq_getElem_cons lt] at hc
    by_cases e1:c[i]=40
    · rw [e1,cT] at hc
      exact ⟨fd,sk++[(i:Int)],w.up lt (by rw [ge]; exact e1),f.up lt (by rw [ge]; exact e1),by rw [List.length_append]; exact hc⟩
    · by_cases e2:c[i]=41
      · rw [e2] at hc
        rcases List.eq_nil_or_concat sk with rfl | ⟨sk0,m,rfl⟩
        · rw [show ([]:List Int).length=0 from rfl,dI] at hc
          cases hc
        · rw [List.concat_eq_append] at hc w
          rw [List.length_append,show [m].length=1 from rfl,cq] at hc
          exact ⟨_,sk0,w.down lt (by rw [ge]; exact e2),f.down lt (by rw [ge]; exact e2),hc⟩
      · rw [cZ e1 e2] at hc
        cases hc
theorem rL {c:List Nat} (h:clo 0 c=true):∃ fd,Wk c c.length fd []/\Wf c c.length fd:=by
  obtain ⟨fd,sk,w,f,hc⟩:=yJ h c.length (Nat.le_refl _)
  rw [List.drop_length,ee] at hc
  have:sk=[]:=List.eq_nil_of_length_eq_zero (by simpa using hc)
  subst this
  exact ⟨fd,w,f⟩
theorem eX {c:List Nat} {n:Nat} {fd:List Pair} (w:Wk c n fd []):fd.Perm (bu c n):=by
  have p:=w.prm
  rwa [List.map_nil,List.append_nil] at p
theorem mG {c:List Nat} (h:clo 0 c=true) {p:Pair} (hp:p∈bu c c.length):dD ((c.length:Int) - 1) p∈bu (aU c) c.length:=by
  obtain ⟨fd,w,f⟩:=rL h
  have hs:=dH c 0 h
  have hh:=sV h
  obtain ⟨p0,p1,p2,pd,pb⟩:=w.prs p ((eX w).mem_iff.mpr hp)
  obtain ⟨a,b⟩:=p
  simp only at p0 p1 p2 pd pb
  obtain ⟨x,rfl⟩:∃ x:Nat,a=(x:Int):=⟨a.toNat,by lia⟩
  obtain ⟨y,rfl⟩:∃ y:Nat,b=(y:Int):=⟨b.toNat,by lia⟩
  simp only [Int.toNat_natCast] at pd pb
  have hy:y < c.length:=by lia
  have ds:=iK hy
  have pb1:=pb (y - 1) (by lia) (by lia)
  rw [show y - 1+1=y by lia] at pb1
  have c41:c.getD y 0=41:=by
    by_cases e:c.getD y 0=41
    · exact e
    · rw [if_neg e] at ds; lia
  have e1:c.length - 1 - (c.length - 1 - y)=y:=by lia
  have g:=xY (c:=c) (i:=c.length - 1 - y) (by lia)
  rw [e1,c41] at g
  refine kf.mpr ⟨c.length - 1 - y,by lia,g,?_⟩
  have lm:=dg c
  have dm:∀ i,i<=c.length->Dp (aU c) i=Dp c (c.length - i):=fun i hi=>BJ hs hh hi
  have m:=oE (c:=aU c) (k:=c.length - 1 - y) (j:=c.length - 1 - x) (by lia) (by lia) (by
      rw [dm _ (by lia),dm _ (by lia),show c.length - (c.length - 1 - x+1)=x by lia,show c.length - (c.length - 1 - y)=y+1 by lia,pd]) (fun m h1 h2=>by
      rw [dm _ (by lia),dm _ (by lia),show c.length - (c.length - 1 - y)=y+1 by lia,pd]
      have:=pb (c.length - (m+1) - 1) (by lia) (by lia)
      rw [show c.length - (m+1) - 1+1=c.length - (m+1) by lia] at this
      lia)
  rw [m]
  unfold dD
  simp only [Prod.mk.injEq]
  lia
theorem xN (c:List Nat) (n:Nat):(bu c n).Nodup:=(jx c n).imp fun h e=>by rw [e] at h; lia
theorem mE {c:List Nat} (h:clo 0 c=true):clo 0 (aU c)=true:=by
  obtain ⟨t,rfl⟩:=iA c.length c (Nat.le_refl _) h
  have:=n9 t 0 []
  rw [List.append_nil] at this
  rw [this]
  rfl
theorem AH {c:List Nat} (h:clo 0 c=true):((bu c c.length).map (dD ((c.length:Int) - 1))).Perm (bu (aU c) c.length):=by
  have hs:=dH c 0 h
  refine (List.perm_ext_iff_of_nodup (p8 (g:=dD ((c.length:Int) - 1)) (xN _ _) fun x _=>uP _ x) (xN _ _)).mpr fun p=>⟨fun hp=>?_,fun hp=>?_⟩
  · obtain ⟨r,hr,rfl⟩:=List.mem_map.mp hp
    exact mG h hr
  · have:=mG (mE h) (p:=p) (by rw [dg]; exact hp)
    rw [dg,pQ hs] at this
    exact List.mem_map.mpr ⟨_,this,uP _ p⟩
theorem jC {c:List Nat} {n:Nat} {fd:List Pair} (w:Wk c n fd []) (f:Wf c n fd):(fd.map eC).Pairwise bR:=by
  rw [List.pairwise_map]
  refine List.pairwise_iff_getElem.mpr fun i j hi hj hij=>.inl ?_
  have a:=f.ix i _ (List.getElem?_eq_getElem hi)
  have b:=f.ix j _ (List.getElem?_eq_getElem hj)
  have pi:=w.prs _ (List.getElem_mem hi)
  have pj:=w.prs _ (List.getElem_mem hj)
  show fd[i].2 < fd[j].2
  by_cases lt:fd[i].2 < fd[j].2
  · exact lt
  · have:fd[j].2.toNat<=fd[i].2.toNat:=by lia
    have le:=(List.take_prefix_take_left this (l:=c)).sublist.count_le 41
    lia
theorem jR {c:List Nat} {n:Nat} {fd qs:List Pair} (w:Wk c n fd []) (f:Wf c n fd) (pm:qs.Perm ((bu c n).map eC)) (rs:qs.Pairwise bR):qs=fd.map eC :=
  gM rs (jC w f) (pm.trans ((eX w).symm.map eC))
theorem vf {c:List Nat} {n:Nat} {fd qs:List Pair} (w:Wk c n fd []) (f:Wf c n fd) (pm:qs.Perm ((bu c n).map eC)) (rs:qs.Pairwise bR):(qs.map fun q=>ba c q.2)=fd.map fun p=>ba c p.1:=by
  rw [jR w f pm rs,List.map_map]
  rfl
theorem Ay {c:List Nat} (h:clo 0 c=true) {fd fd':List Pair} (w:Wk c c.length fd []) (f:Wf c c.length fd) (w':Wk (aU c) c.length fd' []) (f':Wf (aU c) c.length fd')
    (hr:(fd.map fun p=>ba c p.1).Perm (cA (fd.map fun p=>ba c p.1).length)):(fd'.map fun p=>ba (aU c) p.1)=fS (fd.map fun p=>ba c p.1):=by
  have hs:=dH c 0 h
  have hh:=sV h
  have cm:=mE h
  have lf:fd.length=c.count 41:=by rw [f.ln,List.take_length]
  have lf':fd'.length=c.count 41:=by
    rw [f'.ln,<- dg c,List.take_length,mB 41 40 (.inr ⟨rfl,rfl⟩) c hs,hh]
  refine List.ext_getElem? fun k=>?_
  by_cases hk:k < fd'.length
  · have hk2:k < (fd.map fun p=>ba c p.1).length:=by rw [List.length_map]; lia
    obtain ⟨j,hj,ej,fj⟩:=Aw hr hk2
    rw [fj,List.getElem?_map,List.getElem?_eq_getElem hk]
    have ik:=f'.ix k _ (List.getElem?_eq_getElem hk)
    have mk:=(eX w').mem_iff.mp (List.getElem_mem hk)
    have pk:=w'.prs _ (List.getElem_mem hk)
    generalize fd'[k]=p' at *
    have back:=mG cm (p:=p') (by rw [dg]; exact mk)
    rw [dg,pQ hs] at back
    obtain ⟨i,hi⟩:=List.getElem?_of_mem ((eX w).mem_iff.mpr back)
    have ii:=f.ix i _ hi
    have li:=(List.getElem?_eq_some_iff.mp hi).1
    obtain ⟨a,b⟩:=p'
    simp only at pk ik
    obtain ⟨x,rfl⟩:∃ x:Nat,a=(x:Int):=⟨a.toNat,by lia⟩
    obtain ⟨y,rfl⟩:∃ y:Nat,b=(y:Int):=⟨b.toNat,by lia⟩
    have e0:dD ((c.length:Int) - 1) ((x:Int),(y:Int))=(((c.length - 1 - y:Nat):Int),((c.length - 1 - x:Nat):Int)):=by
      unfold dD
      simp only [Prod.mk.injEq]
      lia
    rw [e0] at hi ii back
    simp only [Int.toNat_natCast] at ii ik pk
    obtain ⟨o1,ho1,ho2,ho3⟩:=kf.mp back
    have e1:o1=c.length - 1 - y:=by
      have:=congrArg Prod.fst ho3
      simp only at this
      lia
    subst e1
    -- the ranks
    have r1:=oz hs 41 40 (.inr ⟨rfl,rfl⟩) (i:=y) (by lia)
    have r2:=oz hs 40 41 (.inl ⟨rfl,rfl⟩) (i:=x) (by lia)
    have c41:c.getD (c.length - 1 - x) 0=41:=by
      have q:=w.prs _ (List.mem_of_getElem? hi)
      simp only [Int.toNat_natCast] at q
      have ds:=iK (c:=c) (j:=c.length - 1 - x) (by lia)
      have pb1:=q.2.2.2.2 (c.length - 1 - x - 1) (by lia) (by lia)
      rw [show c.length - 1 - x - 1+1=c.length - 1 - x by lia] at pb1
      by_cases e:c.getD (c.length - 1 - x) 0=41
      · exact e
      · rw [if_neg e] at ds; lia
    have t1:(c.take (c.length - y)).count 40=(c.take (c.length - 1 - y)).count 40+1:=by
      have lt:c.length - 1 - y < c.length:=by lia
      have ge:c.getD (c.length - 1 - y) 0=c[c.length - 1 - y]:=by rw [List.getD_eq_getElem?_getD,List.getElem?_eq_getElem lt]; rfl
      rw [show c.length - y=c.length - 1 - y+1 by lia,List.take_succ_eq_append_getElem lt,List.count_append,<- ge,ho2]
      rfl
    have t2:(c.take (c.length - x)).count 41=(c.take (c.length - 1 - x)).count 41+1:=by
      have lt:c.length - 1 - x < c.length:=by lia
      have ge:c.getD (c.length - 1 - x) 0=c[c.length - 1 - x]:=by rw [List.getD_eq_getElem?_getD,List.getElem?_eq_getElem lt]; rfl
      rw [show c.length - x=c.length - 1 - x+1 by lia,List.take_succ_eq_append_getElem lt,List.count_append,<- ge,c41]
      rfl
    have ri:(fd.map fun p=>ba c p.1)[i]? = some (ba c ((c.length - 1 - y:Nat):Int)):=by rw [List.getElem?_map,hi]; rfl
    have vi:ba c ((c.length - 1 - y:Nat):Int)=((fd.map fun p=>ba c p.1).length:Int) - 1 - (k:Int):=by
      unfold ba
      rw [Int.toNat_natCast,List.length_map]
      lia
    have eij:i=j:=by
      have a:=rn hr ri
      have b:=rn hr ej
      rw [vi] at a
      lia
    subst eij
    show some (ba (aU c) ((x:Nat):Int))=some (((fd.map fun p=>ba c p.1).length:Int) - 1 - (i:Int))
    refine congrArg some ?_
    unfold ba
    rw [Int.toNat_natCast,List.length_map]
    lia
  · rw [List.getElem?_eq_none (by rw [List.length_map]; lia),List.getElem?_eq_none (by rw [tN,List.length_map]; lia)]
theorem kg (m:Int):∀ (t:Bt) (a:Int),((bH t a).map (dD m)).Perm (bH (cB t) (m - a - 1 - (t.size:Int)))
  | .leaf,a=>.refl _
  | .node l r,a=>by
    have il:=kg m l a
    have ir:=kg m r (a+1+(l.size:Int))
    have e1:m - (a+1+(l.size:Int)) - 1 - (r.size:Int)=m - a - 1 - (((Bt.node l r).size:Nat):Int):=by show _=m - a - 1 - ((l.size+r.size+1:Nat):Int); lia
    have e2:m - a - 1 - (l.size:Int)=m - a - 1 - (((Bt.node l r).size:Nat):Int)+1+((cB r).size:Int):=by rw [dN]; show _=m - a - 1 - ((l.size+r.size+1:Nat):Int)+1+(r.size:Int); lia
    rw [e1] at ir
    rw [e2] at il
    have e3:dD m (a,a+2+(l.size:Int)+(r.size:Int))=(m - a - 1 - (((Bt.node l r).size:Nat):Int),m - a - 1 - (((Bt.node l r).size:Nat):Int)+2+((cB r).size:Int)+((cB l).size:Int)):=by
      rw [dN,dN]
      unfold dD
      show (m - (a+2+(l.size:Int)+(r.size:Int)),m - a)=(m - a - 1 - ((l.size+r.size+1:Nat):Int),m - a - 1 - ((l.size+r.size+1:Nat):Int)+2+(r.size:Int)+(l.size:Int))
      simp only [Prod.mk.injEq]
      lia
    show ((dD m (a,a+2+(l.size:Int)+(r.size:Int)))::((bH l a++bH r (a+1+(l.size:Int))).map (dD m))).Perm (_::(bH (cB r) _++bH (cB l) _))
    rw [e3,List.map_append]
    exact .cons _ ((il.append ir).trans List.perm_append_comm)
theorem xW (t:Bt):((jy t 0).map (dD ((t.size:Int)+1))).Perm (jy (cB t) 0):=by
  cases t with
  | leaf=>exact .refl _
  | node l r =>
    have il:=kg (((Bt.node l r).size:Int)+1) l 0
    have ir:=kg (((Bt.node l r).size:Int)+1) r (0+1+(l.size:Int))
    have e1:(((Bt.node l r).size:Nat):Int)+1 - (0+1+(l.size:Int)) - 1 - (r.size:Int)=0:=by show ((l.size+r.size+1:Nat):Int)+1 - _ - 1 - _=_; lia
    have e2:(((Bt.node l r).size:Nat):Int)+1 - 0 - 1 - (l.size:Int)=0+1+((cB r).size:Int):=by rw [dN]; show ((l.size+r.size+1:Nat):Int)+1 - _ - 1 - _=_; lia
    rw [e1] at ir
    rw [e2] at il
    show ((bH l 0++bH r (0+1+(l.size:Int))).map _).Perm (bH (cB r) 0++bH (cB l) (0+1+((cB r).size:Int)))
    rw [List.map_append]
    exact (il.append ir).trans List.perm_append_comm
end Ck
namespace L2
open PySem PySem.Spec
variable {X:Cx}
noncomputable def DQ (K:W.Frag):V->List V->Hp->VK->Prop:=fun x vs H Q=>vA x vs H Q\/Af K x vs H Q
theorem AV:uw X "list.extend" (DQ X.K):=fun pins s σ H x vs v us Q I rx rv h =>
  h.elim (pE pins s σ H x vs v us Q I rx rv) (AE pins s σ H x vs v us Q I rx rv)
end L2
set_option Elab.async false
set_option linter.all false
set_option maxRecDepth 100000
set_option maxHeartbeats 4000000
namespace L2
open PySem PySem.Spec PyProof.Rows
section
variable {X:Cx} {f:Addr} {fd:FuncData} {ps:List Str} {sp:Sp} {x:Str} {p pos:Pos} {a b e:Expr} {es:List Expr} {tc:TE} {t:TA} {j k:Nat}
end
end L2
set_option Elab.async false
set_option linter.all false
set_option maxRecDepth 100000
set_option maxHeartbeats 4000000
namespace Dk
open PySem PyProof.Rows
section
variable {prog:Program} {w:World} {K:Type} [DecidableEq K] {knd:KeyKind prog w K} {A:Around} {E:Value->Shared->Prop} {s:Shared}
end
end Dk
namespace L2
open PySem PySem.Spec PyProof.Rows
end L2
namespace L2
open PySem PySem.Spec PyProof.Rows
end L2
namespace Ck
open PySem L2
end Ck
namespace L2
open PySem PySem.Spec PyProof.Rows Ck
section
variable {X:Cx}
end
end L2
namespace Ck
open PySem L2
end Ck
namespace Ck
open PySem L2
end Ck
namespace L2
open PySem PySem.Spec PyProof.Rows Ck
end L2
namespace L2
open PySem PySem.Spec PyProof.Rows Ck
end L2
set_option Elab.async false
set_option linter.all false
set_option maxRecDepth 100000
set_option maxHeartbeats 4000000
namespace Ck
open PySem L2
end Ck
namespace Ck
open PySem L2
section
variable {es:List Int} (hin:inR es=true) (reach:∀ k:Int,1<=k->k<=(es.length:Int)->De es es.length k=0)
include hin reach
end
section
variable {ws:List Int} (c:Fu ws)
include c
end
section
variable {es:List Int} (hin:inR es=true) (reach:∀ k:Int,1<=k->k<=(es.length:Int)->De es es.length k=0)
include hin reach
end
end Ck
namespace L2
open PySem PySem.Spec PyProof.Rows PySem.SeqAt
section
variable {X:Cx} {o e:Expr} {es:List Expr} {to:TE} {t:TA} {name:Str} {apos cpos:Pos} {T id:String} {r:V->List V->Hp->VK->Prop}
end
end L2
set_option Elab.async false
set_option linter.all false
set_option maxRecDepth 100000
namespace Ck
open PySem PySem.W PySem.Calls PyProof.Rows
noncomputable def u9 {α:Type} (p q:Program) (loose:List Str) (Xt:Shared->Bool) (Yf:Shared->α) (h0:Heap) (s:Shared) :=
  ((staticsOk (importedModules p.main.body) h0 s.heap&&namesBound p s.heap&&gensDone s&&laidKept h0 s.heap),
    openSeen q loose (importedModules p.main.body) Xt true s,Yf s)
theorem wz {p q:Program} {loose:List Str} {Xt:Shared->Bool} {α:Type} {Yf:Shared->α} {Ya:World->α} {N M m:Nat} {H:Params->Heap} {gs:Array GenState} {dr:Drawn} {tk:Nat} {an:Option Value}
    (o:∀ w:World,(fencedOpening treeTable p w N).map (fun s=>(s.heap,s.gens,s.drawn,s.toks))=some (H w.params,gs,dr,tk))
    (z:∀ w:World,((H w.params).isNs mainGlobals&&gs.size == 0,(H w.params).objs.size,(H w.params).nsMap mainGlobals "__annotations__")=(true,m,an))
    (r:∀ (w:World) (os:OsState),∃ e,topRun treeTable p w m an M ⟨H w.params,gs,dr,tk,os⟩ (topStub p)=some e/\u9 p q loose Xt Yf (H w.params) e=(true,openGood q loose,Ya w))
    (le:M<=N):LeftO p q loose Xt Yf Ya N:=by
  intro w
  have ow:=o w
  cases hf:fencedOpening treeTable p w N with
  | none=>rw [hf] at ow; cases ow
  | some s =>
    rw [hf] at ow
    have os:=Option.some.inj ow
    have e1:s.heap=H w.params:=congrArg Prod.fst os
    have e2:s.gens=gs:=congrArg (fun x=>x.2.1) os
    have e3:s.drawn=dr:=congrArg (fun x=>x.2.2.1) os
    have e4:s.toks=tk:=congrArg (fun x=>x.2.2.2) os
    obtain ⟨e,run,look⟩:=r w s.os
    have hs:s=⟨H w.params,gs,dr,tk,s.os⟩:=by rw [<- e1,<- e2,<- e3,<- e4]
    have run':=topRun_mono (N - M) _ _ _ _ run
    rw [Nat.add_sub_cancel' le] at run'
    have zw:=z w
    have z1:=congrArg Prod.fst zw
    have z2:=congrArg (fun x=>x.2.1) zw
    have z3:=congrArg (fun x=>x.2.2) zw
    dsimp only at z1 z2 z3
    have l1:=congrArg Prod.fst look
    have l2:=congrArg Prod.snd look
    have tf:topFrom treeTable p w N s=some e:=by
      rw [hs]
      unfold topFrom
      dsimp only
      rw [z1,z2,z3,run']
      unfold u9 at l1
      dsimp only at l1
      dsimp only [Option.bind]
      rw [l1]
    unfold openEnds
    rw [hf,Option.bind_some,tf]
    exact congrArg some l2
noncomputable def alive (o:Obj):Option Obj:=match o with
  | ⟨_,_,.freed,_⟩=>none
  | o=>some o
noncomputable def fE:List Obj->List Bool->List (Option Obj)
  | _,[]=>[]
  | [],true::m=>none::fE [] m
  | [],false::m=>fE [] m
  | o::os,true::m=>alive o::fE os m
  | _::os,false::m=>fE os m
noncomputable def jo:List Bool->Nat->List Nat
  | [],_=>[]
  | true::m,i=>i::jo m (i+1)
  | false::m,i=>jo m (i+1)
theorem oQ:∀ (m:List Bool) (os:List Obj) (pre:List Obj),fE os m=(jo m pre.length).map fun a=>(pre++os)[a]?.bind alive
  | [],os,pre=>by cases os<;>rfl
  | b::m,[],pre=>by
    have k:=oQ m [] (pre++[default])
    rw [List.length_append,List.length_singleton] at k
    have e:∀ i,pre.length < i->((pre++[(default:Obj)])++[])[i]?.bind alive=(pre++[])[i]?.bind alive:=fun i hi=>by
      rw [List.getElem?_eq_none (by simp; lia),List.getElem?_eq_none (by simp; lia)]
    have lt:∀ (m:List Bool) (n i:Nat),i∈jo m n->n<=i:=by
      intro m
      induction m with
      | nil=>intro n i h; cases h
      | cons b m ih=>intro n i h; cases b with
        | true =>
          rcases List.mem_cons.1 h with h | h
          · lia
          · have:=ih _ _ h; lia
        | false=>have:=ih _ _ h; lia
    have k':fE [] m=(jo m (pre.length+1)).map fun a=>(pre++[])[a]?.bind alive:=by
      rw [k]; exact List.map_congr_left fun i hi=>e i (lt _ _ _ hi)
    cases b with
    | true=>show none::fE [] m=_::_; rw [k']; congr 1; simp
    | false=>exact k'
  | b::m,o::os,pre=>by
    have k:=oQ m os (pre++[o])
    rw [List.length_append,List.length_singleton,List.append_assoc,List.singleton_append] at k
    cases b with
    | true=>show alive o::fE os m=_::_; rw [k]; congr 1; simp
    | false=>exact k
theorem yR (h:Heap) (a:Addr):h.get? a=h.objs.toList[a]?.bind alive:=by
  unfold Heap.get?
  rw [Array.getElem?_toList]
  cases h.objs[a]? with
  | none=>rfl
  | some o=>obtain ⟨c,d,x,s⟩:=o; cases x<;>rfl
theorem A2 {m:List Bool} {as:List Addr} (e:as=jo m 0) (h:Heap):as.map h.get? = fE h.objs.toList m:=by
  rw [oQ m h.objs.toList [],e]
  exact List.map_congr_left fun a _=>yR h a
section
variable {tb:String->Option Builtin} {p:Program} {w:World} {m:Nat} {an:Option Value} {env:Env} {q:Pos}
noncomputable def n8 {β:Type} (tb:String->Option Builtin) (p:Program) (w:World) (m:Nat) (an:Option Value) (q:Pos) (c:Code) (n4:Nat) (L:Shared->β) (r:Flow × SharedT × Code × Pos):Flow × Code × Option β :=
  (r.1,r.2.2.1,(topRun tb p w m an n4 r.2.1.abs ⟨doneF .next,c,r.2.2.2,[topFrame q]⟩).map L)
theorem yL {β:Type} {L:Shared->β} {b:List Stmt} {c:Code} {n1 n2 n3 n4:Nat} {S0 Sa:Shared} {Sb:SharedT} {pos0 pos1:Pos} {z:β} (hc:c = .body b env)
    (h1:topGo tb p w m an n1 S0 (topStub p)=some (Sa,⟨denote tb c,c,pos0,[topFrame q]⟩))
    (h2:segRun tb p w m an 1 n2 Sa (blockOf b env c pos0 [topFrame q])=some (.next,Sb.abs,c,pos1))
    (h3:(segRunT tb p w m an 1 n3 Sb (piecesOf b env c pos1 [topFrame q])).map (n8 tb p w m an q c n4 L)=some (.next,c,some z)) :
    ∃ e,topRun tb p w m an (n1+(n2+(n3+n4))) S0 (topStub p)=some e/\L e=z:=by
  cases hr:segRunT tb p w m an 1 n3 Sb (piecesOf b env c pos1 [topFrame q]) with
  | none=>rw [hr] at h3; cases h3
  | some x =>
    obtain ⟨f,s,d,ps⟩:=x
    rw [hr] at h3
    have h3:=Option.some.inj h3
    unfold n8 at h3
    have a1:f = .next:=congrArg Prod.fst h3
    have a2:d=c:=congrArg (fun x=>x.2.1) h3
    have a3:=congrArg (fun x=>x.2.2) h3
    dsimp only at a3
    subst a1 a2 hc
    cases ht:topRun tb p w m an n4 s.abs ⟨doneF .next,.body b env,ps,[topFrame q]⟩ with
    | none=>rw [ht] at a3; cases a3
    | some e =>
      rw [ht] at a3
      have k:=piece_app (rest:=[]) (segRun_of hr) (piece_nil ht)
      rw [List.append_nil] at k
      exact ⟨e,go_top h1 (piece_block h2 k),Option.some.inj a3⟩
end
end Ck
set_option maxHeartbeats 4000000
namespace Ck
open PySem L2
noncomputable def top (i:Nat):Stmt:=PySem.Challenge.pw_countkin_k41_mirrors_meet.main.body.getD i (.Pass ⟨0,0,0,0⟩)
structure aW where
 aA:Addr
 aE:Addr
 a8:Addr
 bo:Addr
 aS:Addr
 aP:Addr
 aL:Addr
 qw:Addr
 vR:Addr
 i0:Addr
 qN:Addr
 mC:Addr
 qJ:Addr
 xw:Addr
 qQ:Addr
 qp:Addr
 vK:Addr
 qI:Addr
 xh:Addr
 qz:Addr
 qK:Addr
 vQ:Addr
 qv:Addr
 we:Addr
 kJ:Addr
 qD:Addr
 oI:Addr
 qH:Addr
 w4:Addr
 qL:Addr
 qx:Addr
 wt:Addr
structure Br (K:W.Frag) (mg:Str->Option Value) (ca:aW):Prop where
 gv:mg "Brackets" = some (.ref ca.aA)
 dk:mg "SplitFamily" = some (.ref ca.aE)
 gX:mg "Family" = some (.ref ca.a8)
 B1:mg "Bows" = some (.ref ca.bo)
 A0:mg "Turns" = some (.ref ca.aS)
 oy:mg "Twins" = some (.ref ca.aP)
 zo:mg "Floors" = some (.ref ca.aL)
 de:g8 K ca.aA
 ny:g8 K ca.bo
 kl:g8 K ca.aS
 gB:g8 K ca.aP
 i9:g8 K ca.aL
 mt_Brackets_refuse_other:Meth K ca.aA "refuse_other" ca.mC
 mt_Brackets_is_one:Meth K ca.aA "is_one" ca.qN
 mt_Bows_refuse_other:Meth K ca.bo "refuse_other" ca.vK
 mt_Bows_is_one:Meth K ca.bo "is_one" ca.qp
 mt_Turns_refuse_other:Meth K ca.aS "refuse_other" ca.vQ
 mt_Turns_is_one:Meth K ca.aS "is_one" ca.qK
 mt_Twins_refuse_other:Meth K ca.aP "refuse_other" ca.oI
 mt_Twins_is_one:Meth K ca.aP "is_one" ca.qD
 mt_Floors_refuse_other:Meth K ca.aL "refuse_other" ca.wt
 mt_Floors_is_one:Meth K ca.aL "is_one" ca.qx
 mk_Brackets:Mk K ca.aA ca.i0
 mk_Bows:Mk K ca.bo ca.qQ
 mk_Turns:Mk K ca.aS ca.qz
 mk_Twins:Mk K ca.aP ca.kJ
 mk_Floors:Mk K ca.aL ca.qL
 cm_SplitFamily___init___Brackets:gW K ca.aE "__init__" ca.vR
 cm_Family___init___Brackets:gW K ca.a8 "__init__" ca.qw
 cm_SplitFamily___init___Bows:gW K ca.aE "__init__" ca.xw
 cm_Family___init___Bows:gW K ca.a8 "__init__" ca.qJ
 cm_SplitFamily___init___Turns:gW K ca.aE "__init__" ca.xh
 cm_Family___init___Turns:gW K ca.a8 "__init__" ca.qI
 cm_SplitFamily___init___Twins:gW K ca.aE "__init__" ca.we
 cm_Family___init___Twins:gW K ca.a8 "__init__" ca.qv
 cm_SplitFamily___init___Floors:gW K ca.aE "__init__" ca.w4
 cm_Family___init___Floors:gW K ca.a8 "__init__" ca.qH
 d5:cI K ca.aA "word"
 dR:cI K ca.aA "least"
 gF:cI K ca.bo "word"
 fV:cI K ca.bo "least"
 fQ:cI K ca.aS "word"
 fu:cI K ca.aS "least"
 fN:cI K ca.aP "word"
 ff:cI K ca.aP "least"
 eY:cI K ca.aL "word"
 eI:cI K ca.aL "least"
noncomputable abbrev kX:Stmt:=top 46
theorem ya:ar ["_law_cell","_law_turn","_law_number"] ["_law_cell","_law_turn"] (ae kX):=⟨rfl,rfl,rfl,by decide +kernel,rfl,by decide +kernel,by decide +kernel⟩
noncomputable abbrev lQ:Stmt:=top 47
theorem fI:ar ["_law_script","_law_turn","_law_many","_law_cells","_law_found","_law_lefts","_law_k","_law_at","_law_number"] ["_law_script","_law_turn","_law_many"] (ae lQ):=⟨rfl,rfl,rfl,by decide +kernel,rfl,by decide +kernel,by decide +kernel⟩
noncomputable abbrev kL:Stmt:=top 48
theorem dG:ar ["_law_script","_law_size_here","_law_turn","_law_draws_here","_law_lean","_law_signs","_law_ups","_law_k","_law_height","_law_up"] ["_law_script","_law_size_here","_law_turn"] (ae kL):=⟨rfl,rfl,rfl,by decide +kernel,rfl,by decide +kernel,by decide +kernel⟩
noncomputable abbrev kN:Stmt:=top 44
theorem Dr:ar ["_law_script","_law_k"] ["_law_script","_law_k"] (ae kN):=⟨rfl,rfl,rfl,by decide +kernel,rfl,by decide +kernel,by decide +kernel⟩
noncomputable abbrev lL:Stmt:=top 59
theorem nL:ar ["_law_text","_law_found","_law_sign"] ["_law_text"] (ae lL):=⟨rfl,rfl,rfl,by decide +kernel,rfl,by decide +kernel,by decide +kernel⟩
noncomputable abbrev kh:Stmt:=inClass (top 10) 0
theorem BY:ar ["self","word","least"] ["self","word","least"] (ae kh):=⟨rfl,rfl,rfl,by decide +kernel,rfl,by decide +kernel,by decide +kernel⟩
noncomputable abbrev oY:Stmt:=inClass (top 11) 0
theorem DO:ar ["self","word"] ["self","word"] (ae oY):=⟨rfl,rfl,rfl,by decide +kernel,rfl,by decide +kernel,by decide +kernel⟩
noncomputable abbrev lU:Stmt:=inClass (top 23) 0
theorem Co:ar ["self"] ["self"] (ae lU):=⟨rfl,rfl,rfl,by decide +kernel,rfl,by decide +kernel,by decide +kernel⟩
noncomputable abbrev lP:Stmt:=top 21
theorem jP:ar ["text","depth","sign"] ["text"] (ae lP):=⟨rfl,rfl,rfl,by decide +kernel,rfl,by decide +kernel,by decide +kernel⟩
noncomputable abbrev kM:Stmt:=inClass (top 23) 2
theorem C4:ar ["self","thing"] ["self","thing"] (ae kM):=⟨rfl,rfl,rfl,by decide +kernel,rfl,by decide +kernel,by decide +kernel⟩
noncomputable abbrev oJ:Stmt:=inClass (top 10) 7
theorem Ep:ar ["self","thing"] ["self","thing"] (ae oJ):=⟨rfl,rfl,rfl,by decide +kernel,rfl,by decide +kernel,by decide +kernel⟩
noncomputable abbrev kq:Stmt:=top 27
theorem B6:ar ["thing"] ["thing"] (ae kq):=⟨rfl,rfl,rfl,by decide +kernel,rfl,by decide +kernel,by decide +kernel⟩
noncomputable abbrev kd:Stmt:=top 45
theorem DJ:ar ["_law_found"] ["_law_found"] (ae kd):=⟨rfl,rfl,rfl,by decide +kernel,rfl,by decide +kernel,by decide +kernel⟩
noncomputable abbrev jZ:Stmt:=top 50
theorem xM:ar ["_law_found","_law_due","_law_k"] ["_law_found","_law_due"] (ae jZ):=⟨rfl,rfl,rfl,by decide +kernel,rfl,by decide +kernel,by decide +kernel⟩
noncomputable abbrev lW:Stmt:=top 54
theorem nJ:ar ["_law_text","_law_at","_law_height","_law_k"] ["_law_text","_law_at"] (ae lW):=⟨rfl,rfl,rfl,by decide +kernel,rfl,by decide +kernel,by decide +kernel⟩
noncomputable abbrev lO:Stmt:=top 55
theorem Ce:ar ["_law_text"] ["_law_text"] (ae lO):=⟨rfl,rfl,rfl,by decide +kernel,rfl,by decide +kernel,by decide +kernel⟩
noncomputable abbrev lF:Stmt:=inClass (top 10) 0
theorem Cc:ar ["self","word","least"] ["self","word","least"] (ae lF):=⟨rfl,rfl,rfl,by decide +kernel,rfl,by decide +kernel,by decide +kernel⟩
noncomputable abbrev oq:Stmt:=inClass (top 11) 0
theorem D1:ar ["self","word"] ["self","word"] (ae oq):=⟨rfl,rfl,rfl,by decide +kernel,rfl,by decide +kernel,by decide +kernel⟩
noncomputable abbrev kO:Stmt:=inClass (top 13) 0
theorem Bn:ar ["self"] ["self"] (ae kO):=⟨rfl,rfl,rfl,by decide +kernel,rfl,by decide +kernel,by decide +kernel⟩
noncomputable abbrev jS:Stmt:=top 3
theorem CC:ar ["numbers"] ["numbers"] (ae jS):=⟨rfl,rfl,rfl,by decide +kernel,rfl,by decide +kernel,by decide +kernel⟩
noncomputable abbrev jU:Stmt:=top 2
theorem sY:ar ["rows","found","row"] ["rows"] (ae jU):=⟨rfl,rfl,rfl,by decide +kernel,rfl,by decide +kernel,by decide +kernel⟩
noncomputable abbrev kP:Stmt:=top 4
theorem jK:ar ["pairs","a","b","c","d"] ["pairs"] (ae kP):=⟨rfl,rfl,rfl,by decide +kernel,rfl,by decide +kernel,by decide +kernel⟩
noncomputable abbrev jT:Stmt:=inClass (top 13) 2
theorem Cn:ar ["self","thing"] ["self","thing"] (ae jT):=⟨rfl,rfl,rfl,by decide +kernel,rfl,by decide +kernel,by decide +kernel⟩
noncomputable abbrev nY:Stmt:=inClass (top 10) 7
theorem DL:ar ["self","thing"] ["self","thing"] (ae nY):=⟨rfl,rfl,rfl,by decide +kernel,rfl,by decide +kernel,by decide +kernel⟩
noncomputable abbrev ku:Stmt:=top 5
theorem Cf:ar ["pairs"] ["pairs"] (ae ku):=⟨rfl,rfl,rfl,by decide +kernel,rfl,by decide +kernel,by decide +kernel⟩
noncomputable abbrev j6:Stmt:=top 29
theorem BD:ar ["pairs","last"] ["pairs","last"] (ae j6):=⟨rfl,rfl,rfl,by decide +kernel,rfl,by decide +kernel,by decide +kernel⟩
noncomputable abbrev kA:Stmt:=top 28
theorem BU:ar ["thing"] ["thing"] (ae kA):=⟨rfl,rfl,rfl,by decide +kernel,rfl,by decide +kernel,by decide +kernel⟩
noncomputable abbrev kU:Stmt:=top 40
theorem jQ:ar ["thing","found","stack","place","sign"] ["thing"] (ae kU):=⟨rfl,rfl,rfl,by decide +kernel,rfl,by decide +kernel,by decide +kernel⟩
noncomputable abbrev kK:Stmt:=top 49
theorem yb:ar ["_law_found","_law_due","_law_k"] ["_law_found","_law_due"] (ae kK):=⟨rfl,rfl,rfl,by decide +kernel,rfl,by decide +kernel,by decide +kernel⟩
noncomputable abbrev ka:Stmt:=top 56
theorem yC:ar ["_law_text","_law_closings"] ["_law_text"] (ae ka):=⟨rfl,rfl,rfl,by decide +kernel,rfl,by decide +kernel,by decide +kernel⟩
noncomputable abbrev lA:Stmt:=inClass (top 10) 0
theorem Ca:ar ["self","word","least"] ["self","word","least"] (ae lA):=⟨rfl,rfl,rfl,by decide +kernel,rfl,by decide +kernel,by decide +kernel⟩
noncomputable abbrev oW:Stmt:=inClass (top 11) 0
theorem Et:ar ["self","word"] ["self","word"] (ae oW):=⟨rfl,rfl,rfl,by decide +kernel,rfl,by decide +kernel,by decide +kernel⟩
noncomputable abbrev km:Stmt:=inClass (top 18) 0
theorem BM:ar ["self"] ["self"] (ae km):=⟨rfl,rfl,rfl,by decide +kernel,rfl,by decide +kernel,by decide +kernel⟩
noncomputable abbrev lE:Stmt:=top 19
theorem jM:ar ["numbers","stack","put","number"] ["numbers"] (ae lE):=⟨rfl,rfl,rfl,by decide +kernel,rfl,by decide +kernel,by decide +kernel⟩
noncomputable abbrev j7:Stmt:=inClass (top 18) 2
theorem DC:ar ["self","thing"] ["self","thing"] (ae j7):=⟨rfl,rfl,rfl,by decide +kernel,rfl,by decide +kernel,by decide +kernel⟩
noncomputable abbrev oR:Stmt:=inClass (top 10) 7
theorem DX:ar ["self","thing"] ["self","thing"] (ae oR):=⟨rfl,rfl,rfl,by decide +kernel,rfl,by decide +kernel,by decide +kernel⟩
noncomputable abbrev lD:Stmt:=top 33
theorem jO:ar ["thing","last","found","place","number"] ["thing"] (ae lD):=⟨rfl,rfl,rfl,by decide +kernel,rfl,by decide +kernel,by decide +kernel⟩
noncomputable abbrev kI:Stmt:=top 41
theorem fH:ar ["text","runs","stack","begun","ahead","sign"] ["text"] (ae kI):=⟨rfl,rfl,rfl,by decide +kernel,rfl,by decide +kernel,by decide +kernel⟩
noncomputable abbrev ma:Stmt:=top 42
theorem C6:ar ["thing"] ["thing"] (ae ma):=⟨rfl,rfl,rfl,by decide +kernel,rfl,by decide +kernel,by decide +kernel⟩
noncomputable abbrev kT:Stmt:=inClass (top 10) 0
theorem CL:ar ["self","word","least"] ["self","word","least"] (ae kT):=⟨rfl,rfl,rfl,by decide +kernel,rfl,by decide +kernel,by decide +kernel⟩
noncomputable abbrev oN:Stmt:=inClass (top 11) 0
theorem Ew:ar ["self","word"] ["self","word"] (ae oN):=⟨rfl,rfl,rfl,by decide +kernel,rfl,by decide +kernel,by decide +kernel⟩
noncomputable abbrev kr:Stmt:=inClass (top 25) 0
theorem B9:ar ["self"] ["self"] (ae kr):=⟨rfl,rfl,rfl,by decide +kernel,rfl,by decide +kernel,by decide +kernel⟩
noncomputable abbrev kY:Stmt:=inClass (top 25) 2
theorem C9:ar ["self","thing"] ["self","thing"] (ae kY):=⟨rfl,rfl,rfl,by decide +kernel,rfl,by decide +kernel,by decide +kernel⟩
noncomputable abbrev oS:Stmt:=inClass (top 10) 7
theorem Eb:ar ["self","thing"] ["self","thing"] (ae oS):=⟨rfl,rfl,rfl,by decide +kernel,rfl,by decide +kernel,by decide +kernel⟩
noncomputable abbrev kS:Stmt:=top 31
theorem Bp:ar ["twin"] ["twin"] (ae kS):=⟨rfl,rfl,rfl,by decide +kernel,rfl,by decide +kernel,by decide +kernel⟩
noncomputable abbrev kE:Stmt:=top 30
theorem Cp:ar ["thing"] ["thing"] (ae kE):=⟨rfl,rfl,rfl,by decide +kernel,rfl,by decide +kernel,by decide +kernel⟩
noncomputable abbrev kH:Stmt:=top 35
theorem iF:ar ["thing","waiting","twin","place"] ["thing"] (ae kH):=⟨rfl,rfl,rfl,by decide +kernel,rfl,by decide +kernel,by decide +kernel⟩
noncomputable abbrev kZ:Stmt:=top 60
theorem Bx:ar ["_law_thing"] ["_law_thing"] (ae kZ):=⟨rfl,rfl,rfl,by decide +kernel,rfl,by decide +kernel,by decide +kernel⟩
noncomputable abbrev lh:Stmt:=top 52
theorem iH:ar ["_law_text","_law_pile","_law_here","_law_k"] ["_law_text"] (ae lh):=⟨rfl,rfl,rfl,by decide +kernel,rfl,by decide +kernel,by decide +kernel⟩
noncomputable abbrev kQ:Stmt:=top 53
theorem Cw:ar ["_law_thing"] ["_law_thing"] (ae kQ):=⟨rfl,rfl,rfl,by decide +kernel,rfl,by decide +kernel,by decide +kernel⟩
noncomputable abbrev kW:Stmt:=top 57
theorem yG:ar ["_law_thing","_law_low","_law_high","_law_corner"] ["_law_thing","_law_low","_law_high"] (ae kW):=⟨rfl,rfl,rfl,by decide +kernel,rfl,by decide +kernel,by decide +kernel⟩
noncomputable abbrev kz:Stmt:=top 58
theorem rB:ar ["_law_text","_law_thing","_law_size_here"] ["_law_text"] (ae kz):=⟨rfl,rfl,rfl,by decide +kernel,rfl,by decide +kernel,by decide +kernel⟩
noncomputable abbrev lH:Stmt:=top 36
theorem nk:ar ["thing","signs","waiting","one"] ["thing"] (ae lH):=⟨rfl,rfl,rfl,by decide +kernel,rfl,by decide +kernel,by decide +kernel⟩
noncomputable abbrev jX:Stmt:=top 51
theorem Cv:ar ["_law_found","_law_due"] ["_law_found","_law_due"] (ae jX):=⟨rfl,rfl,rfl,by decide +kernel,rfl,by decide +kernel,by decide +kernel⟩
noncomputable abbrev j0:Stmt:=inClass (top 10) 0
theorem C1:ar ["self","word","least"] ["self","word","least"] (ae j0):=⟨rfl,rfl,rfl,by decide +kernel,rfl,by decide +kernel,by decide +kernel⟩
noncomputable abbrev oG:Stmt:=inClass (top 11) 0
theorem Ej:ar ["self","word"] ["self","word"] (ae oG):=⟨rfl,rfl,rfl,by decide +kernel,rfl,by decide +kernel,by decide +kernel⟩
noncomputable abbrev kj:Stmt:=inClass (top 15) 0
theorem Dm:ar ["self"] ["self"] (ae kj):=⟨rfl,rfl,rfl,by decide +kernel,rfl,by decide +kernel,by decide +kernel⟩
noncomputable abbrev ki:Stmt:=top 16
theorem Bk:ar ["corners","a","b"] ["corners","a","b"] (ae ki):=⟨rfl,rfl,rfl,by decide +kernel,rfl,by decide +kernel,by decide +kernel⟩
noncomputable abbrev lZ:Stmt:=inClass (top 15) 2
theorem sE:ar ["self","thing","corners","cuts"] ["self","thing"] (ae lZ):=⟨rfl,rfl,rfl,by decide +kernel,rfl,by decide +kernel,by decide +kernel⟩
noncomputable abbrev oB:Stmt:=inClass (top 10) 7
theorem DN:ar ["self","thing"] ["self","thing"] (ae oB):=⟨rfl,rfl,rfl,by decide +kernel,rfl,by decide +kernel,by decide +kernel⟩
noncomputable abbrev md:Stmt:=top 32
theorem CV:ar ["thing"] ["thing"] (ae md):=⟨rfl,rfl,rfl,by decide +kernel,rfl,by decide +kernel,by decide +kernel⟩
noncomputable abbrev lK:Stmt:=top 38
theorem rY:ar ["lines","twin","corner","third","end"] ["lines","twin","corner"] (ae lK):=⟨rfl,rfl,rfl,by decide +kernel,rfl,by decide +kernel,by decide +kernel⟩
noncomputable abbrev lI:Stmt:=top 37
theorem sS:ar ["thing","lines","last"] ["thing"] (ae lI):=⟨rfl,rfl,rfl,by decide +kernel,rfl,by decide +kernel,by decide +kernel⟩
noncomputable abbrev gn:Stmt:=top 61
theorem jH:ar ["_law_script","_law_text","_law_mirror_here","_law_twins","_law_floor_here"] ["_law_script"] (ae gn):=⟨rfl,rfl,rfl,by decide +kernel,rfl,by decide +kernel,by decide +kernel⟩
noncomputable def rG (_:W.Frag) (_:aW):Sp:=fun vs H Q _=>∃ c t:Int,vs=[.int c,.int t]/\0<=t/\t<=100000/\∀ m:Int,0<=m->m < 2147483629->Q (.int m) H
noncomputable def rD (K:W.Frag) (_:aW):Sp:=fun vs H Q _=>∃ (a:Addr) (ns:List Int) (t m:Int),vs=[.ref a,.int t,.int m]/\au K H a (ns.map V.int)/\ns.length<=63/\0<=t/\t<=1000/\0<=m/\m<=1000 /\
 ∀ (p:Addr) (xs:List Int) (H':Hp),af H H'->H p=none->H' p=some (.lst (xs.map V.int))->xs.length=m.toNat->(∀ x∈xs,0<=x/\x < 2147483587)->Q (.ref p) H'
noncomputable def sT (K:W.Frag) (_:aW):Sp:=fun vs H Q _=>∃ (a:Addr) (ns:List Int) (n t:Int),vs=[.ref a,.int n,.int t]/\au K H a (ns.map V.int)/\ns.length<=63/\0<=n/\n<=40/\0<=t/\t<=1000 /\
 ∀ (x:Str) (H':Hp),af H H'->clo 0 x.cps.toList=true->x.length=2*n.toNat->Q (.str x) H'
noncomputable def sL (K:W.Frag) (_:aW):Sp:=fun vs H Q _=>∃ (a:Addr) (ns:List Int) (k:Int),vs=[.ref a,.int k]/\au K H a (ns.map V.int)/\0<=k/\Q (.int (ns.getD k.toNat 0)) H
noncomputable def rf (K:W.Frag) (_:aW):Sp:=fun vs H Q _=>∃ (t:Str),vs=[.str t]/\t.length<=80/\(∀ x∈t.cps.toList,x=40\/x=41)/\∀ (y:Str),y.cps.toList=aU t.cps.toList->Q (.str y) H
noncomputable def tK (_:W.Frag) (ca:aW):Sp:=fun vs H Q _=>∃ (x dx:Addr) (w:Str) (l:Int),vs=[.ref x,.str w,.int l]/\H x=some (.ins ca.aA dx [])/\∀ (fs:List (Str × V)) (H':Hp),H'=upd H x (.ins ca.aA dx fs)->dM fs w l->Q .non H'
noncomputable def w6 (_:W.Frag) (ca:aW):Sp:=fun vs H Q _=>∃ (x dx:Addr) (w:Str),vs=[.ref x,.str w]/\H x=some (.ins ca.aA dx [])/\∀ (fs:List (Str × V)) (H':Hp),H'=upd H x (.ins ca.aA dx fs)->dM fs w 0->Q .non H'
noncomputable def iw (_:W.Frag) (ca:aW):Sp:=fun vs H Q _=>∃ x dx,vs=[.ref x]/\H x=some (.ins ca.aA dx [])/\∀ (fs:List (Str × V)) (H':Hp),H'=upd H x (.ins ca.aA dx fs)->dM fs "brackets" 0->Q .non H'
noncomputable def tM (_:W.Frag) (_:aW):Sp:=fun vs H Q _=>∃ x:Str,vs=[.str x]/\Q (.bl (clo 0 x.cps.toList)) H
noncomputable def tY (_:W.Frag) (_:aW):Sp:=fun vs H Q _=>∃ (x:Addr) (t:Str),vs=[.ref x,.str t]/\Q (.bl (clo 0 t.cps.toList)) H
noncomputable def kB (K:W.Frag) (ca:aW):Sp:=fun vs H Q _=>∃ (x dx:Addr) (fs:List (Str × V)) (t:Str),vs=[.ref x,.str t]/\H x=some (.ins ca.aA dx fs)/\fs.lookup ("is_one" : Str)=none/\clo 0 t.cps.toList=true/\∀ H',af H H'->Q .non H'
noncomputable def rN (K:W.Frag) (ca:aW):Sp:=fun vs H Q _=>∃ (t:Str),vs=[.str t]/\clo 0 t.cps.toList=true/\t.length<=80/\∀ (y:Str) (H':Hp),af H H'->y.cps.toList=aU t.cps.toList->Q (.str y) H'
noncomputable def jw (_:W.Frag) (_:aW):Sp:=fun vs H Q _=>∃ n:Int,vs=[.int n]/\Q (.bl true) H
noncomputable def m4 (K:W.Frag) (_:aW):Sp:=fun vs H Q _=>∃ (p r:Addr) (ps:List Pair),vs=[.ref p,.ref r]/\bL H p ps/\bL H r ps/\ps.length<=1000/\Q (.bl true) H
noncomputable def mY (K:W.Frag) (_:aW):Sp:=fun vs H Q _=>∃ (t:Str) (k:Nat),vs=[.str t,.int (k:Int)]/\t.length<=80/\k < t.length/\Q (.int (bI t.cps.toList k)) H
noncomputable def ud (K:W.Frag) (_:aW):Sp:=fun vs H Q _=>∃ (t:Str),vs=[.str t]/\t.length<=80/\∀ (p:Addr) (H':Hp),af H H'->H p=none->bL H' p (bu t.cps.toList t.length)->Q (.ref p) H'
noncomputable def tU (_:W.Frag) (ca:aW):Sp:=fun vs H Q _=>∃ (x dx:Addr) (w:Str) (l:Int),vs=[.ref x,.str w,.int l]/\H x=some (.ins ca.bo dx [])/\∀ (fs:List (Str × V)) (H':Hp),H'=upd H x (.ins ca.bo dx fs)->dM fs w l->Q .non H'
noncomputable def wo (_:W.Frag) (ca:aW):Sp:=fun vs H Q _=>∃ (x dx:Addr) (w:Str),vs=[.ref x,.str w]/\H x=some (.ins ca.bo dx [])/\∀ (fs:List (Str × V)) (H':Hp),H'=upd H x (.ins ca.bo dx fs)->dM fs w 0->Q .non H'
noncomputable def tQ (_:W.Frag) (ca:aW):Sp:=fun vs H Q _=>∃ x dx,vs=[.ref x]/\H x=some (.ins ca.bo dx [])/\∀ (fs:List (Str × V)) (H':Hp),H'=upd H x (.ins ca.bo dx fs)->dM fs "bows" 0->Q .non H'
noncomputable def nR (K:W.Frag) (_:aW):Sp:=fun vs H Q _=>∃ (l:Addr) (ns:List Int),vs=[.ref l]/\H l=some (.lst (ns.map V.int))/\ns.length < 128/\∀ H',af H H'->Q (.bl (dC ns)) H'
noncomputable def nI (K:W.Frag) (_:aW):Sp:=fun vs H Q _=>∃ (l:Addr),vs=[.ref l]/\((∃ (ps:List Pair),bL H l ps/\ps.length<=1000/\∀ (p:Addr) (H':Hp),af H H'->H p=none->H' p=some (.lst ((br ps).map V.int))->Q (.ref p) H')\/(∃ (bs:List Addr) (xss:List (List V)),H l=some (.lst (bs.map V.ref))/\hJ H bs xss/\xss.flatten.length<=1000/\∀ (p:Addr) (H':Hp),af H H'->H p=none->H' p=some (.lst xss.flatten)->Q (.ref p) H'))
noncomputable def m6 (K:W.Frag) (_:aW):Sp:=fun vs H Q _=>∃ (l:Addr) (ps:List Pair),vs=[.ref l]/\bL H l ps/\Q (.bl (dh ps)) H
noncomputable def rb (K:W.Frag) (_:aW):Sp:=fun vs H Q _=>∃ (x l:Addr) (ps:List Pair),vs=[.ref x,.ref l]/\bL H l ps/\ps.length<=60/\∀ H',af H H'->Q (.bl (cn ps)) H'
noncomputable def wZ (K:W.Frag) (ca:aW):Sp:=fun vs H Q _=>∃ (x dx:Addr) (fs:List (Str × V)) (l:Addr) (ps:List Pair),vs=[.ref x,.ref l]/\H x=some (.ins ca.bo dx fs)/\fs.lookup ("is_one" : Str)=none/\bL H l ps/\ps.length<=60/\cn ps=true/\∀ H',af H H'->Q .non H'
theorem Ei (a b:Int):((if b < a then b else a),(if b > a then b else a))=nm a b:=by
 unfold nm
 by_cases h:a < b
 ·rw [if_neg (by lia),if_pos h,if_pos h]
 ·rw [if_neg h]
  by_cases e:a=b
  ·subst e; simp
  ·rw [if_pos (by lia),if_neg (by lia)]
noncomputable def rp (K:W.Frag) (_:aW):Sp:=fun vs H Q _=>∃ (l:Addr) (ps:List Pair),vs=[.ref l]/\bL H l ps/\ps.length < 64/\∀ (q:Addr) (qs:List Pair) (H':Hp),af H H'->H q=none->bL H' q qs->qs.Perm (ps.map fun p=>nm p.1 p.2)->qs.Pairwise bR->Q (.ref q) H'
noncomputable def nq (K:W.Frag) (_:aW):Sp:=fun vs H Q _=>∃ (l:Addr) (ps:List Pair) (m:Int),vs=[.ref l,.int m]/\bL H l ps/\ps.length < 64/\(∀ p∈ps,p.1 < p.2)/\∀ (q:Addr) (qs:List Pair) (H':Hp),af H H'->H q=none->bL H' q qs->qs.Perm (ps.map (dD m))->qs.Pairwise bR->Q (.ref q) H'
noncomputable def rC (K:W.Frag) (ca:aW):Sp:=fun vs H Q _=>∃ (l:Addr) (ps:List Pair),vs=[.ref l]/\bL H l ps/\ps.length<=40/\oZ ps/\∀ (q:Addr) (qs:List Pair) (H':Hp),af H H'->H q=none->bL H' q qs->qs.Perm (ps.map (dD (2*(ps.length:Int) - 1)))->qs.Pairwise bR->Q (.ref q) H'
noncomputable def tP (K:W.Frag) (ca:aW):Sp:=fun vs H Q _=>∃ (t:Str),vs=[.str t]/\clo 0 t.cps.toList=true/\t.length<=80/\∀ (p:Addr) (H':Hp),af H H'->H p=none->bL H' p (bu t.cps.toList t.length)->cn (bu t.cps.toList t.length)=true->Q (.ref p) H'
noncomputable def rM (K:W.Frag) (_:aW):Sp:=fun vs H Q _=>∃ (p r:Addr) (ns:List Int),vs=[.ref p,.ref r]/\H p=some (.lst (ns.map V.int))/\H r=some (.lst (ns.map V.int))/\ns.length<=1000/\Q (.bl true) H
noncomputable def rz (K:W.Frag) (_:aW):Sp:=fun vs H Q _=>∃ (t:Str),vs=[.str t]/\t.length<=80/\(bu t.cps.toList t.length).length<=40/\∀ (p:Addr) (qs:List Pair) (H':Hp),af H H'->H p=none->qs.Perm ((bu t.cps.toList t.length).map eC)->qs.Pairwise bR->H' p=some (.lst ((qs.map fun q=>ba t.cps.toList q.2).map V.int))->Q (.ref p) H'
noncomputable def sP (_:W.Frag) (ca:aW):Sp:=fun vs H Q _=>∃ (x dx:Addr) (w:Str) (l:Int),vs=[.ref x,.str w,.int l]/\H x=some (.ins ca.aS dx [])/\∀ (fs:List (Str × V)) (H':Hp),H'=upd H x (.ins ca.aS dx fs)->dM fs w l->Q .non H'
noncomputable def wG (_:W.Frag) (ca:aW):Sp:=fun vs H Q _=>∃ (x dx:Addr) (w:Str),vs=[.ref x,.str w]/\H x=some (.ins ca.aS dx [])/\∀ (fs:List (Str × V)) (H':Hp),H'=upd H x (.ins ca.aS dx fs)->dM fs w 0->Q .non H'
noncomputable def rK (_:W.Frag) (ca:aW):Sp:=fun vs H Q _=>∃ x dx,vs=[.ref x]/\H x=some (.ins ca.aS dx [])/\∀ (fs:List (Str × V)) (H':Hp),H'=upd H x (.ins ca.aS dx fs)->dM fs "turns" 0->Q .non H'
noncomputable def ua (K:W.Frag) (_:aW):Sp:=fun vs H Q _=>∃ (l:Addr) (ns:List Int),vs=[.ref l]/\H l=some (.lst (ns.map V.int))/\ns.length < 64/\dC ns=true/\∀ H',af H H'->Q (.bl (mP ns)) H'
noncomputable def rP (K:W.Frag) (_:aW):Sp:=fun vs H Q _=>∃ (x l:Addr) (ns:List Int),vs=[.ref x,.ref l]/\H l=some (.lst (ns.map V.int))/\ns.length < 64/\∀ H',af H H'->Q (.bl (dW ns)) H'
noncomputable def vY (K:W.Frag) (ca:aW):Sp:=fun vs H Q _=>∃ (x dx:Addr) (fs:List (Str × V)) (l:Addr) (ns:List Int),vs=[.ref x,.ref l]/\H x=some (.ins ca.aS dx fs)/\fs.lookup ("is_one" : Str)=none/\H l=some (.lst (ns.map V.int))/\ns.length < 64/\dW ns=true/\∀ H',af H H'->Q .non H'
theorem pL {ns:List Int} (h:dW ns=true):ns.Perm (cA ns.length):=by
 unfold dW at h
 rw [Bool.and_eq_true] at h
 exact (dc ns).mp h.1
noncomputable def tI (K:W.Frag) (ca:aW):Sp:=fun vs H Q _=>∃ (l:Addr) (ns:List Int),vs=[.ref l]/\H l=some (.lst (ns.map V.int))/\ns.length<=40/\dW ns=true/\∀ (p:Addr) (H':Hp),af H H'->H p=none->H' p=some (.lst ((fS ns).map V.int))->Q (.ref p) H'
noncomputable def sA (K:W.Frag) (_:aW):Sp:=fun vs H Q _=>∃ (t:Str),vs=[.str t]/\clo 0 t.cps.toList=true/\t.length<=80/\∀ (p:Addr) (rs:List (List Int)) (fd:List Pair) (H':Hp),af H H'->H p=none->cM H H' p rs->Wk t.cps.toList t.cps.toList.length fd []->Wf t.cps.toList t.cps.toList.length fd->rs.flatten=(fd.map fun p=>ba t.cps.toList p.1)->Q (.ref p) H'
noncomputable def ue (K:W.Frag) (ca:aW):Sp:=fun vs H Q _=>∃ (t:Str),vs=[.str t]/\clo 0 t.cps.toList=true/\t.length<=80/\∀ (p:Addr) (fd:List Pair) (H':Hp),af H H'->H p=none->Wk t.cps.toList t.cps.toList.length fd []->Wf t.cps.toList t.cps.toList.length fd->H' p=some (.lst ((fd.map fun p=>ba t.cps.toList p.1).map V.int))->Q (.ref p) H'
noncomputable def su (_:W.Frag) (ca:aW):Sp:=fun vs H Q _=>∃ (x dx:Addr) (w:Str) (l:Int),vs=[.ref x,.str w,.int l]/\H x=some (.ins ca.aP dx [])/\∀ (fs:List (Str × V)) (H':Hp),H'=upd H x (.ins ca.aP dx fs)->dM fs w l->Q .non H'
noncomputable def vZ (_:W.Frag) (ca:aW):Sp:=fun vs H Q _=>∃ (x dx:Addr) (w:Str),vs=[.ref x,.str w]/\H x=some (.ins ca.aP dx [])/\∀ (fs:List (Str × V)) (H':Hp),H'=upd H x (.ins ca.aP dx fs)->dM fs w 0->Q .non H'
noncomputable def jN (_:W.Frag) (ca:aW):Sp:=fun vs H Q _=>∃ x dx,vs=[.ref x]/\H x=some (.ins ca.aP dx [])/\∀ (fs:List (Str × V)) (H':Hp),H'=upd H x (.ins ca.aP dx fs)->dM fs "twins" 0->Q .non H'
noncomputable def tF (K:W.Frag) (_:aW):Sp:=fun vs H Q _=>∃ (x:Addr) (v:V) (t:Bt),vs=[.ref x,v]/\Th 2 H v t/\∀ H',af H H'->Q (.bl true) H'
noncomputable def nB (K:W.Frag) (ca:aW):Sp:=fun vs H Q _=>∃ (x dx:Addr) (fs:List (Str × V)) (wd:Str) (v:V) (t:Bt),vs=[.ref x,v]/\H x=some (.ins ca.aP dx fs)/\dM fs wd 0/\Th 2 H v t/\∀ H',af H H'->Q .non H'
noncomputable def nQ (K:W.Frag) (_:aW) (n:Nat):Sp:=fun vs H Q _=>∃ (v:V) (t:Bt),vs=[v]/\Tw H v t/\t.size=n/\n<=40/\∀ (u:Addr) (H':Hp),af H H'->H u=none->Tw H' (.ref u) (cB t)->Q (.ref u) H'
noncomputable def vj (K:W.Frag) (ca:aW):Sp:=below 41 (fun n=>nQ K ca n)
noncomputable def tj (K:W.Frag) (ca:aW):Sp:=fun vs H Q _=>∃ (v:V) (t:Bt),vs=[v]/\Tw H v t/\t.size<=40/\∀ (u:V) (H':Hp),af H H'->Tw H' u (cB t)->Q u H'
noncomputable def rg (K:W.Frag) (_:aW):Sp:=fun vs H Q _=>∃ (x:Str) (t:Bt),vs=[.str x]/\x.cps.toList=brk t/\t.size<=40/\∀ (v:V) (H':Hp),af H H'->Tw H' v t->Q v H'
noncomputable def mT (K:W.Frag) (_:aW) (n:Nat):Sp:=fun vs H Q _=>∃ (v:V) (t:Bt),vs=[v]/\Tw H v t/\t.size=n/\n<=40/\∀ (u:Addr) (H':Hp),af H H'->H u=none->Tw H' (.ref u) (cB t)->Q (.ref u) H'
noncomputable def vn (K:W.Frag) (ca:aW):Sp:=below 41 (fun n=>mT K ca n)
noncomputable def nG (K:W.Frag) (_:aW):Sp:=fun vs H Q _=>∃ (x:Str) (t:Bt),vs=[.str x]/\x.cps.toList=brk t/\t.size<=40/\∀ (v:V) (H':Hp),af H H'->Tw H' v t->Q v H'
noncomputable def nP (K:W.Frag) (_:aW) (n:Nat):Sp:=fun vs H Q _=>∃ (v:V) (t:Bt),vs=[v]/\Tw H v t/\t.size=n/\n<=40/\∀ H',af H H'->Q (.int (t.size:Int)) H'
noncomputable def u4 (K:W.Frag) (ca:aW):Sp:=below 41 (fun n=>nP K ca n)
noncomputable def m8 (K:W.Frag) (_:aW) (n:Nat):Sp:=fun vs H Q _=>∃ (v:V) (t:Bt) (a h:Int),vs=[v,.int a,.int h]/\Tw H v t/\t.size=n/\n<=40/\h=a+1+(t.size:Int)/\∀ (p:Addr) (H':Hp),af H H'->H p=none->bL H' p (bH t a)->Q (.ref p) H'
noncomputable def vx (K:W.Frag) (ca:aW):Sp:=below 41 (fun n=>m8 K ca n)
noncomputable def qS (K:W.Frag) (ca:aW):Sp:=fun vs H Q _=>∃ (x:Str) (t:Bt),vs=[.str x]/\x.cps.toList=brk t/\t.size<=40/\∀ (u q:Addr) (qs:List Pair) (H':Hp),af H H'->H u=none->H q=none->H' u=some (.tup [.int ((t.size:Int)+2),.ref q])->bL H' q qs->qs.Perm (jy t 0)->qs.Pairwise bR->Q (.ref u) H'
noncomputable def rS (K:W.Frag) (ca:aW):Sp:=fun vs H Q _=>∃ (v:V) (t:Bt),vs=[v]/\Tw H v t/\t.size<=40/\∀ (y:Str) (H':Hp),af H H'->y.cps.toList=brk t->Q (.str y) H'
noncomputable def sX (K:W.Frag) (_:aW):Sp:=fun vs H Q _=>∃ (t t' l l':Addr) (c:Int) (ps:List Pair),vs=[.ref t,.ref t']/\H t=some (.tup [.int c,.ref l])/\H t'=some (.tup [.int c,.ref l'])/\bL H l ps/\bL H l' ps/\ps.length<=1000/\Q (.bl true) H
noncomputable def tq (_:W.Frag) (ca:aW):Sp:=fun vs H Q _=>∃ (x dx:Addr) (w:Str) (l:Int),vs=[.ref x,.str w,.int l]/\H x=some (.ins ca.aL dx [])/\∀ (fs:List (Str × V)) (H':Hp),H'=upd H x (.ins ca.aL dx fs)->dM fs w l->Q .non H'
noncomputable def xq (_:W.Frag) (ca:aW):Sp:=fun vs H Q _=>∃ (x dx:Addr) (w:Str),vs=[.ref x,.str w]/\H x=some (.ins ca.aL dx [])/\∀ (fs:List (Str × V)) (H':Hp),H'=upd H x (.ins ca.aL dx fs)->dM fs w 0->Q .non H'
noncomputable def ra (_:W.Frag) (ca:aW):Sp:=fun vs H Q _=>∃ x dx,vs=[.ref x]/\H x=some (.ins ca.aL dx [])/\∀ (fs:List (Str × V)) (H':Hp),H'=upd H x (.ins ca.aL dx fs)->dM fs "floor" 0->Q .non H'
noncomputable def rV (K:W.Frag) (_:aW):Sp:=fun vs H Q _=>∃ (c a b:Int),vs=[.int c,.int a,.int b]/\Ct c (a,b)/\∀ H',af H H'->Q (.bl true) H'
noncomputable def tO (K:W.Frag) (_:aW):Sp:=fun vs H Q _=>∃ (x t l:Addr) (c:Int) (ps:List Pair),vs=[.ref x,.ref t]/\H t=some (.tup [.int c,.ref l])/\bL H l ps/\xm c ps/\c<=43/\∀ H',af H H'->Q (.bl true) H'
noncomputable def vG (K:W.Frag) (ca:aW):Sp:=fun vs H Q _=>∃ (x dx:Addr) (fs:List (Str × V)) (t l:Addr) (c:Int) (ps:List Pair),vs=[.ref x,.ref t]/\H x=some (.ins ca.aL dx fs)/\fs.lookup ("is_one" : Str)=none/\H t=some (.tup [.int c,.ref l])/\bL H l ps/\xm c ps/\c<=43/\∀ H',af H H'->Q .non H'
noncomputable def sv (K:W.Frag) (ca:aW):Sp:=fun vs H Q _=>∃ (t l:Addr) (c:Int) (ps:List Pair),vs=[.ref t]/\H t=some (.tup [.int c,.ref l])/\bL H l ps/\xm c ps/\c<=43/\∀ (u q:Addr) (qs:List Pair) (H':Hp),af H H'->H u=none->H q=none->H' u=some (.tup [.int c,.ref q])->bL H' q qs->qs.Perm (ps.map (dD (c - 1)))->qs.Pairwise bR->Q (.ref u) H'
noncomputable def nU (K:W.Frag) (_:aW) (n:Nat):Sp:=fun vs H Q _=>∃ (pl:Addr) (v:V) (c:Int) (t:Bt) (ps:List Pair),vs=[.ref pl,v,.int c]/\bL H pl ps/\Tw H v t/\t.size=n/\ps.length+n<=100/\∀ H',fX pl H H'->bL H' pl (ps++dQ t c)->Q (.int (c+1+(t.size:Int))) H'
noncomputable def uX (K:W.Frag) (ca:aW):Sp:=below 41 (fun n=>nU K ca n)
noncomputable def tJ (K:W.Frag) (ca:aW):Sp:=fun vs H Q _=>∃ (v:V) (t:Bt),vs=[v]/\Tw H v t/\t.size<=40/\∀ (u q:Addr) (qs:List Pair) (H':Hp),af H H'->H u=none->H q=none->H' u=some (.tup [.int ((t.size:Int)+2),.ref q])->bL H' q qs->qs.Perm (jy t 0)->qs.Pairwise bR->Q (.ref u) H'
theorem xV {c:List Nat} {n:Nat} {qs:List Pair} (h:clo 0 c=true) (hn:c.length=2*n) (pm:qs.Perm ((bu c c.length).map eC)) (rs:qs.Pairwise bR):dW (qs.map fun q=>ba c q.2)=true/\(qs.map fun q=>ba c q.2).length=n:=by
 obtain ⟨bw,lb⟩:=jv h hn
 refine ⟨zJ bw (ba c) (fun j p hj=>?_) pm rs,by rw [List.length_map,pm.length_eq,List.length_map,lb]⟩
 obtain ⟨k,hk,e40,rfl⟩:=kf.mp (List.mem_of_getElem? hj)
 unfold ba
 show (((c.take ((k:Nat):Int).toNat).count 40:Nat):Int)=(j:Int)
 rw [Int.toNat_natCast,<- oa c k (by lia),A1 hk e40 hj]
noncomputable def CO (K:W.Frag) (_:aW):Sp:=fun vs H Q _=>∃ (a:Addr) (ns:List Int),vs=[.ref a]/\au K H a (ns.map V.int)/\ns.length<=63/\∀ H',Q (.bl true) H'
section
variable {P:Program} {w:World} {K:W.Frag} {mg:Str->Option Value} {base:Heap} {ca:aW} (CA:Br K mg ca) {f:Addr} {fd:FuncData}
include CA
theorem Cu (F:aX K "_law_mix" "_law_mix" kX f fd):ax P w K mg base bb 1 f fd ["_law_cell","_law_turn"] (rG K ca):=by
 refine F.ok ya (fun vs H Q E h=>?_) (fun cdv A outer s H vs Q E hr h=>?_)
 ·obtain ⟨c,t,rfl,h0,h1,q⟩:=h
  rfl
 obtain ⟨c,t,rfl,h0,h1,q⟩:=h
 refine ⟨_,ai (aB (i:=2) ya.nd rfl (Or.inl rfl) (aD cW (aD dF (aD cj (aD cj (aD cW (pv 0) aj) (aD dF (aD dF (pv 1) (pv 1)) aj)) aj) aj) aj))
  (ag (av (aD cW (aD cj (aD dF (pv 2) (pv 2)) (aD dF aj (pv 1))) aj))),?_⟩
 refine ⟨_,rfl,_,_,rfl,rfl,pm (by decide),_,rfl,_,rfl,_,_,rfl,rfl,.inl ⟨by lia,by lia⟩,_,_,rfl,rfl,.inr ⟨by decide,by decide⟩,_,_,rfl,rfl,_,_,rfl,rfl,_,_,rfl,rfl,.inr ⟨by decide,by decide⟩,_,_,rfl,rfl,pm (by decide),?_⟩
 have b0:=Int.emod_nonneg ((c % 2147483647+t*t*7919+104729)*48271) (show (2147483647:Int)≠0 by decide)
 have b1:=Int.emod_lt_of_pos ((c % 2147483647+t*t*7919+104729)*48271) (show (0:Int) < 2147483647 by decide)
 try dsimp only
 generalize (c % 2147483647+t*t*7919+104729)*48271 % 2147483647=n at *
 exact ⟨_,rfl,_,rfl,_,_,rfl,rfl,.inl ⟨by lia,by lia⟩,_,rfl,_,_,rfl,rfl,.inl ⟨by decide,by decide⟩,_,_,rfl,rfl,_,_,rfl,rfl,pm (by decide),q _ (Int.emod_nonneg _ (by decide)) (Int.emod_lt_of_pos _ (by decide))⟩
theorem Bg (F:aX K "_law_draws" "_law_draws" lQ f fd) {f0:Addr} {fd0:FuncData} (vE:Def P w K mg base "_law_mix" ["_law_cell","_law_turn"] 1 (rG K ca) f0 fd0) (aR:mg "range" = none) (aJ:mg "len" = none):ax P w K mg base bb 2 f fd ["_law_script","_law_turn","_law_many"] (rD K ca):=by
 refine F.ok fI (fun vs H Q E h=>?_) (fun cdv A outer s H vs Q E hr h=>?_)
 ·obtain ⟨a,ns,t,m,rfl,hS,h63,t0,t1,m0,m1,q⟩:=h
  rfl
 obtain ⟨a,ns,t,m,rfl,hS,h63,t0,t1,m0,m1,q⟩:=h
 refine ⟨_,ai (aB (i:=3) fI.nd rfl (Or.inl rfl) (aD rZ (jb og (pv 0) lM (j5 aj)) (bW (aa (pv 1) ab))))
  (ai (aB (i:=4) fI.nd rfl (Or.inl rfl) (bW ab))
  (ai (aV (aG cc (aD cW (aD iS (aK bO (pv 3) aj (fun _ _=>rfl)) aj) aj) aj (aF _)) (ai (v8 (i:=5) fI.nd rfl (Or.inl rfl) rfl rfl (cQ (pv 3)) rfl rfl rfl rfl (N:=["_law_cell"]) (.own .nil) (fun _ _ _ _ _ _=>(aO (i:=0) (by show List.Nodup (["_law_cell"]:List Str); decide +kernel) rfl (Or.inl rfl))) (fun _ _ _ _ _ _=>eV) (fun _ _ _ _ _ _=>(aD iS (pv 0) aj)))
  (ai (ck PassesOwn.never rfl (dJ rfl aR (aa (aD cj (pv 1) (pv 2)) ab)) (aO (i:=6) fI.nd rfl (Or.inl rfl)) (ai (aB (i:=7) fI.nd rfl (Or.inl rfl) (aD cW (pv 6) (aC aY rfl aJ bP (aa (pv 5) ab))))
  (ai (aI (cg PySem.F.plainAttrs_list PySem.F.slot_list_append PySem.F.type_list_append bJ (pv 4) (aa (aD cW (aK bO (pv 5) (pv 7) (fun _ _=>rfl)) aj) ab)))
  (ag (ye (aD iS (aK bO (pv 5) (pv 7) (fun _ _=>rfl)) aj) (xC (pv 5) (pv 7) set_list))))))
  (ag (av (jb og (pv 4) (j5 (pv 1)) lM))))) aN)
  (ai (ck PassesOwn.never rfl (dJ rfl aR (aa (pv 2) ab)) (aO (i:=6) fI.nd rfl (Or.inl rfl)) (ai (aB (i:=8) fI.nd rfl (Or.inl rfl) (az vE hr (aa (aK bO (pv 3) (aD cW (pv 6) (aC aY rfl aJ bP (aa (pv 3) ab))) (fun _ _=>rfl)) (aa (aD cj (pv 6) (pv 1)) ab))))
  (ag (aI (cg PySem.F.plainAttrs_list PySem.F.slot_list_append PySem.F.type_list_append bJ (pv 4) (aa (aD cW (aD cj (aD dF (pv 8) (pv 8)) (aD dF aj (pv 6))) aj) ab))))))
  (ag (av (pv 4)))))),?_⟩
 have M:∀ x:Int,0<=x % 2147483587/\x % 2147483587 < 2147483587:=fun x=>⟨Int.emod_nonneg x (by decide),Int.emod_lt_of_pos x (by decide)⟩
 refine ⟨_,rfl,_,rfl,a,_,rfl,hS,fun p1 hp1=>⟨_,rfl,(by show 1<=sizeLine; decide),fun p2 hp2=>?_⟩⟩
 have n12:p1≠p2:=ak upd_same hp2
 have s1:=af.new (af.refl H) hp1 (.lst (fU (ns.map V.int) none (some 63)))
 have s2:=af.new s1 hp2 (.lst [.int t])
 have lc:(fw ns none (some 63)).length<=63:=Nat.le_trans (uF _ _ _) h63
 refine ⟨p1,p2,_,_,rfl,rfl,(upd_ne n12).trans upd_same,upd_same,?_,fun pc hpc=>?_⟩
 ·rw [mx,List.length_map]; exact sz (by simp; lia)
 have s3:=af.new s2 hpc (.lst (fU (ns.map V.int) none (some 63)++[.int t]))
 have ecs:fU (ns.map V.int) none (some 63)++[.int t]=(fw ns none (some 63)++[t]).map V.int:=by rw [mx,List.map_append]; rfl
 have lcs:1<=(fw ns none (some 63)++[t]).length/\(fw ns none (some 63)++[t]).length<=64:=by rw [List.length_append]; constructor<;>simp<;>lia
 rw [ecs] at s3 |-
 generalize hH3:upd (upd (upd H p1 (.lst (fU (ns.map V.int) none (some 63)))) p2 (.lst [.int t])) pc (.lst ((fw ns none (some 63)++[t]).map V.int))=H3 at s3 |-
 have hc3:H3 pc=some (.lst ((fw ns none (some 63)++[t]).map V.int)):=by rw [<- hH3]; exact upd_same
 generalize fw ns none (some 63)++[t]=cs at hc3 lcs |-
 refine ⟨Nat.zero_le _,fun pf hpf=>?_⟩
 have s4:=af.new s3 hpf (.lst [])
 have fpf:H pf=none:=s3.free hpf
 have ncf:pc≠pf:=ak hc3 hpf
 have hc4:upd H3 pf (.lst []) pc=some (.lst (cs.map V.int)):=(upd_ne ncf).trans hc3
 have hf4:upd H3 pf (.lst []) pf=some (.lst (([]:List Int).map V.int)):=upd_same
 generalize upd H3 pf (.lst [])=H4 at s4 hc4 hf4 |-
 have at0:=e6 (ns:=cs) (i:=0) (by decide) (by lia)
 have lm:(cs.map V.int).length=cs.length:=List.length_map _
 refine ⟨_,rfl,pc,_,_,_,rfl,rfl,au.of hc4,at0,_,_,rfl,rfl,⟨by decide,by decide +kernel⟩,_,_,rfl,rfl,pm (by decide),rfl,_,rfl,sQ (fun _=>?_) (fun _=>?_)⟩
 ·refine ⟨_,rfl,pc,rfl,⟨_,au.of hc4⟩,fun D hD=>xD (fun v=>match v with | .int c=>.int (c / 100000) | v=>v) (by rw [lm]; exact sz (by lia)) (au.of hc4) hD (fun i x H' R R0 hx hb hR=>?_) ?_⟩
  ·obtain ⟨c,rfl⟩:=oX hx
   exact ⟨Ext.set rfl,uf (dB ⟨_,rfl,_,_,rfl,rfl,⟨by decide,by decide +kernel⟩,hR⟩)⟩
  ·have fD:H D=none:=s4.free hD
   have nfD:pf≠D:=ak hf4 hD
   have el:(cs.map V.int).map (fun v=>match v with | .int c=>V.int (c / 100000) | v=>v)=(cs.map (· / 100000)).map V.int:=by rw [List.map_map,List.map_map]; rfl
   rw [el]
   refine ⟨_,rfl,_,rfl,_,_,rfl,rfl,_,rfl,by lia,by lia,d9 (lo:=0) (n:=(t+m).toNat) (fun i σ H'=>∃ (o1 o2 o3:Option V) (ls fs:List Int),σ=[some (.ref a),some (.int t),some (.int m),some (.ref pc),some (.ref pf),some (.ref D),o1,o2,o3]/\af H H'/\H' D=some (.lst (ls.map V.int))/\ls.length=cs.length/\H' pf=some (.lst (fs.map V.int))/\fs.length=i/\∀ x∈fs,0<=x/\x < 2147483587)
    ⟨_,_,_,_,[],rfl,af.new s4 hD _,upd_same,by simp,(upd_ne nfD).trans hf4,rfl,by simp⟩ ?_ ?_⟩
   ·rintro i σ H5 hi ⟨o1,o2,o3,ls,fs,rfl,sm,hl,ll,hf,lf,bf⟩
    have lml:(ls.map V.int).length=ls.length:=List.length_map _
    have pos:(0:Int) < (((ls.map V.int).length:Nat):Int):=by rw [lml]; lia
    have k0:=Int.emod_nonneg ((0:Int)+(i:Int)) (show (((ls.map V.int).length:Nat):Int)≠0 by lia)
    have k1:=Int.emod_lt_of_pos ((0:Int)+(i:Int)) pos
    refine ⟨_,rfl,_,rfl,D,_,rfl,.inl (au.of hl),_,_,rfl,rfl,pos,?_⟩
    try dsimp only
    generalize ((0:Int)+(i:Int)) % (((ls.map V.int).length:Nat):Int)=k at k0 k1 |-
    rw [lml] at k1
    have atk:=e6 (ns:=ls) (i:=k) k0 k1
    refine ⟨_,rfl,.inl ⟨rfl,_,au.of hf⟩,_,rfl,_,rfl,D,_,_,_,rfl,rfl,au.of hl,atk,_,_,rfl,rfl,pm (by decide),pf,_,_,rfl,rfl,hf,by rw [List.length_map]; exact hG (by lia),?_⟩
    have hl6:upd H5 pf (.lst (fs.map V.int++[.int (ls.getD k.toNat 0 % 2147483587)])) D=some (.lst (ls.map V.int)):=(upd_ne (Ne.symm nfD)).trans hl
    refine ⟨_,rfl,_,rfl,D,_,_,_,rfl,rfl,au.of hl6,atk,_,_,rfl,rfl,⟨by decide,by decide +kernel⟩,_,rfl,_,rfl,D,_,_,_,rfl,rfl,hl6,uT k0 (by rw [lml]; exact k1),?_⟩
    refine ⟨_,_,_,ls.set k.toNat (ls.getD k.toNat 0 / 2147483587),fs++[ls.getD k.toNat 0 % 2147483587],rfl,(sm.upd fpf _).upd fD _,?_,by simpa using ll,?_,by simp [lf],?_⟩
    ·rw [upd_same,List.map_set]
    ·rw [upd_ne nfD,upd_same,List.map_append]; rfl
    ·intro x hx
     rcases List.mem_append.mp hx with z | z
     ·exact bf x z
     ·have:x=ls.getD k.toNat 0 % 2147483587:=by simpa using z
      rw [this]; exact M _
   ·rintro σ H5 ⟨o1,o2,o3,ls,fs,rfl,sm,hl,ll,hf,lf,bf⟩
    refine ⟨_,rfl,_,rfl,_,rfl,pf,_,rfl,au.of hf,fun pr hpr=>?_⟩
    rw [mx,yD fs t0]
    refine q pr (fs.drop t.toNat) _ (af.new sm hpr _) (sm.free hpr) upd_same ?_ fun x hx=>bf x (List.mem_of_mem_drop hx)
    rw [List.length_drop,lf]; lia
 ·refine ⟨_,rfl,_,rfl,by lia,by lia,d9 (lo:=0) (n:=m.toNat) (fun i σ H'=>∃ (o1 o2 o3 o4:Option V) (fs:List Int),σ=[some (.ref a),some (.int t),some (.int m),some (.ref pc),some (.ref pf),o1,o2,o3,o4]/\af H H'/\H' pc=some (.lst (cs.map V.int))/\H' pf=some (.lst (fs.map V.int))/\fs.length=i/\∀ x∈fs,0<=x/\x < 2147483587)
   ⟨_,_,_,_,[],rfl,s4,hc4,hf4,rfl,by simp⟩ ?_ ?_⟩
  ·rintro i σ H5 hi ⟨o1,o2,o3,o4,fs,rfl,sm,hc,hf,lf,bf⟩
   have pos:(0:Int) < (((cs.map V.int).length:Nat):Int):=by rw [lm]; lia
   have k0:=Int.emod_nonneg ((0:Int)+(i:Int)) (show (((cs.map V.int).length:Nat):Int)≠0 by lia)
   have k1:=Int.emod_lt_of_pos ((0:Int)+(i:Int)) pos
   have atk:=e6 (ns:=cs) (i:=((0:Int)+(i:Int)) % (((cs.map V.int).length:Nat):Int)) k0 (by rw [<- lm]; exact k1)
   refine ⟨_,rfl,_,rfl,_,rfl,pc,_,rfl,.inl (au.of hc),_,_,rfl,rfl,pos,pc,_,_,_,rfl,rfl,au.of hc,atk,_,rfl,_,rfl,_,_,rfl,rfl,_,_,rfl,by lia,by lia,fun x x0 x1=>?_⟩
   refine ⟨_,rfl,.inl ⟨rfl,_,au.of hf⟩,_,rfl,_,rfl,_,_,rfl,rfl,.inl ⟨by lia,by lia⟩,_,rfl,_,_,rfl,rfl,.inl ⟨by decide,by decide⟩,_,_,rfl,rfl,_,_,rfl,rfl,pm (by decide),pf,_,_,rfl,rfl,hf,by rw [List.length_map]; exact hG (by lia),?_⟩
   refine ⟨_,_,_,_,fs++[(x*x+7*((0:Int)+(i:Int))) % 2147483587],rfl,sm.upd fpf _,(upd_ne ncf).trans hc,?_,by simp [lf],?_⟩
   ·rw [upd_same,List.map_append]; rfl
   ·intro y hy
    rcases List.mem_append.mp hy with z | z
    ·exact bf y z
    ·have:y=(x*x+7*((0:Int)+(i:Int))) % 2147483587:=by simpa using z
     rw [this]; exact M _
  ·rintro σ H5 ⟨o1,o2,o3,o4,fs,rfl,sm,hc,hf,lf,bf⟩
   exact ⟨_,rfl,q pf fs H5 sm fpf hf lf bf⟩
theorem DA (F:aX K "_law_text_by" "_law_text_by" kL f fd) {f0:Addr} {fd0:FuncData} (wW:Def P w K mg base "_law_draws" ["_law_script","_law_turn","_law_many"] 2 (rD K ca) f0 fd0) (aR:mg "range" = none):ax P w K mg base bb 3 f fd ["_law_script","_law_size_here","_law_turn"] (sT K ca):=by
 refine F.ok dG (fun vs H Q E h=>?_) (fun cdv A outer s H vs Q E hr h=>?_)
 ·obtain ⟨a,ns,n,t,rfl,hS,h63,n0,n1,t0,t1,q⟩:=h
  rfl
 obtain ⟨a,ns,n,t,rfl,hS,h63,n0,n1,t0,t1,q⟩:=h
 refine ⟨_,ai (aB (i:=3) dG.nd rfl (Or.inl rfl) (az wW hr (aa (pv 0) (aa (pv 2) (aa aj ab)))))
  (ai (aB (i:=4) dG.nd rfl (Or.inl rfl) (aD cW (aK bO (pv 3) aj (fun _ _=>rfl)) aj))
  (ai (aB (i:=5) dG.nd rfl (Or.inl rfl) (bW ab))
  (ai (aB (i:=6) dG.nd rfl (Or.inl rfl) aj)
  (ai (ck PassesOwn.never rfl (dJ rfl aR (aa (aD dF aj (pv 1)) ab)) (aO (i:=7) dG.nd rfl (Or.inl rfl)) (ai (aB (i:=8) dG.nd rfl (Or.inl rfl) (aD cG (aD dF aj (pv 6)) (pv 7)))
  (ai (aB (i:=9) dG.nd rfl (Or.inl rfl) (dw cc (aD cW (aK bO (pv 3) (pv 7) (fun _ _=>rfl)) aj) aj (aF _)))
  (ai (aV (aG cc (pv 4) aj (aF _)) (ag (aB (i:=9) dG.nd rfl (Or.inl rfl) (dw Am (aD cW (aK bO (pv 3) (pv 7) (fun _ _=>rfl)) aj) aj (aF _)))) aN)
  (vq (aV (aG cc (pv 4) aj (aF _)) (ag (aB (i:=9) dG.nd rfl (Or.inl rfl) (dw cc (aD cW (aK bO (pv 3) (pv 7) (fun _ _=>rfl)) aj) aj (aF _)))) aN)
  (ag (aV (PW.pt (xZ (aG gi (pv 6) (pv 1) (aF _)) (vd (PW.pt (dO (aG cc (pv 8) aj (aF _)) (dS (bS (pv 9)))))))) (ai (aI (cg PySem.F.plainAttrs_list PySem.F.slot_list_append PySem.F.type_list_append bJ (pv 5) (aa bh ab)))
  (ag (aB (i:=6) dG.nd rfl (Or.inl rfl) (aD cj (pv 6) aj)))) (ag (aI (cg PySem.F.plainAttrs_list PySem.F.slot_list_append PySem.F.type_list_append bJ (pv 5) (aa bh ab)))))))))))
  (ag (av (cg PySem.F.plainAttrs_str PySem.F.slot_str_join PySem.F.type_str_join oO bh (aa (pv 5) ab)))))))),?_⟩
 refine ⟨_,rfl,_,rfl,a,ns,t,81,rfl,hS,h63,t0,t1,by decide,by decide,fun pd xs H1 sm1 fd hd lx bx=>?_⟩
 have lx':xs.length=81:=lx
 have at80:=e6 (ns:=xs) (i:=80) (by decide) (by lia)
 refine ⟨_,rfl,pd,_,_,_,rfl,rfl,au.of hd,at80,_,_,rfl,rfl,pm (by decide),?_⟩
 try dsimp only
 generalize xs.getD (80:Int).toNat 0 % 4=e
 refine ⟨Nat.zero_le _,fun ps hps=>?_⟩
 have nps:pd≠ps:=ak hd hps
 have fps:H ps=none:=sm1.free hps
 refine ⟨_,rfl,_,_,rfl,rfl,.inl ⟨by decide,by decide⟩,_,rfl,by lia,by lia,d9 (lo:=0) (n:=(2*n).toNat) (fun i σ H'=>∃ (o1 o2 o3:Option V) (l:List Nat) (u h:Nat),σ=[some (.ref a),some (.int n),some (.int t),some (.ref pd),some (.int e),some (.ref ps),some (.int u),o1,o2,o3]/\af H H'/\H' pd=some (.lst (xs.map V.int))/\H' ps=some (.lst (l.map sgn))/\ph n.toNat l i u h)
  ⟨_,_,_,[],0,0,rfl,af.new sm1 hps _,(upd_ne nps).trans hd,upd_same,⟨rfl,rfl,Nat.zero_le _,fun t=>rfl⟩⟩ ?_ ?_⟩
 ·rintro i σ H5 hi ⟨o1,o2,o3,l,u,h,rfl,sm,hd5,hl,bg⟩
  have atk:=e6 (ns:=xs) (i:=(0:Int)+(i:Int)) (by lia) (by lia)
  have bal:=bg.bal
  have le:=bg.le
  have ll:=bg.len
  have lmap:(l.map sgn).length < sizeLine:=by rw [List.length_map]; exact hG (by lia)
  refine ⟨_,rfl,_,_,rfl,rfl,.inl ⟨by decide,by decide⟩,_,rfl,_,_,rfl,rfl,?_⟩
  refine ⟨_,rfl,_,rfl,pd,_,_,_,rfl,rfl,au.of hd5,atk,_,_,rfl,rfl,pm (by decide),rfl,?_⟩
  -- what the turn goes on with
  let P:L2.St->Hp->Prop:=fun σ' H'=>H'=H5/\∃ b:Bool,σ'=[some (.ref a),some (.int n),some (.int t),some (.ref pd),some (.int e),some (.ref ps),some (.int u),some (.int ((0:Int)+(i:Int))),some (.int (2*(u:Int) - ((0:Int)+(i:Int)))),some (.bl b)]
  refine ⟨_,rfl,rfl,_,rfl,sQ (fun _=>⟨_,rfl,_,rfl,pd,_,_,_,rfl,rfl,au.of hd5,atk,_,_,rfl,rfl,pm (by decide),_,_,rfl,rfl,P,?_,?_⟩) (fun _=>⟨P,?_,?_⟩)⟩
  case refine_1=>exact ⟨_,rfl,rfl,_,rfl,sQ (fun _=>⟨_,rfl,_,rfl,pd,_,_,_,rfl,rfl,au.of hd5,atk,_,_,rfl,rfl,pm (by decide),rfl,rfl,_,rfl⟩) (fun _=>⟨rfl,_,rfl⟩)⟩
  case refine_3=>exact ⟨_,rfl,rfl,_,rfl,sQ (fun _=>⟨_,rfl,_,rfl,pd,_,_,_,rfl,rfl,au.of hd5,atk,_,_,rfl,rfl,pm (by decide),rfl,rfl,_,rfl⟩) (fun _=>⟨rfl,_,rfl⟩)⟩
  all_goals
   rintro σ' H' ⟨rfl,b,rfl⟩
   refine ⟨_,rfl,_,rfl,_,_,rfl,rfl,_,rfl,?_⟩
   by_cases hu:(u:Int) < n
   ·refine cJ hu ⟨_,rfl,rfl,_,rfl,?_⟩
    by_cases hh:h=0
    ·refine cJ (congrArg V.int (by lia)) (dB ⟨_,rfl,.inl ⟨rfl,_,au.of hl⟩,ps,_,_,rfl,rfl,hl,lmap,_,rfl,_,_,rfl,rfl,?_⟩)
     exact ⟨_,_,_,l++[40],u+1,h+1,rfl,sm.upd fps _,(upd_ne nps).trans hd5,by rw [upd_same,List.map_append,m9]; rfl,bg.up (by lia)⟩
    ·obtain ⟨h',rfl⟩:∃ h',h=h'+1:=⟨h - 1,by lia⟩
     refine dA (fun z=>by injection z with z; lia) ⟨_,rfl,_,rfl,?_⟩
     cases b with
     | true =>
      refine dB ⟨_,rfl,.inl ⟨rfl,_,au.of hl⟩,ps,_,_,rfl,rfl,hl,lmap,_,rfl,_,_,rfl,rfl,?_⟩
      exact ⟨_,_,_,l++[40],u+1,h'+1+1,rfl,sm.upd fps _,(upd_ne nps).trans hd5,by rw [upd_same,List.map_append,m9]; rfl,bg.up (by lia)⟩
     | false =>
      refine bN ⟨_,rfl,.inl ⟨rfl,_,au.of hl⟩,ps,_,_,rfl,rfl,hl,lmap,?_⟩
      exact ⟨_,_,_,l++[41],u,h',rfl,sm.upd fps _,(upd_ne nps).trans hd5,by rw [upd_same,List.map_append,m5]; rfl,bg.down⟩
   ·obtain ⟨h',rfl⟩:∃ h',h=h'+1:=⟨h - 1,by lia⟩
    refine dA hu (bN ⟨_,rfl,.inl ⟨rfl,_,au.of hl⟩,ps,_,_,rfl,rfl,hl,lmap,?_⟩)
    exact ⟨_,_,_,l++[41],u,h',rfl,sm.upd fps _,(upd_ne nps).trans hd5,by rw [upd_same,List.map_append,m5]; rfl,bg.down⟩
 ·rintro σ H5 ⟨o1,o2,o3,l,u,h,rfl,sm,hd5,hl,bg⟩
  have bal:=bg.bal
  have le:=bg.le
  have ll:=bg.len
  have hz:h=0:=by lia
  subst hz
  refine ⟨rfl,_,rfl,_,ps,l.map mX,rfl,rfl,au.of (by rw [hl,vk]),?_,?_⟩
  ·rw [j8]
   have e0:(Str.ofString "").length=0:=by decide +kernel
   show l.length+(l.map mX).length*(Str.ofString "").length<=16777216
   rw [e0,Nat.mul_zero]
   lia
  ·refine q _ H5 sm ?_ ?_
   ·rw [iW]
    have:=bg.clo []
    rw [List.append_nil] at this
    rw [this]; rfl
   ·rw [sD (iW l),ll]; lia
theorem Bs (F:aX K "_law_cell_at" "_law_cell_at" kN f fd) (aJ:mg "len" = none):ax P w K mg base bb 1 f fd ["_law_script","_law_k"] (sL K ca):=by
 refine F.ok Dr (fun vs H Q E h=>?_) (fun cdv A outer s H vs Q E hr h=>?_)
 ·obtain ⟨a,ns,k,rfl,hS,h0,q⟩:=h
  rfl
 obtain ⟨a,ns,k,rfl,hS,h0,q⟩:=h
 refine ⟨_,ai (aV (aG gi (pv 1) (aC aY rfl aJ bP (aa (pv 0) ab)) (aF _)) (ag (av (aK bO (pv 0) (pv 1) (fun _ _=>rfl)))) aN)
  (ag (av aj)),?_⟩
 have hl:(ns.map V.int).length=ns.length:=List.length_map _
 refine ⟨_,rfl,_,rfl,a,_,rfl,.inl hS,_,_,rfl,rfl,_,rfl,sQ (fun c=>?_) (fun c=>?_)⟩
 ·have c':k < (((ns.map V.int).length:Nat):Int):=of_decide_eq_true c
  rw [hl] at c'
  exact ⟨_,rfl,_,rfl,a,_,_,_,rfl,rfl,hS,e6 h0 c',q⟩
 ·have c':¬ k < (((ns.map V.int).length:Nat):Int):=of_decide_eq_false (Bool.eq_false_iff.mpr c)
  rw [hl] at c'
  have e:ns.getD k.toNat 0=0:=by rw [List.getD_eq_getElem?_getD,List.getElem?_eq_none (by lia)]; rfl
  rw [e] at q
  exact q
theorem CM (F:aX K "_law_mirror" "_law_mirror" lL f fd) (gc:mg "int" = none):ax P w K mg base bb 1 f fd ["_law_text"] (rf K ca):=by
 refine F.ok nL (fun vs H Q E h=>?_) (fun cdv A outer s H vs Q E hr h=>?_)
 ·obtain ⟨t,rfl,hz,sg,q⟩:=h
  rfl
 obtain ⟨t,rfl,hz,sg,q⟩:=h
 refine ⟨_,ai (aB (i:=1) nL.nd rfl (Or.inl rfl) bh)
  (ai (ck PassesOwn.never rfl (qU (pv 0)) (aO (i:=2) nL.nd rfl (Or.inl rfl)) (ag (aB (i:=1) nL.nd rfl (Or.inl rfl) (aD xc (aK iz bh (pA pO rfl gc tW (aa (dw cc (pv 2) bh (aF _)) ab)) (fun _ _=>rfl)) (pv 1)))))
  (ag (av (pv 1)))),?_⟩
 have lc:=bE t
 have tc:t.cps.size=t.length:=rfl
 refine ⟨_,rfl,t,rfl,o5 (x:=t) (fun i σ H'=>∃ (y:Str) (o:Option V),σ=[some (.str t),some (.str y),o]/\H=H'/\y.cps.toList=aU (t.cps.toList.take i)) ⟨_,_,rfl,rfl,by rw [p7]; rfl⟩ ?_ ?_⟩
 ·rintro i c σ H' hc ⟨y,o,rfl,rfl,ey⟩
  have hi:i < t.cps.toList.length:=by
   have:=(Array.getElem?_eq_some_iff.mp hc).1
   simpa using this
  have hci:t.cps.toList[i]? = some c:=by
   rw [<- hc]
   simp
  have ly:y.length<=80:=by rw [<- bE,ey,dg,List.length_take]; lia
  have tk:aU (t.cps.toList.take (i+1))=[g9 c]++aU (t.cps.toList.take i):=by
   rw [List.take_add_one,hci,sG]
   rfl
  have hs:=sg c (List.mem_of_getElem? hci)
  have lp:(Str.ofString "()").length=2:=by decide +kernel
  have pc:(Str.ofString "()").cps.toList=[40,41]:=by decide +kernel
  have hat:eR (Str.ofString "()").cps.toList (if decide (V.str ⟨#[c]⟩=V.str (Str.ofString "("))=true then 1 else 0)=some (g9 c):=by
   rw [jW,pc]
   rcases hs with rfl | rfl<;>rfl
  have l1:(⟨#[g9 c]⟩:Str).length=1:=rfl
  refine ⟨_,rfl,rfl,.inr ⟨_,rfl,_,_,_,rfl,rfl,sz (by lia),hat,_,rfl,_,_,rfl,rfl,sz (by lia),?_⟩⟩
  refine ⟨_,_,rfl,rfl,?_⟩
  rw [xS,ey,tk]
 ·rintro σ H' ⟨y,o,rfl,rfl,ey⟩
  refine ⟨_,rfl,q y ?_⟩
  rw [ey,List.take_of_length_le (by lia)]
theorem Bh (F:aX K "__init__" "Family.__init__" kh ca.qw fd):ax P w K mg base bb 1 ca.qw fd ["self","word","least"] (tK K ca):=by
 refine F.ok BY (fun vs H Q E h=>?_) (fun cdv A outer s H vs Q E hr h=>?_)
 ·obtain ⟨x,dx,w,l,rfl,hx,q⟩:=h
  rfl
 obtain ⟨x,dx,w,l,rfl,hx,q⟩:=h
 refine ⟨_,ai (dX (pv 0) (pv 1) rfl)
  (ag (dX (pv 0) (pv 2) rfl)),?_⟩
 refine ⟨_,rfl,_,rfl,x,ca.aA,dx,_,rfl,hx,CA.de,CA.d5,(by show 0 < 1000; decide),?_⟩
 refine ⟨_,rfl,_,rfl,x,ca.aA,dx,_,rfl,upd_same,CA.de,CA.dR,(by show 1 < 1000; decide),?_⟩
 exact q _ _ gy (iI w l)
theorem D3 (F:aX K "__init__" "SplitFamily.__init__" oY ca.vR fd) {fd0:FuncData} (xj:aM P w K mg base ["self","word","least"] 1 (tK K ca) ca.qw fd0):ax P w K mg base bb 3 ca.vR fd ["self","word"] (w6 K ca):=by
 refine F.ok DO (fun vs H Q E h=>?_) (fun cdv A outer s H vs Q E hr h=>?_)
 ·obtain ⟨x,dx,w,rfl,hx,q⟩:=h
  rfl
 obtain ⟨x,dx,w,rfl,hx,q⟩:=h
 refine ⟨_,ag (aI (hV CA.gX CA.cm_Family___init___Brackets xj hr (aa (pv 0) (aa (pv 1) (aa aj ab))))),?_⟩
 exact ⟨_,rfl,_,rfl,x,dx,w,0,rfl,hx,fun fs H' e f=>q fs H' e f⟩
theorem BB (F:aX K "__init__" "Brackets.__init__" lU ca.i0 fd) {fd0:FuncData} (y4:aM P w K mg base ["self","word"] 3 (w6 K ca) ca.vR fd0):ax P w K mg base bb 5 ca.i0 fd ["self"] (iw K ca):=by
 refine F.ok Co (fun vs H Q E h=>?_) (fun cdv A outer s H vs Q E hr h=>?_)
 ·obtain ⟨x,dx,rfl,hx,q⟩:=h
  rfl
 obtain ⟨x,dx,rfl,hx,q⟩:=h
 refine ⟨_,ag (aI (hV CA.dk CA.cm_SplitFamily___init___Brackets y4 hr (aa (pv 0) (aa bh ab)))),?_⟩
 exact ⟨_,rfl,x,dx,_,rfl,hx,fun fs H' e f=>q fs H' e f⟩
theorem CZ (F:aX K "closes" "closes" lP f fd):ax P w K mg base bb 1 f fd ["text"] (tM K ca):=by
 refine F.ok jP (fun vs H Q E h=>?_) (fun cdv A outer s H vs Q E hr h=>?_)
 ·obtain ⟨x,rfl,q⟩:=h
  rfl
 obtain ⟨x,rfl,q⟩:=h
 refine ⟨_,ai (aB (i:=1) jP.nd rfl (Or.inl rfl) aj)
  (ai (ck PassesOwn.never rfl (qU (pv 0)) (aO (i:=2) jP.nd rfl (Or.inl rfl)) (ag (aV (aG cc (pv 2) bh (aF _)) (ag (nH (i:=1) jP.nd rfl (Or.inl rfl) aj sR)) (ag (aV (PW.pt (xZ (aG cc (pv 2) bh (aF _)) (vd (aG Am (pv 1) aj (aF _))))) (ag (nH (i:=1) jP.nd rfl (Or.inl rfl) aj CY)) (ag (av bX)))))))
  (ag (av (dw cc (pv 1) aj (aF _))))),?_⟩
 have fin:∀ b,clo 0 x.cps.toList=b->Q (.bl b) H:=fun b h=>by rw [<- h]; exact q
 refine ⟨_,rfl,x,rfl,o5 (x:=x) (fun i σ H'=>H'=H/\∃ (o:Option V) (d:Nat),σ=[some (.str x),some (.int d),o]/\clo 0 x.cps.toList=clo d (x.cps.toList.drop i)) ⟨rfl,none,0,rfl,rfl⟩ ?_ ?_⟩
 ·rintro i c σ H' hc ⟨rfl,o,d,rfl,e⟩
  rw [zK hc] at e
  refine ⟨_,rfl,rfl,_,rfl,hZ (jW c) ?_⟩
  by_cases h1:c=40
  ·refine cJ h1 ⟨_,rfl,_,_,rfl,rfl,rfl,_,d+1,rfl,?_⟩
   rw [e,h1,cT]
  ·refine dA h1 ⟨_,rfl,rfl,_,rfl,hZ (nC c) ?_⟩
   by_cases h2:c=41
   ·refine cJ h2 ⟨_,rfl,_,_,rfl,rfl,_,rfl,?_⟩
    cases d with
    | zero=>exact bN (fin false (by rw [e,h2,dI]))
    | succ d =>
     refine cJ (by lia) ⟨_,rfl,_,_,rfl,rfl,rfl,some (.str ⟨#[c]⟩),d,?_,?_⟩
     ·show [some (V.str x),some (V.int (((d+1:Nat):Int) - 1)),some (V.str ⟨#[c]⟩)]=_
      rw [show ((d+1:Nat):Int) - 1=(d:Int) by lia]
     ·rw [e,h2,cq]
   ·exact dA h2 (bN (fin false (by rw [e,cZ h1 h2])))
 ·rintro σ H' ⟨rfl,o,d,rfl,e⟩
  refine ⟨_,rfl,rfl,fin _ ?_⟩
  rw [e,zC,ee]
  cases d with
  | zero=>rfl
  | succ d=>exact (decide_eq_false fun z=>by injection z with z; lia).symm
theorem Dc (F:aX K "is_one" "Brackets.is_one" kM ca.qN fd) {f0:Addr} {fd0:FuncData} (vP:Def P w K mg base "closes" ["text"] 1 (tM K ca) f0 fd0):ax P w K mg base bb 2 ca.qN fd ["self","thing"] (tY K ca):=by
 refine F.ok C4 (fun vs H Q E h=>?_) (fun cdv A outer s H vs Q E hr h=>?_)
 ·obtain ⟨x,t,rfl,q⟩:=h
  rfl
 obtain ⟨x,t,rfl,q⟩:=h
 refine ⟨_,ag (av (az vP hr (aa (pv 1) ab))),?_⟩
 exact ⟨_,rfl,t,rfl,q⟩
theorem El (F:aX K "refuse_other" "Family.refuse_other" oJ ca.mC fd) {fd0:FuncData} (wj:aM P w K mg base ["self","thing"] 2 (tY K ca) ca.qN fd0):ax P w K mg base bb 3 ca.mC fd ["self","thing"] (kB K ca):=by
 refine F.ok Ep (fun vs H Q E h=>?_) (fun cdv A outer s H vs Q E hr h=>?_)
 ·obtain ⟨x,dx,fs,t,rfl,hx,fo,hB,q⟩:=h
  rfl
 obtain ⟨x,dx,fs,t,rfl,hx,fo,hB,q⟩:=h
 refine ⟨_,ag (aV (bZ (bS (df (pv 0) CA.de CA.mt_Brackets_is_one wj hr (aa (pv 1) ab)))) (ag gR) aN),?_⟩
 exact ⟨_,rfl,x,dx,fs,rfl,hx,fo,_,rfl,x,t,rfl,_,rfl,by rw [hB]; exact bN (q H (af.refl H))⟩
theorem CU (F:aX K "brackets_mirror" "brackets_mirror" kq f fd) {fd0:FuncData} (dZ:aM P w K mg base ["self"] 5 (iw K ca) ca.i0 fd0) {fd1:FuncData} (fO:aM P w K mg base ["self","thing"] 3 (kB K ca) ca.mC fd1) (iV:mg "reversed" = none):ax P w K mg base bb 7 f fd ["thing"] (rN K ca):=by
 refine F.ok B6 (fun vs H Q E h=>?_) (fun cdv A outer s H vs Q E hr h=>?_)
 ·obtain ⟨t,rfl,hB,hz,q⟩:=h
  rfl
 obtain ⟨t,rfl,hB,hz,q⟩:=h
 refine ⟨_,ai (aI (df (dU CA.mk_Brackets CA.gv dZ hr) CA.de CA.mt_Brackets_refuse_other fO hr (aa (pv 0) ab)))
  (ag (av (cg PySem.F.plainAttrs_str PySem.F.slot_str_join PySem.F.type_str_join oO bh (aa (dP rfl (C3 rfl iV (aa (pv 0) ab)) rfl rfl rfl rfl (N:=["sign"]) (.own .nil) (fun _ _ _ _ _ _=>(aO (i:=0) (by show List.Nodup (["sign"]:List Str); decide +kernel) rfl (Or.inl rfl))) (fun _ _ _ _ _ _=>eV) (fun _ _ _ _ _ _=>(y6 (aG cc (pv 0) bh (aF _)) bh bh))) ab)))),?_⟩
 intro x dx nx ndx nex
 refine ⟨x,dx,rfl,upd_same,fun fsx Hx1 ex fx=>⟨rfl,?_⟩⟩
 have sx:af H Hx1:=by rw [ex]; exact ((af.new (af.refl H) ndx _).upd nx _).upd nx _
 have hx:Hx1 x=some (.ins ca.aA dx fsx):=by rw [ex]; exact upd_same
 refine ⟨x,dx,fsx,rfl,hx,fx.no "refuse_other" (by decide) (by decide),_,rfl,x,dx,fsx,t,rfl,hx,fx.no "is_one" (by decide) (by decide),hB,fun H2 s2=>?_⟩
 have t2:=sx.trans s2
 have lz:t.length<=sizeLine:=sz (by lia)
 have lc:=bE t
 have tc:t.cps.size=t.length:=rfl
 have lm:=dg t.cps.toList
 refine ⟨rfl,_,rfl,t,rfl,lz,fun D hD=>zd (x:=t) (fun i ys H'=>af H2 H'/\H' D=some (.lst ys)/\ys=((aU t.cps.toList).take i).map sgn) lz ⟨af.new (af.refl H2) hD _,upd_same,rfl⟩ (fun i ys H' hi h=>by rw [h.2.2,List.length_map,List.length_take]; lia) (fun i c ys H' R R0 hi hc h r r0=>?_) (fun ys H' h=>?_)⟩
 ·obtain ⟨sm,hy,ey⟩:=h
  have hc':t.cps.toList[t.cps.toList.length - 1 - i]? = some c:=by
   rw [lc,<- tc,<- hc]
   simp
  have at1:=AG (by lia) hc'
  have tk:((aU t.cps.toList).take (i+1)).map sgn=ys++[sgn (g9 c)]:=by rw [List.take_add_one,at1,List.map_append,ey]; rfl
  refine ⟨Ext.set rfl,uf (dB ⟨_,rfl,rfl,_,rfl,hZ (nC c) ?_⟩)⟩
  by_cases h41:c=41
  ·refine cJ h41 (r _ _ hy ⟨sm.upd hD _,upd_same,?_⟩)
   rw [tk,h41,m9]
   rfl
  ·refine dA h41 (r _ _ hy ⟨sm.upd hD _,upd_same,?_⟩)
   rw [tk,m5]
   unfold g9
   rw [if_neg h41]
 ·obtain ⟨sm,hy,ey⟩:=h
  rw [List.take_of_length_le (by lia)] at ey
  have ef:(aU t.cps.toList).map sgn=((aU t.cps.toList).map mX).map V.str:=by rw [List.map_map]; rfl
  rw [ey,ef] at hy
  refine ⟨_,D,_,rfl,rfl,au.of hy,?_,q _ _ (t2.trans sm) (iW _)⟩
  rw [show (Str.ofString "").length=0 by decide +kernel,j8,Nat.mul_zero]
  lia
theorem CT (F:aX K "_law_whole" "_law_whole" kd f fd) (bA:mg "isinstance" = none) (gc:mg "int" = none) (tZ:mg "bool" = none):ax P w K mg base bb 1 f fd ["_law_found"] (jw K ca):=by
 refine F.ok DJ (fun vs H Q E h=>?_) (fun cdv A outer s H vs Q E hr h=>?_)
 ·obtain ⟨n,rfl,q⟩:=h
  rfl
 obtain ⟨n,rfl,q⟩:=h
 refine ⟨_,ag (av (jG (aC dv rfl bA cD (aa (pv 0) (aa (gz (v:=.ty "int") rfl gc tW rfl) ab))) (nO (yK (aC dv rfl bA cD (aa (pv 0) (aa (gz (v:=.ty "bool") rfl tZ Ax rfl) ab))))))),?_⟩
 exact ⟨_,rfl,_,_,_,_,_,rfl,lN,.int _,uJ,_,rfl,dB ⟨_,rfl,_,_,_,_,_,rfl,lN,.int _,tS,_,rfl,q⟩⟩
theorem BX (F:aX K "_law_pairs" "_law_pairs" jZ f fd) {f0:Addr} {fd0:FuncData} (fF:Def P w K mg base "_law_whole" ["_law_found"] 1 (jw K ca) f0 fd0) (bA:mg "isinstance" = none) (eE:mg "list" = none) (aJ:mg "len" = none) (aR:mg "range" = none) (gD:mg "tuple" = none):ax P w K mg base bb 2 f fd ["_law_found","_law_due"] (m4 K ca):=by
 refine F.ok xM (fun vs H Q E h=>?_) (fun cdv A outer s H vs Q E hr h=>?_)
 ·obtain ⟨p,r,ps,rfl,hp,hr2,hz,q⟩:=h
  rfl
 obtain ⟨p,r,ps,rfl,hp,hr2,hz,q⟩:=h
 refine ⟨_,ai (aV (PW.pt (dO (bZ (bS (aC dv rfl bA cD (aa (pv 0) (aa (gz (v:=.ty "list") rfl eE nZ rfl) ab))))) (dS (aG gq (aC aY rfl aJ bP (aa (pv 0) ab)) (aC aY rfl aJ bP (aa (pv 1) ab)) (aF _))))) (ag (av bX)) aN)
  (ai (ck PassesOwn.never rfl (dJ rfl aR (aa (aC aY rfl aJ bP (aa (pv 1) ab)) ab)) (aO (i:=2) xM.nd rfl (Or.inl rfl)) (ai (aV (PW.pt (dO (bZ (bS (aC dv rfl bA cD (aa (aK bO (pv 0) (pv 2) (fun _ _=>rfl)) (aa (gz (v:=.ty "tuple") rfl gD sC rfl) ab))))) (dS (aG gq (aC aY rfl aJ bP (aa (aK bO (pv 0) (pv 2) (fun _ _=>rfl)) ab)) aj (aF _))))) (ag (av bX)) aN)
  (ag (aV (PW.pt (dO (bZ (bS (az fF hr (aa (aK bD (aK bO (pv 0) (pv 2) (fun _ _=>rfl)) aj (fun _ _=>rfl)) ab)))) (dO (bZ (bS (az fF hr (aa (aK bD (aK bO (pv 0) (pv 2) (fun _ _=>rfl)) aj (fun _ _=>rfl)) ab)))) (dS (aG ((fM (cO hr)).or (Dt (cO hr))) (aK bO (pv 0) (pv 2) (fun _ _=>rfl)) (aK bO (pv 1) (pv 2) (fun _ _=>rfl)) (aF _)))))) (ag (av bX)) aN))))
  (ag (av bX))),?_⟩
 obtain ⟨xs,ep,lx,px⟩:=hp.len
 obtain ⟨ys,er,ly,py⟩:=hr2.len
 refine ⟨_,rfl,_,_,_,_,_,rfl,lN,.lst ep,je,_,rfl,bN ⟨_,rfl,p,_,rfl,.inl (au.of ep),_,rfl,r,_,rfl,.inl (au.of er),rfl,_,rfl,gx (congrArg V.int (by lia)) ?_⟩⟩
 refine ⟨_,rfl,r,_,rfl,.inl (au.of er),_,rfl,by lia,by lia,d9 (lo:=0) (n:=((ys.length:Nat):Int).toNat) (fun i σ H'=>H=H'/\∃ o,σ=[some (.ref p),some (.ref r),o]) ⟨rfl,_,rfl⟩ ?_ ?_⟩
 ·rintro i σ H' hi ⟨rfl,o,rfl⟩
  have hix:i < xs.length:=by lia
  have hiy:i < ys.length:=by lia
  obtain ⟨p1,t1,e1,hx1,h1⟩:=px.get (List.getElem?_eq_getElem hix)
  obtain ⟨p2,t2,e2,hy2,h2⟩:=py.get (List.getElem?_eq_getElem hiy)
  have ep12:p1=p2:=by rw [e1] at e2; injection e2
  subst ep12
  have a1:eR xs ((0:Int)+(i:Int))=some (.ref t1):=by
   have:=j9 (xs:=xs) (j:=i) (by rw [List.getElem?_eq_getElem hix,hx1])
   rw [show (0:Int)+(i:Int)=(i:Int) by lia]
   exact this
  have a2:eR ys ((0:Int)+(i:Int))=some (.ref t2):=by
   have:=j9 (xs:=ys) (j:=i) (by rw [List.getElem?_eq_getElem hiy,hy2])
   rw [show (0:Int)+(i:Int)=(i:Int) by lia]
   exact this
  have b0:eR [V.int p1.1,V.int p1.2] 0=some (.int p1.1):=rfl
  have b1:eR [V.int p1.1,V.int p1.2] 1=some (.int p1.2):=rfl
  refine ⟨_,rfl,_,rfl,p,_,_,_,rfl,rfl,au.of ep,a1,_,_,_,_,_,rfl,lN,.tup h1,hU,_,rfl,bN ⟨_,rfl,_,rfl,p,_,_,_,rfl,rfl,au.of ep,a1,t1,_,rfl,.inr (aT.of h1),rfl,_,rfl,gx rfl ?_⟩⟩
  refine ⟨_,rfl,_,rfl,p,_,_,_,rfl,rfl,au.of ep,a1,t1,_,_,_,rfl,rfl,aT.of h1,b0,_,rfl,_,rfl,bN ⟨_,rfl,_,rfl,p,_,_,_,rfl,rfl,au.of ep,a1,t1,_,_,_,rfl,rfl,aT.of h1,b1,_,rfl,_,rfl,bN ?_⟩⟩
  refine ⟨_,rfl,_,rfl,p,_,_,_,rfl,rfl,au.of ep,a1,_,rfl,_,rfl,r,_,_,_,rfl,rfl,au.of er,a2,?_⟩
  by_cases et:t1=t2
  ·subst et
   exact .inr ⟨t1,_,_,rfl,rfl,h1,_,rfl,bN ⟨rfl,_,rfl⟩⟩
  ·refine .inl ⟨1,_,by decide,bC.two et h1 h2,⟨t1,t2,rfl,rfl,et⟩,_,rfl,?_⟩
   rw [decide_eq_true (rfl:p1.1=p1.1),decide_eq_true (rfl:p1.2=p1.2)]
   exact bN ⟨rfl,_,rfl⟩
 ·rintro σ H' ⟨rfl,o,rfl⟩
  exact q
theorem Dn (F:aX K "_law_mate" "_law_mate" lW f fd) (aR:mg "range" = none) (aJ:mg "len" = none) (gc:mg "int" = none):ax P w K mg base bb 1 f fd ["_law_text","_law_at"] (mY K ca):=by
 refine F.ok nJ (fun vs H Q E h=>?_) (fun cdv A outer s H vs Q E hr h=>?_)
 ·obtain ⟨t,k,rfl,hz,hk,q⟩:=h
  rfl
 obtain ⟨t,k,rfl,hz,hk,q⟩:=h
 refine ⟨_,ai (aB (i:=2) nJ.nd rfl (Or.inl rfl) aj)
  (ai (ck PassesOwn.never rfl (yd rfl aR (aa (pv 1) (aa (aC cP rfl aJ bP (aa (pv 0) ab)) ab))) (aO (i:=3) nJ.nd rfl (Or.inl rfl)) (ai (aB (i:=2) nJ.nd rfl (Or.inl rfl) (aD cG (aD cj (pv 2) aj) (aD dF aj (pA pO rfl gc tW (aa (dw cc (aK iz (pv 0) (pv 3) (fun _ _=>rfl)) bh (aF _)) ab)))))
  (ag (aV (aG cc (pv 2) aj (aF _)) (ag (av (pv 3))) aN))))
  (ag (av (jc gU aj)))),?_⟩
 have lc:=bE t
 have lz:t.length<=sizeLine:=sz (by lia)
 refine ⟨_,rfl,_,rfl,t,rfl,lz,_,_,rfl,⟨by lia,by lia,by lia,by lia⟩,d9 (lo:=(k:Int)) (n:=(((t.length:Nat):Int) - (k:Int)).toNat) (fun i σ H'=>∃ (o1:Option V),σ=[some (.str t),some (.int (k:Int)),some (.int (Dp t.cps.toList (k+i) - Dp t.cps.toList k)),o1]/\H=H'/\∀ m,k<=m->m < k+i->Dp t.cps.toList (m+1)≠Dp t.cps.toList k) ⟨none,by rw [Nat.add_zero,Int.sub_self]; rfl,rfl,fun m h1 h2=>by lia⟩ ?_ ?_⟩
 ·rintro i σ H' hi ⟨o1,rfl,rfl,no⟩
  have hlt:k+i < t.cps.toList.length:=by lia
  have hc:t.cps.toList[((k:Int)+(i:Int)).toNat]? = some (t.cps.toList.getD (k+i) 0):=by
   rw [show ((k:Int)+(i:Int)).toNat=k+i by lia,List.getD_eq_getElem?_getD,List.getElem?_eq_getElem hlt]
   rfl
  have hat:=iC (by lia) hc
  have ds:=iK hlt
  generalize t.cps.toList.getD (k+i) 0=c at hat ds
  refine ⟨_,rfl,_,_,rfl,rfl,_,rfl,_,rfl,t,_,_,rfl,rfl,lz,hat,rfl,.inr ⟨_,rfl,_,_,rfl,rfl,.inl ⟨by decide,by decide⟩,_,_,rfl,rfl,?_⟩⟩
  try dsimp only
  rw [DR]
  have e:Dp t.cps.toList (k+i) - Dp t.cps.toList k+1 - 2*(if c=41 then 1 else 0)=Dp t.cps.toList (k+(i+1)) - Dp t.cps.toList k:=by
   rw [show k+(i+1)=k+i+1 by lia,ds]
   lia
  rw [e]
  refine ⟨_,rfl,rfl,_,rfl,?_⟩
  by_cases z:Dp t.cps.toList (k+(i+1)) - Dp t.cps.toList k=0
  ·refine cJ (congrArg V.int z) ⟨_,rfl,?_⟩
   have m:=oE (c:=t.cps.toList) (k:=k) (j:=k+i) (by lia) hlt (by rw [show k+i+1=k+(i+1) by lia]; lia) no
   rw [m] at q
   rw [show (k:Int)+(i:Int)=((k+i:Nat):Int) by lia]
   exact q
  ·refine dA (fun w=>z (by injection w)) ⟨_,rfl,rfl,fun m h1 h2=>?_⟩
   by_cases em:m=k+i
   ·subst em
    rw [show k+i+1=k+(i+1) by lia]
    lia
   ·exact no m h1 (by lia)
 ·rintro σ H' ⟨o1,rfl,rfl,no⟩
  have m:=AD (c:=t.cps.toList) (k:=k) fun m h1 h2=>no m h1 (by lia)
  rw [m] at q
  exact ⟨_,rfl,q⟩
theorem Cj (F:aX K "_law_bows_of" "_law_bows_of" lO f fd) {f0:Addr} {fd0:FuncData} (kG:Def P w K mg base "_law_mate" ["_law_text","_law_at"] 1 (mY K ca) f0 fd0) (aR:mg "range" = none) (aJ:mg "len" = none):ax P w K mg base bb 2 f fd ["_law_text"] (ud K ca):=by
 refine F.ok Ce (fun vs H Q E h=>?_) (fun cdv A outer s H vs Q E hr h=>?_)
 ·obtain ⟨t,rfl,hz,q⟩:=h
  rfl
 obtain ⟨t,rfl,hz,q⟩:=h
 refine ⟨_,ag (av (dP rfl (dJ rfl aR (aa (aC cP rfl aJ bP (aa (pv 0) ab)) ab)) rfl rfl rfl rfl (N:=["_law_k","_law_text"]) (.own (.cap (j:=0) rfl rfl rfl .nil)) (fun _ _ _ _ _ _=>(aO (i:=0) (by show List.Nodup (["_law_k","_law_text"]:List Str); decide +kernel) rfl (Or.inl rfl))) (fun _ _ _ _ _ _=>(oH (aG cc (aK iz (pv 1) (pv 0) (fun _ _=>rfl)) bh (aF _)))) (fun _ _ _ _ _ _=>(bz (aa (pv 0) (aa (az kG hr (aa (pv 1) (aa (pv 0) ab))) ab)))))),?_⟩
 have lc:=bE t
 have lz:t.length<=sizeLine:=sz (by lia)
 refine ⟨_,rfl,t,rfl,lz,_,rfl,by lia,by lia,fun D hD=>mr (lo:=0) (n:=((t.length:Nat):Int).toNat) (fun i ys H'=>af H H'/\H' D=some (.lst ys)/\bM H' ys (bu t.cps.toList i)/\ys.length<=i) (sz (by lia)) ⟨af.new (af.refl H) hD _,upd_same,.nil,Nat.le_refl _⟩ (fun i ys H' _ h=>h.2.2.2) ?_ ?_⟩
 ·rintro i ys H5 R R0 hi ⟨s5,hD5,pr,ly⟩ hR hR0
  have hk:i < t.cps.toList.length:=by lia
  have hat:=iC (x:=t) (i:=(0:Int)+(i:Int)) (by lia) (by rw [show ((0:Int)+(i:Int)).toNat=i by lia]; exact List.getElem?_eq_getElem hk)
  have bs:=d6 t.cps.toList i
  rw [show t.cps.toList.getD i 0=t.cps.toList[i] by rw [List.getD_eq_getElem?_getD,List.getElem?_eq_getElem hk]; rfl] at bs
  generalize t.cps.toList[i]=c at hat bs
  refine ⟨Ext.set rfl,⟨_,rfl,_,rfl,t,_,c,rfl,rfl,lz,hat,rfl,_,rfl,?_⟩⟩
  refine hZ (jW c) ?_
  by_cases hc:c=40
  ·rw [if_pos hc] at bs
   refine cJ hc ⟨_,rfl,_,rfl,_,rfl,t,i,(by rw [show (0:Int)+(i:Int)=(i:Int) by lia]; rfl),hz,by lia,(by show 2<=sizeLine; decide),fun t1 ht1=>?_⟩
   have n1:D≠t1:=ak hD5 ht1
   have hy1:=(upd_ne (o:=.tup [.int ((0:Int)+(i:Int)),.int (bI t.cps.toList i)]) n1).trans hD5
   refine hR _ _ hy1 ⟨(af.new s5 ht1 _).upd hD _,upd_same,?_,by rw [List.length_append]; exact Nat.succ_le_succ ly⟩
   have:=((pr.updN ht1 (.tup [.int ((0:Int)+(i:Int)),.int (bI t.cps.toList i)])).snoc (t:=t1) (p:=((0:Int)+(i:Int),bI t.cps.toList i)) upd_same).updL hy1 (.lst (ys++[.ref t1]))
   rw [bs]
   have e0:((0:Int)+(i:Int),bI t.cps.toList i)=((i:Int),bI t.cps.toList i):=by rw [show (0:Int)+(i:Int)=(i:Int) by lia]
   rw [e0] at this
   exact this
  ·rw [if_neg hc,List.append_nil] at bs
   exact dA hc (hR0 _ ⟨s5,hD5,by rw [bs]; exact pr,by lia⟩)
 ·rintro ys H5 ⟨s5,hD5,pr,_⟩
  rw [show ((t.length:Nat):Int).toNat=t.length by lia] at pr
  exact q _ _ s5 hD ⟨ys,hD5,pr⟩
theorem CI (F:aX K "__init__" "Family.__init__" lF ca.qJ fd):ax P w K mg base bb 1 ca.qJ fd ["self","word","least"] (tU K ca):=by
 refine F.ok Cc (fun vs H Q E h=>?_) (fun cdv A outer s H vs Q E hr h=>?_)
 ·obtain ⟨x,dx,w,l,rfl,hx,q⟩:=h
  rfl
 obtain ⟨x,dx,w,l,rfl,hx,q⟩:=h
 refine ⟨_,ai (dX (pv 0) (pv 1) rfl)
  (ag (dX (pv 0) (pv 2) rfl)),?_⟩
 refine ⟨_,rfl,_,rfl,x,ca.bo,dx,_,rfl,hx,CA.ny,CA.gF,(by show 0 < 1000; decide),?_⟩
 refine ⟨_,rfl,_,rfl,x,ca.bo,dx,_,rfl,upd_same,CA.ny,CA.fV,(by show 1 < 1000; decide),?_⟩
 exact q _ _ gy (iI w l)
theorem Eu (F:aX K "__init__" "SplitFamily.__init__" oq ca.xw fd) {fd0:FuncData} (vM:aM P w K mg base ["self","word","least"] 1 (tU K ca) ca.qJ fd0):ax P w K mg base bb 3 ca.xw fd ["self","word"] (wo K ca):=by
 refine F.ok D1 (fun vs H Q E h=>?_) (fun cdv A outer s H vs Q E hr h=>?_)
 ·obtain ⟨x,dx,w,rfl,hx,q⟩:=h
  rfl
 obtain ⟨x,dx,w,rfl,hx,q⟩:=h
 refine ⟨_,ag (aI (hV CA.gX CA.cm_Family___init___Bows vM hr (aa (pv 0) (aa (pv 1) (aa aj ab))))),?_⟩
 exact ⟨_,rfl,_,rfl,x,dx,w,0,rfl,hx,fun fs H' e f=>q fs H' e f⟩
theorem CK (F:aX K "__init__" "Bows.__init__" kO ca.qQ fd) {fd0:FuncData} (zW:aM P w K mg base ["self","word"] 3 (wo K ca) ca.xw fd0):ax P w K mg base bb 5 ca.qQ fd ["self"] (tQ K ca):=by
 refine F.ok Bn (fun vs H Q E h=>?_) (fun cdv A outer s H vs Q E hr h=>?_)
 ·obtain ⟨x,dx,rfl,hx,q⟩:=h
  rfl
 obtain ⟨x,dx,rfl,hx,q⟩:=h
 refine ⟨_,ag (aI (hV CA.dk CA.cm_SplitFamily___init___Bows zW hr (aa (pv 0) (aa bh ab)))),?_⟩
 exact ⟨_,rfl,x,dx,_,rfl,hx,fun fs H' e f=>q fs H' e f⟩
theorem DF (F:aX K "each_once" "each_once" jS f fd) (aZ:mg "sorted" = none) (eE:mg "list" = none) (aR:mg "range" = none) (aJ:mg "len" = none):ax P w K mg base bb 1 f fd ["numbers"] (nR K ca):=by
 refine F.ok CC (fun vs H Q E h=>?_) (fun cdv A outer s H vs Q E hr h=>?_)
 ·obtain ⟨l,ns,rfl,hl,h64,q⟩:=h
  rfl
 obtain ⟨l,ns,rfl,hl,h64,q⟩:=h
 refine ⟨_,ag (av (dw (wb (Fw hr)) (aC qT rfl aZ c0 (aa (pv 0) ab)) (Bu rfl rfl eE rfl aR (aa (aC aY rfl aJ bP (aa (pv 0) ab)) ab)) (aF _))),?_⟩
 have lm:(ns.map V.int).length=ns.length:=List.length_map _
 refine ⟨_,rfl,l,ns,rfl,au.of hl,h64,fun ps ms hps hp hs=>?_⟩
 have s1:=af.new (af.refl H) hps (.lst (ms.map V.int))
 have hm1:upd H ps (.lst (ms.map V.int)) ps=some (.lst (ms.map V.int)):=upd_same
 generalize upd H ps (.lst (ms.map V.int))=H1 at s1 hm1 |-
 refine ⟨_,rfl,l,_,rfl,.inl (au.of (s1 _ _ hl)),_,rfl,by lia,by lia,by lia,fun pr hpr=>?_⟩
 have s2:=af.new (af.refl H1) hpr (.lst (fk 0 (((ns.map V.int).length:Nat):Int).toNat))
 refine ⟨ps,pr,_,_,rfl,rfl,au.of (s2 _ _ hm1),au.of upd_same,pT ms,?_,?_⟩
 ·rw [pK]; exact pT _
 have e:mf (ms.map V.int) (fk 0 (((ns.map V.int).length:Nat):Int).toNat)=dC ns:=by
  rw [pK,tH,uk hp hs,show (((ns.map V.int).length:Nat):Int).toNat=ns.length by lia]
 have last:∀ b:Bool,b=dC ns->Q (.bl b) (upd H1 pr (.lst (fk 0 (((ns.map V.int).length:Nat):Int).toNat))):=fun b z=>by rw [z]; exact q _ (s1.trans s2)
 exact last _ e
theorem By (F:aX K "flat" "flat" jU f fd):ax P w K mg base bb 1 f fd ["rows"] (nI K ca):=by
 refine F.ok sY (fun vs H Q E h=>?_) (fun cdv A outer s H vs Q E hr h=>?_)
 ·obtain ⟨l,rfl,hor⟩:=h
  rfl
 obtain ⟨l,rfl,hor⟩:=h
 refine ⟨_,ai (aB (i:=1) sY.nd rfl (Or.inl rfl) (bW ab))
  (ai (ck PassesOwn.never rfl (cQ (pv 0)) (aO (i:=2) sY.nd rfl (Or.inl rfl)) (ag (aI (cg PySem.F.plainAttrs_list PySem.F.slot_list_extend PySem.F.type_list_extend AV (pv 1) (aa (pv 2) ab)))))
  (ag (av (pv 1)))),?_⟩
 rcases hor with ⟨ps,hl,hz,q⟩ | ⟨bs,xss,hl,rw_,hz,q⟩
 ·obtain ⟨xs,el,lxs,pr⟩:=hl.len
  refine ⟨Nat.zero_le _,fun pf hpf=>?_⟩
  have s1:=af.new (af.refl H) hpf (.lst [])
  refine ⟨_,rfl,l,rfl,⟨_,au.of (s1 _ _ el)⟩,gT (xs:=xs) (fun i σ H'=>∃ (o1:Option V),σ=[some (.ref l),some (.ref pf),o1]/\af H H'/\H' pf=some (.lst ((br (ps.take i)).map V.int))) ⟨_,rfl,s1,upd_same⟩ (fun i σ H' _ h=>au.of (h.choose_spec.2.1 _ _ el)) ?_ ?_⟩
  ·rintro i v σ H2 hv ⟨o1,rfl,sm,hf⟩
   obtain ⟨pp,tt,hpp,rfl,htt⟩:=pr.get hv
   have hz2:((br (ps.take i)).map V.int).length<=2000:=by
    rw [List.length_map,fG,List.length_take]
    lia
   refine ⟨_,rfl,.inl ⟨rfl,_,au.of hf⟩,_,rfl,.inr ⟨pf,tt,_,_,rfl,rfl,hf,aT.of (sm _ _ htt),(by show _+2<=_; exact sz (by lia)),?_⟩⟩
   refine ⟨_,rfl,sm.upd hpf _,?_⟩
   rw [upd_same,List.take_add_one,hpp,jt,List.map_append]
   rfl
  ·rintro σ H2 ⟨o1,rfl,sm,hf⟩
   rw [List.take_of_length_le (by lia)] at hf
   exact ⟨_,rfl,q pf H2 sm hpf hf⟩
 ·have lb:=rw_.len
  refine ⟨Nat.zero_le _,fun pf hpf=>?_⟩
  have s1:=af.new (af.refl H) hpf (.lst [])
  refine ⟨_,rfl,l,rfl,⟨_,au.of (s1 _ _ hl)⟩,gT (xs:=bs.map V.ref) (fun i σ H'=>∃ (o1:Option V),σ=[some (.ref l),some (.ref pf),o1]/\af H H'/\H' pf=some (.lst (xss.take i).flatten)) ⟨_,rfl,s1,upd_same⟩ (fun i σ H' _ h=>au.of (h.choose_spec.2.1 _ _ hl)) ?_ ?_⟩
  ·rintro i v σ H2 hv ⟨o1,rfl,sm,hf⟩
   obtain ⟨b,xs,rfl,hx,hb⟩:=rw_.get hv
   have et:(xss.take (i+1)).flatten=(xss.take i).flatten++xs:=by
    rw [List.take_add_one,hx,List.flatten_append]
    simp
   have hz2:(xss.take i).flatten.length+xs.length<=1000:=by
    have h1:(xss.take (i+1)).flatten.length<=xss.flatten.length:=by
     conv=>rhs; rw [<- List.take_append_drop (i+1) xss,List.flatten_append,List.length_append]
     lia
    rw [et,List.length_append] at h1
    lia
   have nb:b≠pf:=ak hb hpf
   refine ⟨_,rfl,.inl ⟨rfl,_,au.of hf⟩,_,rfl,.inl ⟨pf,b,_,_,rfl,rfl,hf,sm _ _ hb,sz (by lia),?_⟩⟩
   exact ⟨_,rfl,sm.upd hpf _,by rw [upd_same,et]⟩
  ·rintro σ H2 ⟨o1,rfl,sm,hf⟩
   rw [List.take_of_length_le (by rw [List.length_map]; lia)] at hf
   exact ⟨_,rfl,q pf H2 sm hpf hf⟩
theorem BC (F:aX K "any_cross" "any_cross" kP f fd):ax P w K mg base bb 1 f fd ["pairs"] (m6 K ca):=by
 refine F.ok jK (fun vs H Q E h=>?_) (fun cdv A outer s H vs Q E hr h=>?_)
 ·obtain ⟨l,ps,rfl,hl,q⟩:=h
  rfl
 obtain ⟨l,ps,rfl,hl,q⟩:=h
 refine ⟨_,ai (ck PassesOwn.never rfl (cQ (pv 0)) (jA rfl (bQ (aO (i:=1) jK.nd rfl (Or.inl rfl)) (bQ (aO (i:=2) jK.nd rfl (Or.inl rfl)) eD))) (ag (ck PassesOwn.never rfl (cQ (pv 0)) (jA rfl (bQ (aO (i:=3) jK.nd rfl (Or.inl rfl)) (bQ (aO (i:=4) jK.nd rfl (Or.inl rfl)) eD))) (ag (aV (B5 gi gi gi (pv 1) (pv 3) (pv 2) (pv 4)) (ag (av bX)) aN)))))
  (ag (av bX)),?_⟩
 obtain ⟨xs,el,lxs,pr⟩:=hl.len
 refine ⟨_,rfl,l,rfl,⟨_,au.of el⟩,gT (xs:=xs) (fun i σ H'=>∃ (o1 o2 o3 o4:Option V),σ=[some (.ref l),o1,o2,o3,o4]/\H=H'/\∀ p∈ps.take i,ps.any (ic p)=false) ⟨_,_,_,_,rfl,rfl,by simp⟩ (fun i σ H' _ h=>by obtain ⟨_,_,_,_,_,rfl,_⟩:=h; exact au.of el) ?_ ?_⟩
 ·rintro i v σ H2 hv ⟨o1,o2,o3,o4,rfl,rfl,al⟩
  obtain ⟨pp,tt,hpp,rfl,htt⟩:=pr.get hv
  refine ⟨tt,_,rfl,aT.of htt,rfl,_,_,rfl,_,_,rfl,rfl,?_⟩
  refine ⟨_,rfl,l,rfl,⟨_,au.of el⟩,gT (xs:=xs) (fun j σ H'=>∃ (o3 o4:Option V),σ=[some (.ref l),some (.int pp.1),some (.int pp.2),o3,o4]/\H=H'/\∀ r∈ps.take j,ic pp r=false) ⟨_,_,rfl,rfl,by simp⟩ (fun i σ H' _ h=>by obtain ⟨_,_,_,rfl,_⟩:=h; exact au.of el) ?_ ?_⟩
  ·rintro j v σ H3 hv ⟨o3,o4,rfl,rfl,al2⟩
   obtain ⟨rr,t2,hrr,rfl,ht2⟩:=pr.get hv
   refine ⟨t2,_,rfl,aT.of ht2,rfl,_,_,rfl,_,_,rfl,rfl,?_⟩
   have next:ic pp rr=false->∀ r∈ps.take (j+1),ic pp r=false:=fun hc r hr=>by
    rw [List.take_add_one,hrr] at hr
    rcases List.mem_append.mp hr with z | z
    ·exact al2 r z
    ·have:r=rr:=by simpa using z
     rw [this]; exact hc
   refine ⟨_,rfl,_,rfl,_,_,rfl,rfl,_,rfl,?_⟩
   by_cases c1:pp.1 < rr.1
   ·refine cJ c1 ⟨_,rfl,_,_,rfl,rfl,_,rfl,?_⟩
    by_cases c2:rr.1 < pp.2
    ·refine cJ c2 ⟨_,rfl,_,_,rfl,rfl,_,rfl,?_⟩
     by_cases c3:pp.2 < rr.2
     ·refine cJ c3 ?_
      have:dh ps=true:=gh.mpr ⟨pp,List.mem_of_getElem? hpp,rr,List.mem_of_getElem? hrr,c1,c2,c3⟩
      rw [this] at q
      exact q
     ·exact dA c3 ⟨_,_,rfl,rfl,next (by unfold ic; simp [c3])⟩
    ·exact dA c2 ⟨_,rfl,bN ⟨_,_,rfl,rfl,next (by unfold ic; simp [c2])⟩⟩
   ·exact dA c1 ⟨_,rfl,bN ⟨_,_,rfl,rfl,next (by unfold ic; simp [c1])⟩⟩
  ·rintro σ H3 ⟨o3,o4,rfl,rfl,al2⟩
   rw [List.take_of_length_le (by lia)] at al2
   refine ⟨_,_,_,_,rfl,rfl,fun p hp=>?_⟩
   rw [List.take_add_one,hpp] at hp
   rcases List.mem_append.mp hp with z | z
   ·exact al p z
   ·have:p=pp:=by simpa using z
    rw [this,List.any_eq_false]
    intro r hr
    rw [al2 r hr]
    decide
 ·rintro σ H2 ⟨o1,o2,o3,o4,rfl,rfl,al⟩
  rw [List.take_of_length_le (by lia)] at al
  have:dh ps=false:=by
   unfold dh
   rw [List.any_eq_false]
   intro p hp
   rw [al p hp]
   decide
  rw [this] at q
  exact q
theorem C8 (F:aX K "is_one" "Bows.is_one" jT ca.qp fd) {f0:Addr} {fd0:FuncData} (kR:Def P w K mg base "each_once" ["numbers"] 1 (nR K ca) f0 fd0) {f1:Addr} {fd1:FuncData} (lr:Def P w K mg base "flat" ["rows"] 1 (nI K ca) f1 fd1) {f2:Addr} {fd2:FuncData} (lG:Def P w K mg base "any_cross" ["pairs"] 1 (m6 K ca) f2 fd2) (aZ:mg "sorted" = none) (lC:mg "all" = none):ax P w K mg base bb 2 ca.qp fd ["self","thing"] (rb K ca):=by
 refine F.ok Cn (fun vs H Q E h=>?_) (fun cdv A outer s H vs Q E hr h=>?_)
 ·obtain ⟨x,l,ps,rfl,hl,hz,q⟩:=h
  rfl
 obtain ⟨x,l,ps,rfl,hl,hz,q⟩:=h
 refine ⟨_,ai (aV (PW.pt (dO (bZ (bS (az kR hr (aa (az lr hr (aa (pv 1) ab)) ab)))) (dS (aG (fM (cO hr)) (pv 1) (aC cR rfl aZ c0 (aa (pv 1) ab)) (aF _))))) (ag (av bX)) aN)
  (ag (av (jG (aC (rJ rfl) rfl lC yj (aa (dP rfl (cQ (pv 1)) rfl rfl rfl rfl (N:=["a","b"]) (.own (.own .nil)) (fun _ _ _ _ _ _=>(lB (K:=K) (n:=2) rfl rfl (bQ (aO (i:=0) (by show List.Nodup (["a","b"]:List Str); decide +kernel) rfl (Or.inl rfl)) (bQ (aO (i:=1) (by show List.Nodup (["a","b"]:List Str); decide +kernel) rfl (Or.inl rfl)) eD)))) (fun _ _ _ _ _ _=>eV) (fun _ _ _ _ _ _=>(dw gi (pv 0) (pv 1) (aF _)))) ab)) (nO (yK (az lG hr (aa (pv 1) ab))))))),?_⟩
 refine ⟨_,rfl,l,rfl,.inl ⟨ps,hl,by lia,fun pf H1 s1 f1 h1=>⟨pf,_,rfl,h1,by rw [fG]; lia,fun H2 s2=>⟨_,rfl,?_⟩⟩⟩⟩
 have s12:=s1.trans s2
 have hl2:=hl.same s12
 cases hE:dC (br ps) with
 | false =>
  rw [yq hE] at q
  exact dB (dB (q _ s12))
 | true =>
  refine bN ⟨_,rfl,_,rfl,l,ps,rfl,hl2,by lia,fun pq qs H3 s3 f3 h3 hp hs=>?_⟩
  have s13:=s12.trans s3
  have hl3:=hl.same s13
  have ne:l≠pq:=by
   obtain ⟨_,e,_⟩:=hl2
   exact ak e f3
  refine ⟨2,_,by decide,bC.prs ne hl3 h3,⟨l,pq,rfl,rfl,ne⟩,_,rfl,?_⟩
  by_cases e:ps=qs
  ·rw [uz hp hs hE e] at q
   obtain ⟨xs,el,lxs,pr⟩:=hl3.len
   rw [decide_eq_true e]
   refine bN ⟨_,rfl,l,rfl,⟨_,au.of el⟩,fun D hD=>eB (xs:=xs) (fun i ys H'=>af H3 H'/\H' D=some (.lst ys)/\ys=((ps.take i).map fun p=>decide (p.1 < p.2)).map V.bl/\i<=ps.length) (sz (by lia)) ⟨af.new (af.refl H3) hD _,upd_same,rfl,Nat.zero_le _⟩ (fun i ys H' hi h=>⟨au.of (h.1 _ _ el),?_⟩) (fun i x ys H' R R0 hx h r r0=>?_) (fun ys H' h=>?_)⟩
   ·rw [h.2.2.1]
    simp
    lia
   ·obtain ⟨sm,hy,ey,hi⟩:=h
    obtain ⟨pp,tt,hpp,rfl,htt⟩:=pr.get hx
    have hlt:i < ps.length:=(List.getElem?_eq_some_iff.mp hpp).1
    refine ⟨tt,_,rfl,aT.of (sm _ _ htt),rfl,_,_,rfl,_,_,rfl,rfl,(Ext.set rfl).trans (Ext.set rfl),uf (dB ⟨_,rfl,_,rfl,_,_,rfl,rfl,?_⟩)⟩
    refine r _ _ hy ⟨sm.upd hD _,upd_same,?_,hlt⟩
    rw [List.take_add_one,hpp,List.map_append,List.map_append,<- ey]
    rfl
   ·obtain ⟨sm,hy,ey,hi⟩:=h
    rw [List.take_of_length_le (by lia)] at ey
    have ha:(((ps.map fun p=>decide (p.1 < p.2)).map V.bl).length)=ps.length:=by simp
    rw [ey] at hy
    refine ⟨D,_,rfl,au.of hy,_,rfl,?_⟩
    have e2:((ps.map fun p=>decide (p.1 < p.2)).all id)=ps.all fun p=>decide (p.1 < p.2):=by rw [List.all_map]; rfl
    rw [e2]
    cases hA:ps.all fun p=>decide (p.1 < p.2) with
    | false =>
     rw [hA,Bool.false_and] at q
     exact bN (q _ (s13.trans sm))
    | true =>
     rw [hA,Bool.true_and] at q
     exact dB ⟨_,rfl,l,ps,rfl,hl3.same sm,_,rfl,q _ (s13.trans sm)⟩
  ·rw [wR hp hs hE e] at q
   rw [decide_eq_false e]
   exact dB (q _ s13)
theorem En (F:aX K "refuse_other" "Family.refuse_other" nY ca.vK fd) {fd0:FuncData} (vU:aM P w K mg base ["self","thing"] 2 (rb K ca) ca.qp fd0):ax P w K mg base bb 3 ca.vK fd ["self","thing"] (wZ K ca):=by
 refine F.ok DL (fun vs H Q E h=>?_) (fun cdv A outer s H vs Q E hr h=>?_)
 ·obtain ⟨x,dx,fs,l,ps,rfl,hx,fo,hl,hz,hB,q⟩:=h
  rfl
 obtain ⟨x,dx,fs,l,ps,rfl,hx,fo,hl,hz,hB,q⟩:=h
 refine ⟨_,ag (aV (bZ (bS (df (pv 0) CA.ny CA.mt_Bows_is_one vU hr (aa (pv 1) ab)))) (ag gR) aN),?_⟩
 exact ⟨_,rfl,x,dx,fs,rfl,hx,fo,_,rfl,x,l,ps,rfl,hl,hz,fun H1 s1=>⟨_,rfl,by rw [hB]; exact bN (q H1 s1)⟩⟩
theorem Cd (F:aX K "pairs_anew" "pairs_anew" ku f fd) (aZ:mg "sorted" = none) (kc:mg "max" = none) (wU:mg "min" = none):ax P w K mg base bb 1 f fd ["pairs"] (rp K ca):=by
 refine F.ok Cf (fun vs H Q E h=>?_) (fun cdv A outer s H vs Q E hr h=>?_)
 ·obtain ⟨l,ps,rfl,hl,h64,q⟩:=h
  rfl
 obtain ⟨l,ps,rfl,hl,h64,q⟩:=h
 refine ⟨_,ag (av (aC cR rfl aZ c0 (aa (dP rfl (cQ (pv 0)) rfl rfl rfl rfl (N:=["a","b"]) (.own (.own .nil)) (fun _ _ _ _ _ _=>(lB (K:=K) (n:=2) rfl rfl (bQ (aO (i:=0) (by show List.Nodup (["a","b"]:List Str); decide +kernel) rfl (Or.inl rfl)) (bQ (aO (i:=1) (by show List.Nodup (["a","b"]:List Str); decide +kernel) rfl (Or.inl rfl)) eD)))) (fun _ _ _ _ _ _=>eV) (fun _ _ _ _ _ _=>(bz (aa (aC (xJ rfl) rfl wU BE (aa (pv 0) (aa (pv 1) ab))) (aa (aC (pY rfl) rfl kc xB (aa (pv 0) (aa (pv 1) ab))) ab))))) ab))),?_⟩
 obtain ⟨xs,el,lxs,pr⟩:=hl.len
 refine ⟨_,rfl,l,rfl,⟨_,au.of el⟩,fun D hD=>eB (xs:=xs) (fun i ys H'=>af H H'/\H' D=some (.lst ys)/\bM H' ys ((ps.take i).map fun p=>nm p.1 p.2)/\i<=ps.length) (sz (by lia)) ⟨af.new (af.refl H) hD _,upd_same,.nil,Nat.zero_le _⟩ (fun i ys H' hi h=>⟨au.of (h.1 _ _ el),?_⟩) (fun i x ys H' R R0 hx h r r0=>?_) (fun ys H' h=>?_)⟩
 ·rw [h.2.2.1.length,List.length_map,List.length_take]
  lia
 ·obtain ⟨sm,hy,py,hi⟩:=h
  obtain ⟨pp,tt,hpp,rfl,htt⟩:=pr.get hx
  have hlt:i < ps.length:=(List.getElem?_eq_some_iff.mp hpp).1
  refine ⟨tt,_,rfl,aT.of (sm _ _ htt),rfl,_,_,rfl,_,_,rfl,rfl,(Ext.set rfl).trans (Ext.set rfl),uf (dB ?_)⟩
  refine ⟨_,rfl,_,rfl,_,_,rfl,_,rfl,_,rfl,_,_,rfl,(by show 2<=sizeLine; decide),fun u1 pN=>?_⟩
  have nD:D≠u1:=ak hy pN
  have e:=Ei pp.1 pp.2
  have hu:upd H' u1 (.tup [.int (if pp.2 < pp.1 then pp.2 else pp.1),.int (if pp.2 > pp.1 then pp.2 else pp.1)]) u1=some (.tup [.int (nm pp.1 pp.2).1,.int (nm pp.1 pp.2).2]):=by rw [upd_same,<- e]
  have y1:=(upd_ne (o:=.tup [.int (if pp.2 < pp.1 then pp.2 else pp.1),.int (if pp.2 > pp.1 then pp.2 else pp.1)]) nD).trans hy
  have s1:=af.new sm pN (.tup [.int (if pp.2 < pp.1 then pp.2 else pp.1),.int (if pp.2 > pp.1 then pp.2 else pp.1)])
  have p1:=py.updN pN (.tup [.int (if pp.2 < pp.1 then pp.2 else pp.1),.int (if pp.2 > pp.1 then pp.2 else pp.1)])
  refine r _ _ y1 ⟨s1.upd hD _,upd_same,?_,hlt⟩
  rw [List.take_add_one,hpp,List.map_append]
  exact (p1.snoc (t:=u1) (p:=nm pp.1 pp.2) hu).updL y1 _
 ·obtain ⟨sm,hy,py,hi⟩:=h
  rw [List.take_of_length_le (by lia)] at py
  exact ⟨D,_,rfl,⟨ys,hy,py⟩,by rw [List.length_map]; exact h64,fun p qs H5 s5 f5 h5 pm rs=>q p qs H5 (sm.trans s5) (sm.free f5) h5 pm rs⟩
theorem Ci (F:aX K "mirrored_pairs" "mirrored_pairs" j6 f fd) {f0:Addr} {fd0:FuncData} (xo:Def P w K mg base "pairs_anew" ["pairs"] 1 (rp K ca) f0 fd0):ax P w K mg base bb 2 f fd ["pairs","last"] (nq K ca):=by
 refine F.ok BD (fun vs H Q E h=>?_) (fun cdv A outer s H vs Q E hr h=>?_)
 ·obtain ⟨l,ps,m,rfl,hl,h64,hlt,q⟩:=h
  rfl
 obtain ⟨l,ps,m,rfl,hl,h64,hlt,q⟩:=h
 refine ⟨_,ag (av (az xo hr (aa (dP rfl (cQ (pv 0)) rfl rfl rfl rfl (N:=["a","b","last"]) (.own (.own (.cap (j:=1) rfl rfl rfl .nil))) (fun _ _ _ _ _ _=>(lB (K:=K) (n:=2) rfl rfl (bQ (aO (i:=0) (by show List.Nodup (["a","b","last"]:List Str); decide +kernel) rfl (Or.inl rfl)) (bQ (aO (i:=1) (by show List.Nodup (["a","b","last"]:List Str); decide +kernel) rfl (Or.inl rfl)) eD)))) (fun _ _ _ _ _ _=>eV) (fun _ _ _ _ _ _=>(bz (aa (aD cG (pv 2) (pv 0)) (aa (aD cG (pv 2) (pv 1)) ab))))) ab))),?_⟩
 obtain ⟨xs,el,lxs,pr⟩:=hl.len
 refine ⟨_,rfl,l,rfl,⟨_,au.of el⟩,fun D hD=>eB (xs:=xs) (fun i ys H'=>af H H'/\H' D=some (.lst ys)/\bM H' ys ((ps.take i).map fun p=>(m - p.1,m - p.2))/\i<=ps.length) (sz (by lia)) ⟨af.new (af.refl H) hD _,upd_same,.nil,Nat.zero_le _⟩ (fun i ys H' hi h=>⟨au.of (h.1 _ _ el),?_⟩) (fun i x ys H' R R0 hx h r r0=>?_) (fun ys H' h=>?_)⟩
 ·rw [h.2.2.1.length,List.length_map,List.length_take]
  lia
 ·obtain ⟨sm,hy,py,hi⟩:=h
  obtain ⟨pp,tt,hpp,rfl,htt⟩:=pr.get hx
  have hlt:i < ps.length:=(List.getElem?_eq_some_iff.mp hpp).1
  refine ⟨tt,_,rfl,aT.of (sm _ _ htt),rfl,_,_,rfl,_,_,rfl,rfl,(Ext.set rfl).trans (Ext.set rfl),uf (dB ?_)⟩
  refine ⟨_,rfl,_,rfl,_,_,rfl,rfl,_,rfl,_,rfl,_,_,rfl,rfl,(by show 2<=sizeLine; decide),fun u1 pN=>?_⟩
  have nD:D≠u1:=ak hy pN
  have y1:=(upd_ne (o:=.tup [.int (m - pp.1),.int (m - pp.2)]) nD).trans hy
  have s1:=af.new sm pN (.tup [.int (m - pp.1),.int (m - pp.2)])
  have p1:=py.updN pN (.tup [.int (m - pp.1),.int (m - pp.2)])
  refine r _ _ y1 ⟨s1.upd hD _,upd_same,?_,hlt⟩
  rw [List.take_add_one,hpp,List.map_append]
  exact (p1.snoc (t:=u1) (p:=(m - pp.1,m - pp.2)) upd_same).updL y1 _
 ·obtain ⟨sm,hy,py,hi⟩:=h
  rw [List.take_of_length_le (by lia)] at py
  refine ⟨D,ps.map (fun p=>(m - p.1,m - p.2)),rfl,⟨ys,hy,py⟩,by rw [List.length_map]; exact h64,fun p qs H5 s5 f5 h5 pm rs=>q p qs H5 (sm.trans s5) (sm.free f5) h5 ?_ rs⟩
  rw [List.map_map] at pm
  refine pm.trans ?_
  rw [List.map_congr_left (f:=(fun p:Pair=>nm p.1 p.2) ∘ fun p:Pair=>(m - p.1,m - p.2)) (g:=dD m) fun p hp=>Cs (hlt p hp)]
theorem DB (F:aX K "bows_mirror" "bows_mirror" kA f fd) {fd0:FuncData} (xg:aM P w K mg base ["self"] 5 (tQ K ca) ca.qQ fd0) {fd1:FuncData} (zz:aM P w K mg base ["self","thing"] 3 (wZ K ca) ca.vK fd1) {f2:Addr} {fd2:FuncData} (lY:Def P w K mg base "mirrored_pairs" ["pairs","last"] 2 (nq K ca) f2 fd2) (aJ:mg "len" = none):ax P w K mg base bb 7 f fd ["thing"] (rC K ca):=by
 refine F.ok BU (fun vs H Q E h=>?_) (fun cdv A outer s H vs Q E hr h=>?_)
 ·obtain ⟨l,ps,rfl,hl,hz,bw,q⟩:=h
  rfl
 obtain ⟨l,ps,rfl,hl,hz,bw,q⟩:=h
 refine ⟨_,ai (aI (df (dU CA.mk_Bows CA.B1 xg hr) CA.ny CA.mt_Bows_refuse_other zz hr (aa (pv 0) ab)))
  (ag (av (az lY hr (aa (pv 0) (aa (aD cG (aD dF aj (aC aY rfl aJ bP (aa (pv 0) ab))) aj) ab))))),?_⟩
 intro x dx nx ndx nex
 refine ⟨x,dx,rfl,upd_same,fun fsx Hx1 ex fx=>⟨rfl,?_⟩⟩
 have sx:af H Hx1:=by rw [ex]; exact ((af.new (af.refl H) ndx _).upd nx _).upd nx _
 have hx:Hx1 x=some (.ins ca.bo dx fsx):=by rw [ex]; exact upd_same
 refine ⟨x,dx,fsx,rfl,hx,fx.no "refuse_other" (by decide) (by decide),_,rfl,x,dx,fsx,l,ps,rfl,hx,fx.no "is_one" (by decide) (by decide),hl.same sx,by lia,bw.bows,fun H2 s2=>?_⟩
 have t2:=sx.trans s2
 have hl2:=hl.same t2
 obtain ⟨xs,el,lxs,pr⟩:=hl2.len
 exact ⟨_,rfl,_,rfl,l,_,rfl,.inl (au.of el),_,_,rfl,rfl,.inl ⟨by decide,by decide⟩,_,_,rfl,rfl,l,ps,2*(ps.length:Int) - 1,(by rw [lxs]; rfl),hl2,by lia,fun p hp=>(bw.inr p hp).2.1,fun q' qs H3 s3 f3 h3 pm rs=>q q' qs H3 (t2.trans s3) (t2.free f3) h3 pm rs⟩
theorem Dy (F:aX K "brackets_to_bows" "brackets_to_bows" kU f fd) {fd0:FuncData} (dZ:aM P w K mg base ["self"] 5 (iw K ca) ca.i0 fd0) {fd1:FuncData} (fO:aM P w K mg base ["self","thing"] 3 (kB K ca) ca.mC fd1) (dy:mg "enumerate" = none) (aZ:mg "sorted" = none):ax P w K mg base bb 7 f fd ["thing"] (tP K ca):=by
 refine F.ok jQ (fun vs H Q E h=>?_) (fun cdv A outer s H vs Q E hr h=>?_)
 ·obtain ⟨t,rfl,hB,hz,q⟩:=h
  rfl
 obtain ⟨t,rfl,hB,hz,q⟩:=h
 refine ⟨_,ai (aI (df (dU CA.mk_Brackets CA.gv dZ hr) CA.de CA.mt_Brackets_refuse_other fO hr (aa (pv 0) ab)))
  (ai (aB (i:=1) jQ.nd rfl (Or.inl rfl) (bW ab))
  (ai (aB (i:=2) jQ.nd rfl (Or.inl rfl) (bW ab))
  (ai (ck PassesOwn.never rfl (yW rfl dy (aa (pv 0) ab)) (jA rfl (bQ (aO (i:=3) jQ.nd rfl (Or.inl rfl)) (bQ (aO (i:=4) jQ.nd rfl (Or.inl rfl)) eD))) (ag (aV (aG cc (pv 4) bh (aF _)) (ag (aI (cg PySem.F.plainAttrs_list PySem.F.slot_list_append PySem.F.type_list_append bJ (pv 2) (aa (pv 3) ab)))) (ag (aI (cg PySem.F.plainAttrs_list PySem.F.slot_list_append PySem.F.type_list_append bJ (pv 1) (aa (bz (aa (ip PySem.F.plainAttrs_list PySem.F.slot_list_pop PySem.F.type_list_pop iM (pv 2)) (aa (pv 3) ab))) ab)))))))
  (ag (av (aC cR rfl aZ c0 (aa (pv 1) ab))))))),?_⟩
 intro x dx nx ndx nex
 refine ⟨x,dx,rfl,upd_same,fun fsx Hx1 ex fx=>⟨rfl,?_⟩⟩
 have sx:af H Hx1:=by rw [ex]; exact ((af.new (af.refl H) ndx _).upd nx _).upd nx _
 have hx:Hx1 x=some (.ins ca.aA dx fsx):=by rw [ex]; exact upd_same
 refine ⟨x,dx,fsx,rfl,hx,fx.no "refuse_other" (by decide) (by decide),_,rfl,x,dx,fsx,t,rfl,hx,fx.no "is_one" (by decide) (by decide),hB,fun H2 s2=>?_⟩
 have t2:=sx.trans s2
 have lc:=bE t
 have tc:t.cps.size=t.length:=rfl
 refine ⟨Nat.zero_le _,fun pf hpf=>⟨Nat.zero_le _,fun ps hps=>?_⟩⟩
 have s3:=af.new t2 hpf (.lst [])
 have fpf:=t2.free hpf
 have fps:=s3.free hps
 have nfs:pf≠ps:=ak upd_same hps
 refine ⟨_,rfl,t,rfl,yO (x:=t) (fun i σ H'=>∃ (o1 o2:Option V) (fd:List Pair) (sk:List Int) (d:Nat),σ=[some (.str t),some (.ref pf),some (.ref ps),o1,o2]/\af H H'/\bL H' pf fd/\H' ps=some (.lst (sk.map V.int))/\Wk t.cps.toList i fd sk/\sk.length=d/\clo d (t.cps.toList.drop i)=true/\2*fd.length+d=i) ⟨_,_,[],[],0,rfl,af.new s3 hps _,⟨[],(upd_ne nfs).trans upd_same,.nil⟩,upd_same,Wk.nil _,rfl,hB,rfl⟩ ?_ ?_⟩
 ·rintro i c σ H3 T hc ⟨o1,o2,fd,sk,d,rfl,sm,⟨zs,hf,pz⟩,hs,wk,ld,cl,len⟩ hT
  have hi:i < t.cps.toList.length:=by
   have:=(Array.getElem?_eq_some_iff.mp hc).1
   simpa using this
  have hci:t.cps.toList[i]=c:=by
   have:=(Array.getElem?_eq_some_iff.mp hc).2
   simpa using this
  have hcd:t.cps.toList.getD i 0=c:=by rw [List.getD_eq_getElem?_getD,List.getElem?_eq_getElem hi]; exact hci
  have lz:=pz.length
  have lsm:(sk.map V.int).length=sk.length:=List.length_map _
  have nfT:pf≠T:=ak hf hT
  have nsT:ps≠T:=ak hs hT
  have sm4:=af.new sm hT (.tup [.int i,.str ⟨#[c]⟩])
  have hf4:=(upd_ne (o:=.tup [.int i,.str ⟨#[c]⟩]) nfT).trans hf
  have hs4:=(upd_ne (o:=.tup [.int i,.str ⟨#[c]⟩]) nsT).trans hs
  have pz4:=pz.updN hT (.tup [.int i,.str ⟨#[c]⟩])
  have hT4:upd H3 T (.tup [.int i,.str ⟨#[c]⟩]) T=some (.tup [.int i,.str ⟨#[c]⟩]):=upd_same
  generalize upd H3 T (.tup [.int i,.str ⟨#[c]⟩])=H4 at sm4 hf4 hs4 pz4 hT4 |-
  refine ⟨T,_,rfl,aT.of hT4,rfl,_,_,rfl,_,_,rfl,rfl,?_⟩
  refine ⟨_,rfl,rfl,_,rfl,hZ (jW c) ?_⟩
  rcases rF hi cl with ⟨g1,g2⟩ | ⟨g1,e,rfl,g2⟩
  ·have c40:c=40:=by rw [<- hci]; exact g1
   refine cJ c40 ⟨_,rfl,.inl ⟨rfl,_,au.of hs4⟩,_,rfl,ps,_,_,rfl,rfl,hs4,by rw [lsm]; exact hG (by lia),?_⟩
   refine ⟨_,_,fd,sk++[(i:Int)],d+1,rfl,sm4.upd fps _,⟨zs,(upd_ne nfs).trans hf4,pz4.updL hs4 _⟩,by rw [upd_same,List.map_append]; rfl,wk.up hi (by rw [hcd]; exact c40),by rw [List.length_append,ld]; rfl,g2,by lia⟩
  ·have c41:c=41:=by rw [<- hci]; exact g1
   obtain ⟨sk0,m,rfl⟩:∃ sk0 m,sk=sk0++[m]:=by
    have hne:sk≠[]:=by intro z; subst z; simp at ld
    exact ⟨sk.dropLast,sk.getLast hne,(List.dropLast_concat_getLast hne).symm⟩
   have hlast:((sk0++[m]).map V.int)[((sk0++[m]).map V.int).length - 1]? = some (.int m):=by
    rw [List.length_map,List.length_append,List.map_append]
    show (sk0.map V.int++[V.int m])[sk0.length+1 - 1]? = _
    rw [Nat.add_sub_cancel,List.getElem?_append_right (by simp)]
    simp
   have hdl:((sk0++[m]).map V.int).dropLast=sk0.map V.int:=by rw [List.map_append]; exact List.dropLast_concat
   have ld0:sk0.length=e:=by simpa using ld
   refine dA (by rw [c41]; decide) ⟨_,rfl,.inl ⟨rfl,_,au.of hf4⟩,_,rfl,.inl ⟨rfl,_,au.of hs4⟩,ps,_,_,rfl,rfl,hs4,hlast,?_⟩
   rw [hdl]
   have hf5:=(upd_ne (o:=.lst (sk0.map V.int)) nfs).trans hf4
   have pz5:=pz4.updL hs4 (.lst (sk0.map V.int))
   have sm5:=sm4.upd fps (.lst (sk0.map V.int))
   have hs5:upd H4 ps (.lst (sk0.map V.int)) ps=some (.lst (sk0.map V.int)):=upd_same
   generalize upd H4 ps (.lst (sk0.map V.int))=H5 at hf5 pz5 sm5 hs5 |-
   refine ⟨_,rfl,(by show 2<=sizeLine; decide),fun u hu=>?_⟩
   have nfu:pf≠u:=ak hf5 hu
   have nsu:ps≠u:=ak hs5 hu
   have hf6:=(upd_ne (o:=.tup [.int m,.int i]) nfu).trans hf5
   have pz6:=(pz5.updN hu (.tup [.int m,.int i])).snoc (t:=u) (p:=(m,(i:Int))) upd_same
   have hs6:=(upd_ne (o:=.tup [.int m,.int i]) nsu).trans hs5
   have sm6:=af.new sm5 hu (.tup [.int m,.int i])
   refine ⟨pf,_,_,rfl,rfl,hf6,hG (by lia),?_⟩
   refine ⟨_,_,fd++[(m,(i:Int))],sk0,e,rfl,sm6.upd fpf _,⟨_,upd_same,pz6.updL hf6 _⟩,(upd_ne (Ne.symm nfs)).trans hs6,wk.down hi (by rw [hcd]; exact c41),ld0,g2,by rw [List.length_append]; show 2*(fd.length+1)+e=i+1; lia⟩
 ·rintro σ H3 ⟨o1,o2,fd,sk,d,rfl,sm,hf,hs,wk,ld,cl,len⟩
  have d0:=Ba (by rw [lc]; exact Nat.le_refl _) cl
  subst d0
  obtain rfl:sk=[]:=List.eq_nil_of_length_eq_zero ld
  refine ⟨_,rfl,pf,fd,rfl,hf,by lia,fun pq qs H4 s4 f4 h4 hp hs4=>?_⟩
  have e:=wk.sorted hp hs4
  rw [tc] at e wk
  rw [e] at h4
  exact q pq H4 (sm.trans s4) (sm.free f4) h4 wk.bows
theorem C2 (F:aX K "_law_numbers" "_law_numbers" kK f fd) {f0:Addr} {fd0:FuncData} (fF:Def P w K mg base "_law_whole" ["_law_found"] 1 (jw K ca) f0 fd0) (bA:mg "isinstance" = none) (eE:mg "list" = none) (aJ:mg "len" = none) (aR:mg "range" = none):ax P w K mg base bb 2 f fd ["_law_found","_law_due"] (rM K ca):=by
 refine F.ok yb (fun vs H Q E h=>?_) (fun cdv A outer s H vs Q E hr h=>?_)
 ·obtain ⟨p,r,ns,rfl,hp,hr2,hz,q⟩:=h
  rfl
 obtain ⟨p,r,ns,rfl,hp,hr2,hz,q⟩:=h
 refine ⟨_,ai (aV (PW.pt (dO (bZ (bS (aC dv rfl bA cD (aa (pv 0) (aa (gz (v:=.ty "list") rfl eE nZ rfl) ab))))) (dS (aG gq (aC aY rfl aJ bP (aa (pv 0) ab)) (aC aY rfl aJ bP (aa (pv 1) ab)) (aF _))))) (ag (av bX)) aN)
  (ai (ck PassesOwn.never rfl (dJ rfl aR (aa (aC aY rfl aJ bP (aa (pv 1) ab)) ab)) (aO (i:=2) yb.nd rfl (Or.inl rfl)) (ag (aV (PW.pt (dO (bZ (bS (az fF hr (aa (aK bO (pv 0) (pv 2) (fun _ _=>rfl)) ab)))) (dS (aG gq (aK bO (pv 0) (pv 2) (fun _ _=>rfl)) (aK bO (pv 1) (pv 2) (fun _ _=>rfl)) (aF _))))) (ag (av bX)) aN)))
  (ag (av bX))),?_⟩
 have lm:(ns.map V.int).length=ns.length:=List.length_map _
 refine ⟨_,rfl,_,_,_,_,_,rfl,lN,.lst hp,je,_,rfl,bN ⟨_,rfl,p,_,rfl,.inl (au.of hp),_,rfl,r,_,rfl,.inl (au.of hr2),rfl,_,rfl,gx rfl ?_⟩⟩
 refine ⟨_,rfl,r,_,rfl,.inl (au.of hr2),_,rfl,by lia,by lia,d9 (lo:=0) (n:=(((ns.map V.int).length:Nat):Int).toNat) (fun i σ H'=>H=H'/\∃ o,σ=[some (.ref p),some (.ref r),o]) ⟨rfl,_,rfl⟩ ?_ ?_⟩
 ·rintro i σ H' hi ⟨rfl,o,rfl⟩
  have at1:=e6 (ns:=ns) (i:=(0:Int)+(i:Int)) (by lia) (by lia)
  exact ⟨_,rfl,_,rfl,p,_,_,_,rfl,rfl,au.of hp,at1,_,rfl,_,rfl,bN ⟨_,rfl,_,rfl,p,_,_,_,rfl,rfl,au.of hp,at1,_,rfl,_,rfl,r,_,_,_,rfl,rfl,au.of hr2,at1,rfl,_,rfl,gx rfl ⟨rfl,_,rfl⟩⟩⟩
 ·rintro σ H' ⟨rfl,o,rfl⟩
  exact q
theorem Cy (F:aX K "_law_turns_of" "_law_turns_of" ka f fd) {f0:Addr} {fd0:FuncData} (kG:Def P w K mg base "_law_mate" ["_law_text","_law_at"] 1 (mY K ca) f0 fd0) (aZ:mg "sorted" = none) (aR:mg "range" = none) (aJ:mg "len" = none):ax P w K mg base bb 2 f fd ["_law_text"] (rz K ca):=by
 refine F.ok yC (fun vs H Q E h=>?_) (fun cdv A outer s H vs Q E hr h=>?_)
 ·obtain ⟨t,rfl,hz,h40,q⟩:=h
  rfl
 obtain ⟨t,rfl,hz,h40,q⟩:=h
 refine ⟨_,ai (aB (i:=1) yC.nd rfl (Or.inl rfl) (aC cR rfl aZ c0 (aa (dP rfl (dJ rfl aR (aa (aC cP rfl aJ bP (aa (pv 0) ab)) ab)) rfl rfl rfl rfl (N:=["_law_k","_law_text"]) (.own (.cap (j:=0) rfl rfl rfl .nil)) (fun _ _ _ _ _ _=>(aO (i:=0) (by show List.Nodup (["_law_k","_law_text"]:List Str); decide +kernel) rfl (Or.inl rfl))) (fun _ _ _ _ _ _=>(oH (aG cc (aK iz (pv 1) (pv 0) (fun _ _=>rfl)) bh (aF _)))) (fun _ _ _ _ _ _=>(bz (aa (az kG hr (aa (pv 1) (aa (pv 0) ab))) (aa (pv 0) ab))))) ab)))
  (ag (av (dP rfl (cQ (pv 1)) rfl rfl rfl rfl (N:=["_law_pair","_law_text"]) (.own (.cap (j:=0) rfl rfl rfl .nil)) (fun _ _ _ _ _ _=>(aO (i:=0) (by show List.Nodup (["_law_pair","_law_text"]:List Str); decide +kernel) rfl (Or.inl rfl))) (fun _ _ _ _ _ _=>eV) (fun _ _ _ _ _ _=>(Dx (K:=K) rfl PySem.F.plainAttrs_str PySem.F.slot_str_count PySem.F.type_str_count zN (jb BO (pv 1) lM (j5 (aK (AJ (K:=K) rfl) (pv 0) aj (fun _ _=>rfl)))) (aa bh ab)))))),?_⟩
 have lc:=bE t
 have lz:t.length<=sizeLine:=sz (by lia)
 refine ⟨_,rfl,t,rfl,lz,_,rfl,by lia,by lia,fun D hD=>mr (lo:=0) (n:=((t.length:Nat):Int).toNat) (fun i ys H'=>af H H'/\H' D=some (.lst ys)/\bM H' ys ((bu t.cps.toList i).map eC)/\ys.length<=i) (sz (by lia)) ⟨af.new (af.refl H) hD _,upd_same,.nil,Nat.le_refl _⟩ (fun i ys H' _ h=>h.2.2.2) ?_ ?_⟩
 ·rintro i ys H5 R R0 hi ⟨s5,hD5,pr,ly⟩ hR hR0
  have hk:i < t.cps.toList.length:=by lia
  have hat:=iC (x:=t) (i:=(0:Int)+(i:Int)) (by lia) (by rw [show ((0:Int)+(i:Int)).toNat=i by lia]; exact List.getElem?_eq_getElem hk)
  have bs:=congrArg (List.map eC) (d6 t.cps.toList i)
  rw [show t.cps.toList.getD i 0=t.cps.toList[i] by rw [List.getD_eq_getElem?_getD,List.getElem?_eq_getElem hk]; rfl,List.map_append] at bs
  generalize t.cps.toList[i]=c at hat bs
  refine ⟨Ext.set rfl,⟨_,rfl,_,rfl,t,_,c,rfl,rfl,lz,hat,rfl,_,rfl,?_⟩⟩
  refine hZ (jW c) ?_
  by_cases hc:c=40
  ·rw [if_pos hc] at bs
   refine cJ hc ⟨_,rfl,_,rfl,t,i,(by rw [show (0:Int)+(i:Int)=(i:Int) by lia]; rfl),hz,by lia,_,rfl,(by show 2<=sizeLine; decide),fun t1 ht1=>?_⟩
   have n1:D≠t1:=ak hD5 ht1
   have hy1:=(upd_ne (o:=.tup [.int (bI t.cps.toList i),.int ((0:Int)+(i:Int))]) n1).trans hD5
   refine hR _ _ hy1 ⟨(af.new s5 ht1 _).upd hD _,upd_same,?_,by rw [List.length_append]; exact Nat.succ_le_succ ly⟩
   have:=((pr.updN ht1 (.tup [.int (bI t.cps.toList i),.int ((0:Int)+(i:Int))])).snoc (t:=t1) (p:=(bI t.cps.toList i,(0:Int)+(i:Int))) upd_same).updL hy1 (.lst (ys++[.ref t1]))
   rw [bs]
   have e0:(bI t.cps.toList i,(0:Int)+(i:Int))=eC ((i:Int),bI t.cps.toList i):=by rw [show (0:Int)+(i:Int)=(i:Int) by lia]; rfl
   rw [e0] at this
   exact this
  ·rw [if_neg hc,List.map_nil,List.append_nil] at bs
   exact dA hc (hR0 _ ⟨s5,hD5,by rw [bs]; exact pr,by lia⟩)
 ·rintro ys H5 ⟨s5,hD5,pr,_⟩
  rw [show ((t.length:Nat):Int).toNat=t.length by lia] at pr
  refine ⟨D,_,rfl,⟨ys,hD5,pr⟩,by rw [List.length_map]; lia,fun pq qs H6 s6 f6 h6 pm rs=>?_⟩
  have lq:qs.length<=40:=by rw [pm.length_eq,List.length_map]; exact h40
  have s56:=s5.trans s6
  obtain ⟨xs,el,lxs,pr6⟩:=h6.len
  have bnd:∀ p∈qs,0<=p.2:=fun p hp=>by
   obtain ⟨r,hr,rfl⟩:=List.mem_map.mp (pm.mem_iff.mp hp)
   exact (BA hr).1
  refine ⟨_,rfl,pq,rfl,⟨_,au.of el⟩,fun D2 hD2=>eB (xs:=xs) (fun i ys H'=>af H6 H'/\H' D2=some (.lst ys)/\ys=((qs.take i).map fun q=>ba t.cps.toList q.2).map V.int/\i<=qs.length) (sz (by lia)) ⟨af.new (af.refl H6) hD2 _,upd_same,rfl,Nat.zero_le _⟩ (fun i ys H' hi h=>⟨au.of (h.1 _ _ el),?_⟩) (fun i x ys H' R R0 hx h r r0=>?_) (fun ys H' h=>?_)⟩
  ·rw [h.2.2.1,List.length_map,List.length_map,List.length_take]
   lia
  ·obtain ⟨sm,hy,ey,hi⟩:=h
   obtain ⟨pp,tt,hpp,rfl,htt⟩:=pr6.get hx
   have hlt:i < qs.length:=(List.getElem?_eq_some_iff.mp hpp).1
   have b0:=bnd pp (List.mem_of_getElem? hpp)
   have ec:Txt.count (Txt.slice t none (some pp.2)) (Str.ofString "(")=ba t.cps.toList pp.2:=by
    rw [B0,xK,y9 b0]
    rfl
   refine ⟨Ext.set rfl,uf (dB ⟨_,rfl,_,rfl,tt,_,_,_,rfl,rfl,aT.of (sm _ _ htt),rfl,_,rfl,t,rfl,lz,rfl,_,_,rfl,rfl,?_⟩)⟩
   rw [ec]
   refine r _ _ hy ⟨sm.upd hD2 _,upd_same,?_,hlt⟩
   rw [List.take_add_one,hpp,List.map_append,List.map_append,<- ey]
   rfl
  ·obtain ⟨sm,hy,ey,hi⟩:=h
   rw [List.take_of_length_le (by lia)] at ey
   rw [ey] at hy
   exact q _ qs _ (s56.trans sm) (s56.free hD2) pm rs hy
theorem Bf (F:aX K "__init__" "Family.__init__" lA ca.qI fd):ax P w K mg base bb 1 ca.qI fd ["self","word","least"] (sP K ca):=by
 refine F.ok Ca (fun vs H Q E h=>?_) (fun cdv A outer s H vs Q E hr h=>?_)
 ·obtain ⟨x,dx,w,l,rfl,hx,q⟩:=h
  rfl
 obtain ⟨x,dx,w,l,rfl,hx,q⟩:=h
 refine ⟨_,ai (dX (pv 0) (pv 1) rfl)
  (ag (dX (pv 0) (pv 2) rfl)),?_⟩
 refine ⟨_,rfl,_,rfl,x,ca.aS,dx,_,rfl,hx,CA.kl,CA.fQ,(by show 0 < 1000; decide),?_⟩
 refine ⟨_,rfl,_,rfl,x,ca.aS,dx,_,rfl,upd_same,CA.kl,CA.fu,(by show 1 < 1000; decide),?_⟩
 exact q _ _ gy (iI w l)
theorem DZ (F:aX K "__init__" "SplitFamily.__init__" oW ca.xh fd) {fd0:FuncData} (wg:aM P w K mg base ["self","word","least"] 1 (sP K ca) ca.qI fd0):ax P w K mg base bb 3 ca.xh fd ["self","word"] (wG K ca):=by
 refine F.ok Et (fun vs H Q E h=>?_) (fun cdv A outer s H vs Q E hr h=>?_)
 ·obtain ⟨x,dx,w,rfl,hx,q⟩:=h
  rfl
 obtain ⟨x,dx,w,rfl,hx,q⟩:=h
 refine ⟨_,ag (aI (hV CA.gX CA.cm_Family___init___Turns wg hr (aa (pv 0) (aa (pv 1) (aa aj ab))))),?_⟩
 exact ⟨_,rfl,_,rfl,x,dx,w,0,rfl,hx,fun fs H' e f=>q fs H' e f⟩
theorem CS (F:aX K "__init__" "Turns.__init__" km ca.qz fd) {fd0:FuncData} (zI:aM P w K mg base ["self","word"] 3 (wG K ca) ca.xh fd0):ax P w K mg base bb 5 ca.qz fd ["self"] (rK K ca):=by
 refine F.ok BM (fun vs H Q E h=>?_) (fun cdv A outer s H vs Q E hr h=>?_)
 ·obtain ⟨x,dx,rfl,hx,q⟩:=h
  rfl
 obtain ⟨x,dx,rfl,hx,q⟩:=h
 refine ⟨_,ag (aI (hV CA.dk CA.cm_SplitFamily___init___Turns zI hr (aa (pv 0) (aa bh ab)))),?_⟩
 exact ⟨_,rfl,x,dx,_,rfl,hx,fun fs H' e f=>q fs H' e f⟩
theorem Bw (F:aX K "comes_off_a_stack" "comes_off_a_stack" lE f fd):ax P w K mg base bb 1 f fd ["numbers"] (ua K ca):=by
 refine F.ok jM (fun vs H Q E h=>?_) (fun cdv A outer s H vs Q E hr h=>?_)
 ·obtain ⟨l,row,rfl,hl,h64,hB,q⟩:=h
  rfl
 obtain ⟨l,row,rfl,hl,h64,hB,q⟩:=h
 refine ⟨_,ai (aB (i:=1) jM.nd rfl (Or.inl rfl) (bW ab))
  (ai (aB (i:=2) jM.nd rfl (Or.inl rfl) aj)
  (ai (ck PassesOwn.never rfl (cQ (pv 0)) (aO (i:=3) jM.nd rfl (Or.inl rfl)) (ai (sU PassesOwn.never (aG z0 (pv 2) (pv 3) (aF _)) (ai (aI (cg PySem.F.plainAttrs_list PySem.F.slot_list_append PySem.F.type_list_append bJ (pv 1) (aa (pv 2) ab)))
  (ag (nH (i:=2) jM.nd rfl (Or.inl rfl) aj sR))))
  (ag (aV (aG gq (ip PySem.F.plainAttrs_list PySem.F.slot_list_pop PySem.F.type_list_pop iM (pv 1)) (pv 3) (aF _)) (ag (av bX)) aN))))
  (ag (av bX)))),?_⟩
 have hperm:=(dc row).mp hB
 have lm:(row.map V.int).length=row.length:=List.length_map _
 refine ⟨Nat.zero_le _,fun ps hps=>?_⟩
 have s1:=af.new (af.refl H) hps (.lst [])
 have hs1:upd H ps (.lst []) ps=some (.lst ((stk row 0 0).map V.int)):=upd_same
 generalize upd H ps (.lst [])=H1 at s1 hs1 |-
 refine ⟨_,rfl,l,rfl,⟨_,au.of (s1 _ _ hl)⟩,gT (xs:=row.map V.int) (fun i σ H'=>∃ (o1:Option V) (p:Nat),σ=[some (.ref l),some (.ref ps),some (.int p),o1]/\af H H'/\H' ps=some (.lst ((stk row i p).map V.int))/\Off row i p/\p<=100) ⟨_,0,rfl,s1,hs1,Off.start row,by lia⟩ (fun i σ H' _ h=>au.of (h.choose_spec.choose_spec.2.1 _ _ hl)) ?_ ?_⟩
 ·rintro i v σ H2 hv ⟨o1,p,rfl,sm,hst,off,p100⟩
  obtain ⟨x,rfl⟩:=oX hv
  have hx:row[i]? = some x:=by
   rw [List.getElem?_map] at hv
   cases h:row[i]? with
   | none=>rw [h] at hv; cases hv
   | some d=>rw [h] at hv; injection hv with hv; injection hv with hv; rw [hv]
  have hi:i < row.length:=(List.getElem?_eq_some_iff.mp hx).1
  have xr:=iB.mp (hperm.mem_iff.mp (List.mem_of_getElem? hx))
  refine ⟨fun m σ H'=>∃ (d:Nat),σ=[some (.ref l),some (.ref ps),some (.int ((p+d:Nat):Int)),some (.int x)]/\af H H'/\H' ps=some (.lst ((stk row i (p+d)).map V.int))/\m=(x+1 - (p:Int) - (d:Int)).toNat/\(d=0\/((p+d:Nat):Int)<=x+1),⟨_,0,rfl,sm,hst,rfl,.inl rfl⟩,?_⟩
  rintro m σ H3 ⟨d,rfl,sm3,hst3,hm,hd⟩
  have lst:∀ k p:Nat,((stk row k p).map V.int).length<=p:=fun k p=>by
   rw [List.length_map]
   unfold stk
   exact Nat.le_trans (List.length_filter_le _ _) (by rw [oF]; exact Nat.le_refl _)
  refine ⟨_,rfl,_,rfl,_,_,rfl,rfl,_,rfl,?_⟩
  by_cases hle:((p+d:Nat):Int)<=x
  ·refine cJ hle ⟨fun σ' H'=>σ'=[some (.ref l),some (.ref ps),some (.int ((p+d:Nat)+1:Int)),some (.int x)]/\af H H'/\H' ps=some (.lst ((stk row i (p+d+1)).map V.int)),?_,?_⟩
   ·rintro σ' H' ⟨rfl,a1,a2⟩
    exact ⟨(x+1 - (p:Int) - ((d+1:Nat):Int)).toNat,by lia,d+1,by rw [show ((p+d:Nat):Int)+1=((p+(d+1):Nat):Int) by lia],a1,a2,rfl,.inr (by lia)⟩
   ·have hn:((p+d:Nat):Int)∉row.take i:=fun z=>by have:=off.below _ z; lia
    have:=lst i (p+d)
    refine ⟨_,rfl,.inl ⟨rfl,_,au.of hst3⟩,_,rfl,ps,_,_,rfl,rfl,hst3,hG (by lia),?_⟩
    refine ⟨_,rfl,_,_,rfl,rfl,rfl,sm3.upd hps _,?_⟩
    rw [upd_same,zc hn,List.map_append]
    rfl
  ·have hp':(((p+d:Nat):Nat):Int)=if (p:Int)<=x then x+1 else (p:Int):=by
    split<;>lia
   obtain ⟨l0,t,el,good,bad⟩:=off.step hperm hx hp'
   have lt:=lst i (p+d)
   rw [el] at hst3 lt
   have hlast:((l0++[t]).map V.int)[((l0++[t]).map V.int).length - 1]? = some (.int t):=by
    rw [List.length_map,List.length_append,List.map_append]
    show (l0.map V.int++[V.int t])[l0.length+1 - 1]? = _
    rw [Nat.add_sub_cancel,List.getElem?_append_right (by simp)]
    simp
   have hdl:((l0++[t]).map V.int).dropLast=l0.map V.int:=by rw [List.map_append]; exact List.dropLast_concat
   refine dA hle ⟨_,rfl,.inl ⟨rfl,_,au.of hst3⟩,ps,_,_,rfl,rfl,hst3,hlast,?_⟩
   rw [hdl]
   refine ⟨_,rfl,rfl,_,rfl,?_⟩
   by_cases e:t=x
   ·obtain ⟨g1,g2⟩:=good e
    refine gx (by rw [e]) ⟨_,p+d,rfl,sm3.upd hps _,by rw [upd_same,g1],g2,by lia⟩
   ·refine Ed (ne_int e) ?_
    have:=vW hi (bad e)
    rw [this] at q
    exact q _ (sm3.upd hps _)
 ·rintro σ H2 ⟨o1,p,rfl,sm,hst,off,_⟩
  have:mP row=true:=pF fun k hk=>off.fine k (by rw [lm]; exact hk)
  rw [this] at q
  exact q _ sm
theorem CJ (F:aX K "is_one" "Turns.is_one" j7 ca.qK fd) {f0:Addr} {fd0:FuncData} (kR:Def P w K mg base "each_once" ["numbers"] 1 (nR K ca) f0 fd0) {f1:Addr} {fd1:FuncData} (xi:Def P w K mg base "comes_off_a_stack" ["numbers"] 1 (ua K ca) f1 fd1):ax P w K mg base bb 2 ca.qK fd ["self","thing"] (rP K ca):=by
 refine F.ok DC (fun vs H Q E h=>?_) (fun cdv A outer s H vs Q E hr h=>?_)
 ·obtain ⟨x,l,ns,rfl,hl,h64,q⟩:=h
  rfl
 obtain ⟨x,l,ns,rfl,hl,h64,q⟩:=h
 refine ⟨_,ag (av (jG (az kR hr (aa (pv 1) ab)) (nO (az xi hr (aa (pv 1) ab))))),?_⟩
 refine ⟨_,rfl,l,ns,rfl,hl,by lia,fun H1 s1=>⟨_,rfl,?_⟩⟩
 unfold dW at q
 cases hB:dC ns with
 | false =>
  rw [hB,Bool.false_and] at q
  exact bN (q _ s1)
 | true =>
  rw [hB,Bool.true_and] at q
  exact dB ⟨_,rfl,l,ns,rfl,s1 _ _ hl,h64,hB,fun H2 s2=>q _ (s1.trans s2)⟩
theorem Ee (F:aX K "refuse_other" "Family.refuse_other" oR ca.vQ fd) {fd0:FuncData} (vN:aM P w K mg base ["self","thing"] 2 (rP K ca) ca.qK fd0):ax P w K mg base bb 3 ca.vQ fd ["self","thing"] (vY K ca):=by
 refine F.ok DX (fun vs H Q E h=>?_) (fun cdv A outer s H vs Q E hr h=>?_)
 ·obtain ⟨x,dx,fs,l,ns,rfl,hx,fo,hl,h64,hB,q⟩:=h
  rfl
 obtain ⟨x,dx,fs,l,ns,rfl,hx,fo,hl,h64,hB,q⟩:=h
 refine ⟨_,ag (aV (bZ (bS (df (pv 0) CA.kl CA.mt_Turns_is_one vN hr (aa (pv 1) ab)))) (ag gR) aN),?_⟩
 exact ⟨_,rfl,x,dx,fs,rfl,hx,fo,_,rfl,x,l,ns,rfl,hl,h64,fun H1 s1=>⟨_,rfl,by rw [hB]; exact bN (q H1 s1)⟩⟩
theorem Dg (F:aX K "turns_mirror" "turns_mirror" lD f fd) {fd0:FuncData} (wV:aM P w K mg base ["self"] 5 (rK K ca) ca.qz fd0) {fd1:FuncData} (yY:aM P w K mg base ["self","thing"] 3 (vY K ca) ca.vQ fd1) (aJ:mg "len" = none) (dy:mg "enumerate" = none):ax P w K mg base bb 7 f fd ["thing"] (tI K ca):=by
 refine F.ok jO (fun vs H Q E h=>?_) (fun cdv A outer s H vs Q E hr h=>?_)
 ·obtain ⟨l,ns,rfl,hl,hz,hT,q⟩:=h
  rfl
 obtain ⟨l,ns,rfl,hl,hz,hT,q⟩:=h
 refine ⟨_,ai (aI (df (dU CA.mk_Turns CA.A0 wV hr) CA.kl CA.mt_Turns_refuse_other yY hr (aa (pv 0) ab)))
  (ai (aB (i:=1) jO.nd rfl (Or.inl rfl) (aD cG (aC aY rfl aJ bP (aa (pv 0) ab)) aj))
  (ai (aB (i:=2) jO.nd rfl (Or.inl rfl) (aD CQ (bW (aa aj ab)) (aC aY rfl aJ bP (aa (pv 0) ab))))
  (ai (ck PassesOwn.never rfl (AY rfl dy (aa (pv 0) ab)) (jA rfl (bQ (aO (i:=3) jO.nd rfl (Or.inl rfl)) (bQ (aO (i:=4) jO.nd rfl (Or.inl rfl)) eD))) (ag (ye (aD cG (pv 1) (pv 3)) (xC (pv 2) (aD cG (pv 1) (pv 4)) set_list))))
  (ag (av (pv 2)))))),?_⟩
 intro x dx nx ndx nex
 refine ⟨x,dx,rfl,upd_same,fun fsx Hx1 ex fx=>⟨rfl,?_⟩⟩
 have sx:af H Hx1:=by rw [ex]; exact ((af.new (af.refl H) ndx _).upd nx _).upd nx _
 have hx:Hx1 x=some (.ins ca.aS dx fsx):=by rw [ex]; exact upd_same
 refine ⟨x,dx,fsx,rfl,hx,fx.no "refuse_other" (by decide) (by decide),_,rfl,x,dx,fsx,l,ns,rfl,hx,fx.no "is_one" (by decide) (by decide),sx _ _ hl,by lia,hT,fun H2 s2=>?_⟩
 have t2:=sx.trans s2
 have hl2:=t2 _ _ hl
 have hp:=pL hT
 have lm:(ns.map V.int).length=ns.length:=List.length_map _
 refine ⟨_,rfl,l,_,rfl,.inl (au.of hl2),_,_,rfl,rfl,?_⟩
 refine ⟨(by show 1<=sizeLine; decide),fun p1 hp1=>?_⟩
 have s3:=af.new t2 hp1 (.lst [.int 0])
 have n1:l≠p1:=ak hl2 hp1
 refine ⟨_,rfl,l,_,rfl,.inl (au.of ((upd_ne n1).trans hl2)),p1,_,_,rfl,rfl,upd_same,by lia,by lia,sz (by simp; lia),fun pf hpf=>?_⟩
 have s4:=af.new s3 hpf (.lst (List.replicate (((ns.map V.int).length:Nat):Int).toNat [V.int 0]).flatten)
 have fpf:=s3.free hpf
 have hf4:upd (upd H2 p1 (.lst [.int 0])) pf (.lst (List.replicate (((ns.map V.int).length:Nat):Int).toNat [V.int 0]).flatten) pf=some (.lst ((fq ns 0).map V.int)):=by
  rw [upd_same,As,yc,List.map_replicate,show (((ns.map V.int).length:Nat):Int).toNat=ns.length by lia]
 generalize upd (upd H2 p1 (.lst [.int 0])) pf (.lst (List.replicate (((ns.map V.int).length:Nat):Int).toNat [V.int 0]).flatten)=H4 at s4 hf4 |-
 have nlf:l≠pf:=ak (s3 _ _ hl) hpf
 refine ⟨_,rfl,l,rfl,⟨_,au.of (s4 _ _ hl)⟩,zU (xs:=ns.map V.int) (fun i σ H'=>∃ (o1 o2:Option V),σ=[some (.ref l),some (.int ((((ns.map V.int).length:Nat):Int) - 1)),some (.ref pf),o1,o2]/\af H H'/\H' pf=some (.lst ((fq ns i).map V.int))) ⟨_,_,rfl,s4,hf4⟩ (fun i σ H' _ h=>au.of (h.choose_spec.choose_spec.2.1 _ _ hl)) ?_ ?_⟩
 ·rintro i v σ H5 T hv ⟨o1,o2,rfl,sm,hf5⟩ hT5
  obtain ⟨c,rfl⟩:=oX hv
  have hc:ns[i]? = some c:=by
   rw [List.getElem?_map] at hv
   cases h:ns[i]? with
   | none=>rw [h] at hv; cases hv
   | some d=>rw [h] at hv; injection hv with hv; injection hv with hv; rw [hv]
  have hi:i < ns.length:=(List.getElem?_eq_some_iff.mp hc).1
  have cr:=(ig hp).mp (List.mem_of_getElem? hc)
  have sm6:=af.new sm hT5 (.tup [.int (i:Int),.int c])
  have hf6:=(upd_ne (o:=.tup [.int (i:Int),.int c]) (ak hf5 hT5)).trans hf5
  have hT6:upd H5 T (.tup [.int (i:Int),.int c]) T=some (.tup [.int (i:Int),.int c]):=upd_same
  generalize upd H5 T (.tup [.int (i:Int),.int c])=H6 at sm6 hf6 hT6 |-
  have lS:((fq ns i).map V.int).length=ns.length:=by rw [List.length_map,tR]
  refine ⟨T,_,rfl,aT.of hT6,rfl,_,_,rfl,_,_,rfl,rfl,?_⟩
  refine ⟨_,rfl,_,rfl,_,_,rfl,rfl,_,rfl,_,rfl,_,rfl,_,_,rfl,rfl,pf,_,_,_,rfl,rfl,hf6,uT (by lia) (by lia),?_⟩
  refine ⟨_,_,rfl,sm6.upd fpf _,?_⟩
  rw [upd_same,<- List.map_set,lm,yI hp hc]
 ·rintro σ H5 ⟨o1,o2,rfl,sm,hf5⟩
  rw [lm,yT hp] at hf5
  exact ⟨_,rfl,q _ _ sm fpf hf5⟩
theorem Df (F:aX K "closed_in_runs" "closed_in_runs" kI f fd):ax P w K mg base bb 1 f fd ["text"] (sA K ca):=by
 refine F.ok fH (fun vs H Q E h=>?_) (fun cdv A outer s H vs Q E hr h=>?_)
 ·obtain ⟨t,rfl,hB,hz,q⟩:=h
  rfl
 obtain ⟨t,rfl,hB,hz,q⟩:=h
 refine ⟨_,ai (aB (i:=1) fH.nd rfl (Or.inl rfl) (bW ab))
  (ai (aB (i:=2) fH.nd rfl (Or.inl rfl) (bW ab))
  (ai (aB (i:=3) fH.nd rfl (Or.inl rfl) aj)
  (ai (aB (i:=4) fH.nd rfl (Or.inl rfl) bh)
  (ai (ck PassesOwn.never rfl (qU (pv 0)) (aO (i:=5) fH.nd rfl (Or.inl rfl)) (ai (aV (aG cc (pv 5) bh (aF _)) (ai (aI (cg PySem.F.plainAttrs_list PySem.F.slot_list_append PySem.F.type_list_append bJ (pv 2) (aa (pv 3) ab)))
  (ag (nH (i:=3) fH.nd rfl (Or.inl rfl) aj sR))) (vq (aV (aG cc (pv 4) bh (aF _)) (ag (aI (cg PySem.F.plainAttrs_list PySem.F.slot_list_append PySem.F.type_list_append bJ (pv 1) (aa (bW ab) ab)))) aN)
  (ag (aI (cg PySem.F.plainAttrs_list PySem.F.slot_list_append PySem.F.type_list_append bJ (aK bO (pv 1) (jc gU aj) (fun _ _=>rfl)) (aa (ip PySem.F.plainAttrs_list PySem.F.slot_list_pop PySem.F.type_list_pop iM (pv 2)) ab))))))
  (ag (aB (i:=4) fH.nd rfl (Or.inl rfl) (pv 5)))))
  (ag (av (pv 1))))))),?_⟩
 have lc:=bE t
 have tc:t.cps.size=t.length:=rfl
 refine ⟨Nat.zero_le _,fun pr hpr=>⟨Nat.zero_le _,fun ps hps=>?_⟩⟩
 have s1:=af.new (af.refl H) hpr (.lst [])
 have fps:=s1.free hps
 have nrs:pr≠ps:=ak upd_same hps
 have s2:=af.new s1 hps (.lst [])
 have hr2:cM (upd (upd H pr (.lst [])) ps (.lst [])) (upd (upd H pr (.lst [])) ps (.lst [])) pr []:=cM.nil ((upd_ne nrs).trans upd_same)
 have hs2:upd (upd H pr (.lst [])) ps (.lst []) ps=some (.lst ((([]:List Int).map (ba t.cps.toList)).map V.int)):=upd_same
 generalize upd (upd H pr (.lst [])) ps (.lst [])=H2 at s2 hr2 hs2 |-
 refine ⟨_,rfl,t,rfl,o5 (x:=t) (fun i σ H'=>∃ (o1:Option V) (ah:Str) (fd:List Pair) (sk:List Int) (rs:List (List Int)),σ=[some (.str t),some (.ref pr),some (.ref ps),some (.int (((t.cps.toList.take i).count 40:Nat):Int)),some (.str ah),o1]/\af H H'/\eZ H2 H'/\cM H2 H' pr rs/\H' ps=some (.lst ((sk.map (ba t.cps.toList)).map V.int))/\Wk t.cps.toList i fd sk/\Wf t.cps.toList i fd/\clo sk.length (t.cps.toList.drop i)=true/\rs.flatten=(fd.map fun p=>ba t.cps.toList p.1)/\(ah=Str.ofString "("\/rs≠[])/\sk.length<=i/\fd.length<=i/\rs.length<=i) ⟨_,_,[],[],[],rfl,s2,eZ.refl H2,hr2,hs2,Wk.nil _,⟨rfl,fun j p hp=>by simp at hp⟩,hB,rfl,.inl rfl,Nat.le_refl _,Nat.le_refl _,Nat.le_refl _⟩ ?_ ?_⟩
 ·rintro i c σ H3 hc ⟨o1,ah,fd,sk,rs,rfl,sm,st,hr3,hs3,wk,wf,cl,fl,ha,l1,l2,l3⟩
  have hi:i < t.cps.toList.length:=by
   have:=(Array.getElem?_eq_some_iff.mp hc).1
   simpa using this
  have hci:t.cps.toList[i]=c:=by
   have:=(Array.getElem?_eq_some_iff.mp hc).2
   simpa using this
  have hcd:t.cps.toList.getD i 0=c:=by rw [List.getD_eq_getElem?_getD,List.getElem?_eq_getElem hi]; exact hci
  have lsm:((sk.map (ba t.cps.toList)).map V.int).length=sk.length:=by rw [List.length_map,List.length_map]
  have tk:(t.cps.toList.take (i+1)).count 40=(t.cps.toList.take i).count 40+if c=40 then 1 else 0:=by
   rw [List.take_succ_eq_append_getElem hi,List.count_append,hci]
   by_cases e:c=40
   ·rw [e]; rfl
   ·rw [if_neg e]; simp [e]
  refine ⟨_,rfl,rfl,_,rfl,hZ (jW c) ?_⟩
  rcases rF hi cl with ⟨g1,g2⟩ | ⟨g1,e,he,g2⟩
  ·have c40:c=40:=by rw [<- hci]; exact g1
   rw [if_pos c40] at tk
   refine cJ c40 ⟨_,rfl,.inl ⟨rfl,_,au.of hs3⟩,_,rfl,ps,_,_,rfl,rfl,hs3,by rw [lsm]; exact hG (by lia),?_⟩
   have hr4:=hr3.updC (o:=.lst ((sk.map (ba t.cps.toList)).map V.int++[.int (((t.cps.toList.take i).count 40:Nat):Int)])) hs2 nrs
   refine ⟨_,rfl,_,_,rfl,rfl,_,rfl,_,_,fd,sk++[(i:Int)],rs,by rw [tk]; rfl,sm.upd fps _,st.upd ps _,hr4,?_,wk.up hi (by rw [hcd]; exact c40),wf.up hi (by rw [hcd]; exact c40),by rw [List.length_append]; exact g2,fl,.inl (by rw [c40,B0]),by rw [List.length_append]; exact Nat.succ_le_succ l1,by lia,by lia⟩
   rw [upd_same,List.map_append,List.map_append]
   rfl
  ·have c41:c=41:=by rw [<- hci]; exact g1
   rw [if_neg (by lia)] at tk
   obtain ⟨sk0,m,rfl⟩:∃ sk0 m,sk=sk0++[m]:=by
    have hne:sk≠[]:=by intro z; subst z; simp at he
    exact ⟨sk.dropLast,sk.getLast hne,(List.dropLast_concat_getLast hne).symm⟩
   refine dA (by lia) ⟨fun σ H'=>∃ (rs':List (List Int)),σ=[some (.str t),some (.ref pr),some (.ref ps),some (.int (((t.cps.toList.take i).count 40:Nat):Int)),some (.str ah),some (.str ⟨#[c]⟩)]/\af H H'/\eZ H2 H'/\cM H2 H' pr rs'/\H' ps=some (.lst (((sk0++[m]).map (ba t.cps.toList)).map V.int))/\rs'≠[]/\rs'.flatten=rs.flatten/\rs'.length<=i+1,?_,?_⟩
   ·refine ⟨_,rfl,rfl,_,rfl,?_⟩
    by_cases ea:ah=Str.ofString "("
    ·obtain ⟨xs,ex,lx⟩:=hr3.len
     refine cJ (congrArg V.str ea) ⟨_,rfl,.inl ⟨rfl,_,au.of ex⟩,Nat.zero_le _,fun pn hpn=>?_⟩
     have ex1:=(upd_ne (o:=.lst []) (ak ex hpn)).trans ex
     refine ⟨pr,_,_,rfl,rfl,ex1,hG (by lia),rs++[[]],rfl,(af.new sm hpn _).upd hpr _,(st.new pn).upd pr _,hr3.snoc ex hpn (st.free' hpn) [],(upd_ne (Ne.symm nrs)).trans ((upd_ne (ak hs3 hpn)).trans hs3),by simp,by simp,by rw [List.length_append]; exact Nat.succ_le_succ l3⟩
    ·exact dA (fun z=>ea (V.str.inj z)) ⟨rs,rfl,sm,st,hr3,hs3,ha.resolve_left ea,rfl,by lia⟩
   ·rintro σ H4 ⟨rs',rfl,sm4,st4,hr4,hs4,ne,fl',l4⟩
    obtain ⟨rs0,rl,rfl⟩:∃ rs0 rl,rs'=rs0++[rl]:=⟨rs'.dropLast,rs'.getLast ne,(List.dropLast_concat_getLast ne).symm⟩
    obtain ⟨xs,ex,lx⟩:=hr4.len
    obtain ⟨b,hb1,hb2,hb3,hb4⟩:=hr4.get ex (j:=rs0.length) (ns:=rl) (by simp)
    have atl:eR xs (-1)=some (.ref b):=by
     have lxs:xs.length=rs0.length+1:=by rw [lx,List.length_append]; rfl
     have nx:xs≠[]:=fun z=>by rw [z] at lxs; cases lxs
     have ex2:xs=xs.dropLast++[xs.getLast nx]:=(List.dropLast_concat_getLast nx).symm
     rw [ex2,List.getElem?_append_right (by rw [List.length_dropLast]; lia),List.length_dropLast,show rs0.length - (xs.length - 1)=0 by lia] at hb1
     rw [ex2,y8]
     exact hb1
    have hlast:(((sk0++[m]).map (ba t.cps.toList)).map V.int)[(((sk0++[m]).map (ba t.cps.toList)).map V.int).length - 1]? = some (.int (ba t.cps.toList m)):=by
     rw [List.length_map,List.length_map,List.length_append,List.map_append,List.map_append]
     show ((sk0.map (ba t.cps.toList)).map V.int++[V.int (ba t.cps.toList m)])[sk0.length+1 - 1]? = _
     rw [Nat.add_sub_cancel,List.getElem?_append_right (by simp)]
     simp
    have hdl:(((sk0++[m]).map (ba t.cps.toList)).map V.int).dropLast=(sk0.map (ba t.cps.toList)).map V.int:=by rw [List.map_append,List.map_append]; exact List.dropLast_concat
    have nbp:b≠ps:=fun z=>by rw [z,hs2] at hb3; cases hb3
    have rlen:rl.length<=fd.length:=by
     have:=congrArg List.length (fl'.trans fl)
     rw [List.flatten_append,List.length_append,List.length_map] at this
     simp at this
     lia
    have hb5:=(upd_ne (o:=.lst ((((sk0++[m]).map (ba t.cps.toList)).map V.int).dropLast)) nbp).trans hb2
    have hr5:=hr4.updC (o:=.lst ((((sk0++[m]).map (ba t.cps.toList)).map V.int).dropLast)) hs2 nrs
    have ex5:=(upd_ne (o:=.lst ((((sk0++[m]).map (ba t.cps.toList)).map V.int).dropLast)) nrs).trans ex
    have sm5:=sm4.upd fps (.lst ((((sk0++[m]).map (ba t.cps.toList)).map V.int).dropLast))
    have st5:=st4.upd ps (.lst ((((sk0++[m]).map (ba t.cps.toList)).map V.int).dropLast))
    refine ⟨_,rfl,_,rfl,pr,_,_,_,rfl,rfl,au.of ex,atl,.inl ⟨rfl,_,au.of hb2⟩,_,rfl,.inl ⟨rfl,_,au.of hs4⟩,ps,_,_,rfl,rfl,hs4,hlast,b,_,_,rfl,rfl,hb5,by rw [List.length_map]; exact hG (by lia),?_⟩
    have hr6:=hr5.put ex5 hb1 (rl++[ba t.cps.toList m])
    rw [show (rl++[ba t.cps.toList m]).map V.int=rl.map V.int++[V.int (ba t.cps.toList m)] by rw [List.map_append]; rfl] at hr6
    have fb:H b=none:=s2.free hb3
    refine ⟨_,rfl,_,_,fd++[(m,(i:Int))],sk0,(rs0++[rl]).set rs0.length (rl++[ba t.cps.toList m]),by rw [tk]; rfl,sm5.upd fb _,st5.upd b _,hr6,?_,wk.down hi (by rw [hcd]; exact c41),wf.down hi (by rw [hcd]; exact c41),?_,?_,.inr ?_,?_,?_,?_⟩
    ·rw [upd_ne (Ne.symm nbp),upd_same,hdl]
    ·rw [List.length_append] at he
     have he':sk0.length+1=e+1:=he
     rw [show sk0.length=e by lia]
     exact g2
    ·rw [List.set_append_right _ _ (Nat.le_refl _),Nat.sub_self]
     show (rs0++[rl++[ba t.cps.toList m]]).flatten=_
     have f0:=fl'.trans fl
     rw [List.flatten_append] at f0 |-
     have e1:[rl++[ba t.cps.toList m]].flatten=[rl].flatten++[ba t.cps.toList m]:=by simp
     rw [e1,<- List.append_assoc,f0,List.map_append]
     rfl
    ·intro z
     have:=congrArg List.length z
     simp at this
    ·rw [List.length_append] at l1
     have l1':sk0.length+1<=i:=l1
     lia
    ·rw [List.length_append]; exact Nat.succ_le_succ l2
    ·rw [List.length_set]; exact l4
 ·rintro σ H3 ⟨o1,ah,fd,sk,rs,rfl,sm,st,hr3,hs3,wk,wf,cl,fl,ha,l1,l2,l3⟩
  rw [show t.cps.size=t.cps.toList.length by lia] at wk wf cl
  rw [List.drop_length,ee] at cl
  have sk0:sk=[]:=List.eq_nil_of_length_eq_zero (by simpa using cl)
  subst sk0
  exact ⟨_,rfl,q _ rs fd _ sm hpr (hr3.since s2) wk wf fl⟩
theorem Ds (F:aX K "brackets_to_turns" "brackets_to_turns" ma f fd) {fd0:FuncData} (dZ:aM P w K mg base ["self"] 5 (iw K ca) ca.i0 fd0) {fd1:FuncData} (fO:aM P w K mg base ["self","thing"] 3 (kB K ca) ca.mC fd1) {f2:Addr} {fd2:FuncData} (lr:Def P w K mg base "flat" ["rows"] 1 (nI K ca) f2 fd2) {f3:Addr} {fd3:FuncData} (wB:Def P w K mg base "closed_in_runs" ["text"] 1 (sA K ca) f3 fd3):ax P w K mg base bb 7 f fd ["thing"] (ue K ca):=by
 refine F.ok C6 (fun vs H Q E h=>?_) (fun cdv A outer s H vs Q E hr h=>?_)
 ·obtain ⟨t,rfl,hB,hz,q⟩:=h
  rfl
 obtain ⟨t,rfl,hB,hz,q⟩:=h
 refine ⟨_,ai (aI (df (dU CA.mk_Brackets CA.gv dZ hr) CA.de CA.mt_Brackets_refuse_other fO hr (aa (pv 0) ab)))
  (ag (av (az lr hr (aa (az wB hr (aa (pv 0) ab)) ab)))),?_⟩
 intro x dx nx ndx nex
 refine ⟨x,dx,rfl,upd_same,fun fsx Hx1 ex fx=>⟨rfl,?_⟩⟩
 have sx:af H Hx1:=by rw [ex]; exact ((af.new (af.refl H) ndx _).upd nx _).upd nx _
 have hx:Hx1 x=some (.ins ca.aA dx fsx):=by rw [ex]; exact upd_same
 refine ⟨x,dx,fsx,rfl,hx,fx.no "refuse_other" (by decide) (by decide),_,rfl,x,dx,fsx,t,rfl,hx,fx.no "is_one" (by decide) (by decide),hB,fun H2 s2=>?_⟩
 have t2:=sx.trans s2
 refine ⟨_,rfl,t,rfl,hB,hz,fun p rs fd H3 s3 f3 h3 wk wf fl=>?_⟩
 obtain ⟨bs,hp,rw_⟩:=h3.rws
 have lf:fd.length<=t.length:=by
  rw [wf.ln,List.take_length,<- bE]
  exact List.count_le_length
 have ef:(rs.map fun r=>r.map V.int).flatten=(fd.map fun p=>ba t.cps.toList p.1).map V.int:=by rw [<- fl,List.map_flatten]
 refine ⟨p,rfl,.inr ⟨bs,_,hp,rw_,by rw [ef,List.length_map,List.length_map]; lia,fun r H4 s4 f4 h4=>?_⟩⟩
 have t3:=t2.trans s3
 rw [ef] at h4
 exact q r fd H4 (t3.trans s4) (t3.free f4) wk wf h4
theorem Du (F:aX K "__init__" "Family.__init__" kT ca.qv fd):ax P w K mg base bb 1 ca.qv fd ["self","word","least"] (su K ca):=by
 refine F.ok CL (fun vs H Q E h=>?_) (fun cdv A outer s H vs Q E hr h=>?_)
 ·obtain ⟨x,dx,w,l,rfl,hx,q⟩:=h
  rfl
 obtain ⟨x,dx,w,l,rfl,hx,q⟩:=h
 refine ⟨_,ai (dX (pv 0) (pv 1) rfl)
  (ag (dX (pv 0) (pv 2) rfl)),?_⟩
 refine ⟨_,rfl,_,rfl,x,ca.aP,dx,_,rfl,hx,CA.gB,CA.fN,(by show 0 < 1000; decide),?_⟩
 refine ⟨_,rfl,_,rfl,x,ca.aP,dx,_,rfl,upd_same,CA.gB,CA.ff,(by show 1 < 1000; decide),?_⟩
 exact q _ _ gy (iI w l)
theorem Es (F:aX K "__init__" "SplitFamily.__init__" oN ca.we fd) {fd0:FuncData} (xx:aM P w K mg base ["self","word","least"] 1 (su K ca) ca.qv fd0):ax P w K mg base bb 3 ca.we fd ["self","word"] (vZ K ca):=by
 refine F.ok Ew (fun vs H Q E h=>?_) (fun cdv A outer s H vs Q E hr h=>?_)
 ·obtain ⟨x,dx,w,rfl,hx,q⟩:=h
  rfl
 obtain ⟨x,dx,w,rfl,hx,q⟩:=h
 refine ⟨_,ag (aI (hV CA.gX CA.cm_Family___init___Twins xx hr (aa (pv 0) (aa (pv 1) (aa aj ab))))),?_⟩
 exact ⟨_,rfl,_,rfl,x,dx,w,0,rfl,hx,fun fs H' e f=>q fs H' e f⟩
theorem CB (F:aX K "__init__" "Twins.__init__" kr ca.kJ fd) {fd0:FuncData} (zk:aM P w K mg base ["self","word"] 3 (vZ K ca) ca.we fd0):ax P w K mg base bb 5 ca.kJ fd ["self"] (jN K ca):=by
 refine F.ok B9 (fun vs H Q E h=>?_) (fun cdv A outer s H vs Q E hr h=>?_)
 ·obtain ⟨x,dx,rfl,hx,q⟩:=h
  rfl
 obtain ⟨x,dx,rfl,hx,q⟩:=h
 refine ⟨_,ag (aI (hV CA.dk CA.cm_SplitFamily___init___Twins zk hr (aa (pv 0) (aa bh ab)))),?_⟩
 exact ⟨_,rfl,x,dx,_,rfl,hx,fun fs H' e f=>q fs H' e f⟩
theorem Bo (F:aX K "is_one" "Twins.is_one" kY ca.qD fd):ax P w K mg base bb 1 ca.qD fd ["self","thing"] (tF K ca):=by
 refine F.ok C9 (fun vs H Q E h=>?_) (fun cdv A outer s H vs Q E hr h=>?_)
 ·obtain ⟨x,v,b,rfl,th,q⟩:=h
  rfl
 obtain ⟨x,v,b,rfl,th,q⟩:=h
 refine ⟨_,ag (av bX),?_⟩
 exact q _ (af.refl H)
theorem Eh (F:aX K "refuse_other" "Family.refuse_other" oS ca.oI fd) {fd0:FuncData} (vF:aM P w K mg base ["self","thing"] 1 (tF K ca) ca.qD fd0):ax P w K mg base bb 2 ca.oI fd ["self","thing"] (nB K ca):=by
 refine F.ok Eb (fun vs H Q E h=>?_) (fun cdv A outer s H vs Q E hr h=>?_)
 ·obtain ⟨x,dx,fs,wd,v,t,rfl,hx,fl,th,q⟩:=h
  rfl
 obtain ⟨x,dx,fs,wd,v,t,rfl,hx,fl,th,q⟩:=h
 refine ⟨_,ag (aV (bZ (bS (df (pv 0) CA.gB CA.mt_Twins_is_one vF hr (aa (pv 1) ab)))) (ag gR) aN),?_⟩
 exact ⟨_,rfl,x,dx,fs,rfl,hx,fl.no "is_one" (by decide) (by decide),_,rfl,x,v,t,rfl,th,fun H1 s1=>⟨_,rfl,bN (q H1 s1)⟩⟩
theorem Bz (F:aX K "mirrored_twins" "mirrored_twins" kS f fd) (n:Nat) (cE:Def P w K mg base "mirrored_twins" ["twin"] (0+n) (below n fun m=>nQ K ca m) f fd):ax P w K mg base (iG P w) (0+n+1) f fd ["twin"] (nQ K ca n):=by
 refine ax.up ?_
 refine F.ok Bp (fun vs H Q E h=>?_) (fun cdv A outer s H vs Q E hr h=>?_)
 ·obtain ⟨v,t,rfl,tv,hn,h40,q⟩:=h
  rfl
 obtain ⟨v,t,rfl,tv,hn,h40,q⟩:=h
 refine ⟨_,ai (aV (aG (jr (cO hr)) (pv 0) (bz ab) (aF _)) (ag (av (bz ab))) aN)
  (ag (av (bz (aa (az cE hr (aa (aK bD (pv 0) aj (fun _ _=>rfl)) ab) (hjk:=by lia)) (aa (az cE hr (aa (aK bD (pv 0) aj (fun _ _=>rfl)) ab) (hjk:=by lia)) ab))))),?_⟩
 obtain ⟨p,zs,rfl,hp,hz⟩:=tv.ref
 refine ⟨_,rfl,Nat.zero_le _,fun pt hpt=>?_⟩
 have npt:p≠pt:=ak hp hpt
 have s1:=af.new (af.refl H) hpt (.tup [])
 have hp1:=s1 _ _ hp
 refine ⟨1,_,by decide,bC.unit npt (aT.of hp1) (aT.of upd_same),⟨p,pt,rfl,rfl,npt⟩,_,rfl,?_⟩
 generalize upd H pt (.tup [])=H1 at s1 hp1 |-
 cases t with
 | leaf =>
  have ez:=hz.mpr rfl
  subst ez
  exact eqT (decide_eq_true rfl) ⟨Nat.zero_le _,fun pe hpe=>q _ _ (af.new s1 hpe _) (s1.free hpe) ⟨pe,rfl,upd_same⟩⟩
 | node l r =>
  have ez:zs≠[]:=fun z=>by cases hz.mp z
  obtain ⟨p',a,b,e1,hp',tl,tr⟩:=tv
  cases e1
  rw [hp] at hp'
  cases hp'
  have hn:l.size+r.size+1=n:=hn
  refine xy (decide_eq_false ez) ⟨_,rfl,p,_,_,_,rfl,rfl,aT.of hp1,rfl,r.size,by lia,b,r,rfl,Tw.same s1 tr,rfl,by lia,fun u2 H2 s2 _ tu2=>?_⟩
  have s12:=s1.trans s2
  refine ⟨_,rfl,p,_,_,_,rfl,rfl,aT.of (s12 _ _ hp),rfl,l.size,by lia,a,l,rfl,Tw.same s12 tl,rfl,by lia,fun u3 H3 s3 _ tu3=>⟨(by show 2<=sizeLine; decide),fun pe hpe=>?_⟩⟩
  have k4:=af.new (af.refl H3) hpe (.tup [.ref u2,.ref u3])
  exact q _ _ ((s12.trans s3).trans k4) ((s12.trans s3).free hpe) ⟨pe,.ref u2,.ref u3,rfl,upd_same,Tw.same (s3.trans k4) tu2,Tw.same k4 tu3⟩
theorem B3 (F:aX K "twins_mirror" "twins_mirror" kE f fd) {fd0:FuncData} (gu:aM P w K mg base ["self"] 5 (jN K ca) ca.kJ fd0) {fd1:FuncData} (iU:aM P w K mg base ["self","thing"] 2 (nB K ca) ca.oI fd1) {f2:Addr} {fd2:FuncData} (vX:Def P w K mg base "mirrored_twins" ["twin"] 42 (vj K ca) f2 fd2):ax P w K mg base bb 43 f fd ["thing"] (tj K ca):=by
 refine F.ok Cp (fun vs H Q E h=>?_) (fun cdv A outer s H vs Q E hr h=>?_)
 ·obtain ⟨v,t,rfl,tv,h40,q⟩:=h
  rfl
 obtain ⟨v,t,rfl,tv,h40,q⟩:=h
 refine ⟨_,ai (aI (df (dU CA.mk_Twins CA.oy gu hr) CA.gB CA.mt_Twins_refuse_other iU hr (aa (pv 0) ab)))
  (ag (av (az vX hr (aa (pv 0) ab)))),?_⟩
 intro b db nb ndb neb
 refine ⟨b,db,rfl,upd_same,fun fsb Hb1 eb fb=>⟨rfl,?_⟩⟩
 have sb:af H Hb1:=by rw [eb]; exact ((af.new (af.refl H) ndb _).upd nb _).upd nb _
 have hb:Hb1 b=some (.ins ca.aP db fsb):=by rw [eb]; exact upd_same
 refine ⟨b,db,fsb,rfl,hb,fb.no "refuse_other" (by decide) (by decide),_,rfl,b,db,fsb,_,v,t,rfl,hb,fb,Tw.same sb tv,fun H2 s2=>?_⟩
 have t2:=sb.trans s2
 exact ⟨_,rfl,t.size,by lia,v,t,rfl,Tw.same t2 tv,rfl,h40,fun u H3 s3 _ tu=>q (.ref u) H3 (t2.trans s3) tu⟩
theorem Dv (F:aX K "brackets_to_twins" "brackets_to_twins" kH f fd) {fd0:FuncData} (dZ:aM P w K mg base ["self"] 5 (iw K ca) ca.i0 fd0) {fd1:FuncData} (fO:aM P w K mg base ["self","thing"] 3 (kB K ca) ca.mC fd1) (aR:mg "range" = none) (aJ:mg "len" = none):ax P w K mg base bb 7 f fd ["thing"] (rg K ca):=by
 refine F.ok iF (fun vs H Q E h=>?_) (fun cdv A outer s H vs Q E hr h=>?_)
 ·obtain ⟨x,t,rfl,hx,h40,q⟩:=h
  rfl
 obtain ⟨x,t,rfl,hx,h40,q⟩:=h
 refine ⟨_,ai (aI (df (dU CA.mk_Brackets CA.gv dZ hr) CA.de CA.mt_Brackets_refuse_other fO hr (aa (pv 0) ab)))
  (ai (aB (i:=1) iF.nd rfl (Or.inl rfl) (bW ab))
  (ai (aB (i:=2) iF.nd rfl (Or.inl rfl) (bz ab))
  (ai (ck PassesOwn.never rfl (u6 rfl aR (aa (aD cG (aC cP rfl aJ bP (aa (pv 0) ab)) aj) (aa (jc gU aj) (aa (jc gU aj) ab)))) (aO (i:=3) iF.nd rfl (Or.inl rfl)) (ag (aV (aG cc (aK iz (pv 0) (pv 3) (fun _ _=>rfl)) bh (aF _)) (ai (aI (cg PySem.F.plainAttrs_list PySem.F.slot_list_append PySem.F.type_list_append bJ (pv 1) (aa (pv 2) ab)))
  (ag (aB (i:=2) iF.nd rfl (Or.inl rfl) (bz ab)))) (ag (aB (i:=2) iF.nd rfl (Or.inl rfl) (bz (aa (pv 2) (aa (ip PySem.F.plainAttrs_list PySem.F.slot_list_pop PySem.F.type_list_pop iM (pv 1)) ab))))))))
  (ag (av (pv 2)))))),?_⟩
 intro b db nb ndb neb
 refine ⟨b,db,rfl,upd_same,fun fsb Hb1 eb fb=>⟨rfl,?_⟩⟩
 have sb:af H Hb1:=by rw [eb]; exact ((af.new (af.refl H) ndb _).upd nb _).upd nb _
 have hb:Hb1 b=some (.ins ca.aA db fsb):=by rw [eb]; exact upd_same
 refine ⟨b,db,fsb,rfl,hb,fb.no "refuse_other" (by decide) (by decide),_,rfl,b,db,fsb,x,rfl,hb,fb.no "is_one" (by decide) (by decide),(by rw [hx]; exact lX t),fun H2 s2=>?_⟩
 have q:∀ (v:V) (H':Hp),af H2 H'->Tw H' v t->Q v H':=fun v H' s=>q v H' ((sb.trans s2).trans s)
 clear s2
 obtain ⟨H,eH⟩:∃ H',H'=H2:=⟨_,rfl⟩
 subst eH
 have lx:x.length=2*t.size:=by rw [<- bE,hx,cS]
 have lz:x.length<=sizeLine:=sz (by lia)
 have lc:(brk t).length=2*t.size:=cS t
 refine ⟨Nat.zero_le _,fun pr hpr=>⟨Nat.zero_le _,fun pt hpt=>?_⟩⟩
 have s1:=af.new (af.refl H) hpr (.lst [])
 have s2:=af.new s1 hpt (.tup [])
 have h1:upd H pr (.lst []) pr=some (.lst []):=upd_same
 have hr2:=(upd_ne (o:=.tup []) (ak h1 hpt)).trans h1
 have full:=iR t []
 refine ⟨_,rfl,x,rfl,lz,_,_,rfl,rfl,_,rfl,_,rfl,_,_,rfl,⟨by lia,by lia,by decide,by decide⟩,uv (lo:=(x.length:Int) - 1) (n:=((x.length:Int) - 1 - (-1)).toNat) (fun i σ H'=>∃ (o:Option V) (v:V) (h:Bt) (ps:List Bt) (xs:List V),σ=[some (.str x),some (.ref pr),some v,o]/\af H H'/\H' pr=some (.lst xs)/\Tw H' v h/\eT H' xs ps.reverse/\cz ((brk t).drop (2*t.size - i)) (.leaf,[])=some (h,ps)/\xs.length<=i/\i<=2*t.size)
  ⟨_,_,.leaf,[],[],rfl,s2,hr2,⟨pt,rfl,upd_same⟩,.nil,by rw [Nat.sub_zero,List.drop_eq_nil_of_le (by lia)]; rfl,Nat.le_refl _,Nat.zero_le _⟩ ?_ ?_⟩
 ·rintro i σ H5 hi ⟨o,v,h,ps,xs,rfl,s5,hr5,tw,tws,run,lxs,hi2⟩
  have ep:((x.length:Int) - 1 - (i:Int)).toNat=2*t.size - (i+1):=by lia
  have hk:2*t.size - (i+1) < (brk t).length:=by lia
  obtain ⟨y,y',r1,st,r2⟩:=oK full (List.getElem?_eq_getElem hk)
  rw [show 2*t.size - (i+1)+1=2*t.size - i by lia,run] at r1
  cases r1
  have hat:=iC (x:=x) (i:=(x.length:Int) - 1 - (i:Int)) (by lia) (by rw [ep,hx]; exact List.getElem?_eq_getElem hk)
  generalize (brk t)[2*t.size - (i+1)]=c at hat st
  refine ⟨_,rfl,_,rfl,x,_,c,rfl,rfl,lz,hat,rfl,_,rfl,hZ (nC c) ?_⟩
  have fpr:H pr=none:=hpr
  by_cases hc:c=41
  ·subst hc
   have st:some (Bt.leaf,h::ps)=some y':=st
   cases st
   refine cJ rfl ⟨_,rfl,.inl ⟨rfl,_,au.of hr5⟩,_,rfl,pr,_,_,rfl,rfl,hr5,hG (by lia),Nat.zero_le _,fun pe hpe=>?_⟩
   have h6:upd H5 pr (.lst (xs++[v])) pr=some (.lst (xs++[v])):=upd_same
   have kp:∀ p zs,H5 p=some (.tup zs)->upd (upd H5 pr (.lst (xs++[v]))) pe (.tup []) p=some (.tup zs):=fun p zs e=>by
    have n1:p≠pr:=fun z=>by rw [z,hr5] at e; cases e
    have e2:=(upd_ne (o:=.lst (xs++[v])) n1).trans e
    exact (upd_ne (ak e2 hpe)).trans e2
   refine ⟨_,_,.leaf,h::ps,xs++[v],rfl,af.new (s5.upd fpr _) hpe _,(upd_ne (ak h6 hpe)).trans h6,⟨pe,rfl,upd_same⟩,?_,r2,by simp; lia,by lia⟩
   rw [List.reverse_cons]
   exact (tws.keep kp).app (.cons (tw.keep kp) .nil)
  ·unfold stepT at st
   simp only [if_neg hc] at st
   cases ps with
   | nil=>cases st
   | cons p ps =>
    cases st
    rw [List.reverse_cons] at tws
    obtain ⟨ys,y,us,u,rfl,e2,tus,tu⟩:=tws.unsnoc (by intro z; have:=tws.len; rw [z] at this; simp at this)
    obtain ⟨rfl,e3⟩:=List.append_inj' e2 rfl
    cases e3
    have hlast:(ys++[y])[(ys++[y]).length - 1]? = some y:=by simp
    refine dA hc ⟨_,rfl,_,rfl,.inl ⟨rfl,_,au.of hr5⟩,pr,_,_,rfl,rfl,hr5,hlast,?_⟩
    rw [List.dropLast_concat]
    refine ⟨(by show 2<=sizeLine; decide),fun pe hpe=>?_⟩
    have h6:upd H5 pr (.lst ys) pr=some (.lst ys):=upd_same
    have kp:∀ p zs,H5 p=some (.tup zs)->upd (upd H5 pr (.lst ys)) pe (.tup [v,y]) p=some (.tup zs):=fun p zs e=>by
     have n1:p≠pr:=fun z=>by rw [z,hr5] at e; cases e
     have e2:=(upd_ne (o:=.lst ys) n1).trans e
     exact (upd_ne (ak e2 hpe)).trans e2
    exact ⟨_,_,.node h p,ps,ys,rfl,af.new (s5.upd fpr _) hpe _,(upd_ne (ak h6 hpe)).trans h6,⟨pe,v,y,rfl,upd_same,tw.keep kp,tu.keep kp⟩,tus.keep kp,r2,by simp at lxs; lia,by lia⟩
 ·rintro σ H5 ⟨o,v,h,ps,xs,rfl,s5,hr5,tw,tws,run,lxs,hi2⟩
  rw [show 2*t.size - ((x.length:Int) - 1 - (-1)).toNat=0 by lia,List.drop_zero,full] at run
  cases run
  exact ⟨_,rfl,q _ _ s5 tw⟩
theorem Cg (F:aX K "_law_over" "_law_over" kZ f fd) (n:Nat) (cE:Def P w K mg base "_law_over" ["_law_thing"] (0+n) (below n fun m=>mT K ca m) f fd):ax P w K mg base (iG P w) (0+n+1) f fd ["_law_thing"] (mT K ca n):=by
 refine ax.up ?_
 refine F.ok Bx (fun vs H Q E h=>?_) (fun cdv A outer s H vs Q E hr h=>?_)
 ·obtain ⟨v,t,rfl,tv,hn,h40,q⟩:=h
  rfl
 obtain ⟨v,t,rfl,tv,hn,h40,q⟩:=h
 refine ⟨_,ai (aV (aG (jr (cO hr)) (pv 0) (bz ab) (aF _)) (ag (av (bz ab))) aN)
  (ag (av (bz (aa (az cE hr (aa (aK bD (pv 0) aj (fun _ _=>rfl)) ab) (hjk:=by lia)) (aa (az cE hr (aa (aK bD (pv 0) aj (fun _ _=>rfl)) ab) (hjk:=by lia)) ab))))),?_⟩
 obtain ⟨p,zs,rfl,hp,hz⟩:=tv.ref
 refine ⟨_,rfl,Nat.zero_le _,fun pt hpt=>?_⟩
 have npt:p≠pt:=ak hp hpt
 have s1:=af.new (af.refl H) hpt (.tup [])
 have hp1:=s1 _ _ hp
 refine ⟨1,_,by decide,bC.unit npt (aT.of hp1) (aT.of upd_same),⟨p,pt,rfl,rfl,npt⟩,_,rfl,?_⟩
 generalize upd H pt (.tup [])=H1 at s1 hp1 |-
 cases t with
 | leaf =>
  have ez:=hz.mpr rfl
  subst ez
  exact eqT (decide_eq_true rfl) ⟨Nat.zero_le _,fun pe hpe=>q _ _ (af.new s1 hpe _) (s1.free hpe) ⟨pe,rfl,upd_same⟩⟩
 | node l r =>
  have ez:zs≠[]:=fun z=>by cases hz.mp z
  obtain ⟨p',a,b,e1,hp',tl,tr⟩:=tv
  cases e1
  rw [hp] at hp'
  cases hp'
  have hn:l.size+r.size+1=n:=hn
  refine xy (decide_eq_false ez) ⟨_,rfl,p,_,_,_,rfl,rfl,aT.of hp1,rfl,r.size,by lia,b,r,rfl,Tw.same s1 tr,rfl,by lia,fun u2 H2 s2 _ tu2=>?_⟩
  have s12:=s1.trans s2
  refine ⟨_,rfl,p,_,_,_,rfl,rfl,aT.of (s12 _ _ hp),rfl,l.size,by lia,a,l,rfl,Tw.same s12 tl,rfl,by lia,fun u3 H3 s3 _ tu3=>⟨(by show 2<=sizeLine; decide),fun pe hpe=>?_⟩⟩
  have k4:=af.new (af.refl H3) hpe (.tup [.ref u2,.ref u3])
  exact q _ _ ((s12.trans s3).trans k4) ((s12.trans s3).free hpe) ⟨pe,.ref u2,.ref u3,rfl,upd_same,Tw.same (s3.trans k4) tu2,Tw.same k4 tu3⟩
theorem Dw (F:aX K "_law_twins_by" "_law_twins_by" lh f fd) (aR:mg "range" = none) (aJ:mg "len" = none):ax P w K mg base bb 1 f fd ["_law_text"] (nG K ca):=by
 refine F.ok iH (fun vs H Q E h=>?_) (fun cdv A outer s H vs Q E hr h=>?_)
 ·obtain ⟨x,t,rfl,hx,h40,q⟩:=h
  rfl
 obtain ⟨x,t,rfl,hx,h40,q⟩:=h
 refine ⟨_,ai (aB (i:=1) iH.nd rfl (Or.inl rfl) (bW ab))
  (ai (aB (i:=2) iH.nd rfl (Or.inl rfl) (bz ab))
  (ai (ck PassesOwn.never rfl (u6 rfl aR (aa (aD cG (aC cP rfl aJ bP (aa (pv 0) ab)) aj) (aa (jc gU aj) (aa (jc gU aj) ab)))) (aO (i:=3) iH.nd rfl (Or.inl rfl)) (ag (aV (aG cc (aK iz (pv 0) (pv 3) (fun _ _=>rfl)) bh (aF _)) (ai (aI (cg PySem.F.plainAttrs_list PySem.F.slot_list_append PySem.F.type_list_append bJ (pv 1) (aa (pv 2) ab)))
  (ag (aB (i:=2) iH.nd rfl (Or.inl rfl) (bz ab)))) (ag (aB (i:=2) iH.nd rfl (Or.inl rfl) (bz (aa (pv 2) (aa (ip PySem.F.plainAttrs_list PySem.F.slot_list_pop PySem.F.type_list_pop iM (pv 1)) ab))))))))
  (ag (av (pv 2))))),?_⟩
 have lx:x.length=2*t.size:=by rw [<- bE,hx,cS]
 have lz:x.length<=sizeLine:=sz (by lia)
 have lc:(brk t).length=2*t.size:=cS t
 refine ⟨Nat.zero_le _,fun pr hpr=>⟨Nat.zero_le _,fun pt hpt=>?_⟩⟩
 have s1:=af.new (af.refl H) hpr (.lst [])
 have s2:=af.new s1 hpt (.tup [])
 have h1:upd H pr (.lst []) pr=some (.lst []):=upd_same
 have hr2:=(upd_ne (o:=.tup []) (ak h1 hpt)).trans h1
 have full:=iR t []
 refine ⟨_,rfl,x,rfl,lz,_,_,rfl,rfl,_,rfl,_,rfl,_,_,rfl,⟨by lia,by lia,by decide,by decide⟩,uv (lo:=(x.length:Int) - 1) (n:=((x.length:Int) - 1 - (-1)).toNat) (fun i σ H'=>∃ (o:Option V) (v:V) (h:Bt) (ps:List Bt) (xs:List V),σ=[some (.str x),some (.ref pr),some v,o]/\af H H'/\H' pr=some (.lst xs)/\Tw H' v h/\eT H' xs ps.reverse/\cz ((brk t).drop (2*t.size - i)) (.leaf,[])=some (h,ps)/\xs.length<=i/\i<=2*t.size)
  ⟨_,_,.leaf,[],[],rfl,s2,hr2,⟨pt,rfl,upd_same⟩,.nil,by rw [Nat.sub_zero,List.drop_eq_nil_of_le (by lia)]; rfl,Nat.le_refl _,Nat.zero_le _⟩ ?_ ?_⟩
 ·rintro i σ H5 hi ⟨o,v,h,ps,xs,rfl,s5,hr5,tw,tws,run,lxs,hi2⟩
  have ep:((x.length:Int) - 1 - (i:Int)).toNat=2*t.size - (i+1):=by lia
  have hk:2*t.size - (i+1) < (brk t).length:=by lia
  obtain ⟨y,y',r1,st,r2⟩:=oK full (List.getElem?_eq_getElem hk)
  rw [show 2*t.size - (i+1)+1=2*t.size - i by lia,run] at r1
  cases r1
  have hat:=iC (x:=x) (i:=(x.length:Int) - 1 - (i:Int)) (by lia) (by rw [ep,hx]; exact List.getElem?_eq_getElem hk)
  generalize (brk t)[2*t.size - (i+1)]=c at hat st
  refine ⟨_,rfl,_,rfl,x,_,c,rfl,rfl,lz,hat,rfl,_,rfl,hZ (nC c) ?_⟩
  have fpr:H pr=none:=hpr
  by_cases hc:c=41
  ·subst hc
   have st:some (Bt.leaf,h::ps)=some y':=st
   cases st
   refine cJ rfl ⟨_,rfl,.inl ⟨rfl,_,au.of hr5⟩,_,rfl,pr,_,_,rfl,rfl,hr5,hG (by lia),Nat.zero_le _,fun pe hpe=>?_⟩
   have h6:upd H5 pr (.lst (xs++[v])) pr=some (.lst (xs++[v])):=upd_same
   have kp:∀ p zs,H5 p=some (.tup zs)->upd (upd H5 pr (.lst (xs++[v]))) pe (.tup []) p=some (.tup zs):=fun p zs e=>by
    have n1:p≠pr:=fun z=>by rw [z,hr5] at e; cases e
    have e2:=(upd_ne (o:=.lst (xs++[v])) n1).trans e
    exact (upd_ne (ak e2 hpe)).trans e2
   refine ⟨_,_,.leaf,h::ps,xs++[v],rfl,af.new (s5.upd fpr _) hpe _,(upd_ne (ak h6 hpe)).trans h6,⟨pe,rfl,upd_same⟩,?_,r2,by simp; lia,by lia⟩
   rw [List.reverse_cons]
   exact (tws.keep kp).app (.cons (tw.keep kp) .nil)
  ·unfold stepT at st
   simp only [if_neg hc] at st
   cases ps with
   | nil=>cases st
   | cons p ps =>
    cases st
    rw [List.reverse_cons] at tws
    obtain ⟨ys,y,us,u,rfl,e2,tus,tu⟩:=tws.unsnoc (by intro z; have:=tws.len; rw [z] at this; simp at this)
    obtain ⟨rfl,e3⟩:=List.append_inj' e2 rfl
    cases e3
    have hlast:(ys++[y])[(ys++[y]).length - 1]? = some y:=by simp
    refine dA hc ⟨_,rfl,_,rfl,.inl ⟨rfl,_,au.of hr5⟩,pr,_,_,rfl,rfl,hr5,hlast,?_⟩
    rw [List.dropLast_concat]
    refine ⟨(by show 2<=sizeLine; decide),fun pe hpe=>?_⟩
    have h6:upd H5 pr (.lst ys) pr=some (.lst ys):=upd_same
    have kp:∀ p zs,H5 p=some (.tup zs)->upd (upd H5 pr (.lst ys)) pe (.tup [v,y]) p=some (.tup zs):=fun p zs e=>by
     have n1:p≠pr:=fun z=>by rw [z,hr5] at e; cases e
     have e2:=(upd_ne (o:=.lst ys) n1).trans e
     exact (upd_ne (ak e2 hpe)).trans e2
    exact ⟨_,_,.node h p,ps,ys,rfl,af.new (s5.upd fpr _) hpe _,(upd_ne (ak h6 hpe)).trans h6,⟨pe,v,y,rfl,upd_same,tw.keep kp,tu.keep kp⟩,tus.keep kp,r2,by simp at lxs; lia,by lia⟩
 ·rintro σ H5 ⟨o,v,h,ps,xs,rfl,s5,hr5,tw,tws,run,lxs,hi2⟩
  rw [show 2*t.size - ((x.length:Int) - 1 - (-1)).toNat=0 by lia,List.drop_zero,full] at run
  cases run
  exact ⟨_,rfl,q _ _ s5 tw⟩
theorem BR (F:aX K "_law_size" "_law_size" kQ f fd) (n:Nat) (cE:Def P w K mg base "_law_size" ["_law_thing"] (0+n) (below n fun m=>nP K ca m) f fd):ax P w K mg base (iG P w) (0+n+1) f fd ["_law_thing"] (nP K ca n):=by
 refine ax.up ?_
 refine F.ok Cw (fun vs H Q E h=>?_) (fun cdv A outer s H vs Q E hr h=>?_)
 ·obtain ⟨v,t,rfl,tv,hn,h40,q⟩:=h
  rfl
 obtain ⟨v,t,rfl,tv,hn,h40,q⟩:=h
 refine ⟨_,ai (aV (aG (jr (cO hr)) (pv 0) (bz ab) (aF _)) (ag (av aj)) aN)
  (ag (av (aD cj (aD cj aj (az cE hr (aa (aK bD (pv 0) aj (fun _ _=>rfl)) ab) (hjk:=by lia))) (az cE hr (aa (aK bD (pv 0) aj (fun _ _=>rfl)) ab) (hjk:=by lia))))),?_⟩
 obtain ⟨p,zs,rfl,hp,hz⟩:=tv.ref
 refine ⟨_,rfl,Nat.zero_le _,fun pt hpt=>?_⟩
 have npt:p≠pt:=ak hp hpt
 have s1:=af.new (af.refl H) hpt (.tup [])
 have hp1:=s1 _ _ hp
 refine ⟨1,_,by decide,bC.unit npt (aT.of hp1) (aT.of upd_same),⟨p,pt,rfl,rfl,npt⟩,_,rfl,?_⟩
 generalize upd H pt (.tup [])=H1 at s1 hp1 |-
 cases t with
 | leaf =>
  have ez:=hz.mpr rfl
  subst ez
  exact eqT (decide_eq_true rfl) (q _ s1)
 | node l r =>
  have ez:zs≠[]:=fun z=>by cases hz.mp z
  obtain ⟨p',a,b,e1,hp',tl,tr⟩:=tv
  cases e1
  rw [hp] at hp'
  cases hp'
  have hn:l.size+r.size+1=n:=hn
  refine xy (decide_eq_false ez) ⟨_,rfl,p,_,_,_,rfl,rfl,aT.of hp1,rfl,l.size,by lia,a,l,rfl,Tw.same s1 tl,rfl,by lia,fun H2 s2=>⟨_,_,rfl,rfl,?_⟩⟩
  have s12:=s1.trans s2
  refine ⟨_,rfl,p,_,_,_,rfl,rfl,aT.of (s12 _ _ hp),rfl,r.size,by lia,b,r,rfl,Tw.same s12 tr,rfl,by lia,fun H3 s3=>⟨_,_,rfl,rfl,?_⟩⟩
  try dsimp only
  have e:(1:Int)+(l.size:Int)+(r.size:Int)=((Bt.node l r).size:Int):=by show _=((l.size+r.size+1:Nat):Int); lia
  rw [e]
  exact q _ (s12.trans s3)
theorem B2 (F:aX K "_law_cuts" "_law_cuts" kW f fd) {f0:Addr} {fd0:FuncData} (xv:Def P w K mg base "_law_size" ["_law_thing"] 42 (u4 K ca) f0 fd0) (n:Nat) (cE:Def P w K mg base "_law_cuts" ["_law_thing","_law_low","_law_high"] (42+n) (below n fun m=>m8 K ca m) f fd):ax P w K mg base (iG P w) (42+n+1) f fd ["_law_thing","_law_low","_law_high"] (m8 K ca n):=by
 refine ax.up ?_
 refine F.ok yG (fun vs H Q E h=>?_) (fun cdv A outer s H vs Q E hr h=>?_)
 ·obtain ⟨v,t,a,h,rfl,tv,hn,h40,eh,q⟩:=h
  rfl
 obtain ⟨v,t,a,h,rfl,tv,hn,h40,eh,q⟩:=h
 refine ⟨_,ai (aV (aG (jr (cO hr)) (pv 0) (bz ab) (aF _)) (ag (av (bW ab))) aN)
  (ai (aB (i:=3) yG.nd rfl (Or.inl rfl) (aD cj (aD cj (pv 1) aj) (az xv hr (aa (aK bD (pv 0) aj (fun _ _=>rfl)) ab) (hjk:=by lia))))
  (ag (av (aD rZ (aD rZ (bW (aa (bz (aa (pv 1) (aa (pv 2) ab))) ab)) (az cE hr (aa (aK bD (pv 0) aj (fun _ _=>rfl)) (aa (pv 1) (aa (pv 3) ab))) (hjk:=by lia))) (az cE hr (aa (aK bD (pv 0) aj (fun _ _=>rfl)) (aa (pv 3) (aa (pv 2) ab))) (hjk:=by lia)))))),?_⟩
 obtain ⟨p,zs,rfl,hp,hz⟩:=tv.ref
 refine ⟨_,rfl,Nat.zero_le _,fun pt hpt=>?_⟩
 have npt:p≠pt:=ak hp hpt
 have s1:=af.new (af.refl H) hpt (.tup [])
 have hp1:=s1 _ _ hp
 refine ⟨1,_,by decide,bC.unit npt (aT.of hp1) (aT.of upd_same),⟨p,pt,rfl,rfl,npt⟩,_,rfl,?_⟩
 generalize upd H pt (.tup [])=H1 at s1 hp1 |-
 cases t with
 | leaf =>
  have ez:=hz.mpr rfl
  subst ez
  exact eqT (decide_eq_true rfl) ⟨Nat.zero_le _,fun pl hpl=>q pl _ (af.new s1 hpl _) (s1.free hpl) ⟨[],upd_same,.nil⟩⟩
 | node l r =>
  have ez:zs≠[]:=fun z=>by cases hz.mp z
  obtain ⟨p',va,vb,e1,hp',tl,tr⟩:=tv
  cases e1
  rw [hp] at hp'
  cases hp'
  have hn:l.size+r.size+1=n:=hn
  have eh:h=a+2+(l.size:Int)+(r.size:Int):=by rw [eh]; show a+1+((l.size+r.size+1:Nat):Int)=_; lia
  refine xy (decide_eq_false ez) ⟨_,rfl,_,_,rfl,rfl,_,rfl,p,_,_,_,rfl,rfl,aT.of hp1,rfl,l.size,by lia,va,l,rfl,Tw.same s1 tl,rfl,by lia,fun H2 s2=>⟨_,_,rfl,rfl,?_⟩⟩
  have s12:=s1.trans s2
  refine ⟨_,rfl,_,rfl,(by show 2<=sizeLine; decide),fun u hu=>⟨(by show 1<=sizeLine; decide),fun p1 hp1'=>?_⟩⟩
  have k3:=af.new (af.refl H2) hu (.tup [.int a,.int h])
  have s3:=af.new (s12.trans k3) hp1' (.lst [.ref u])
  have f1:H p1=none:=(s12.trans k3).free hp1'
  have pl3:bL (upd (upd H2 u (.tup [.int a,.int h])) p1 (.lst [.ref u])) p1 [(a,h)]:=⟨_,upd_same,bM.updN (bM.snoc (xs:=[]) (ps:=[]) (p:=(a,h)) .nil upd_same) hp1' _⟩
  generalize upd (upd H2 u (.tup [.int a,.int h])) p1 (.lst [.ref u])=H3 at s3 pl3 |-
  refine ⟨_,rfl,p,_,_,_,rfl,rfl,aT.of (s3 _ _ hp),rfl,_,rfl,_,rfl,l.size,by lia,va,l,a,_,rfl,Tw.same s3 tl,rfl,by lia,rfl,fun p2 H4 s4 f4 h4=>?_⟩
  obtain ⟨xs3,el3,lx3,pr3⟩:=(pl3.same s4).len
  obtain ⟨xs4,el4,lx4,pr4⟩:=h4.len
  have c1:=fh l a
  have lx3':xs3.length=1:=lx3
  refine ⟨p1,p2,_,_,rfl,rfl,el3,el4,sz (by lia),fun p3 hp3=>?_⟩
  have k5:=af.new (af.refl H4) hp3 (.lst (xs3++xs4))
  have s5:=(s3.trans s4).trans k5
  have pl5:bL (upd H4 p3 (.lst (xs3++xs4))) p3 ([(a,h)]++bH l a):=⟨_,upd_same,(pr3.app pr4).updN hp3 _⟩
  generalize upd H4 p3 (.lst (xs3++xs4))=H5 at k5 s5 pl5 |-
  refine ⟨_,rfl,p,_,_,_,rfl,rfl,aT.of (s5 _ _ hp),rfl,_,rfl,_,rfl,r.size,by lia,vb,r,_,h,rfl,Tw.same s5 tr,rfl,by lia,by lia,fun p4 H6 s6 f6 h6=>?_⟩
  obtain ⟨xs5,el5,lx5,pr5⟩:=(pl5.same s6).len
  obtain ⟨xs6,el6,lx6,pr6⟩:=h6.len
  have c2:=fh r (a+1+(l.size:Int))
  rw [List.length_append] at lx5
  refine ⟨p3,p4,_,_,rfl,rfl,el5,el6,sz (by simp at lx5; lia),fun p5 hp5=>?_⟩
  have s7:=s5.trans s6
  refine q p5 _ (af.new s7 hp5 _) (s7.free hp5) ⟨_,upd_same,?_⟩
  have e:bH (.node l r) a=[(a,h)]++bH l a++bH r (a+1+(l.size:Int)):=by rw [eh]; rfl
  rw [e]
  exact (pr5.app pr6).updN hp5 _
theorem Dl (F:aX K "_law_floor_of" "_law_floor_of" kz f fd) {f0:Addr} {fd0:FuncData} (jV:Def P w K mg base "_law_twins_by" ["_law_text"] 1 (nG K ca) f0 fd0) {f1:Addr} {fd1:FuncData} (vJ:Def P w K mg base "_law_cuts" ["_law_thing","_law_low","_law_high"] 84 (vx K ca) f1 fd1) (aJ:mg "len" = none) (aZ:mg "sorted" = none):ax P w K mg base bb 85 f fd ["_law_text"] (qS K ca):=by
 refine F.ok rB (fun vs H Q E h=>?_) (fun cdv A outer s H vs Q E hr h=>?_)
 ·obtain ⟨x,t,rfl,hx,h40,q⟩:=h
  rfl
 obtain ⟨x,t,rfl,hx,h40,q⟩:=h
 refine ⟨_,ai (aB (i:=1) rB.nd rfl (Or.inl rfl) (az jV hr (aa (pv 0) ab)))
  (ai (aB (i:=2) rB.nd rfl (Or.inr rfl) (aD iS (aC cP rfl aJ bP (aa (pv 0) ab)) aj))
  (ag (av (bz (aa (aD cj (pv 2) aj) (aa (aC cR rfl aZ c0 (aa (dP rfl (cQ (az vJ hr (aa (pv 1) (aa aj (aa (aD cj (pv 2) aj) ab))))) rfl rfl rfl rfl (N:=["_law_cut","_law_size_here"]) (.own (.cap (j:=2) rfl rfl rfl .nil)) (fun _ _ _ _ _ _=>(aO (i:=0) (by show List.Nodup (["_law_cut","_law_size_here"]:List Str); decide +kernel) rfl (Or.inl rfl))) (fun _ _ _ _ _ _=>(oH (aG (A5 (K:=K) rfl (cO hr)) (pv 0) (bz (aa aj (aa (aD cj (pv 1) aj) ab))) (aF _)))) (fun _ _ _ _ _ _=>(pv 0))) ab)) ab)))))),?_⟩
 have lx:x.length=2*t.size:=by rw [<- bE,hx,cS]
 refine ⟨_,rfl,x,t,rfl,hx,h40,fun v H1 s1 tv=>?_⟩
 refine ⟨_,rfl,x,rfl,sz (by lia),_,_,rfl,rfl,⟨by decide,by decide +kernel⟩,?_⟩
 try dsimp only
 rw [show ((x.length:Nat):Int) / 2=(t.size:Int) by lia]
 refine ⟨_,rfl,_,_,rfl,rfl,?_⟩
 refine ⟨_,rfl,_,rfl,_,_,rfl,rfl,t.size,by lia,v,t,0,_,rfl,tv,rfl,h40,by lia,fun p H2 s2 f2 h2=>?_⟩
 obtain ⟨xs,el,lxs,pr⟩:=h2.len
 have t2:=s1.trans s2
 have lc:=fh t 0
 refine ⟨p,rfl,⟨_,au.of el⟩,fun D hD=>eB (xs:=xs) (fun i ys H'=>af H2 H'/\H' D=some (.lst ys)/\bM H' ys (((bH t 0).take i).filter (fun p=>!(decide (p.1=0)&&decide (p.2=0+1+(t.size:Int)))))/\i<=(bH t 0).length) (sz (by lia)) ⟨af.new (af.refl H2) hD _,upd_same,.nil,Nat.zero_le _⟩ (fun i ys H' hi h=>⟨au.of (h.1 _ _ el),?_⟩) (fun i y ys H' R R0 hx h r r0=>?_) (fun ys H' h=>?_)⟩
 ·rw [h.2.2.1.length]
  have:=List.length_filter_le (fun p:Pair=>!(decide (p.1=0)&&decide (p.2=0+1+(t.size:Int)))) ((bH t 0).take i)
  rw [List.length_take] at this
  lia
 ·obtain ⟨sm,hy,py,hi⟩:=h
  obtain ⟨pp,tt,hpp,rfl,htt⟩:=pr.get hx
  have hlt:i < (bH t 0).length:=(List.getElem?_eq_some_iff.mp hpp).1
  have et:((bH t 0).take (i+1)).filter (fun p=>!(decide (p.1=0)&&decide (p.2=0+1+(t.size:Int))))=((bH t 0).take i).filter (fun p=>!(decide (p.1=0)&&decide (p.2=0+1+(t.size:Int))))++(if (decide (pp.1=0)&&decide (pp.2=(t.size:Int)+1))=true then [] else [pp]):=by
   rw [List.take_add_one,hpp,List.filter_append,show (t.size:Int)+1=0+1+(t.size:Int) by lia]
   refine congrArg _ ?_
   cases z:(decide (pp.1=0)&&decide (pp.2=0+1+(t.size:Int))) with
   | false =>
    show List.filter _ [pp]=[pp]
    refine List.filter_eq_self.mpr fun a ha=>?_
    obtain rfl:=List.mem_singleton.mp ha
    show (!(decide (a.1=0)&&decide (a.2=0+1+(t.size:Int))))=true
    rw [z]
    rfl
   | true =>
    show List.filter _ [pp]=[]
    refine List.filter_eq_nil_iff.mpr fun a ha=>?_
    obtain rfl:=List.mem_singleton.mp ha
    show ¬ (!(decide (a.1=0)&&decide (a.2=0+1+(t.size:Int))))=true
    rw [z]
    decide
  refine ⟨Ext.set rfl,_,rfl,_,rfl,_,_,rfl,rfl,(by show 2<=sizeLine; decide),fun pt hpt=>?_⟩
  have htt':=sm _ _ htt
  have npt:tt≠pt:=ak htt' hpt
  have k3:=af.new (af.refl H') hpt (.tup [.int 0,.int ((t.size:Int)+1)])
  have y1:=k3 _ _ hy
  have p1:=py.updN hpt (.tup [.int 0,.int ((t.size:Int)+1)])
  have tt1:=k3 _ _ htt'
  refine ⟨1,_,by decide,bC.two npt tt1 upd_same,⟨tt,pt,rfl,rfl,npt⟩,_,rfl,?_⟩
  cases eb:(decide (pp.1=0)&&decide (pp.2=(t.size:Int)+1)) with
  | true =>
   refine z6 rfl (r0 _ ⟨af.new sm hpt _,y1,?_,hlt⟩)
   rw [et,if_pos eb,List.append_nil]
   exact p1
  | false =>
   refine Cq rfl ⟨_,rfl,r _ _ y1 ⟨(af.new sm hpt _).upd hD _,upd_same,?_,hlt⟩⟩
   rw [et,if_neg (by rw [eb]; decide)]
   exact (p1.snoc (t:=tt) (p:=pp) tt1).updL y1 _
 ·obtain ⟨sm,hy,py,hi⟩:=h
  rw [List.take_of_length_le (by lia),yN] at py
  refine ⟨D,_,rfl,⟨ys,hy,py⟩,by rw [mW]; lia,fun p' qs H5 s5 f5 h5 pm rs=>⟨(by show 2<=sizeLine; decide),fun u hu=>?_⟩⟩
  have s6:=(t2.trans sm).trans s5
  exact q u p' qs _ (af.new s6 hu _) (s6.free hu) ((t2.trans sm).free f5) upd_same (h5.same (af.new (af.refl _) hu _)) pm rs
theorem Dz (F:aX K "twins_to_brackets" "twins_to_brackets" lH f fd) {fd0:FuncData} (gu:aM P w K mg base ["self"] 5 (jN K ca) ca.kJ fd0) {fd1:FuncData} (iU:aM P w K mg base ["self","thing"] 2 (nB K ca) ca.oI fd1):ax P w K mg base bb 7 f fd ["thing"] (rS K ca):=by
 refine F.ok nk (fun vs H Q E h=>?_) (fun cdv A outer s H vs Q E hr h=>?_)
 ·obtain ⟨v,t,rfl,tv,h40,q⟩:=h
  rfl
 obtain ⟨v,t,rfl,tv,h40,q⟩:=h
 refine ⟨_,ai (aI (df (dU CA.mk_Twins CA.oy gu hr) CA.gB CA.mt_Twins_refuse_other iU hr (aa (pv 0) ab)))
  (ai (aB (i:=1) nk.nd rfl (Or.inl rfl) (bW ab))
  (ai (aB (i:=2) nk.nd rfl (Or.inl rfl) (bW (aa (pv 0) ab)))
  (ai (sU PassesOwn.never (aG (fM (cO hr)) (pv 2) (bW ab) (aF _)) (ai (aB (i:=3) nk.nd rfl (Or.inl rfl) (ip PySem.F.plainAttrs_list PySem.F.slot_list_pop PySem.F.type_list_pop iM (pv 2)))
  (ag (aV (aG (cc.or (A7 (cO hr))) (pv 3) bh (aF _)) (ag (aI (cg PySem.F.plainAttrs_list PySem.F.slot_list_append PySem.F.type_list_append bJ (pv 1) (aa bh ab)))) (ag (aV (aG (fM (cO hr)) (pv 3) (bz ab) (aF _)) (ai (aI (cg PySem.F.plainAttrs_list PySem.F.slot_list_append PySem.F.type_list_append bJ (pv 1) (aa bh ab)))
  (ag (aI (cg PySem.F.plainAttrs_list PySem.F.slot_list_extend PySem.F.type_list_extend pE (pv 2) (aa (bW (aa (aK bD (pv 3) aj (fun _ _=>rfl)) (aa bh (aa (aK bD (pv 3) aj (fun _ _=>rfl)) ab)))) ab))))) aN))))))
  (ag (av (cg PySem.F.plainAttrs_str PySem.F.slot_str_join PySem.F.type_str_join oO bh (aa (pv 1) ab))))))),?_⟩
 intro b db nb ndb neb
 refine ⟨b,db,rfl,upd_same,fun fsb Hb1 eb fb=>⟨rfl,?_⟩⟩
 have sb:af H Hb1:=by rw [eb]; exact ((af.new (af.refl H) ndb _).upd nb _).upd nb _
 have hb:Hb1 b=some (.ins ca.aP db fsb):=by rw [eb]; exact upd_same
 refine ⟨b,db,fsb,rfl,hb,fb.no "refuse_other" (by decide) (by decide),_,rfl,b,db,fsb,_,v,t,rfl,hb,fb,Tw.same sb tv,fun H2 s2=>?_⟩
 have t2:=sb.trans s2
 have q:∀ (y:Str) (H':Hp),af H2 H'->y.cps.toList=brk t->Q (.str y) H':=fun y H' s=>q y H' (t2.trans s)
 have tv:=Tw.same t2 tv
 refine ⟨Nat.zero_le _,fun ps hps=>⟨_,rfl,(by show 1<=sizeLine; decide),fun pr hpr=>?_⟩⟩
 have s3:=af.new (af.refl H2) hps (.lst [])
 have fpr:H2 pr=none:=s3.free hpr
 have s4:=af.new s3 hpr (.lst [v])
 have hs1:upd H2 ps (.lst []) ps=some (.lst []):=upd_same
 have nps:ps≠pr:=ak hs1 hpr
 have hs4:=(upd_ne (o:=.lst [v]) nps).trans hs1
 have hr4:upd (upd H2 ps (.lst [])) pr (.lst [v]) pr=some (.lst [v]):=upd_same
 generalize upd (upd H2 ps (.lst [])) pr (.lst [v])=H4 at s4 hs4 hr4 |-
 have lb:=cS t
 refine ⟨fun mm σ H5=>∃ (o:Option V) (l:List Nat) (ts:List (Option Bt)) (xs:List V),σ=[some v,some (.ref ps),some (.ref pr),o]/\af H2 H5/\H5 ps=some (.lst (l.map sgn))/\H5 pr=some (.lst xs)/\dE H2 xs ts/\l++eU ts=brk t/\cY ts<=121/\mm=cY ts,⟨_,_,[],[some t],[v],rfl,s4,hs4,hr4,.tree tv .nil,rfl,by show 3*t.size+1+0<=121; lia,rfl⟩,?_⟩
 rintro mm σ H5 ⟨o,l,ts,xs,rfl,s5,hs5,hr5,its,et,w121,rfl⟩
 have ll:l.length<=80:=by have:=congrArg List.length et; rw [List.length_append] at this; lia
 have lmap:(l.map sgn).length=l.length:=List.length_map _
 refine ⟨_,rfl,Nat.zero_le _,fun pe hpe=>?_⟩
 have nre:pr≠pe:=ak hr5 hpe
 have s6:=af.new s5 hpe (.lst [])
 have hr6:=(upd_ne (o:=.lst []) nre).trans hr5
 have hs6:=(upd_ne (o:=.lst []) (ak hs5 hpe)).trans hs5
 refine ⟨1,_,by decide,bC.void nre (au.of hr6) (au.of upd_same),⟨pr,pe,rfl,rfl,nre⟩,_,rfl,?_⟩
 generalize upd H5 pe (.lst [])=H6 at s6 hr6 hs6 |-
 by_cases hx:xs=[]
 ·refine z6 (decide_eq_true hx) ?_
  subst hx
  cases its
  have et:l=brk t:=by rw [<- et]; show l=l++[]; rw [List.append_nil]
  subst et
  refine ⟨rfl,_,rfl,_,ps,(brk t).map mX,rfl,rfl,au.of (by rw [hs6,vk]),?_,?_⟩
  ·rw [j8]
   have e0:(Str.ofString "").length=0:=by decide +kernel
   show (brk t).length+((brk t).map mX).length*(Str.ofString "").length<=16777216
   rw [e0,Nat.mul_zero]
   lia
  ·exact q _ H6 s6 (iW _)
 obtain ⟨ys,y,us,u,rfl,rfl,ius,iy⟩:=its.unsnoc hx
 have ly:(ys++[y]).length=ys.length+1:=by simp
 have lu:=ius.len
 have lw:=oh us
 rw [ko] at et
 rw [gC] at w121
 refine Cq (decide_eq_false hx) ⟨fun σ' H'=>∃ (o:Option V) (l':List Nat) (ts':List (Option Bt)) (xs':List V),σ'=[some v,some (.ref ps),some (.ref pr),o]/\af H2 H'/\H' ps=some (.lst (l'.map sgn))/\H' pr=some (.lst xs')/\dE H2 xs' ts'/\l'++eU ts'=brk t/\cY ts'<=121/\cY ts' < cY us+cY [u],?_,?_⟩
 ·rintro σ' H' ⟨o,l',ts',xs',rfl,a1,a2,a3,a4,a5,a6,a7⟩
  exact ⟨_,by rw [gC]; exact a7,o,l',ts',xs',rfl,a1,a2,a3,a4,a5,a6,rfl⟩
 have hlast:(ys++[y])[(ys++[y]).length - 1]? = some y:=by rw [ly,Nat.add_sub_cancel]; simp
 refine ⟨_,rfl,.inl ⟨rfl,_,au.of hr6⟩,pr,_,_,rfl,rfl,hr6,hlast,?_⟩
 rw [List.dropLast_concat]
 have s7:=s6.upd fpr (.lst ys)
 have hr7:upd H6 pr (.lst ys) pr=some (.lst ys):=upd_same
 have hs7:=(upd_ne (o:=.lst ys) nps).trans hs6
 generalize upd H6 pr (.lst ys)=H7 at s7 hr7 hs7 |-
 cases iy with
 | sign r =>
  have e41:l++[41]++eU us=brk t:=by rw [<- et,List.append_assoc]; rfl
  refine ⟨_,rfl,.inl ⟨rfl,?_⟩⟩
  refine ⟨_,rfl,hZ (decide_eq_true rfl) (dB ⟨_,rfl,.inl ⟨rfl,_,au.of hs7⟩,ps,_,_,rfl,rfl,hs7,hG (by lia),?_⟩)⟩
  exact ⟨_,l++[41],us,ys,rfl,s7.upd hps _,by rw [upd_same,List.map_append,m5]; rfl,(upd_ne (Ne.symm nps)).trans hr7,ius,e41,by lia,by show cY us < cY us+(1+0); lia⟩
 | @tree _ u _ _ tu r =>
  obtain ⟨p,zs,rfl,hp,hz⟩:=tu.ref
  have hp7:=s7 _ _ hp
  refine ⟨_,rfl,.inr ⟨p,_,_,rfl,rfl,aT.of hp7,?_⟩⟩
  refine ⟨_,rfl,bN ?_⟩
  refine ⟨_,rfl,Nat.zero_le _,fun pt hpt=>?_⟩
  have npt:p≠pt:=ak hp7 hpt
  have s8:=af.new s7 hpt (.tup [])
  have hp8:=s8 _ _ hp
  have hr8:=(upd_ne (o:=.tup []) (ak hr7 hpt)).trans hr7
  have hs8:=(upd_ne (o:=.tup []) (ak hs7 hpt)).trans hs7
  refine ⟨1,_,by decide,bC.unit npt (aT.of hp8) (aT.of upd_same),⟨p,pt,rfl,rfl,npt⟩,_,rfl,?_⟩
  generalize upd H7 pt (.tup [])=H8 at s8 hp8 hr8 hs8 |-
  cases u with
  | leaf =>
   have ez:=hz.mpr rfl
   exact z6 (decide_eq_true ez) ⟨_,l,us,ys,rfl,s8,hs8,hr8,ius,et,by lia,by show cY us < cY us+(3*0+1+0); lia⟩
  | node a c =>
   have ez:zs≠[]:=fun z=>by cases hz.mp z
   obtain ⟨p',va,vc,e1,hp',ta,tc⟩:=tu
   cases e1
   rw [hp] at hp'
   cases hp'
   have wn:cY [some (Bt.node a c)]=3*(a.size+c.size+1)+1+0:=rfl
   have wl:cY [some c,none,some a]=3*c.size+1+(1+(3*a.size+1+0)):=rfl
   rw [wn] at w121
   have e40:l++[40]++eU (us++[some c,none,some a])=brk t:=by
    rw [<- et,ko]
    show l++[40]++((([]++brk a)++[41]++brk c)++eU us)=l++(([]++(40::(brk a++41::brk c)))++eU us)
    simp
   refine Cq (decide_eq_false ez) ⟨_,rfl,.inl ⟨rfl,_,au.of hs8⟩,ps,_,_,rfl,rfl,hs8,hG (by lia),?_⟩
   have s9:=s8.upd hps (.lst (l.map sgn++[.str (Str.ofString "(")]))
   have hs9:upd H8 ps (.lst (l.map sgn++[.str (Str.ofString "(")])) ps=some (.lst ((l++[40]).map sgn)):=by rw [upd_same,List.map_append,m9]; rfl
   have hr9:=(upd_ne (o:=.lst (l.map sgn++[.str (Str.ofString "(")])) (Ne.symm nps)).trans hr8
   generalize upd H8 ps (.lst (l.map sgn++[.str (Str.ofString "(")]))=H9 at s9 hs9 hr9 |-
   have hp9:=s9 _ _ hp
   refine ⟨_,rfl,.inl ⟨rfl,_,au.of hr9⟩,_,rfl,p,_,_,_,rfl,rfl,aT.of hp9,rfl,_,rfl,p,_,_,_,rfl,rfl,aT.of hp9,rfl,(by show 3<=sizeLine; decide),fun pl hpl=>?_⟩
   have s10:=af.new s9 hpl (.lst [vc,.str (Str.ofString ")"),va])
   have hr10:=(upd_ne (o:=.lst [vc,.str (Str.ofString ")"),va]) (ak hr9 hpl)).trans hr9
   have hs10:=(upd_ne (o:=.lst [vc,.str (Str.ofString ")"),va]) (ak hs9 hpl)).trans hs9
   refine ⟨pr,pl,_,_,rfl,rfl,hr10,upd_same,sz (by simp; lia),?_⟩
   exact ⟨_,l++[40],us++[some c,none,some a],ys++[vc,.str (Str.ofString ")"),va],rfl,s10.upd fpr _,(upd_ne nps).trans hs10,upd_same,ius.app (.tree tc (.sign (.tree ta .nil))),e40,by rw [gC,wl]; lia,by rw [gC,wl,wn]; lia⟩
theorem BZ (F:aX K "_law_floor" "_law_floor" jX f fd) {f0:Addr} {fd0:FuncData} (fF:Def P w K mg base "_law_whole" ["_law_found"] 1 (jw K ca) f0 fd0) {f1:Addr} {fd1:FuncData} (iT:Def P w K mg base "_law_pairs" ["_law_found","_law_due"] 2 (m4 K ca) f1 fd1) (bA:mg "isinstance" = none) (gD:mg "tuple" = none) (aJ:mg "len" = none):ax P w K mg base bb 3 f fd ["_law_found","_law_due"] (sX K ca):=by
 refine F.ok Cv (fun vs H Q E h=>?_) (fun cdv A outer s H vs Q E hr h=>?_)
 ·obtain ⟨t,t2,l,l2,c,ps,rfl,ht,ht2,hl,hl2,hz,q⟩:=h
  rfl
 obtain ⟨t,t2,l,l2,c,ps,rfl,ht,ht2,hl,hl2,hz,q⟩:=h
 refine ⟨_,ai (aV (PW.pt (dO (bZ (bS (aC dv rfl bA cD (aa (pv 0) (aa (gz (v:=.ty "tuple") rfl gD sC rfl) ab))))) (dO (aG gq (aC aY rfl aJ bP (aa (pv 0) ab)) aj (aF _)) (dO (bZ (bS (az fF hr (aa (aK bD (pv 0) aj (fun _ _=>rfl)) ab)))) (dS (aG gq (aK bD (pv 0) aj (fun _ _=>rfl)) (aK bD (pv 1) aj (fun _ _=>rfl)) (aF _))))))) (ag (av bX)) aN)
  (ag (av (az iT hr (aa (aK bD (pv 0) aj (fun _ _=>rfl)) (aa (aK bD (pv 1) aj (fun _ _=>rfl)) ab))))),?_⟩
 refine ⟨_,rfl,_,_,_,_,_,rfl,lN,.tup ht,hU,_,rfl,bN ⟨_,rfl,t,_,rfl,.inr (aT.of ht),rfl,_,rfl,gx rfl ?_⟩⟩
 refine ⟨_,rfl,t,_,_,_,rfl,rfl,aT.of ht,rfl,c,rfl,_,rfl,bN ⟨_,rfl,t,_,_,_,rfl,rfl,aT.of ht,rfl,_,rfl,t2,_,_,_,rfl,rfl,aT.of ht2,rfl,rfl,_,rfl,gx rfl ?_⟩⟩
 exact ⟨_,rfl,t,_,_,_,rfl,rfl,aT.of ht,rfl,_,rfl,t2,_,_,_,rfl,rfl,aT.of ht2,rfl,l,l2,ps,rfl,hl,hl2,hz,q⟩
theorem BP (F:aX K "__init__" "Family.__init__" j0 ca.qH fd):ax P w K mg base bb 1 ca.qH fd ["self","word","least"] (tq K ca):=by
 refine F.ok C1 (fun vs H Q E h=>?_) (fun cdv A outer s H vs Q E hr h=>?_)
 ·obtain ⟨x,dx,w,l,rfl,hx,q⟩:=h
  rfl
 obtain ⟨x,dx,w,l,rfl,hx,q⟩:=h
 refine ⟨_,ai (dX (pv 0) (pv 1) rfl)
  (ag (dX (pv 0) (pv 2) rfl)),?_⟩
 refine ⟨_,rfl,_,rfl,x,ca.aL,dx,_,rfl,hx,CA.i9,CA.eY,(by show 0 < 1000; decide),?_⟩
 refine ⟨_,rfl,_,rfl,x,ca.aL,dx,_,rfl,upd_same,CA.i9,CA.eI,(by show 1 < 1000; decide),?_⟩
 exact q _ _ gy (iI w l)
theorem DS (F:aX K "__init__" "SplitFamily.__init__" oG ca.w4 fd) {fd0:FuncData} (wx:aM P w K mg base ["self","word","least"] 1 (tq K ca) ca.qH fd0):ax P w K mg base bb 3 ca.w4 fd ["self","word"] (xq K ca):=by
 refine F.ok Ej (fun vs H Q E h=>?_) (fun cdv A outer s H vs Q E hr h=>?_)
 ·obtain ⟨x,dx,w,rfl,hx,q⟩:=h
  rfl
 obtain ⟨x,dx,w,rfl,hx,q⟩:=h
 refine ⟨_,ag (aI (hV CA.gX CA.cm_Family___init___Floors wx hr (aa (pv 0) (aa (pv 1) (aa aj ab))))),?_⟩
 exact ⟨_,rfl,_,rfl,x,dx,w,0,rfl,hx,fun fs H' e f=>q fs H' e f⟩
theorem BL (F:aX K "__init__" "Floors.__init__" kj ca.qL fd) {fd0:FuncData} (zG:aM P w K mg base ["self","word"] 3 (xq K ca) ca.w4 fd0):ax P w K mg base bb 5 ca.qL fd ["self"] (ra K ca):=by
 refine F.ok Dm (fun vs H Q E h=>?_) (fun cdv A outer s H vs Q E hr h=>?_)
 ·obtain ⟨x,dx,rfl,hx,q⟩:=h
  rfl
 obtain ⟨x,dx,rfl,hx,q⟩:=h
 refine ⟨_,ag (aI (hV CA.dk CA.cm_SplitFamily___init___Floors zG hr (aa (pv 0) (aa bh ab)))),?_⟩
 exact ⟨_,rfl,x,dx,_,rfl,hx,fun fs H' e f=>q fs H' e f⟩
theorem BN (F:aX K "may_be_cut" "may_be_cut" ki f fd):ax P w K mg base bb 1 f fd ["corners","a","b"] (rV K ca):=by
 refine F.ok Bk (fun vs H Q E h=>?_) (fun cdv A outer s H vs Q E hr h=>?_)
 ·obtain ⟨c,a,b,rfl,ct,q⟩:=h
  rfl
 obtain ⟨c,a,b,rfl,ct,q⟩:=h
 refine ⟨_,ag (av (jG (zY z0 gi aj (pv 1) (aD cG (pv 2) aj)) (jG (dw gi (pv 2) (pv 0) (aF _)) (nO (dw (fM (cO hr)) (bz (aa (pv 1) (aa (pv 2) ab))) (bz (aa aj (aa (aD cG (pv 0) aj) ab))) (aF _)))))),?_⟩
 obtain ⟨c1,c2,c3,c4⟩:=ct
 simp only at c1 c2 c3 c4
 refine ⟨_,rfl,_,_,rfl,rfl,_,rfl,cJ c1 ⟨_,rfl,_,_,rfl,rfl,_,_,rfl,rfl,_,rfl,cJ (by lia) ⟨_,rfl,_,rfl,_,_,rfl,rfl,_,rfl,cJ c3 ?_⟩⟩⟩
 refine ⟨_,rfl,_,rfl,(by show 2<=sizeLine; decide),fun t1 ht1=>⟨_,rfl,_,_,rfl,rfl,(by show 2<=sizeLine; decide),fun t2 ht2=>?_⟩⟩
 have n12:t1≠t2:=ak upd_same ht2
 have h1:=(upd_ne (o:=.tup [.int 0,.int (c - 1)]) n12).trans (upd_same (H:=H) (a:=t1) (o:=.tup [.int a,.int b]))
 have s2:=af.new (af.new (af.refl H) ht1 (.tup [.int a,.int b])) ht2 (.tup [.int 0,.int (c - 1)])
 refine ⟨1,_,by decide,bC.two n12 h1 upd_same,⟨t1,t2,rfl,rfl,n12⟩,?_⟩
 have e:(decide (a=0)&&decide (b=c - 1))=false:=by
  cases z:(decide (a=0)&&decide (b=c - 1)) with
  | false=>rfl
  | true =>
   rw [Bool.and_eq_true,decide_eq_true_iff,decide_eq_true_iff] at z
   exact absurd z c4
 rw [e]
 exact q _ s2
theorem Di (F:aX K "is_one" "Floors.is_one" lZ ca.qx fd) {f0:Addr} {fd0:FuncData} (lG:Def P w K mg base "any_cross" ["pairs"] 1 (m6 K ca) f0 fd0) {f1:Addr} {fd1:FuncData} (wc:Def P w K mg base "may_be_cut" ["corners","a","b"] 1 (rV K ca) f1 fd1) (aJ:mg "len" = none) (kc:mg "max" = none) (aZ:mg "sorted" = none) (wF:mg "set" = none) (lC:mg "all" = none):ax P w K mg base bb 2 ca.qx fd ["self","thing"] (tO K ca):=by
 refine F.ok sE (fun vs H Q E h=>?_) (fun cdv A outer s H vs Q E hr h=>?_)
 ·obtain ⟨x,t,l,c,ps,rfl,ht,hl,fl,c43,q⟩:=h
  rfl
 obtain ⟨x,t,l,c,ps,rfl,ht,hl,fl,c43,q⟩:=h
 refine ⟨_,ai (aB (i:=2) sE.nd rfl (Or.inr rfl) (aK bD (pv 1) aj (fun _ _=>rfl)))
  (ai (aB (i:=3) sE.nd rfl (Or.inl rfl) (aK bD (pv 1) aj (fun _ _=>rfl)))
  (ai (aV (PW.pt (dO (aG gi (pv 2) aj (aF _)) (dS (aG gq (aC aY rfl aJ bP (aa (pv 3) ab)) (aC (pY rfl) rfl kc xB (aa aj (aa (aD cG (pv 2) aj) ab))) (aF _))))) (ag (av bX)) aN)
  (ai (aV (PW.pt (dO (aG (fM (cO hr)) (pv 3) (v9 rfl (cO hr) rfl aZ rfl wF (aa (pv 3) ab)) (aF _)) (dS (bS (az lG hr (aa (pv 3) ab)))))) (ag (av bX)) aN)
  (ag (av (aC (rJ rfl) rfl lC yj (aa (dP rfl (cQ (pv 3)) rfl rfl rfl rfl (N:=["a","b","corners"]) (.own (.own (.cap (j:=2) rfl rfl rfl .nil))) (fun _ _ _ _ _ _=>(lB (K:=K) (n:=2) rfl rfl (bQ (aO (i:=0) (by show List.Nodup (["a","b","corners"]:List Str); decide +kernel) rfl (Or.inl rfl)) (bQ (aO (i:=1) (by show List.Nodup (["a","b","corners"]:List Str); decide +kernel) rfl (Or.inl rfl)) eD)))) (fun _ _ _ _ _ _=>eV) (fun _ _ _ _ _ _=>(az wc hr (aa (pv 2) (aa (pv 0) (aa (pv 1) ab)))))) ab))))))),?_⟩
 obtain ⟨xs,el,lxs,pr⟩:=hl.len
 have c2:=fl.c2
 have ln:=fl.len
 have l44:ps.length < 64:=by
  have:(ps.length:Int)<=40:=by rw [ln]; split<;>lia
  lia
 refine ⟨_,rfl,t,_,_,_,rfl,rfl,aT.of ht,rfl,_,rfl,t,_,_,_,rfl,rfl,aT.of ht,rfl,?_⟩
 refine ⟨_,rfl,_,_,rfl,rfl,_,rfl,dA (by lia) ⟨_,rfl,l,_,rfl,.inl (au.of el),_,rfl,_,_,rfl,rfl,_,_,rfl,rfl,_,rfl,gx (congrArg V.int (by rw [lxs]; exact ln)) ?_⟩⟩
 refine ⟨_,rfl,_,rfl,l,ps,rfl,hl,fl.nd,fun p hp=>?_,l44,fun pq qs H1 s1 f1 h1 pm rs=>?_⟩
 ·have:=fl.ct p hp
  exact ⟨this.1,by have:=this.2.1; lia,by have:=this.2.2.1; lia⟩
 have eqs:qs=ps:=gM rs fl.ris pm
 subst eqs
 have hl1:=hl.same s1
 have ne:l≠pq:=ak el f1
 refine ⟨2,_,by decide,bC.prs ne hl1 h1,⟨l,pq,rfl,rfl,ne⟩,_,rfl,?_⟩
 rw [decide_eq_true rfl]
 refine bN ⟨_,rfl,l,qs,rfl,hl1,_,rfl,?_⟩
 rw [mQ.mpr fl.nc]
 refine bN ⟨_,rfl,l,rfl,⟨_,au.of (s1 _ _ el)⟩,fun D hD=>eB (xs:=xs) (fun i ys H'=>af H1 H'/\H' D=some (.lst ys)/\ys=((qs.take i).map fun _=>true).map V.bl/\i<=qs.length) (sz (by lia)) ⟨af.new (af.refl H1) hD _,upd_same,rfl,Nat.zero_le _⟩ (fun i ys H' hi h=>⟨au.of (h.1 _ _ (s1 _ _ el)),?_⟩) (fun i y ys H' R R0 hx h r r0=>?_) (fun ys H' h=>?_)⟩
 ·rw [h.2.2.1,List.length_map,List.length_map,List.length_take]
  lia
 ·obtain ⟨sm,hy,ey,hi⟩:=h
  obtain ⟨pp,tt,hpp,rfl,htt⟩:=(pr.same s1).get hx
  have hlt:i < qs.length:=(List.getElem?_eq_some_iff.mp hpp).1
  refine ⟨tt,_,rfl,aT.of (sm _ _ htt),rfl,_,_,rfl,_,_,rfl,rfl,(Ext.set rfl).trans (Ext.set rfl),uf (dB ?_)⟩
  refine ⟨_,rfl,_,rfl,_,rfl,c,pp.1,pp.2,rfl,fl.ct pp (List.mem_of_getElem? hpp),fun H3 s3=>r _ _ (s3 _ _ hy) ⟨(sm.trans s3).upd hD _,upd_same,?_,hlt⟩⟩
  rw [List.take_add_one,hpp,List.map_append,List.map_append,<- ey]
  rfl
 ·obtain ⟨sm,hy,ey,hi⟩:=h
  rw [List.take_of_length_le (by lia)] at ey
  rw [ey] at hy
  refine ⟨D,_,rfl,au.of hy,?_⟩
  have e2:((qs.map fun _=>true).all id)=true:=by rw [List.all_map]; exact List.all_eq_true.mpr fun _ _=>rfl
  rw [e2]
  exact q _ (s1.trans sm)
theorem Eg (F:aX K "refuse_other" "Family.refuse_other" oB ca.wt fd) {fd0:FuncData} (wC:aM P w K mg base ["self","thing"] 2 (tO K ca) ca.qx fd0):ax P w K mg base bb 3 ca.wt fd ["self","thing"] (vG K ca):=by
 refine F.ok DN (fun vs H Q E h=>?_) (fun cdv A outer s H vs Q E hr h=>?_)
 ·obtain ⟨x,dx,fs,t,l,c,ps,rfl,hx,fo,ht,hl,fl,c43,q⟩:=h
  rfl
 obtain ⟨x,dx,fs,t,l,c,ps,rfl,hx,fo,ht,hl,fl,c43,q⟩:=h
 refine ⟨_,ag (aV (bZ (bS (df (pv 0) CA.i9 CA.mt_Floors_is_one wC hr (aa (pv 1) ab)))) (ag gR) aN),?_⟩
 exact ⟨_,rfl,x,dx,fs,rfl,hx,fo,_,rfl,x,t,l,c,ps,rfl,ht,hl,fl,c43,fun H1 s1=>⟨_,rfl,bN (q H1 s1)⟩⟩
theorem BF (F:aX K "floor_mirror" "floor_mirror" md f fd) {fd0:FuncData} (wO:aM P w K mg base ["self"] 5 (ra K ca) ca.qL fd0) {fd1:FuncData} (zb:aM P w K mg base ["self","thing"] 3 (vG K ca) ca.wt fd1) {f2:Addr} {fd2:FuncData} (lY:Def P w K mg base "mirrored_pairs" ["pairs","last"] 2 (nq K ca) f2 fd2):ax P w K mg base bb 7 f fd ["thing"] (sv K ca):=by
 refine F.ok CV (fun vs H Q E h=>?_) (fun cdv A outer s H vs Q E hr h=>?_)
 ·obtain ⟨t,l,c,ps,rfl,ht,hl,fl,c43,q⟩:=h
  rfl
 obtain ⟨t,l,c,ps,rfl,ht,hl,fl,c43,q⟩:=h
 refine ⟨_,ai (aI (df (dU CA.mk_Floors CA.zo wO hr) CA.i9 CA.mt_Floors_refuse_other zb hr (aa (pv 0) ab)))
  (ag (av (bz (aa (aK bD (pv 0) aj (fun _ _=>rfl)) (aa (az lY hr (aa (aK bD (pv 0) aj (fun _ _=>rfl)) (aa (aD cG (aK bD (pv 0) aj (fun _ _=>rfl)) aj) ab))) ab))))),?_⟩
 intro x dx nx ndx nex
 refine ⟨x,dx,rfl,upd_same,fun fsx Hx1 ex fx=>⟨rfl,?_⟩⟩
 have sx:af H Hx1:=by rw [ex]; exact ((af.new (af.refl H) ndx _).upd nx _).upd nx _
 have hx:Hx1 x=some (.ins ca.aL dx fsx):=by rw [ex]; exact upd_same
 refine ⟨x,dx,fsx,rfl,hx,fx.no "refuse_other" (by decide) (by decide),_,rfl,x,dx,fsx,t,l,c,ps,rfl,hx,fx.no "is_one" (by decide) (by decide),sx _ _ ht,hl.same sx,fl,c43,fun H2 s2=>?_⟩
 have t2:=sx.trans s2
 have hl2:=hl.same t2
 have ht2:=t2 _ _ ht
 have ln:=fl.len
 have c2:=fl.c2
 have l44:ps.length < 64:=by
  have:(ps.length:Int)<=40:=by rw [ln]; split<;>lia
  lia
 refine ⟨_,rfl,t,_,_,_,rfl,rfl,aT.of ht2,rfl,_,rfl,t,_,_,_,rfl,rfl,aT.of ht2,rfl,_,rfl,t,_,_,_,rfl,rfl,aT.of ht2,rfl,_,_,rfl,rfl,l,ps,c - 1,rfl,hl2,l44,fun p hp=>(fl.ct p hp).inR.2.1,fun q' qs H3 s3 f3 h3 pm rs=>⟨(by show 2<=sizeLine; decide),fun u hu=>?_⟩⟩
 have t3:=t2.trans s3
 exact q u q' qs _ (af.new t3 hu _) (t3.free hu) (t2.free f3) upd_same (h3.same (af.new (af.refl _) hu _)) pm rs
theorem BW (F:aX K "lines_over" "lines_over" lK f fd) (n:Nat) (cE:Def P w K mg base "lines_over" ["lines","twin","corner"] (0+n) (below n fun m=>nU K ca m) f fd):ax P w K mg base (iG P w) (0+n+1) f fd ["lines","twin","corner"] (nU K ca n):=by
 refine ax.up ?_
 refine F.ok rY (fun vs H Q E h=>?_) (fun cdv A outer s H vs Q E hr h=>?_)
 ·obtain ⟨pl,v,c,t,ps,rfl,hl,tv,hn,h100,q⟩:=h
  rfl
 obtain ⟨pl,v,c,t,ps,rfl,hl,tv,hn,h100,q⟩:=h
 refine ⟨_,ai (aV (aG (jr (cO hr)) (pv 1) (bz ab) (aF _)) (ag (av (aD cj (pv 2) aj))) aN)
  (ai (aB (i:=3) rY.nd rfl (Or.inl rfl) (az cE hr (aa (pv 0) (aa (aK bD (pv 1) aj (fun _ _=>rfl)) (aa (pv 2) ab))) (hjk:=by lia)))
  (ai (aB (i:=4) rY.nd rfl (Or.inl rfl) (az cE hr (aa (pv 0) (aa (aK bD (pv 1) aj (fun _ _=>rfl)) (aa (pv 3) ab))) (hjk:=by lia)))
  (ai (aI (cg PySem.F.plainAttrs_list PySem.F.slot_list_append PySem.F.type_list_append bJ (pv 0) (aa (bz (aa (pv 2) (aa (pv 4) ab))) ab)))
  (ag (av (pv 4)))))),?_⟩
 obtain ⟨p,zs,rfl,hp,hz⟩:=tv.ref
 refine ⟨_,rfl,Nat.zero_le _,fun pt hpt=>?_⟩
 have npt:p≠pt:=ak hp hpt
 have s1:=af.new (af.refl H) hpt (.tup [])
 have hp1:=s1 _ _ hp
 refine ⟨1,_,by decide,bC.unit npt (aT.of hp1) (aT.of upd_same),⟨p,pt,rfl,rfl,npt⟩,_,rfl,?_⟩
 generalize upd H pt (.tup [])=H1 at s1 hp1 |-
 have b1:fX pl H H1:=fun x u _ h=>s1 x u h
 cases t with
 | leaf =>
  have ez:=hz.mpr rfl
  subst ez
  refine eqT (decide_eq_true rfl) ⟨_,rfl,_,_,rfl,rfl,?_⟩
  have:=q H1 b1 (by show bL H1 pl (ps++[]); rw [List.append_nil]; exact hl.same s1)
  rw [show c+1+((Bt.leaf.size:Nat):Int)=c+1 from Int.add_zero _] at this
  exact this
 | node l r =>
  have ez:zs≠[]:=fun z=>by cases hz.mp z
  obtain ⟨p',a,b,e1,hp',tl,tr⟩:=tv
  cases e1
  rw [hp] at hp'
  cases hp'
  have hn:l.size+r.size+1=n:=hn
  obtain ⟨xs0,el0,_,_⟩:=hl.len
  have kp:∀ {Ha Hb:Hp} {xs:List V},fX pl Ha Hb->Ha pl=some (.lst xs)->∀ p zs,Ha p=some (.tup zs)->Hb p=some (.tup zs):=fun b e p zs h=>b p _ (fun z=>by rw [z,e] at h; cases h) h
  refine xy (decide_eq_false ez) ⟨_,rfl,_,rfl,p,_,_,_,rfl,rfl,aT.of hp1,rfl,_,rfl,l.size,by lia,pl,a,c,l,ps,rfl,hl.same s1,Tw.same s1 tl,rfl,by lia,fun H2 b2 h2=>?_⟩
  have tr2:Tw H2 b r:=(Tw.same s1 tr).keep (kp b2 (s1 _ _ el0))
  have hp2:=kp b2 (s1 _ _ el0) _ _ hp1
  obtain ⟨xs2,el2,_,_⟩:=h2.len
  refine ⟨_,rfl,_,rfl,p,_,_,_,rfl,rfl,aT.of hp2,rfl,_,rfl,r.size,by lia,pl,b,_,r,_,rfl,h2,tr2,rfl,by rw [List.length_append,lJ]; lia,fun H3 b3 h3=>?_⟩
  obtain ⟨xs3,el3,lx3,pr3⟩:=h3.len
  refine ⟨_,rfl,.inl ⟨rfl,_,au.of el3⟩,_,rfl,_,rfl,(by show 2<=sizeLine; decide),fun u hu=>?_⟩
  have el4:=(upd_ne (o:=.tup [.int c,.int (c+1+(l.size:Int)+1+(r.size:Int))]) (ak el3 hu)).trans el3
  refine ⟨pl,_,_,rfl,rfl,el4,hG (by rw [lx3,List.length_append,List.length_append,lJ,lJ]; lia),⟨_,rfl,?_⟩⟩
  have h4:=bL.push (a:=c) (b:=c+1+(l.size:Int)+1+(r.size:Int)) el3 pr3 hu
  have b4:fX pl H _:=((b1.trans (b2.trans b3)).new hu (.tup [.int c,.int (c+1+(l.size:Int)+1+(r.size:Int))])).upd (.lst (xs3++[.ref u]))
  have e1:c+1+(((Bt.node l r).size:Nat):Int)=c+1+(l.size:Int)+1+(r.size:Int):=by show c+1+((l.size+r.size+1:Nat):Int)=_; lia
  have e2:ps++dQ (.node l r) c=ps++dQ l c++dQ r (c+1+(l.size:Int))++[(c,c+1+(l.size:Int)+1+(r.size:Int))]:=by
   show ps++(dQ l c++dQ r (c+1+(l.size:Int))++[(c,c+2+(l.size:Int)+(r.size:Int))])=_
   rw [show c+2+(l.size:Int)+(r.size:Int)=c+1+(l.size:Int)+1+(r.size:Int) by lia]
   simp only [List.append_assoc]
  rw [e1,e2] at q
  exact q _ b4 h4
theorem DD (F:aX K "twins_to_floor" "twins_to_floor" lI f fd) {fd0:FuncData} (gu:aM P w K mg base ["self"] 5 (jN K ca) ca.kJ fd0) {fd1:FuncData} (iU:aM P w K mg base ["self","thing"] 2 (nB K ca) ca.oI fd1) {f2:Addr} {fd2:FuncData} (w8:Def P w K mg base "lines_over" ["lines","twin","corner"] 42 (uX K ca) f2 fd2) (aZ:mg "sorted" = none):ax P w K mg base bb 43 f fd ["thing"] (tJ K ca):=by
 refine F.ok sS (fun vs H Q E h=>?_) (fun cdv A outer s H vs Q E hr h=>?_)
 ·obtain ⟨v,t,rfl,tv,h40,q⟩:=h
  rfl
 obtain ⟨v,t,rfl,tv,h40,q⟩:=h
 refine ⟨_,ai (aI (df (dU CA.mk_Twins CA.oy gu hr) CA.gB CA.mt_Twins_refuse_other iU hr (aa (pv 0) ab)))
  (ai (aB (i:=1) sS.nd rfl (Or.inl rfl) (bW ab))
  (ai (aB (i:=2) sS.nd rfl (Or.inl rfl) (az w8 hr (aa (pv 1) (aa (pv 0) (aa aj ab)))))
  (ag (av (bz (aa (aD cj (pv 2) aj) (aa (aC cR rfl aZ c0 (aa (jb og (pv 1) lM (j5 (jc gU aj))) ab)) ab))))))),?_⟩
 intro b db nb ndb neb
 refine ⟨b,db,rfl,upd_same,fun fsb Hb1 eb fb=>⟨rfl,?_⟩⟩
 have sb:af H Hb1:=by rw [eb]; exact ((af.new (af.refl H) ndb _).upd nb _).upd nb _
 have hb:Hb1 b=some (.ins ca.aP db fsb):=by rw [eb]; exact upd_same
 refine ⟨b,db,fsb,rfl,hb,fb.no "refuse_other" (by decide) (by decide),_,rfl,b,db,fsb,_,v,t,rfl,hb,fb,Tw.same sb tv,fun H2 s2=>?_⟩
 have t2:=sb.trans s2
 refine ⟨Nat.zero_le _,fun pl hpl=>?_⟩
 have s3:=af.new t2 hpl (.lst [])
 have fpl:H pl=none:=t2.free hpl
 have h3:bL (upd H2 pl (.lst [])) pl []:=⟨[],upd_same,.nil⟩
 refine ⟨_,rfl,_,rfl,t.size,by lia,pl,v,0,t,[],rfl,h3,Tw.same s3 tv,rfl,by show 0+t.size<=100; lia,fun H4 b4 h4=>?_⟩
 have s4:=b4.same s3 fpl
 rw [List.nil_append] at h4
 obtain ⟨xs,el,lx,pr⟩:=h4.len
 have lp:=lJ t 0
 refine ⟨_,rfl,_,_,rfl,rfl,?_⟩
 refine ⟨_,rfl,1,rfl,_,rfl,pl,xs,rfl,au.of el,fun m hm=>?_⟩
 rw [yU]
 have s5:=af.new s4 hm (.lst xs.dropLast)
 have h5:bL (upd H4 m (.lst xs.dropLast)) m (dQ t 0).dropLast:=⟨_,upd_same,(bM.dropLast pr).updN hm _⟩
 refine ⟨m,_,rfl,h5,by rw [List.length_dropLast]; lia,fun q' qs H6 s6 f6 h6 pm6 rs6=>⟨(by show 2<=sizeLine; decide),fun u hu=>?_⟩⟩
 have s7:=s5.trans s6
 refine q u q' qs _ (af.new s7 hu _) (s7.free hu) (s5.free f6) ?_ (h6.same (af.new (af.refl _) hu _)) (pm6.trans (Bv t 0)) rs6
 rw [upd_same]
 show some (HO.tup [V.int (0+1+(t.size:Int)+1),V.ref q'])=_
 rw [show (0:Int)+1+(t.size:Int)+1=(t.size:Int)+2 by lia]
theorem CN (F:aX K "law" "law" gn f fd) {f0:Addr} {fd0:FuncData} (vS:Def P w K mg base "_law_text_by" ["_law_script","_law_size_here","_law_turn"] 3 (sT K ca) f0 fd0) {f1:Addr} {fd1:FuncData} (wL:Def P w K mg base "_law_cell_at" ["_law_script","_law_k"] 1 (sL K ca) f1 fd1) {f2:Addr} {fd2:FuncData} (wI:Def P w K mg base "_law_mirror" ["_law_text"] 1 (rf K ca) f2 fd2) {f3:Addr} {fd3:FuncData} (nK:Def P w K mg base "brackets_mirror" ["thing"] 7 (rN K ca) f3 fd3) {f4:Addr} {fd4:FuncData} (iT:Def P w K mg base "_law_pairs" ["_law_found","_law_due"] 2 (m4 K ca) f4 fd4) {f5:Addr} {fd5:FuncData} (qP:Def P w K mg base "_law_bows_of" ["_law_text"] 2 (ud K ca) f5 fd5) {f6:Addr} {fd6:FuncData} (qy:Def P w K mg base "bows_mirror" ["thing"] 7 (rC K ca) f6 fd6) {f7:Addr} {fd7:FuncData} (qC:Def P w K mg base "brackets_to_bows" ["thing"] 7 (tP K ca) f7 fd7) {f8:Addr} {fd8:FuncData} (qM:Def P w K mg base "_law_numbers" ["_law_found","_law_due"] 2 (rM K ca) f8 fd8) {f9:Addr} {fd9:FuncData} (qF:Def P w K mg base "_law_turns_of" ["_law_text"] 2 (rz K ca) f9 fd9) {f10:Addr} {fd10:FuncData} (qt:Def P w K mg base "turns_mirror" ["thing"] 7 (tI K ca) f10 fd10) {f11:Addr} {fd11:FuncData} (qO:Def P w K mg base "brackets_to_turns" ["thing"] 7 (ue K ca) f11 fd11) {f12:Addr} {fd12:FuncData} (wD:Def P w K mg base "twins_mirror" ["thing"] 43 (tj K ca) f12 fd12) {f13:Addr} {fd13:FuncData} (qE:Def P w K mg base "brackets_to_twins" ["thing"] 7 (rg K ca) f13 fd13) {f14:Addr} {fd14:FuncData} (wY:Def P w K mg base "_law_over" ["_law_thing"] 42 (vn K ca) f14 fd14) {f15:Addr} {fd15:FuncData} (jV:Def P w K mg base "_law_twins_by" ["_law_text"] 1 (nG K ca) f15 fd15) {f16:Addr} {fd16:FuncData} (qG:Def P w K mg base "_law_floor_of" ["_law_text"] 85 (qS K ca) f16 fd16) {f17:Addr} {fd17:FuncData} (wX:Def P w K mg base "twins_to_brackets" ["thing"] 7 (rS K ca) f17 fd17) {f18:Addr} {fd18:FuncData} (qA:Def P w K mg base "_law_floor" ["_law_found","_law_due"] 3 (sX K ca) f18 fd18) {f19:Addr} {fd19:FuncData} (qu:Def P w K mg base "floor_mirror" ["thing"] 7 (sv K ca) f19 fd19) {f20:Addr} {fd20:FuncData} (ql:Def P w K mg base "twins_to_floor" ["thing"] 43 (tJ K ca) f20 fd20):ax P w K mg base bb 86 f fd ["_law_script"] (CO K ca):=by
 refine F.ok jH (fun vs H Q E h=>?_) (fun cdv A outer s H vs Q E hr h=>?_)
 ·obtain ⟨a,ns,rfl,hS,h63,q⟩:=h
  rfl
 obtain ⟨a,ns,rfl,hS,h63,q⟩:=h
 refine ⟨_,ai (aB (i:=1) jH.nd rfl (Or.inl rfl) (az vS hr (aa (pv 0) (aa (aD cW (az wL hr (aa (pv 0) (aa aj ab))) aj) (aa aj ab)))))
  (ai (aB (i:=2) jH.nd rfl (Or.inl rfl) (az wI hr (aa (pv 1) ab)))
  (ai (aV (aG gq (az nK hr (aa (pv 1) ab)) (pv 2) (aF _)) (ag (av bX)) aN)
  (ai (aV (bZ (bS (az iT hr (aa (az qy hr (aa (az qP hr (aa (pv 1) ab)) ab)) (aa (az qP hr (aa (pv 2) ab)) ab))))) (ag (av bX)) aN)
  (ai (aV (bZ (bS (az iT hr (aa (az qy hr (aa (az qC hr (aa (pv 1) ab)) ab)) (aa (az qC hr (aa (az nK hr (aa (pv 1) ab)) ab)) ab))))) (ag (av bX)) aN)
  (ai (aV (bZ (bS (az qM hr (aa (az qt hr (aa (az qF hr (aa (pv 1) ab)) ab)) (aa (az qF hr (aa (pv 2) ab)) ab))))) (ag (av bX)) aN)
  (ai (aV (bZ (bS (az qM hr (aa (az qt hr (aa (az qO hr (aa (pv 1) ab)) ab)) (aa (az qO hr (aa (az nK hr (aa (pv 1) ab)) ab)) ab))))) (ag (av bX)) aN)
  (ai (aB (i:=3) jH.nd rfl (Or.inl rfl) (az wD hr (aa (az qE hr (aa (pv 1) ab)) ab)))
  (ai (aV (aG (fM (cO hr)) (pv 3) (az wY hr (aa (az jV hr (aa (pv 1) ab)) ab)) (aF _)) (ag (av bX)) aN)
  (ai (aB (i:=4) jH.nd rfl (Or.inl rfl) (az qG hr (aa (az wX hr (aa (pv 3) ab)) ab)))
  (ai (aV (bZ (bS (az qA hr (aa (az qu hr (aa (az qG hr (aa (pv 1) ab)) ab)) (aa (pv 4) ab))))) (ag (av bX)) aN)
  (ag (av (az qA hr (aa (az qu hr (aa (az ql hr (aa (az qE hr (aa (pv 1) ab)) ab)) ab)) (aa (az ql hr (aa (pv 3) ab)) ab))))))))))))))),?_⟩
 have hb:∀ x k:Int,0 < k->0<=x % k/\x % k < k:=fun x k hk=>⟨Int.emod_nonneg _ (by lia),Int.emod_lt_of_pos _ hk⟩
 have m0:=hb (ns.getD (0:Int).toNat 0) 41 (by decide)
 refine ⟨_,rfl,_,rfl,a,ns,0,rfl,hS,by decide,_,_,rfl,rfl,pm (by decide),?_⟩
 try dsimp only
 generalize ns.getD (0:Int).toNat 0 % 41=z at m0 |-
 obtain ⟨n0,rfl⟩:∃ n:Nat,z=(n:Int):=⟨z.toNat,by lia⟩
 refine ⟨a,ns,(n0:Int),3,rfl,hS,h63,by lia,by lia,by decide,by decide,fun x H1 s1 cx lx=>?_⟩
 obtain ⟨t,et⟩:=iA _ x.cps.toList (Nat.le_refl _) cx
 have lx':x.cps.toList.length=2*n0:=by rw [bE,lx]; lia
 have st:t.size=n0:=by
  have:=cS t
  rw [et] at this
  lia
 have h40:t.size<=40:=by lia
 have sg:=dH _ 0 cx
 obtain ⟨bw,lb⟩:=jv cx lx'
 have cm:=mE cx
 have lm:=dg x.cps.toList
 obtain ⟨bm,lbm⟩:=jv cm (lm.trans lx')
 refine ⟨_,rfl,x,rfl,by lia,sg,fun y ey=>?_⟩
 have cy:clo 0 y.cps.toList=true:=by rw [ey]; exact cm
 have ly:y.length=x.length:=by rw [<- bE,ey,lm,bE]
 refine ⟨_,rfl,x,rfl,cx,by lia,fun z H2 s2 ez=>?_⟩
 have ezy:z=y:=o7 (ez.trans ey.symm)
 subst ezy
 refine ⟨_,rfl,rfl,_,rfl,gx rfl ?_⟩
 -- the bows
 have mb:=AH cx
 rw [lx',show ((2*n0:Nat):Int) - 1=2*((bu x.cps.toList x.cps.toList.length).length:Int) - 1 by rw [lb]; lia,<- lx'] at mb
 have lyc:z.cps.toList.length=x.cps.toList.length:=by rw [ey,lm]
 have bwz:bu z.cps.toList z.length=bu (aU x.cps.toList) x.cps.toList.length:=by rw [<- bE,lyc,ey]
 have bwx:bu x.cps.toList x.length=bu x.cps.toList x.cps.toList.length:=by rw [bE]
 have key:∀ qs:List Pair,qs.Perm ((bu x.cps.toList x.cps.toList.length).map (dD (2*((bu x.cps.toList x.cps.toList.length).length:Int) - 1)))->qs.Pairwise bR->qs=bu z.cps.toList z.length:=fun qs pm rs=>by
  rw [bwz]
  exact gM rs ((jx _ _).imp fun h=>.inl h) (pm.trans mb)
 have lbz:(bu z.cps.toList z.length).length<=40:=by rw [bwz,<- lm,lbm]; lia
 have lbx:(bu x.cps.toList x.length).length<=40:=by rw [bwx,lb]; lia
 refine ⟨_,rfl,x,rfl,by lia,fun l H3 s3 f3 h3=>?_⟩
 have t3:=(s1.trans s2).trans s3
 rw [bwx] at h3
 refine ⟨l,_,rfl,h3,by lia,bw,fun f qs H4 s4 f4 h4 pm4 rs4=>?_⟩
 obtain rfl:=key qs pm4 rs4
 have t4:=t3.trans s4
 refine ⟨_,rfl,z,rfl,by lia,fun l5 H5 s5 f5 h5=>?_⟩
 have t5:=t4.trans s5
 refine ⟨f,l5,_,rfl,h4.same s5,h5,by lia,_,rfl,bN ?_⟩
 refine ⟨_,rfl,x,rfl,cx,by lia,fun l6 H6 s6 f6 h6 _=>?_⟩
 have t6:=t5.trans s6
 rw [bwx] at h6
 refine ⟨l6,_,rfl,h6,by lia,bw,fun f7 qs H7 s7 _ h7 pm7 rs7=>?_⟩
 obtain rfl:=key qs pm7 rs7
 have t7:=t6.trans s7
 refine ⟨_,rfl,x,rfl,cx,by lia,fun w H8 s8 ew=>?_⟩
 have ewz:w=z:=o7 (ew.trans ey.symm)
 subst ewz
 have t8:=t7.trans s8
 refine ⟨w,rfl,cy,by lia,fun l9 H9 s9 f9 h9 _=>?_⟩
 have t9:=t8.trans s9
 refine ⟨f7,l9,_,rfl,h7.same (s8.trans s9),h9,by lia,_,rfl,bN ?_⟩
 -- the rows
 obtain ⟨fd,wk,wf⟩:=rL cx
 obtain ⟨fm,wm,wfm⟩:=rL cm
 have rowx:∀ qs:List Pair,qs.Perm ((bu x.cps.toList x.cps.toList.length).map eC)->qs.Pairwise bR->(qs.map fun q=>ba x.cps.toList q.2)=fd.map fun p=>ba x.cps.toList p.1:=fun qs pm rs=>vf wk wf pm rs
 have fdu:∀ fd':List Pair,Wk x.cps.toList x.cps.toList.length fd' []->Wf x.cps.toList x.cps.toList.length fd'->(fd'.map fun p=>ba x.cps.toList p.1)=fd.map fun p=>ba x.cps.toList p.1:=fun fd' w' f'=>by
  have p1:(fd'.map eC).Perm ((bu x.cps.toList x.cps.toList.length).map eC):=(eX w').map eC
  have e:=jR wk wf p1 (jC w' f')
  have:=congrArg (List.map fun q:Pair=>ba x.cps.toList q.2) e
  rw [List.map_map,List.map_map] at this
  exact this
 have fdm:∀ fd':List Pair,Wk (aU x.cps.toList) (aU x.cps.toList).length fd' []->Wf (aU x.cps.toList) (aU x.cps.toList).length fd'->(fd'.map fun p=>ba (aU x.cps.toList) p.1)=fm.map fun p=>ba (aU x.cps.toList) p.1:=fun fd' w' f'=>by
  have p1:(fd'.map eC).Perm ((bu (aU x.cps.toList) (aU x.cps.toList).length).map eC):=(eX w').map eC
  have e:=jR wm wfm p1 (jC w' f')
  have:=congrArg (List.map fun q:Pair=>ba (aU x.cps.toList) q.2) e
  rw [List.map_map,List.map_map] at this
  exact this
 have tnx:dW (fd.map fun p=>ba x.cps.toList p.1)=true/\(fd.map fun p=>ba x.cps.toList p.1).length=n0:=by
  have p1:(fd.map eC).Perm ((bu x.cps.toList x.cps.toList.length).map eC):=(eX wk).map eC
  have:=xV cx lx' p1 (jC wk wf)
  rw [rowx _ p1 (jC wk wf)] at this
  exact this
 have mt:fS (fd.map fun p=>ba x.cps.toList p.1)=fm.map fun p=>ba (aU x.cps.toList) p.1:=by
  rw [lm] at wm wfm
  exact (Ay cx wk wf wm wfm (pL tnx.1)).symm
 have lmt:(fS (fd.map fun p=>ba x.cps.toList p.1)).length<=1000:=by rw [tN]; lia
 refine ⟨_,rfl,x,rfl,by lia,lbx,fun pa qa Ha sa fa pma rsa ha=>?_⟩
 have ta:=t9.trans sa
 rw [bwx] at pma
 rw [rowx qa pma rsa] at ha
 refine ⟨pa,_,rfl,ha,by lia,tnx.1,fun pb Hb sb fb hb'=>?_⟩
 have tb:=ta.trans sb
 refine ⟨_,rfl,w,rfl,by lia,lbz,fun pc qc Hc sc fc pmc rsc hc=>?_⟩
 have tc:=tb.trans sc
 have hc':Hc pc=some (.lst ((fS (fd.map fun p=>ba x.cps.toList p.1)).map V.int)):=by
  rw [hc,mt,ey]
  rw [bwz,<- lm] at pmc
  rw [vf wm wfm pmc rsc]
 refine ⟨pb,pc,_,rfl,sc _ _ hb',hc',lmt,_,rfl,bN ?_⟩
 refine ⟨_,rfl,x,rfl,cx,by lia,fun pd fd2 Hd sd fd' wk2 wf2 hd=>?_⟩
 have td:=tc.trans sd
 rw [fdu fd2 wk2 wf2] at hd
 refine ⟨pd,_,rfl,hd,by lia,tnx.1,fun pe He se fe he=>?_⟩
 have te:=td.trans se
 refine ⟨_,rfl,x,rfl,cx,by lia,fun w2 Hf sf ew2=>?_⟩
 have ew2z:w2=w:=o7 (ew2.trans ey.symm)
 subst ew2z
 have tf:=te.trans sf
 refine ⟨w2,rfl,cy,by lia,fun pg fd3 Hg sg' fg wk3 wf3 hg=>?_⟩
 have tg:=tf.trans sg'
 have hg':Hg pg=some (.lst ((fS (fd.map fun p=>ba x.cps.toList p.1)).map V.int)):=by
  rw [ey] at wk3 wf3 hg
  rw [hg,mt,fdm fd3 wk3 wf3]
 refine ⟨pe,pg,_,rfl,(sf.trans sg') _ _ he,hg',lmt,_,rfl,bN ?_⟩
 -- twins and floors
 have smb:=dN t
 refine ⟨_,rfl,x,t,rfl,et.symm,h40,fun v Hh sh tv=>?_⟩
 refine ⟨v,t,rfl,tv,h40,fun u Hi si tu=>?_⟩
 have ti:=(tg.trans sh).trans si
 refine ⟨_,rfl,_,rfl,x,t,rfl,et.symm,h40,fun v2 Hj sj tv2=>?_⟩
 obtain ⟨pu,xu,rfl,hpu,_⟩:=tu.ref
 refine ⟨t.size,by lia,v2,t,rfl,tv2,rfl,h40,fun u2 Hk sk fu2 tu2=>?_⟩
 have tk:=(ti.trans sj).trans sk
 have tuk:=Tw.same (sj.trans sk) tu
 refine ⟨(cB t).size+1,true,by lia,Tw.eqD tuk tu2,⟨pu,u2,rfl,rfl,ak (sj _ _ hpu) fu2⟩,_,rfl,z6 rfl ?_⟩
 refine ⟨_,rfl,.ref pu,cB t,rfl,tuk,by lia,fun b Hl sl eb=>?_⟩
 have tl:=tk.trans sl
 refine ⟨b,cB t,rfl,eb,by lia,fun um qm qsm Hm sm fum fqm hum hqm pmm rsm=>?_⟩
 have tm:=tl.trans sm
 have mrt:dD ((t.size:Int)+2 - 1)=dD ((t.size:Int)+1):=by rw [show (t.size:Int)+2 - 1=(t.size:Int)+1 by lia]
 refine ⟨_,rfl,x,t,rfl,et.symm,h40,fun un qn qsn Hn sn fuN fqn hun hqn pmn rsn=>?_⟩
 have tn:=tm.trans sn
 refine ⟨un,qn,_,qsn,rfl,hun,hqn,Ai pmn rsn,by lia,fun uo qo qso Ho so fuo fqo huo hqo pmo rso=>?_⟩
 have eo:qso=qsm:=gM rso rsm (by rw [mrt] at pmo; exact (pmo.trans (pmn.map _)).trans ((xW t).trans pmm.symm))
 subst eo
 have lq:qso.length<=1000:=by rw [pmm.length_eq,mW]; lia
 have k1:=sn.trans so
 refine ⟨_,rfl,uo,um,qo,qm,_,qso,rfl,huo,(by rw [<- smb]; exact k1 _ _ hum),hqo,hqm.same k1,lq,_,rfl,bN ?_⟩
 refine ⟨_,rfl,x,t,rfl,et.symm,h40,fun v3 Hp sp tv3=>?_⟩
 refine ⟨v3,t,rfl,tv3,h40,fun uq qq qsq Hq sq fuq fqq huq hqq pmq rsq=>?_⟩
 refine ⟨uq,qq,_,qsq,rfl,huq,hqq,Ai pmq rsq,by lia,fun ur qr qsr Hr sr fur fqr hur hqr pmr rsr=>?_⟩
 refine ⟨_,rfl,.ref pu,cB t,rfl,Tw.same ((((((sl.trans sm).trans sn).trans so).trans sp).trans sq).trans sr) tuk,by lia,fun us qs' qss Hs ss fus fqs hus hqs pms rss=>?_⟩
 have er:qsr=qss:=gM rsr rss (by rw [mrt] at pmr; exact (pmr.trans (pmq.map _)).trans ((xW t).trans pms.symm))
 subst er
 exact ⟨ur,us,qr,qs',_,qsr,rfl,ss _ _ hur,(by rw [<- smb]; exact hus),hqr.same ss,hqs,by rw [pms.length_eq,mW]; lia,q _⟩
end
noncomputable def Cb (K:W.Frag):Sp:=fun vs H Q _=>∃ (a:Addr) (ns:List Int),vs=[.ref a]/\au K H a (ns.map V.int)/\ns.length<=63/\∀ H',Q (.bl true) H'
theorem aQ {P:List Value->Prop} (h:∀ a0:Value,P [a0]):∀ us:List Value,us.length=1->P us
 | [a0],_=>h a0
theorem bG {P:List Value->Prop} (h:∀ a0 a1:Value,P [a0,a1]):∀ us:List Value,us.length=2->P us
 | [a0,a1],_=>h a0 a1
theorem du {P:List Value->Prop} (h:∀ a0 a1 a2:Value,P [a0,a1,a2]):∀ us:List Value,us.length=3->P us
 | [a0,a1,a2],_=>h a0 a1 a2
theorem all_mk {l:W.OpenLaw} {w:World} {K:W.Frag} {h:Heap} {mg:Str->Option Value} {fa:Addr} (X:K.In h) (G:h.Ns mainGlobals mg) (hfa:mg "law" = some (.ref fa)) {aA:Addr} {aE:Addr} {a8:Addr} {bo:Addr} {aS:Addr} {aP:Addr} {aL:Addr}
 {f1 f2 f3 f4 f5 f6 f7 f8 f9 f10 f11 f12 f13 f14 f15 f16 f17 f18 f19 f20 f21 f22 f23 f24 f25 f26 f27 f28 f29 f30 f31 f32 f33 f34 f35 f36 f37 f38 f39 f40 f41 f42 f43 f44 f45 f46 f47 f48 f49 f50 f51 f52 f53 f54 f55 f56 f57 f58 f59 f60 f61 f62 f63 f64:Addr} {od1 an1 od2 an2 od3 an3 od4 an4 od5 an5 od6 an6 od7 an7 od8 an8 od9 an9 od10 an10 od11 an11 od12 an12 od13 an13 od14 an14 od15 an15 od16 an16 od17 an17 od18 an18 od19 an19 od20 an20 od21 an21 od22 an22 od23 an23 od24 an24 od25 an25 od26 an26 od27 an27 od28 an28 od29 an29 od30 an30 od31 an31 od32 an32 od33 an33 od34 an34 od35 an35 od36 an36 od37 an37 od38 an38 od39 an39 od40 an40 od41 an41 od42 an42 od43 an43 od44 an44 od45 an45 od46 an46 od47 an47 od48 an48 od49 an49 od50 an50 od51 an51 od52 an52 od53 an53 od54 an54 od55 an55 od56 an56 od57 an57 od58 an58 od59 an59 od60 an60 od61 an61 od62 an62 od63 an63 od64 an64:Option Addr} {sl1 sl2 sl3 sl4 sl5 sl6 sl7 sl8 sl9 sl10 sl11 sl12 sl13 sl14 sl15 sl16 sl17 sl18 sl19 sl20 sl21 sl22 sl23 sl24 sl25 sl26 sl27 sl28 sl29 sl30 sl31 sl32 sl33 sl34 sl35 sl36 sl37 sl38 sl39 sl40 sl41 sl42 sl43 sl44 sl45 sl46 sl47 sl48 sl49 sl50 sl51 sl52 sl53 sl54 sl55 sl56 sl57 sl58 sl59 sl60 sl61 sl62 sl63 sl64:Array (Option Value)} {oc1 kV1 dc1 pm1 cd1 ct1 oc2 kV2 dc2 pm2 cd2 ct2 oc3 kV3 dc3 pm3 cd3 ct3 oc4 kV4 dc4 pm4 cd4 ct4 oc5 kV5 dc5 pm5 cd5 ct5 oc6 kV6 dc6 pm6 cd6 ct6 oc7 kV7 dc7 pm7 cd7 ct7 oc8 kV8 dc8 pm8 cd8 ct8 oc9 kV9 dc9 pm9 cd9 ct9 oc10 kV10 dc10 pm10 cd10 ct10 oc11 kV11 dc11 pm11 cd11 ct11 oc12 kV12 dc12 pm12 cd12 ct12 oc13 kV13 dc13 pm13 cd13 ct13 oc14 kV14 dc14 pm14 cd14 ct14 oc15 kV15 dc15 pm15 cd15 ct15 oc16 kV16 dc16 pm16 cd16 ct16 oc17 kV17 dc17 pm17 cd17 ct17 oc18 kV18 dc18 pm18 cd18 ct18 oc19 kV19 dc19 pm19 cd19 ct19 oc20 kV20 dc20 pm20 cd20 ct20 oc21 kV21 dc21 pm21 cd21 ct21 oc22 kV22 dc22 pm22 cd22 ct22 oc23 kV23 dc23 pm23 cd23 ct23 oc24 kV24 dc24 pm24 cd24 ct24 oc25 kV25 dc25 pm25 cd25 ct25 oc26 kV26 dc26 pm26 cd26 ct26 oc27 kV27 dc27 pm27 cd27 ct27 oc28 kV28 dc28 pm28 cd28 ct28 oc29 kV29 dc29 pm29 cd29 ct29 oc30 kV30 dc30 pm30 cd30 ct30 oc31 kV31 dc31 pm31 cd31 ct31 oc32 kV32 dc32 pm32 cd32 ct32 oc33 kV33 dc33 pm33 cd33 ct33 oc34 kV34 dc34 pm34 cd34 ct34 oc35 kV35 dc35 pm35 cd35 ct35 oc36 kV36 dc36 pm36 cd36 ct36 oc37 kV37 dc37 pm37 cd37 ct37 oc38 kV38 dc38 pm38 cd38 ct38 oc39 kV39 dc39 pm39 cd39 ct39 oc40 kV40 dc40 pm40 cd40 ct40 oc41 kV41 dc41 pm41 cd41 ct41 oc42 kV42 dc42 pm42 cd42 ct42 oc43 kV43 dc43 pm43 cd43 ct43 oc44 kV44 dc44 pm44 cd44 ct44 oc45 kV45 dc45 pm45 cd45 ct45 oc46 kV46 dc46 pm46 cd46 ct46 oc47 kV47 dc47 pm47 cd47 ct47 oc48 kV48 dc48 pm48 cd48 ct48 oc49 kV49 dc49 pm49 cd49 ct49 oc50 kV50 dc50 pm50 cd50 ct50 oc51 kV51 dc51 pm51 cd51 ct51 oc52 kV52 dc52 pm52 cd52 ct52 oc53 kV53 dc53 pm53 cd53 ct53 oc54 kV54 dc54 pm54 cd54 ct54 oc55 kV55 dc55 pm55 cd55 ct55 oc56 kV56 dc56 pm56 cd56 ct56 oc57 kV57 dc57 pm57 cd57 ct57 oc58 kV58 dc58 pm58 cd58 ct58 oc59 kV59 dc59 pm59 cd59 ct59 oc60 kV60 dc60 pm60 cd60 ct60 oc61 kV61 dc61 pm61 cd61 ct61 oc62 kV62 dc62 pm62 cd62 ct62 oc63 kV63 dc63 pm63 cd63 ct63 oc64 kV64 dc64 pm64 cd64 ct64:Value}
  (uM:W.nsIn K mainGlobals "Brackets" = some (some (.ref aA)))
  (oA:W.nsIn K mainGlobals "SplitFamily" = some (some (.ref aE)))
  (xI:W.nsIn K mainGlobals "Family" = some (some (.ref a8)))
  (Az:W.nsIn K mainGlobals "Bows" = some (some (.ref bo)))
  (zL:W.nsIn K mainGlobals "Turns" = some (some (.ref aS)))
  (yZ:W.nsIn K mainGlobals "Twins" = some (some (.ref aP)))
  (yy:W.nsIn K mainGlobals "Floors" = some (some (.ref aL)))
  (g0:W.findIn K (.ref aA) "refuse_other" = some (some (.ref f11)))
  (me:W.findIn K (.ref aA) "is_one" = some (some (.ref f10)))
  (jn:W.findIn K (.ref bo) "refuse_other" = some (some (.ref f24)))
  (p9:W.findIn K (.ref bo) "is_one" = some (some (.ref f23)))
  (iZ:W.findIn K (.ref aS) "refuse_other" = some (some (.ref f36)))
  (o6:W.findIn K (.ref aS) "is_one" = some (some (.ref f35)))
  (iY:W.findIn K (.ref aP) "refuse_other" = some (some (.ref f44)))
  (oj:W.findIn K (.ref aP) "is_one" = some (some (.ref f43)))
  (iD:W.findIn K (.ref aL) "refuse_other" = some (some (.ref f60)))
  (nV:W.findIn K (.ref aL) "is_one" = some (some (.ref f59)))
  (uH:W.findIn K (.ref aA) "__init__" = some (some (.ref f8)))
  (AB:W.findIn K (.ref bo) "__init__" = some (some (.ref f19)))
  (zX:W.findIn K (.ref aS) "__init__" = some (some (.ref f33)))
  (zp:W.findIn K (.ref aP) "__init__" = some (some (.ref f42)))
  (yM:W.findIn K (.ref aL) "__init__" = some (some (.ref f57)))
  (d8:W.findCls K (.ref aE) (.type "type") "__init__" = some (.val (.ref f7)))
  (d4:W.specialIn K (.ref aE) "__getattribute__" = some (some (.builtin "type.__getattribute__")))
  (d7:W.readsIn K aE (.type "type")=true)
  (fJ:W.findCls K (.ref a8) (.type "type") "__init__" = some (.val (.ref f6)))
  (fL:W.specialIn K (.ref a8) "__getattribute__" = some (some (.builtin "type.__getattribute__")))
  (fK:W.readsIn K a8 (.type "type")=true)
  (fA:W.findCls K (.ref aE) (.type "type") "__init__" = some (.val (.ref f18)))
  (ft:W.specialIn K (.ref aE) "__getattribute__" = some (some (.builtin "type.__getattribute__")))
  (e7:W.readsIn K aE (.type "type")=true)
  (g5:W.findCls K (.ref a8) (.type "type") "__init__" = some (.val (.ref f17)))
  (g6:W.specialIn K (.ref a8) "__getattribute__" = some (some (.builtin "type.__getattribute__")))
  (g7:W.readsIn K a8 (.type "type")=true)
  (eN:W.findCls K (.ref aE) (.type "type") "__init__" = some (.val (.ref f32)))
  (eM:W.specialIn K (.ref aE) "__getattribute__" = some (some (.builtin "type.__getattribute__")))
  (eO:W.readsIn K aE (.type "type")=true)
  (gI:W.findCls K (.ref a8) (.type "type") "__init__" = some (.val (.ref f31)))
  (gS:W.specialIn K (.ref a8) "__getattribute__" = some (some (.builtin "type.__getattribute__")))
  (gL:W.readsIn K a8 (.type "type")=true)
  (eL:W.findCls K (.ref aE) (.type "type") "__init__" = some (.val (.ref f41)))
  (eP:W.specialIn K (.ref aE) "__getattribute__" = some (some (.builtin "type.__getattribute__")))
  (eQ:W.readsIn K aE (.type "type")=true)
  (gO:W.findCls K (.ref a8) (.type "type") "__init__" = some (.val (.ref f40)))
  (gJ:W.specialIn K (.ref a8) "__getattribute__" = some (some (.builtin "type.__getattribute__")))
  (gQ:W.readsIn K a8 (.type "type")=true)
  (eJ:W.findCls K (.ref aE) (.type "type") "__init__" = some (.val (.ref f56)))
  (eF:W.specialIn K (.ref aE) "__getattribute__" = some (some (.builtin "type.__getattribute__")))
  (eK:W.readsIn K aE (.type "type")=true)
  (gf:W.findCls K (.ref a8) (.type "type") "__init__" = some (.val (.ref f55)))
  (gp:W.specialIn K (.ref a8) "__getattribute__" = some (some (.builtin "type.__getattribute__")))
  (fY:W.readsIn K a8 (.type "type")=true)
  (a1:W.nsIn K mainGlobals "_law_mix" = some (some (.ref f1)))
  (l1:K.lookup f1=some ⟨oc1,od1,.func (W.fnOf "_law_mix" "_law_mix" (aq kX) (ao kX) (ae kX) .none kV1 dc1 pm1 an1 cd1 ct1),sl1⟩)
  (c1:W.codeIn K cd1 "_law_mix" = true)
  (k1:W.keepIn K (.ref f1)=true)
  (a2:W.nsIn K mainGlobals "_law_draws" = some (some (.ref f2)))
  (l2:K.lookup f2=some ⟨oc2,od2,.func (W.fnOf "_law_draws" "_law_draws" (aq lQ) (ao lQ) (ae lQ) .none kV2 dc2 pm2 an2 cd2 ct2),sl2⟩)
  (c2:W.codeIn K cd2 "_law_draws" = true)
  (k2:W.keepIn K (.ref f2)=true)
  (a3:W.nsIn K mainGlobals "_law_text_by" = some (some (.ref f3)))
  (l3:K.lookup f3=some ⟨oc3,od3,.func (W.fnOf "_law_text_by" "_law_text_by" (aq kL) (ao kL) (ae kL) .none kV3 dc3 pm3 an3 cd3 ct3),sl3⟩)
  (c3:W.codeIn K cd3 "_law_text_by" = true)
  (k3:W.keepIn K (.ref f3)=true)
  (a4:W.nsIn K mainGlobals "_law_cell_at" = some (some (.ref f4)))
  (l4:K.lookup f4=some ⟨oc4,od4,.func (W.fnOf "_law_cell_at" "_law_cell_at" (aq kN) (ao kN) (ae kN) .none kV4 dc4 pm4 an4 cd4 ct4),sl4⟩)
  (c4:W.codeIn K cd4 "_law_cell_at" = true)
  (k4:W.keepIn K (.ref f4)=true)
  (a5:W.nsIn K mainGlobals "_law_mirror" = some (some (.ref f5)))
  (l5:K.lookup f5=some ⟨oc5,od5,.func (W.fnOf "_law_mirror" "_law_mirror" (aq lL) (ao lL) (ae lL) .none kV5 dc5 pm5 an5 cd5 ct5),sl5⟩)
  (c5:W.codeIn K cd5 "_law_mirror" = true)
  (k5:W.keepIn K (.ref f5)=true)
  (l6:K.lookup f6=some ⟨oc6,od6,.func (W.fnOf "__init__" "Family.__init__" (aq kh) (ao kh) (ae kh) .none kV6 dc6 pm6 an6 cd6 ct6),sl6⟩)
  (c6:W.codeIn K cd6 "Family.__init__" = true)
  (k6:W.keepIn K (.ref f6)=true)
  (i6:W.isFn K (.ref f6)=true)
  (l7:K.lookup f7=some ⟨oc7,od7,.func (W.fnOf "__init__" "SplitFamily.__init__" (aq oY) (ao oY) (ae oY) .none kV7 dc7 pm7 an7 cd7 ct7),sl7⟩)
  (c7:W.codeIn K cd7 "SplitFamily.__init__" = true)
  (k7:W.keepIn K (.ref f7)=true)
  (i7:W.isFn K (.ref f7)=true)
  (l8:K.lookup f8=some ⟨oc8,od8,.func (W.fnOf "__init__" "Brackets.__init__" (aq lU) (ao lU) (ae lU) .none kV8 dc8 pm8 an8 cd8 ct8),sl8⟩)
  (c8:W.codeIn K cd8 "Brackets.__init__" = true)
  (k8:W.keepIn K (.ref f8)=true)
  (i8:W.isFn K (.ref f8)=true)
  (a9:W.nsIn K mainGlobals "closes" = some (some (.ref f9)))
  (l9:K.lookup f9=some ⟨oc9,od9,.func (W.fnOf "closes" "closes" (aq lP) (ao lP) (ae lP) .none kV9 dc9 pm9 an9 cd9 ct9),sl9⟩)
  (c9:W.codeIn K cd9 "closes" = true)
  (k9:W.keepIn K (.ref f9)=true)
  (l10:K.lookup f10=some ⟨oc10,od10,.func (W.fnOf "is_one" "Brackets.is_one" (aq kM) (ao kM) (ae kM) .none kV10 dc10 pm10 an10 cd10 ct10),sl10⟩)
  (c10:W.codeIn K cd10 "Brackets.is_one" = true)
  (k10:W.keepIn K (.ref f10)=true)
  (i10:W.isFn K (.ref f10)=true)
  (l11:K.lookup f11=some ⟨oc11,od11,.func (W.fnOf "refuse_other" "Family.refuse_other" (aq oJ) (ao oJ) (ae oJ) .none kV11 dc11 pm11 an11 cd11 ct11),sl11⟩)
  (c11:W.codeIn K cd11 "Family.refuse_other" = true)
  (k11:W.keepIn K (.ref f11)=true)
  (i11:W.isFn K (.ref f11)=true)
  (a12:W.nsIn K mainGlobals "brackets_mirror" = some (some (.ref f12)))
  (l12:K.lookup f12=some ⟨oc12,od12,.func (W.fnOf "brackets_mirror" "brackets_mirror" (aq kq) (ao kq) (ae kq) .none kV12 dc12 pm12 an12 cd12 ct12),sl12⟩)
  (c12:W.codeIn K cd12 "brackets_mirror" = true)
  (k12:W.keepIn K (.ref f12)=true)
  (a13:W.nsIn K mainGlobals "_law_whole" = some (some (.ref f13)))
  (l13:K.lookup f13=some ⟨oc13,od13,.func (W.fnOf "_law_whole" "_law_whole" (aq kd) (ao kd) (ae kd) .none kV13 dc13 pm13 an13 cd13 ct13),sl13⟩)
  (c13:W.codeIn K cd13 "_law_whole" = true)
  (k13:W.keepIn K (.ref f13)=true)
  (a14:W.nsIn K mainGlobals "_law_pairs" = some (some (.ref f14)))
  (l14:K.lookup f14=some ⟨oc14,od14,.func (W.fnOf "_law_pairs" "_law_pairs" (aq jZ) (ao jZ) (ae jZ) .none kV14 dc14 pm14 an14 cd14 ct14),sl14⟩)
  (c14:W.codeIn K cd14 "_law_pairs" = true)
  (k14:W.keepIn K (.ref f14)=true)
  (a15:W.nsIn K mainGlobals "_law_mate" = some (some (.ref f15)))
  (l15:K.lookup f15=some ⟨oc15,od15,.func (W.fnOf "_law_mate" "_law_mate" (aq lW) (ao lW) (ae lW) .none kV15 dc15 pm15 an15 cd15 ct15),sl15⟩)
  (c15:W.codeIn K cd15 "_law_mate" = true)
  (k15:W.keepIn K (.ref f15)=true)
  (a16:W.nsIn K mainGlobals "_law_bows_of" = some (some (.ref f16)))
  (l16:K.lookup f16=some ⟨oc16,od16,.func (W.fnOf "_law_bows_of" "_law_bows_of" (aq lO) (ao lO) (ae lO) .none kV16 dc16 pm16 an16 cd16 ct16),sl16⟩)
  (c16:W.codeIn K cd16 "_law_bows_of" = true)
  (k16:W.keepIn K (.ref f16)=true)
  (l17:K.lookup f17=some ⟨oc17,od17,.func (W.fnOf "__init__" "Family.__init__" (aq lF) (ao lF) (ae lF) .none kV17 dc17 pm17 an17 cd17 ct17),sl17⟩)
  (c17:W.codeIn K cd17 "Family.__init__" = true)
  (k17:W.keepIn K (.ref f17)=true)
  (i17:W.isFn K (.ref f17)=true)
  (l18:K.lookup f18=some ⟨oc18,od18,.func (W.fnOf "__init__" "SplitFamily.__init__" (aq oq) (ao oq) (ae oq) .none kV18 dc18 pm18 an18 cd18 ct18),sl18⟩)
  (c18:W.codeIn K cd18 "SplitFamily.__init__" = true)
  (k18:W.keepIn K (.ref f18)=true)
  (i18:W.isFn K (.ref f18)=true)
  (l19:K.lookup f19=some ⟨oc19,od19,.func (W.fnOf "__init__" "Bows.__init__" (aq kO) (ao kO) (ae kO) .none kV19 dc19 pm19 an19 cd19 ct19),sl19⟩)
  (c19:W.codeIn K cd19 "Bows.__init__" = true)
  (k19:W.keepIn K (.ref f19)=true)
  (i19:W.isFn K (.ref f19)=true)
  (a20:W.nsIn K mainGlobals "each_once" = some (some (.ref f20)))
  (l20:K.lookup f20=some ⟨oc20,od20,.func (W.fnOf "each_once" "each_once" (aq jS) (ao jS) (ae jS) .none kV20 dc20 pm20 an20 cd20 ct20),sl20⟩)
  (c20:W.codeIn K cd20 "each_once" = true)
  (k20:W.keepIn K (.ref f20)=true)
  (a21:W.nsIn K mainGlobals "flat" = some (some (.ref f21)))
  (l21:K.lookup f21=some ⟨oc21,od21,.func (W.fnOf "flat" "flat" (aq jU) (ao jU) (ae jU) .none kV21 dc21 pm21 an21 cd21 ct21),sl21⟩)
  (c21:W.codeIn K cd21 "flat" = true)
  (k21:W.keepIn K (.ref f21)=true)
  (a22:W.nsIn K mainGlobals "any_cross" = some (some (.ref f22)))
  (l22:K.lookup f22=some ⟨oc22,od22,.func (W.fnOf "any_cross" "any_cross" (aq kP) (ao kP) (ae kP) .none kV22 dc22 pm22 an22 cd22 ct22),sl22⟩)
  (c22:W.codeIn K cd22 "any_cross" = true)
  (k22:W.keepIn K (.ref f22)=true)
  (l23:K.lookup f23=some ⟨oc23,od23,.func (W.fnOf "is_one" "Bows.is_one" (aq jT) (ao jT) (ae jT) .none kV23 dc23 pm23 an23 cd23 ct23),sl23⟩)
  (c23:W.codeIn K cd23 "Bows.is_one" = true)
  (k23:W.keepIn K (.ref f23)=true)
  (i23:W.isFn K (.ref f23)=true)
  (l24:K.lookup f24=some ⟨oc24,od24,.func (W.fnOf "refuse_other" "Family.refuse_other" (aq nY) (ao nY) (ae nY) .none kV24 dc24 pm24 an24 cd24 ct24),sl24⟩)
  (c24:W.codeIn K cd24 "Family.refuse_other" = true)
  (k24:W.keepIn K (.ref f24)=true)
  (i24:W.isFn K (.ref f24)=true)
  (a25:W.nsIn K mainGlobals "pairs_anew" = some (some (.ref f25)))
  (l25:K.lookup f25=some ⟨oc25,od25,.func (W.fnOf "pairs_anew" "pairs_anew" (aq ku) (ao ku) (ae ku) .none kV25 dc25 pm25 an25 cd25 ct25),sl25⟩)
  (c25:W.codeIn K cd25 "pairs_anew" = true)
  (k25:W.keepIn K (.ref f25)=true)
  (a26:W.nsIn K mainGlobals "mirrored_pairs" = some (some (.ref f26)))
  (l26:K.lookup f26=some ⟨oc26,od26,.func (W.fnOf "mirrored_pairs" "mirrored_pairs" (aq j6) (ao j6) (ae j6) .none kV26 dc26 pm26 an26 cd26 ct26),sl26⟩)
  (c26:W.codeIn K cd26 "mirrored_pairs" = true)
  (k26:W.keepIn K (.ref f26)=true)
  (a27:W.nsIn K mainGlobals "bows_mirror" = some (some (.ref f27)))
  (l27:K.lookup f27=some ⟨oc27,od27,.func (W.fnOf "bows_mirror" "bows_mirror" (aq kA) (ao kA) (ae kA) .none kV27 dc27 pm27 an27 cd27 ct27),sl27⟩)
  (c27:W.codeIn K cd27 "bows_mirror" = true)
  (k27:W.keepIn K (.ref f27)=true)
  (a28:W.nsIn K mainGlobals "brackets_to_bows" = some (some (.ref f28)))
  (l28:K.lookup f28=some ⟨oc28,od28,.func (W.fnOf "brackets_to_bows" "brackets_to_bows" (aq kU) (ao kU) (ae kU) .none kV28 dc28 pm28 an28 cd28 ct28),sl28⟩)
  (c28:W.codeIn K cd28 "brackets_to_bows" = true)
  (k28:W.keepIn K (.ref f28)=true)
  (a29:W.nsIn K mainGlobals "_law_numbers" = some (some (.ref f29)))
  (l29:K.lookup f29=some ⟨oc29,od29,.func (W.fnOf "_law_numbers" "_law_numbers" (aq kK) (ao kK) (ae kK) .none kV29 dc29 pm29 an29 cd29 ct29),sl29⟩)
  (c29:W.codeIn K cd29 "_law_numbers" = true)
  (k29:W.keepIn K (.ref f29)=true)
  (a30:W.nsIn K mainGlobals "_law_turns_of" = some (some (.ref f30)))
  (l30:K.lookup f30=some ⟨oc30,od30,.func (W.fnOf "_law_turns_of" "_law_turns_of" (aq ka) (ao ka) (ae ka) .none kV30 dc30 pm30 an30 cd30 ct30),sl30⟩)
  (c30:W.codeIn K cd30 "_law_turns_of" = true)
  (k30:W.keepIn K (.ref f30)=true)
  (l31:K.lookup f31=some ⟨oc31,od31,.func (W.fnOf "__init__" "Family.__init__" (aq lA) (ao lA) (ae lA) .none kV31 dc31 pm31 an31 cd31 ct31),sl31⟩)
  (c31:W.codeIn K cd31 "Family.__init__" = true)
  (k31:W.keepIn K (.ref f31)=true)
  (i31:W.isFn K (.ref f31)=true)
  (l32:K.lookup f32=some ⟨oc32,od32,.func (W.fnOf "__init__" "SplitFamily.__init__" (aq oW) (ao oW) (ae oW) .none kV32 dc32 pm32 an32 cd32 ct32),sl32⟩)
  (c32:W.codeIn K cd32 "SplitFamily.__init__" = true)
  (k32:W.keepIn K (.ref f32)=true)
  (i32:W.isFn K (.ref f32)=true)
  (l33:K.lookup f33=some ⟨oc33,od33,.func (W.fnOf "__init__" "Turns.__init__" (aq km) (ao km) (ae km) .none kV33 dc33 pm33 an33 cd33 ct33),sl33⟩)
  (c33:W.codeIn K cd33 "Turns.__init__" = true)
  (k33:W.keepIn K (.ref f33)=true)
  (i33:W.isFn K (.ref f33)=true)
  (a34:W.nsIn K mainGlobals "comes_off_a_stack" = some (some (.ref f34)))
  (l34:K.lookup f34=some ⟨oc34,od34,.func (W.fnOf "comes_off_a_stack" "comes_off_a_stack" (aq lE) (ao lE) (ae lE) .none kV34 dc34 pm34 an34 cd34 ct34),sl34⟩)
  (c34:W.codeIn K cd34 "comes_off_a_stack" = true)
  (k34:W.keepIn K (.ref f34)=true)
  (l35:K.lookup f35=some ⟨oc35,od35,.func (W.fnOf "is_one" "Turns.is_one" (aq j7) (ao j7) (ae j7) .none kV35 dc35 pm35 an35 cd35 ct35),sl35⟩)
  (c35:W.codeIn K cd35 "Turns.is_one" = true)
  (k35:W.keepIn K (.ref f35)=true)
  (i35:W.isFn K (.ref f35)=true)
  (l36:K.lookup f36=some ⟨oc36,od36,.func (W.fnOf "refuse_other" "Family.refuse_other" (aq oR) (ao oR) (ae oR) .none kV36 dc36 pm36 an36 cd36 ct36),sl36⟩)
  (c36:W.codeIn K cd36 "Family.refuse_other" = true)
  (k36:W.keepIn K (.ref f36)=true)
  (i36:W.isFn K (.ref f36)=true)
  (a37:W.nsIn K mainGlobals "turns_mirror" = some (some (.ref f37)))
  (l37:K.lookup f37=some ⟨oc37,od37,.func (W.fnOf "turns_mirror" "turns_mirror" (aq lD) (ao lD) (ae lD) .none kV37 dc37 pm37 an37 cd37 ct37),sl37⟩)
  (c37:W.codeIn K cd37 "turns_mirror" = true)
  (k37:W.keepIn K (.ref f37)=true)
  (a38:W.nsIn K mainGlobals "closed_in_runs" = some (some (.ref f38)))
  (l38:K.lookup f38=some ⟨oc38,od38,.func (W.fnOf "closed_in_runs" "closed_in_runs" (aq kI) (ao kI) (ae kI) .none kV38 dc38 pm38 an38 cd38 ct38),sl38⟩)
  (c38:W.codeIn K cd38 "closed_in_runs" = true)
  (k38:W.keepIn K (.ref f38)=true)
  (a39:W.nsIn K mainGlobals "brackets_to_turns" = some (some (.ref f39)))
  (l39:K.lookup f39=some ⟨oc39,od39,.func (W.fnOf "brackets_to_turns" "brackets_to_turns" (aq ma) (ao ma) (ae ma) .none kV39 dc39 pm39 an39 cd39 ct39),sl39⟩)
  (c39:W.codeIn K cd39 "brackets_to_turns" = true)
  (k39:W.keepIn K (.ref f39)=true)
  (l40:K.lookup f40=some ⟨oc40,od40,.func (W.fnOf "__init__" "Family.__init__" (aq kT) (ao kT) (ae kT) .none kV40 dc40 pm40 an40 cd40 ct40),sl40⟩)
  (c40:W.codeIn K cd40 "Family.__init__" = true)
  (k40:W.keepIn K (.ref f40)=true)
  (i40:W.isFn K (.ref f40)=true)
  (l41:K.lookup f41=some ⟨oc41,od41,.func (W.fnOf "__init__" "SplitFamily.__init__" (aq oN) (ao oN) (ae oN) .none kV41 dc41 pm41 an41 cd41 ct41),sl41⟩)
  (c41:W.codeIn K cd41 "SplitFamily.__init__" = true)
  (k41:W.keepIn K (.ref f41)=true)
  (i41:W.isFn K (.ref f41)=true)
  (l42:K.lookup f42=some ⟨oc42,od42,.func (W.fnOf "__init__" "Twins.__init__" (aq kr) (ao kr) (ae kr) .none kV42 dc42 pm42 an42 cd42 ct42),sl42⟩)
  (c42:W.codeIn K cd42 "Twins.__init__" = true)
  (k42:W.keepIn K (.ref f42)=true)
  (i42:W.isFn K (.ref f42)=true)
  (l43:K.lookup f43=some ⟨oc43,od43,.func (W.fnOf "is_one" "Twins.is_one" (aq kY) (ao kY) (ae kY) .none kV43 dc43 pm43 an43 cd43 ct43),sl43⟩)
  (c43:W.codeIn K cd43 "Twins.is_one" = true)
  (k43:W.keepIn K (.ref f43)=true)
  (i43:W.isFn K (.ref f43)=true)
  (l44:K.lookup f44=some ⟨oc44,od44,.func (W.fnOf "refuse_other" "Family.refuse_other" (aq oS) (ao oS) (ae oS) .none kV44 dc44 pm44 an44 cd44 ct44),sl44⟩)
  (c44:W.codeIn K cd44 "Family.refuse_other" = true)
  (k44:W.keepIn K (.ref f44)=true)
  (i44:W.isFn K (.ref f44)=true)
  (a45:W.nsIn K mainGlobals "mirrored_twins" = some (some (.ref f45)))
  (l45:K.lookup f45=some ⟨oc45,od45,.func (W.fnOf "mirrored_twins" "mirrored_twins" (aq kS) (ao kS) (ae kS) .none kV45 dc45 pm45 an45 cd45 ct45),sl45⟩)
  (c45:W.codeIn K cd45 "mirrored_twins" = true)
  (k45:W.keepIn K (.ref f45)=true)
  (a46:W.nsIn K mainGlobals "twins_mirror" = some (some (.ref f46)))
  (l46:K.lookup f46=some ⟨oc46,od46,.func (W.fnOf "twins_mirror" "twins_mirror" (aq kE) (ao kE) (ae kE) .none kV46 dc46 pm46 an46 cd46 ct46),sl46⟩)
  (c46:W.codeIn K cd46 "twins_mirror" = true)
  (k46:W.keepIn K (.ref f46)=true)
  (a47:W.nsIn K mainGlobals "brackets_to_twins" = some (some (.ref f47)))
  (l47:K.lookup f47=some ⟨oc47,od47,.func (W.fnOf "brackets_to_twins" "brackets_to_twins" (aq kH) (ao kH) (ae kH) .none kV47 dc47 pm47 an47 cd47 ct47),sl47⟩)
  (c47:W.codeIn K cd47 "brackets_to_twins" = true)
  (k47:W.keepIn K (.ref f47)=true)
  (a48:W.nsIn K mainGlobals "_law_over" = some (some (.ref f48)))
  (l48:K.lookup f48=some ⟨oc48,od48,.func (W.fnOf "_law_over" "_law_over" (aq kZ) (ao kZ) (ae kZ) .none kV48 dc48 pm48 an48 cd48 ct48),sl48⟩)
  (c48:W.codeIn K cd48 "_law_over" = true)
  (k48:W.keepIn K (.ref f48)=true)
  (a49:W.nsIn K mainGlobals "_law_twins_by" = some (some (.ref f49)))
  (l49:K.lookup f49=some ⟨oc49,od49,.func (W.fnOf "_law_twins_by" "_law_twins_by" (aq lh) (ao lh) (ae lh) .none kV49 dc49 pm49 an49 cd49 ct49),sl49⟩)
  (c49:W.codeIn K cd49 "_law_twins_by" = true)
  (k49:W.keepIn K (.ref f49)=true)
  (a50:W.nsIn K mainGlobals "_law_size" = some (some (.ref f50)))
  (l50:K.lookup f50=some ⟨oc50,od50,.func (W.fnOf "_law_size" "_law_size" (aq kQ) (ao kQ) (ae kQ) .none kV50 dc50 pm50 an50 cd50 ct50),sl50⟩)
  (c50:W.codeIn K cd50 "_law_size" = true)
  (k50:W.keepIn K (.ref f50)=true)
  (a51:W.nsIn K mainGlobals "_law_cuts" = some (some (.ref f51)))
  (l51:K.lookup f51=some ⟨oc51,od51,.func (W.fnOf "_law_cuts" "_law_cuts" (aq kW) (ao kW) (ae kW) .none kV51 dc51 pm51 an51 cd51 ct51),sl51⟩)
  (c51:W.codeIn K cd51 "_law_cuts" = true)
  (k51:W.keepIn K (.ref f51)=true)
  (a52:W.nsIn K mainGlobals "_law_floor_of" = some (some (.ref f52)))
  (l52:K.lookup f52=some ⟨oc52,od52,.func (W.fnOf "_law_floor_of" "_law_floor_of" (aq kz) (ao kz) (ae kz) .none kV52 dc52 pm52 an52 cd52 ct52),sl52⟩)
  (c52:W.codeIn K cd52 "_law_floor_of" = true)
  (k52:W.keepIn K (.ref f52)=true)
  (a53:W.nsIn K mainGlobals "twins_to_brackets" = some (some (.ref f53)))
  (l53:K.lookup f53=some ⟨oc53,od53,.func (W.fnOf "twins_to_brackets" "twins_to_brackets" (aq lH) (ao lH) (ae lH) .none kV53 dc53 pm53 an53 cd53 ct53),sl53⟩)
  (c53:W.codeIn K cd53 "twins_to_brackets" = true)
  (k53:W.keepIn K (.ref f53)=true)
  (a54:W.nsIn K mainGlobals "_law_floor" = some (some (.ref f54)))
  (l54:K.lookup f54=some ⟨oc54,od54,.func (W.fnOf "_law_floor" "_law_floor" (aq jX) (ao jX) (ae jX) .none kV54 dc54 pm54 an54 cd54 ct54),sl54⟩)
  (c54:W.codeIn K cd54 "_law_floor" = true)
  (k54:W.keepIn K (.ref f54)=true)
  (l55:K.lookup f55=some ⟨oc55,od55,.func (W.fnOf "__init__" "Family.__init__" (aq j0) (ao j0) (ae j0) .none kV55 dc55 pm55 an55 cd55 ct55),sl55⟩)
  (c55:W.codeIn K cd55 "Family.__init__" = true)
  (k55:W.keepIn K (.ref f55)=true)
  (i55:W.isFn K (.ref f55)=true)
  (l56:K.lookup f56=some ⟨oc56,od56,.func (W.fnOf "__init__" "SplitFamily.__init__" (aq oG) (ao oG) (ae oG) .none kV56 dc56 pm56 an56 cd56 ct56),sl56⟩)
  (c56:W.codeIn K cd56 "SplitFamily.__init__" = true)
  (k56:W.keepIn K (.ref f56)=true)
  (i56:W.isFn K (.ref f56)=true)
  (l57:K.lookup f57=some ⟨oc57,od57,.func (W.fnOf "__init__" "Floors.__init__" (aq kj) (ao kj) (ae kj) .none kV57 dc57 pm57 an57 cd57 ct57),sl57⟩)
  (c57:W.codeIn K cd57 "Floors.__init__" = true)
  (k57:W.keepIn K (.ref f57)=true)
  (i57:W.isFn K (.ref f57)=true)
  (a58:W.nsIn K mainGlobals "may_be_cut" = some (some (.ref f58)))
  (l58:K.lookup f58=some ⟨oc58,od58,.func (W.fnOf "may_be_cut" "may_be_cut" (aq ki) (ao ki) (ae ki) .none kV58 dc58 pm58 an58 cd58 ct58),sl58⟩)
  (c58:W.codeIn K cd58 "may_be_cut" = true)
  (k58:W.keepIn K (.ref f58)=true)
  (l59:K.lookup f59=some ⟨oc59,od59,.func (W.fnOf "is_one" "Floors.is_one" (aq lZ) (ao lZ) (ae lZ) .none kV59 dc59 pm59 an59 cd59 ct59),sl59⟩)
  (c59:W.codeIn K cd59 "Floors.is_one" = true)
  (k59:W.keepIn K (.ref f59)=true)
  (i59:W.isFn K (.ref f59)=true)
  (l60:K.lookup f60=some ⟨oc60,od60,.func (W.fnOf "refuse_other" "Family.refuse_other" (aq oB) (ao oB) (ae oB) .none kV60 dc60 pm60 an60 cd60 ct60),sl60⟩)
  (c60:W.codeIn K cd60 "Family.refuse_other" = true)
  (k60:W.keepIn K (.ref f60)=true)
  (i60:W.isFn K (.ref f60)=true)
  (a61:W.nsIn K mainGlobals "floor_mirror" = some (some (.ref f61)))
  (l61:K.lookup f61=some ⟨oc61,od61,.func (W.fnOf "floor_mirror" "floor_mirror" (aq md) (ao md) (ae md) .none kV61 dc61 pm61 an61 cd61 ct61),sl61⟩)
  (c61:W.codeIn K cd61 "floor_mirror" = true)
  (k61:W.keepIn K (.ref f61)=true)
  (a62:W.nsIn K mainGlobals "lines_over" = some (some (.ref f62)))
  (l62:K.lookup f62=some ⟨oc62,od62,.func (W.fnOf "lines_over" "lines_over" (aq lK) (ao lK) (ae lK) .none kV62 dc62 pm62 an62 cd62 ct62),sl62⟩)
  (c62:W.codeIn K cd62 "lines_over" = true)
  (k62:W.keepIn K (.ref f62)=true)
  (a63:W.nsIn K mainGlobals "twins_to_floor" = some (some (.ref f63)))
  (l63:K.lookup f63=some ⟨oc63,od63,.func (W.fnOf "twins_to_floor" "twins_to_floor" (aq lI) (ao lI) (ae lI) .none kV63 dc63 pm63 an63 cd63 ct63),sl63⟩)
  (c63:W.codeIn K cd63 "twins_to_floor" = true)
  (k63:W.keepIn K (.ref f63)=true)
  (a64:W.nsIn K mainGlobals "law" = some (some (.ref f64)))
  (l64:K.lookup f64=some ⟨oc64,od64,.func (W.fnOf "law" "law" (aq gn) (ao gn) (ae gn) .none kV64 dc64 pm64 an64 cd64 ct64),sl64⟩)
  (c64:W.codeIn K cd64 "law" = true)
  (k64:W.keepIn K (.ref f64)=true)
  (pg_Brackets:W.plainGet K aA Str.empty=true)
  (hd_Brackets:W.hasDictIn K aA=true)
  (po_Brackets:W.plainOver K aA=true)
  (sa_Brackets:W.findIn K (.ref aA) "__setattr__" = some (some (.builtin "object.__setattr__")))
  (pg_Bows:W.plainGet K bo Str.empty=true)
  (hd_Bows:W.hasDictIn K bo=true)
  (po_Bows:W.plainOver K bo=true)
  (sa_Bows:W.findIn K (.ref bo) "__setattr__" = some (some (.builtin "object.__setattr__")))
  (pg_Turns:W.plainGet K aS Str.empty=true)
  (hd_Turns:W.hasDictIn K aS=true)
  (po_Turns:W.plainOver K aS=true)
  (sa_Turns:W.findIn K (.ref aS) "__setattr__" = some (some (.builtin "object.__setattr__")))
  (pg_Twins:W.plainGet K aP Str.empty=true)
  (hd_Twins:W.hasDictIn K aP=true)
  (po_Twins:W.plainOver K aP=true)
  (sa_Twins:W.findIn K (.ref aP) "__setattr__" = some (some (.builtin "object.__setattr__")))
  (pg_Floors:W.plainGet K aL Str.empty=true)
  (hd_Floors:W.hasDictIn K aL=true)
  (po_Floors:W.plainOver K aL=true)
  (sa_Floors:W.findIn K (.ref aL) "__setattr__" = some (some (.builtin "object.__setattr__")))
  (mk_Brackets:W.makesIn K aA=true)
  (kc_Brackets:W.keepIn K (.ref aA)=true)
  (mk_Bows:W.makesIn K bo=true)
  (kc_Bows:W.keepIn K (.ref bo)=true)
  (mk_Turns:W.makesIn K aS=true)
  (kc_Turns:W.keepIn K (.ref aS)=true)
  (mk_Twins:W.makesIn K aP=true)
  (kc_Twins:W.keepIn K (.ref aP)=true)
  (mk_Floors:W.makesIn K aL=true)
  (kc_Floors:W.keepIn K (.ref aL)=true)
  (d5:W.findIn K (.ref aA) "word" = some none)
  (dR:W.findIn K (.ref aA) "least" = some none)
  (gF:W.findIn K (.ref bo) "word" = some none)
  (fV:W.findIn K (.ref bo) "least" = some none)
  (fQ:W.findIn K (.ref aS) "word" = some none)
  (fu:W.findIn K (.ref aS) "least" = some none)
  (fN:W.findIn K (.ref aP) "word" = some none)
  (ff:W.findIn K (.ref aP) "least" = some none)
  (eY:W.findIn K (.ref aL) "word" = some none)
  (eI:W.findIn K (.ref aL) "least" = some none)
  (z_range:W.nsIn K mainGlobals "range" = some none)
  (z_len:W.nsIn K mainGlobals "len" = some none)
  (z_int:W.nsIn K mainGlobals "int" = some none)
  (z_reversed:W.nsIn K mainGlobals "reversed" = some none)
  (z_isinstance:W.nsIn K mainGlobals "isinstance" = some none)
  (z_bool:W.nsIn K mainGlobals "bool" = some none)
  (z_list:W.nsIn K mainGlobals "list" = some none)
  (z_tuple:W.nsIn K mainGlobals "tuple" = some none)
  (z_sorted:W.nsIn K mainGlobals "sorted" = some none)
  (z_all:W.nsIn K mainGlobals "all" = some none)
  (z_max:W.nsIn K mainGlobals "max" = some none)
  (z_min:W.nsIn K mainGlobals "min" = some none)
  (z_enumerate:W.nsIn K mainGlobals "enumerate" = some none)
  (z_set:W.nsIn K mainGlobals "set" = some none) :
  ∃ fd:FuncData,(∀ (s:Shared) (v:Value),BindsTo s fd ⟨[v],[]⟩ [("_law_script",v)])/\∀ base:Heap,K.In base->base.Ns mainGlobals mg->ax l.prog w K mg base bb 86 fa fd ["_law_script"] (Cb K):=by
 have e:=hfa.symm.trans (W.mg_of X G a64)
 cases e
 have CA:Br K mg ⟨aA,aE,a8,bo,aS,aP,aL,f6,f7,f8,f10,f11,f17,f18,f19,f23,f24,f31,f32,f33,f35,f36,f40,f41,f42,f43,f44,f55,f56,f57,f59,f60⟩:=⟨W.mg_of X G uM,W.mg_of X G oA,W.mg_of X G xI,W.mg_of X G Az,W.mg_of X G zL,W.mg_of X G yZ,W.mg_of X G yy,⟨pg_Brackets,hd_Brackets,po_Brackets,sa_Brackets⟩,⟨pg_Bows,hd_Bows,po_Bows,sa_Bows⟩,⟨pg_Turns,hd_Turns,po_Turns,sa_Turns⟩,⟨pg_Twins,hd_Twins,po_Twins,sa_Twins⟩,⟨pg_Floors,hd_Floors,po_Floors,sa_Floors⟩,⟨g0,i11,k11⟩,⟨me,i10,k10⟩,⟨jn,i24,k24⟩,⟨p9,i23,k23⟩,⟨iZ,i36,k36⟩,⟨o6,i35,k35⟩,⟨iY,i44,k44⟩,⟨oj,i43,k43⟩,⟨iD,i60,k60⟩,⟨nV,i59,k59⟩,⟨mk_Brackets,uH,i8,kc_Brackets⟩,⟨mk_Bows,AB,i19,kc_Bows⟩,⟨mk_Turns,zX,i33,kc_Turns⟩,⟨mk_Twins,zp,i42,kc_Twins⟩,⟨mk_Floors,yM,i57,kc_Floors⟩,⟨d4,d7,d8,k7⟩,⟨fL,fK,fJ,k6⟩,⟨ft,e7,fA,k18⟩,⟨g6,g7,g5,k17⟩,⟨eM,eO,eN,k32⟩,⟨gS,gL,gI,k31⟩,⟨eP,eQ,eL,k41⟩,⟨gJ,gQ,gO,k40⟩,⟨eF,eK,eJ,k56⟩,⟨gp,fY,gf,k55⟩,d5,dR,gF,fV,fQ,fu,fN,ff,eY,eI⟩
 have F1:=ay (st:=kX) l1 c1 k1
 have b1:=F1.binds (ps:=["_law_cell","_law_turn"]) fun _ _ _ _ _ _=>bG (fun _ _=>rfl)
 have F2:=ay (st:=lQ) l2 c2 k2
 have b2:=F2.binds (ps:=["_law_script","_law_turn","_law_many"]) fun _ _ _ _ _ _=>du (fun _ _ _=>rfl)
 have F3:=ay (st:=kL) l3 c3 k3
 have b3:=F3.binds (ps:=["_law_script","_law_size_here","_law_turn"]) fun _ _ _ _ _ _=>du (fun _ _ _=>rfl)
 have F4:=ay (st:=kN) l4 c4 k4
 have b4:=F4.binds (ps:=["_law_script","_law_k"]) fun _ _ _ _ _ _=>bG (fun _ _=>rfl)
 have F5:=ay (st:=lL) l5 c5 k5
 have b5:=F5.binds (ps:=["_law_text"]) fun _ _ _ _ _ _=>aQ (fun _=>rfl)
 have F6:=ay (st:=kh) l6 c6 k6
 have b6:=F6.binds (ps:=["self","word","least"]) fun _ _ _ _ _ _=>du (fun _ _ _=>rfl)
 have F7:=ay (st:=oY) l7 c7 k7
 have b7:=F7.binds (ps:=["self","word"]) fun _ _ _ _ _ _=>bG (fun _ _=>rfl)
 have F8:=ay (st:=lU) l8 c8 k8
 have b8:=F8.binds (ps:=["self"]) fun _ _ _ _ _ _=>aQ (fun _=>rfl)
 have F9:=ay (st:=lP) l9 c9 k9
 have b9:=F9.binds (ps:=["text"]) fun _ _ _ _ _ _=>aQ (fun _=>rfl)
 have F10:=ay (st:=kM) l10 c10 k10
 have b10:=F10.binds (ps:=["self","thing"]) fun _ _ _ _ _ _=>bG (fun _ _=>rfl)
 have F11:=ay (st:=oJ) l11 c11 k11
 have b11:=F11.binds (ps:=["self","thing"]) fun _ _ _ _ _ _=>bG (fun _ _=>rfl)
 have F12:=ay (st:=kq) l12 c12 k12
 have b12:=F12.binds (ps:=["thing"]) fun _ _ _ _ _ _=>aQ (fun _=>rfl)
 have F13:=ay (st:=kd) l13 c13 k13
 have b13:=F13.binds (ps:=["_law_found"]) fun _ _ _ _ _ _=>aQ (fun _=>rfl)
 have F14:=ay (st:=jZ) l14 c14 k14
 have b14:=F14.binds (ps:=["_law_found","_law_due"]) fun _ _ _ _ _ _=>bG (fun _ _=>rfl)
 have F15:=ay (st:=lW) l15 c15 k15
 have b15:=F15.binds (ps:=["_law_text","_law_at"]) fun _ _ _ _ _ _=>bG (fun _ _=>rfl)
 have F16:=ay (st:=lO) l16 c16 k16
 have b16:=F16.binds (ps:=["_law_text"]) fun _ _ _ _ _ _=>aQ (fun _=>rfl)
 have F17:=ay (st:=lF) l17 c17 k17
 have b17:=F17.binds (ps:=["self","word","least"]) fun _ _ _ _ _ _=>du (fun _ _ _=>rfl)
 have F18:=ay (st:=oq) l18 c18 k18
 have b18:=F18.binds (ps:=["self","word"]) fun _ _ _ _ _ _=>bG (fun _ _=>rfl)
 have F19:=ay (st:=kO) l19 c19 k19
 have b19:=F19.binds (ps:=["self"]) fun _ _ _ _ _ _=>aQ (fun _=>rfl)
 have F20:=ay (st:=jS) l20 c20 k20
 have b20:=F20.binds (ps:=["numbers"]) fun _ _ _ _ _ _=>aQ (fun _=>rfl)
 have F21:=ay (st:=jU) l21 c21 k21
 have b21:=F21.binds (ps:=["rows"]) fun _ _ _ _ _ _=>aQ (fun _=>rfl)
 have F22:=ay (st:=kP) l22 c22 k22
 have b22:=F22.binds (ps:=["pairs"]) fun _ _ _ _ _ _=>aQ (fun _=>rfl)
 have F23:=ay (st:=jT) l23 c23 k23
 have b23:=F23.binds (ps:=["self","thing"]) fun _ _ _ _ _ _=>bG (fun _ _=>rfl)
 have F24:=ay (st:=nY) l24 c24 k24
 have b24:=F24.binds (ps:=["self","thing"]) fun _ _ _ _ _ _=>bG (fun _ _=>rfl)
 have F25:=ay (st:=ku) l25 c25 k25
 have b25:=F25.binds (ps:=["pairs"]) fun _ _ _ _ _ _=>aQ (fun _=>rfl)
 have F26:=ay (st:=j6) l26 c26 k26
 have b26:=F26.binds (ps:=["pairs","last"]) fun _ _ _ _ _ _=>bG (fun _ _=>rfl)
 have F27:=ay (st:=kA) l27 c27 k27
 have b27:=F27.binds (ps:=["thing"]) fun _ _ _ _ _ _=>aQ (fun _=>rfl)
 have F28:=ay (st:=kU) l28 c28 k28
 have b28:=F28.binds (ps:=["thing"]) fun _ _ _ _ _ _=>aQ (fun _=>rfl)
 have F29:=ay (st:=kK) l29 c29 k29
 have b29:=F29.binds (ps:=["_law_found","_law_due"]) fun _ _ _ _ _ _=>bG (fun _ _=>rfl)
 have F30:=ay (st:=ka) l30 c30 k30
 have b30:=F30.binds (ps:=["_law_text"]) fun _ _ _ _ _ _=>aQ (fun _=>rfl)
 have F31:=ay (st:=lA) l31 c31 k31
 have b31:=F31.binds (ps:=["self","word","least"]) fun _ _ _ _ _ _=>du (fun _ _ _=>rfl)
 have F32:=ay (st:=oW) l32 c32 k32
 have b32:=F32.binds (ps:=["self","word"]) fun _ _ _ _ _ _=>bG (fun _ _=>rfl)
 have F33:=ay (st:=km) l33 c33 k33
 have b33:=F33.binds (ps:=["self"]) fun _ _ _ _ _ _=>aQ (fun _=>rfl)
 have F34:=ay (st:=lE) l34 c34 k34
 have b34:=F34.binds (ps:=["numbers"]) fun _ _ _ _ _ _=>aQ (fun _=>rfl)
 have F35:=ay (st:=j7) l35 c35 k35
 have b35:=F35.binds (ps:=["self","thing"]) fun _ _ _ _ _ _=>bG (fun _ _=>rfl)
 have F36:=ay (st:=oR) l36 c36 k36
 have b36:=F36.binds (ps:=["self","thing"]) fun _ _ _ _ _ _=>bG (fun _ _=>rfl)
 have F37:=ay (st:=lD) l37 c37 k37
 have b37:=F37.binds (ps:=["thing"]) fun _ _ _ _ _ _=>aQ (fun _=>rfl)
 have F38:=ay (st:=kI) l38 c38 k38
 have b38:=F38.binds (ps:=["text"]) fun _ _ _ _ _ _=>aQ (fun _=>rfl)
 have F39:=ay (st:=ma) l39 c39 k39
 have b39:=F39.binds (ps:=["thing"]) fun _ _ _ _ _ _=>aQ (fun _=>rfl)
 have F40:=ay (st:=kT) l40 c40 k40
 have b40:=F40.binds (ps:=["self","word","least"]) fun _ _ _ _ _ _=>du (fun _ _ _=>rfl)
 have F41:=ay (st:=oN) l41 c41 k41
 have b41:=F41.binds (ps:=["self","word"]) fun _ _ _ _ _ _=>bG (fun _ _=>rfl)
 have F42:=ay (st:=kr) l42 c42 k42
 have b42:=F42.binds (ps:=["self"]) fun _ _ _ _ _ _=>aQ (fun _=>rfl)
 have F43:=ay (st:=kY) l43 c43 k43
 have b43:=F43.binds (ps:=["self","thing"]) fun _ _ _ _ _ _=>bG (fun _ _=>rfl)
 have F44:=ay (st:=oS) l44 c44 k44
 have b44:=F44.binds (ps:=["self","thing"]) fun _ _ _ _ _ _=>bG (fun _ _=>rfl)
 have F45:=ay (st:=kS) l45 c45 k45
 have b45:=F45.binds (ps:=["twin"]) fun _ _ _ _ _ _=>aQ (fun _=>rfl)
 have F46:=ay (st:=kE) l46 c46 k46
 have b46:=F46.binds (ps:=["thing"]) fun _ _ _ _ _ _=>aQ (fun _=>rfl)
 have F47:=ay (st:=kH) l47 c47 k47
 have b47:=F47.binds (ps:=["thing"]) fun _ _ _ _ _ _=>aQ (fun _=>rfl)
 have F48:=ay (st:=kZ) l48 c48 k48
 have b48:=F48.binds (ps:=["_law_thing"]) fun _ _ _ _ _ _=>aQ (fun _=>rfl)
 have F49:=ay (st:=lh) l49 c49 k49
 have b49:=F49.binds (ps:=["_law_text"]) fun _ _ _ _ _ _=>aQ (fun _=>rfl)
 have F50:=ay (st:=kQ) l50 c50 k50
 have b50:=F50.binds (ps:=["_law_thing"]) fun _ _ _ _ _ _=>aQ (fun _=>rfl)
 have F51:=ay (st:=kW) l51 c51 k51
 have b51:=F51.binds (ps:=["_law_thing","_law_low","_law_high"]) fun _ _ _ _ _ _=>du (fun _ _ _=>rfl)
 have F52:=ay (st:=kz) l52 c52 k52
 have b52:=F52.binds (ps:=["_law_text"]) fun _ _ _ _ _ _=>aQ (fun _=>rfl)
 have F53:=ay (st:=lH) l53 c53 k53
 have b53:=F53.binds (ps:=["thing"]) fun _ _ _ _ _ _=>aQ (fun _=>rfl)
 have F54:=ay (st:=jX) l54 c54 k54
 have b54:=F54.binds (ps:=["_law_found","_law_due"]) fun _ _ _ _ _ _=>bG (fun _ _=>rfl)
 have F55:=ay (st:=j0) l55 c55 k55
 have b55:=F55.binds (ps:=["self","word","least"]) fun _ _ _ _ _ _=>du (fun _ _ _=>rfl)
 have F56:=ay (st:=oG) l56 c56 k56
 have b56:=F56.binds (ps:=["self","word"]) fun _ _ _ _ _ _=>bG (fun _ _=>rfl)
 have F57:=ay (st:=kj) l57 c57 k57
 have b57:=F57.binds (ps:=["self"]) fun _ _ _ _ _ _=>aQ (fun _=>rfl)
 have F58:=ay (st:=ki) l58 c58 k58
 have b58:=F58.binds (ps:=["corners","a","b"]) fun _ _ _ _ _ _=>du (fun _ _ _=>rfl)
 have F59:=ay (st:=lZ) l59 c59 k59
 have b59:=F59.binds (ps:=["self","thing"]) fun _ _ _ _ _ _=>bG (fun _ _=>rfl)
 have F60:=ay (st:=oB) l60 c60 k60
 have b60:=F60.binds (ps:=["self","thing"]) fun _ _ _ _ _ _=>bG (fun _ _=>rfl)
 have F61:=ay (st:=md) l61 c61 k61
 have b61:=F61.binds (ps:=["thing"]) fun _ _ _ _ _ _=>aQ (fun _=>rfl)
 have F62:=ay (st:=lK) l62 c62 k62
 have b62:=F62.binds (ps:=["lines","twin","corner"]) fun _ _ _ _ _ _=>du (fun _ _ _=>rfl)
 have F63:=ay (st:=lI) l63 c63 k63
 have b63:=F63.binds (ps:=["thing"]) fun _ _ _ _ _ _=>aQ (fun _=>rfl)
 have F64:=ay (st:=gn) l64 c64 k64
 have aR:=W.mg_none_of X G z_range
 have aJ:=W.mg_none_of X G z_len
 have gc:=W.mg_none_of X G z_int
 have iV:=W.mg_none_of X G z_reversed
 have bA:=W.mg_none_of X G z_isinstance
 have tZ:=W.mg_none_of X G z_bool
 have eE:=W.mg_none_of X G z_list
 have gD:=W.mg_none_of X G z_tuple
 have aZ:=W.mg_none_of X G z_sorted
 have lC:=W.mg_none_of X G z_all
 have kc:=W.mg_none_of X G z_max
 have wU:=W.mg_none_of X G z_min
 have dy:=W.mg_none_of X G z_enumerate
 have wF:=W.mg_none_of X G z_set
 refine ⟨W.fnOf "law" "law" (aq gn) (ao gn) (ae gn) .none kV64 dc64 pm64 an64 cd64 ct64,fun s v=>.of_eq rfl,fun base _ _=>?_⟩
 have vE:Def l.prog w K mg base "_law_mix" ["_law_cell","_law_turn"] 1 (rG K _) f1 _:=⟨(Cu (P:=l.prog) (w:=w) (base:=base) CA F1).up,b1,k1,W.mg_of X G a1⟩
 have wW:Def l.prog w K mg base "_law_draws" ["_law_script","_law_turn","_law_many"] 2 (rD K _) f2 _:=⟨(Bg (P:=l.prog) (w:=w) (base:=base) CA F2 vE aR aJ).up,b2,k2,W.mg_of X G a2⟩
 have vS:Def l.prog w K mg base "_law_text_by" ["_law_script","_law_size_here","_law_turn"] 3 (sT K _) f3 _:=⟨(DA (P:=l.prog) (w:=w) (base:=base) CA F3 wW aR).up,b3,k3,W.mg_of X G a3⟩
 have wL:Def l.prog w K mg base "_law_cell_at" ["_law_script","_law_k"] 1 (sL K _) f4 _:=⟨(Bs (P:=l.prog) (w:=w) (base:=base) CA F4 aJ).up,b4,k4,W.mg_of X G a4⟩
 have wI:Def l.prog w K mg base "_law_mirror" ["_law_text"] 1 (rf K _) f5 _:=⟨(CM (P:=l.prog) (w:=w) (base:=base) CA F5 gc).up,b5,k5,W.mg_of X G a5⟩
 have xj:aM l.prog w K mg base ["self","word","least"] 1 (tK K _) f6 _:=⟨(Bh (P:=l.prog) (w:=w) (base:=base) CA F6).up,b6⟩
 have y4:aM l.prog w K mg base ["self","word"] 3 (w6 K _) f7 _:=⟨(D3 (P:=l.prog) (w:=w) (base:=base) CA F7 xj).up,b7⟩
 have dZ:aM l.prog w K mg base ["self"] 5 (iw K _) f8 _:=⟨(BB (P:=l.prog) (w:=w) (base:=base) CA F8 y4).up,b8⟩
 have vP:Def l.prog w K mg base "closes" ["text"] 1 (tM K _) f9 _:=⟨(CZ (P:=l.prog) (w:=w) (base:=base) CA F9).up,b9,k9,W.mg_of X G a9⟩
 have wj:aM l.prog w K mg base ["self","thing"] 2 (tY K _) f10 _:=⟨(Dc (P:=l.prog) (w:=w) (base:=base) CA F10 vP).up,b10⟩
 have fO:aM l.prog w K mg base ["self","thing"] 3 (kB K _) f11 _:=⟨(El (P:=l.prog) (w:=w) (base:=base) CA F11 wj).up,b11⟩
 have nK:Def l.prog w K mg base "brackets_mirror" ["thing"] 7 (rN K _) f12 _:=⟨(CU (P:=l.prog) (w:=w) (base:=base) CA F12 dZ fO iV).up,b12,k12,W.mg_of X G a12⟩
 have fF:Def l.prog w K mg base "_law_whole" ["_law_found"] 1 (jw K _) f13 _:=⟨(CT (P:=l.prog) (w:=w) (base:=base) CA F13 bA gc tZ).up,b13,k13,W.mg_of X G a13⟩
 have iT:Def l.prog w K mg base "_law_pairs" ["_law_found","_law_due"] 2 (m4 K _) f14 _:=⟨(BX (P:=l.prog) (w:=w) (base:=base) CA F14 fF bA eE aJ aR gD).up,b14,k14,W.mg_of X G a14⟩
 have kG:Def l.prog w K mg base "_law_mate" ["_law_text","_law_at"] 1 (mY K _) f15 _:=⟨(Dn (P:=l.prog) (w:=w) (base:=base) CA F15 aR aJ gc).up,b15,k15,W.mg_of X G a15⟩
 have qP:Def l.prog w K mg base "_law_bows_of" ["_law_text"] 2 (ud K _) f16 _:=⟨(Cj (P:=l.prog) (w:=w) (base:=base) CA F16 kG aR aJ).up,b16,k16,W.mg_of X G a16⟩
 have vM:aM l.prog w K mg base ["self","word","least"] 1 (tU K _) f17 _:=⟨(CI (P:=l.prog) (w:=w) (base:=base) CA F17).up,b17⟩
 have zW:aM l.prog w K mg base ["self","word"] 3 (wo K _) f18 _:=⟨(Eu (P:=l.prog) (w:=w) (base:=base) CA F18 vM).up,b18⟩
 have xg:aM l.prog w K mg base ["self"] 5 (tQ K _) f19 _:=⟨(CK (P:=l.prog) (w:=w) (base:=base) CA F19 zW).up,b19⟩
 have kR:Def l.prog w K mg base "each_once" ["numbers"] 1 (nR K _) f20 _:=⟨(DF (P:=l.prog) (w:=w) (base:=base) CA F20 aZ eE aR aJ).up,b20,k20,W.mg_of X G a20⟩
 have lr:Def l.prog w K mg base "flat" ["rows"] 1 (nI K _) f21 _:=⟨(By (P:=l.prog) (w:=w) (base:=base) CA F21).up,b21,k21,W.mg_of X G a21⟩
 have lG:Def l.prog w K mg base "any_cross" ["pairs"] 1 (m6 K _) f22 _:=⟨(BC (P:=l.prog) (w:=w) (base:=base) CA F22).up,b22,k22,W.mg_of X G a22⟩
 have vU:aM l.prog w K mg base ["self","thing"] 2 (rb K _) f23 _:=⟨(C8 (P:=l.prog) (w:=w) (base:=base) CA F23 kR lr lG aZ lC).up,b23⟩
 have zz:aM l.prog w K mg base ["self","thing"] 3 (wZ K _) f24 _:=⟨(En (P:=l.prog) (w:=w) (base:=base) CA F24 vU).up,b24⟩
 have xo:Def l.prog w K mg base "pairs_anew" ["pairs"] 1 (rp K _) f25 _:=⟨(Cd (P:=l.prog) (w:=w) (base:=base) CA F25 aZ kc wU).up,b25,k25,W.mg_of X G a25⟩
 have lY:Def l.prog w K mg base "mirrored_pairs" ["pairs","last"] 2 (nq K _) f26 _:=⟨(Ci (P:=l.prog) (w:=w) (base:=base) CA F26 xo).up,b26,k26,W.mg_of X G a26⟩
 have qy:Def l.prog w K mg base "bows_mirror" ["thing"] 7 (rC K _) f27 _:=⟨(DB (P:=l.prog) (w:=w) (base:=base) CA F27 xg zz lY aJ).up,b27,k27,W.mg_of X G a27⟩
 have qC:Def l.prog w K mg base "brackets_to_bows" ["thing"] 7 (tP K _) f28 _:=⟨(Dy (P:=l.prog) (w:=w) (base:=base) CA F28 dZ fO dy aZ).up,b28,k28,W.mg_of X G a28⟩
 have qM:Def l.prog w K mg base "_law_numbers" ["_law_found","_law_due"] 2 (rM K _) f29 _:=⟨(C2 (P:=l.prog) (w:=w) (base:=base) CA F29 fF bA eE aJ aR).up,b29,k29,W.mg_of X G a29⟩
 have qF:Def l.prog w K mg base "_law_turns_of" ["_law_text"] 2 (rz K _) f30 _:=⟨(Cy (P:=l.prog) (w:=w) (base:=base) CA F30 kG aZ aR aJ).up,b30,k30,W.mg_of X G a30⟩
 have wg:aM l.prog w K mg base ["self","word","least"] 1 (sP K _) f31 _:=⟨(Bf (P:=l.prog) (w:=w) (base:=base) CA F31).up,b31⟩
 have zI:aM l.prog w K mg base ["self","word"] 3 (wG K _) f32 _:=⟨(DZ (P:=l.prog) (w:=w) (base:=base) CA F32 wg).up,b32⟩
 have wV:aM l.prog w K mg base ["self"] 5 (rK K _) f33 _:=⟨(CS (P:=l.prog) (w:=w) (base:=base) CA F33 zI).up,b33⟩
 have xi:Def l.prog w K mg base "comes_off_a_stack" ["numbers"] 1 (ua K _) f34 _:=⟨(Bw (P:=l.prog) (w:=w) (base:=base) CA F34).up,b34,k34,W.mg_of X G a34⟩
 have vN:aM l.prog w K mg base ["self","thing"] 2 (rP K _) f35 _:=⟨(CJ (P:=l.prog) (w:=w) (base:=base) CA F35 kR xi).up,b35⟩
 have yY:aM l.prog w K mg base ["self","thing"] 3 (vY K _) f36 _:=⟨(Ee (P:=l.prog) (w:=w) (base:=base) CA F36 vN).up,b36⟩
 have qt:Def l.prog w K mg base "turns_mirror" ["thing"] 7 (tI K _) f37 _:=⟨(Dg (P:=l.prog) (w:=w) (base:=base) CA F37 wV yY aJ dy).up,b37,k37,W.mg_of X G a37⟩
 have wB:Def l.prog w K mg base "closed_in_runs" ["text"] 1 (sA K _) f38 _:=⟨(Df (P:=l.prog) (w:=w) (base:=base) CA F38).up,b38,k38,W.mg_of X G a38⟩
 have qO:Def l.prog w K mg base "brackets_to_turns" ["thing"] 7 (ue K _) f39 _:=⟨(Ds (P:=l.prog) (w:=w) (base:=base) CA F39 dZ fO lr wB).up,b39,k39,W.mg_of X G a39⟩
 have xx:aM l.prog w K mg base ["self","word","least"] 1 (su K _) f40 _:=⟨(Du (P:=l.prog) (w:=w) (base:=base) CA F40).up,b40⟩
 have zk:aM l.prog w K mg base ["self","word"] 3 (vZ K _) f41 _:=⟨(Es (P:=l.prog) (w:=w) (base:=base) CA F41 xx).up,b41⟩
 have gu:aM l.prog w K mg base ["self"] 5 (jN K _) f42 _:=⟨(CB (P:=l.prog) (w:=w) (base:=base) CA F42 zk).up,b42⟩
 have vF:aM l.prog w K mg base ["self","thing"] 1 (tF K _) f43 _:=⟨(Bo (P:=l.prog) (w:=w) (base:=base) CA F43).up,b43⟩
 have iU:aM l.prog w K mg base ["self","thing"] 2 (nB K _) f44 _:=⟨(Eh (P:=l.prog) (w:=w) (base:=base) CA F44 vF).up,b44⟩
 have Ex:∀ n,ax l.prog w K mg base (iG l.prog w) (0+n+1) f45 _ ["twin"] (nQ K _ n):=jz fun n q=>Bz (P:=l.prog) (w:=w) (base:=base) CA F45 n ⟨cL q,b45,k45,W.mg_of X G a45⟩
 have vX:Def l.prog w K mg base "mirrored_twins" ["twin"] 42 (vj K _) f45 _:=⟨((cL (L:=0) (N:=41) fun m _=>Ex m).mono (by decide)),b45,k45,W.mg_of X G a45⟩
 have wD:Def l.prog w K mg base "twins_mirror" ["thing"] 43 (tj K _) f46 _:=⟨(B3 (P:=l.prog) (w:=w) (base:=base) CA F46 gu iU vX).up,b46,k46,W.mg_of X G a46⟩
 have qE:Def l.prog w K mg base "brackets_to_twins" ["thing"] 7 (rg K _) f47 _:=⟨(Dv (P:=l.prog) (w:=w) (base:=base) CA F47 dZ fO aR aJ).up,b47,k47,W.mg_of X G a47⟩
 have EB:∀ n,ax l.prog w K mg base (iG l.prog w) (0+n+1) f48 _ ["_law_thing"] (mT K _ n):=jz fun n q=>Cg (P:=l.prog) (w:=w) (base:=base) CA F48 n ⟨cL q,b48,k48,W.mg_of X G a48⟩
 have wY:Def l.prog w K mg base "_law_over" ["_law_thing"] 42 (vn K _) f48 _:=⟨((cL (L:=0) (N:=41) fun m _=>EB m).mono (by decide)),b48,k48,W.mg_of X G a48⟩
 have jV:Def l.prog w K mg base "_law_twins_by" ["_law_text"] 1 (nG K _) f49 _:=⟨(Dw (P:=l.prog) (w:=w) (base:=base) CA F49 aR aJ).up,b49,k49,W.mg_of X G a49⟩
 have D8:∀ n,ax l.prog w K mg base (iG l.prog w) (0+n+1) f50 _ ["_law_thing"] (nP K _ n):=jz fun n q=>BR (P:=l.prog) (w:=w) (base:=base) CA F50 n ⟨cL q,b50,k50,W.mg_of X G a50⟩
 have xv:Def l.prog w K mg base "_law_size" ["_law_thing"] 42 (u4 K _) f50 _:=⟨((cL (L:=0) (N:=41) fun m _=>D8 m).mono (by decide)),b50,k50,W.mg_of X G a50⟩
 have DV:∀ n,ax l.prog w K mg base (iG l.prog w) (42+n+1) f51 _ ["_law_thing","_law_low","_law_high"] (m8 K _ n):=jz fun n q=>B2 (P:=l.prog) (w:=w) (base:=base) CA F51 xv n ⟨cL q,b51,k51,W.mg_of X G a51⟩
 have vJ:Def l.prog w K mg base "_law_cuts" ["_law_thing","_law_low","_law_high"] 84 (vx K _) f51 _:=⟨((cL (L:=42) (N:=41) fun m _=>DV m).mono (by decide)),b51,k51,W.mg_of X G a51⟩
 have qG:Def l.prog w K mg base "_law_floor_of" ["_law_text"] 85 (qS K _) f52 _:=⟨(Dl (P:=l.prog) (w:=w) (base:=base) CA F52 jV vJ aJ aZ).up,b52,k52,W.mg_of X G a52⟩
 have wX:Def l.prog w K mg base "twins_to_brackets" ["thing"] 7 (rS K _) f53 _:=⟨(Dz (P:=l.prog) (w:=w) (base:=base) CA F53 gu iU).up,b53,k53,W.mg_of X G a53⟩
 have qA:Def l.prog w K mg base "_law_floor" ["_law_found","_law_due"] 3 (sX K _) f54 _:=⟨(BZ (P:=l.prog) (w:=w) (base:=base) CA F54 fF iT bA gD aJ).up,b54,k54,W.mg_of X G a54⟩
 have wx:aM l.prog w K mg base ["self","word","least"] 1 (tq K _) f55 _:=⟨(BP (P:=l.prog) (w:=w) (base:=base) CA F55).up,b55⟩
 have zG:aM l.prog w K mg base ["self","word"] 3 (xq K _) f56 _:=⟨(DS (P:=l.prog) (w:=w) (base:=base) CA F56 wx).up,b56⟩
 have wO:aM l.prog w K mg base ["self"] 5 (ra K _) f57 _:=⟨(BL (P:=l.prog) (w:=w) (base:=base) CA F57 zG).up,b57⟩
 have wc:Def l.prog w K mg base "may_be_cut" ["corners","a","b"] 1 (rV K _) f58 _:=⟨(BN (P:=l.prog) (w:=w) (base:=base) CA F58).up,b58,k58,W.mg_of X G a58⟩
 have wC:aM l.prog w K mg base ["self","thing"] 2 (tO K _) f59 _:=⟨(Di (P:=l.prog) (w:=w) (base:=base) CA F59 lG wc aJ kc aZ wF lC).up,b59⟩
 have zb:aM l.prog w K mg base ["self","thing"] 3 (vG K _) f60 _:=⟨(Eg (P:=l.prog) (w:=w) (base:=base) CA F60 wC).up,b60⟩
 have qu:Def l.prog w K mg base "floor_mirror" ["thing"] 7 (sv K _) f61 _:=⟨(BF (P:=l.prog) (w:=w) (base:=base) CA F61 wO zb lY).up,b61,k61,W.mg_of X G a61⟩
 have D4:∀ n,ax l.prog w K mg base (iG l.prog w) (0+n+1) f62 _ ["lines","twin","corner"] (nU K _ n):=jz fun n q=>BW (P:=l.prog) (w:=w) (base:=base) CA F62 n ⟨cL q,b62,k62,W.mg_of X G a62⟩
 have w8:Def l.prog w K mg base "lines_over" ["lines","twin","corner"] 42 (uX K _) f62 _:=⟨((cL (L:=0) (N:=41) fun m _=>D4 m).mono (by decide)),b62,k62,W.mg_of X G a62⟩
 have ql:Def l.prog w K mg base "twins_to_floor" ["thing"] 43 (tJ K _) f63 _:=⟨(DD (P:=l.prog) (w:=w) (base:=base) CA F63 gu iU w8 aZ).up,b63,k63,W.mg_of X G a63⟩
 exact CN (P:=l.prog) (w:=w) (base:=base) CA F64 vS wL wI nK iT qP qy qC qM qF qt qO wD qE wY jV qG wX qA qu ql
theorem walk {l:W.OpenLaw} {q:Program} {loose:List Str} {XP:(Str->Option Value)->Heap->Prop} {YP:World->Heap->Prop} {d:DefRec} {K:Params->W.Frag} (hn:l.most=some 63) (hdf:d.params.defaults=[])
  (hY:∀ (w:World) (h:Heap),YP w h->(K w.params).In h)
  (F:∀ (w:World) (mg:Str->Option Value) (fa:Addr) (h:Heap),(K w.params).In h->h.Ns mainGlobals mg->mg d.name=some (.ref fa) ->
   ∃ fd:FuncData,(∀ (s:Shared) (u:Value),BindsTo s fd ⟨[u],[]⟩ [("_law_script",u)])/\∀ base:Heap,(K w.params).In base->base.Ns mainGlobals mg->ax l.prog w (K w.params) mg base bb 86 fa fd ["_law_script"] (Cb (K w.params))) :
  W.WalkO q loose XP YP l.row.toRowW d [] (fun f vs=>PySem.call f vs) :=
 L2.walk_of (n:=63) (k:=86) (x:="_law_script") (CX:=fun _=>bb) (sp:=fun w=>Cb (K w.params)) hn (by decide) hdf ⟨rfl,by decide,by decide⟩ hY F (fun _ _ a ns hl _ hS=>⟨a,ns,rfl,hS,hl,fun _=>rfl⟩) fun _ _ _ _ _ z=>z
end Ck
open L2
namespace Ck
open PySem PySem.W PySem.Calls PyProof.Rows
noncomputable def hB:List Stmt:=behindTheImports PySem.Challenge.pw_countkin_k41_mirrors_meet
noncomputable def hE:Env:={ scope:=PySem.Challenge.pw_countkin_k41_mirrors_meet.main.scope,locals:=mainNs,globals:=mainNs,cells:=[],code:=(.ref 13),frame:=some 14 }
noncomputable def hC:Code:=.body hB hE
noncomputable def hTree (P:Params):BT:=(.node (boot_o_0 P) (.node (boot_o_1 P) (.node (boot_o_3 P) (.node (boot_o_7 P) .nil .nil) (.node ⟨(.type "tuple"),none,(.seq #[] 0),#[]⟩ .nil .nil)) (.node (boot_o_5 P) (.node (boot_o_9 P) .nil .nil) (.node ⟨(.type "code"),none,(.fields #[(.str "<module>" 182),(.str "<module>" 183),(.str "/claim/cut.py" 184),(.int 1 0),(.int 0 0),(.int 0 0),(.int 0 0),(.int 0 0),(.ref 11),(.bool false),(.int 181 0),(.ref 12),.none,.none,.none,.none,(.int 185 0),(.int 1 0),(.str "/claim/cut.py" 186)]),#[]⟩ .nil .nil))) (.node (boot_o_2 P) (.node (boot_o_4 P) (.node (boot_o_8 P) .nil .nil) (.node ⟨.none,none,(.fields #[]),#[]⟩ .nil .nil)) (.node (boot_o_6 P) (.node (boot_o_10 P) .nil .nil) (.node ⟨(.type "frame"),none,.plain,#[(some (.ref 13)),(some (.ref 3)),(some (.ref 3)),none,(some (.str "__main__" 164)),none,(some (.ref 0))]⟩ .nil .nil))))
noncomputable def hS (w:World) (os:OsState):SharedT:=⟨hTree w.params,15,({}:Life),Array.mk [],⟨0,0,0,0⟩,187,os⟩
noncomputable def hQ:Program:={ PySem.Challenge.pw_countkin_k41_mirrors_meet with main:={ PySem.Challenge.pw_countkin_k41_mirrors_meet.main with body:=[top 61] } }
noncomputable def hL:List Str:=(Str.ofString "_wall"::Str.ofString "flat"::Str.ofString "each_once"::Str.ofString "any_cross"::Str.ofString "pairs_anew"::Str.ofString "KinError"::Str.ofString "NoThing"::Str.ofString "Family"::Str.ofString "SplitFamily"::Str.ofString "Bows"::Str.ofString "Floors"::Str.ofString "may_be_cut"::Str.ofString "Turns"::Str.ofString "comes_off_a_stack"::Str.ofString "closes"::Str.ofString "Brackets"::Str.ofString "Twins"::Str.ofString "brackets_mirror"::Str.ofString "bows_mirror"::Str.ofString "mirrored_pairs"::Str.ofString "twins_mirror"::Str.ofString "mirrored_twins"::Str.ofString "floor_mirror"::Str.ofString "turns_mirror"::Str.ofString "brackets_to_twins"::Str.ofString "twins_to_brackets"::Str.ofString "twins_to_floor"::Str.ofString "lines_over"::Str.ofString "brackets_to_bows"::Str.ofString "closed_in_runs"::Str.ofString "brackets_to_turns"::Str.ofString "_law_cell_at"::Str.ofString "_law_whole"::Str.ofString "_law_mix"::Str.ofString "_law_draws"::Str.ofString "_law_text_by"::Str.ofString "_law_numbers"::Str.ofString "_law_pairs"::Str.ofString "_law_floor"::Str.ofString "_law_twins_by"::Str.ofString "_law_size"::Str.ofString "_law_mate"::Str.ofString "_law_bows_of"::Str.ofString "_law_turns_of"::Str.ofString "_law_cuts"::Str.ofString "_law_floor_of"::Str.ofString "_law_mirror"::Str.ofString "_law_over"::[])
noncomputable def kD (P:Params) (x:Str) (n:Tok) (v:Value):DictEntry:=⟨PyData.keyHash P x,.str x n,v⟩
noncomputable def kF (a b:Str) (s:Stmt) (m:Str) (n:Tok) (c:Addr):Obj:=⟨.type "function",none,.func (fnOf a b (aq s) (ao s) (ae s) .none .none .none (.str m n) none (.ref c) .none),#[]⟩
noncomputable def kC (a b:Str) (t:Nat) (l n:Int) (r q x y z w:Value) (e:Nat):Obj:=⟨.type "code",none,.fields #[.str a t,.str b (t+1),.str "/claim/cut.py" (t+2),.int l 0,.int n 0,.int 0 0,.int 0 0,.int 3 0,r,.bool true,.int 181 0,q,x,y,z,w,.int (Int.ofNat e) 0,.int l 0,.str "/claim/cut.py" (e+1)],#[]⟩
noncomputable def hK:Params->Frag:=fun P=>(nat_lit 2,⟨.none,none,(.dict #[] 0),#[]⟩)::(nat_lit 3,⟨(.type "dict"),none,(.dict (List.toArray (kD P "__name__" 165 (.str "law_countkin_k41_mirrors_meet" 953)::kD P "__doc__" 166 .none::kD P "__package__" 167 .none::kD P "__loader__" 168 (.builtin "__main__.__loader__#opaque")::kD P "__spec__" 169 .none::kD P "__annotations__" 170 (.ref 6)::kD P "__builtins__" 171 (.ref 4)::kD P "__file__" 173 (.str "/claim/cut.py" 172)::kD P "__cached__" 174 .none::kD P "_wall" 193 (.ref 21)::kD P "flat" 204 (.ref 28)::kD P "each_once" 211 (.ref 35)::kD P "any_cross" 222 (.ref 42)::kD P "pairs_anew" 228 (.ref 47)::kD P "KinError" 248 (.ref 57)::kD P "NoThing" 264 (.ref 70)::kD P "Family" 379 (.ref 159)::kD P "SplitFamily" 471 (.ref 236)::kD P "Bows" 534 (.ref 288)::kD P "Floors" 597 (.ref 340)::kD P "may_be_cut" 606 (.ref 349)::kD P "Turns" 671 (.ref 401)::kD P "comes_off_a_stack" 681 (.ref 410)::kD P "closes" 692 (.ref 417)::kD P "Brackets" 757 (.ref 469)::kD P "Twins" 825 (.ref 523)::kD P "brackets_mirror" 833 (.ref 530)::kD P "bows_mirror" 840 (.ref 537)::kD P "mirrored_pairs" 846 (.ref 542)::kD P "twins_mirror" 853 (.ref 549)::kD P "mirrored_twins" 860 (.ref 556)::kD P "floor_mirror" 867 (.ref 563)::kD P "turns_mirror" 878 (.ref 570)::kD P "brackets_to_twins" 890 (.ref 577)::kD P "twins_to_brackets" 900 (.ref 584)::kD P "twins_to_floor" 909 (.ref 591)::kD P "lines_over" 920 (.ref 598)::kD P "brackets_to_bows" 933 (.ref 605)::kD P "closed_in_runs" 945 (.ref 612)::kD P "brackets_to_turns" 952 (.ref 619)::kD P "_law_cell_at" 962 (.ref 626)::kD P "_law_whole" 969 (.ref 633)::kD P "_law_mix" 978 (.ref 640)::kD P "_law_draws" 984 (.ref 645)::kD P "_law_text_by" 1000 (.ref 652)::kD P "_law_numbers" 1009 (.ref 659)::kD P "_law_pairs" 1018 (.ref 666)::kD P "_law_floor" 1026 (.ref 673)::kD P "_law_twins_by" 1036 (.ref 680)::kD P "_law_size" 1043 (.ref 687)::kD P "_law_mate" 1053 (.ref 694)::kD P "_law_bows_of" 1059 (.ref 699)::kD P "_law_turns_of" 1065 (.ref 704)::kD P "_law_cuts" 1075 (.ref 711)::kD P "_law_floor_of" 1081 (.ref 716)::kD P "_law_mirror" 1090 (.ref 723)::kD P "_law_over" 1097 (.ref 730)::kD P "law" 1108 (.ref 737)::[])) 58),#[]⟩)::(nat_lit 27,(kC "flat" "flat" 196 5 1 (.ref 22) (.ref 23) .none (.ref 24) (.ref 25) (.ref 26) 202))::(nat_lit 28,(kF "flat" "flat" (top 2) "countkin.common" 194 27))::(nat_lit 34,(kC "each_once" "each_once" 205 10 1 (.ref 29) (.ref 30) .none (.ref 31) (.ref 32) (.ref 33) 209))::(nat_lit 35,(kF "each_once" "each_once" (top 3) "countkin.common" 194 34))::(nat_lit 41,(kC "any_cross" "any_cross" 212 12 1 (.ref 36) (.ref 37) .none (.ref 38) (.ref 39) (.ref 40) 220))::(nat_lit 42,(kF "any_cross" "any_cross" (top 4) "countkin.common" 194 41))::(nat_lit 46,(kC "pairs_anew" "pairs_anew" 223 18 1 (.ref 43) (.ref 44) .none .none .none (.ref 45) 226))::(nat_lit 47,(kF "pairs_anew" "pairs_anew" (top 5) "countkin.common" 194 46))::(nat_lit 56,⟨(.type "dict"),none,(.dict #[kD P "__module__" 238 (.str "countkin.errors" 229),kD P "__firstlineno__" 242 (.int 21 241),kD P "__static_attributes__" 243 (.ref 55),kD P "__weakref__" 245 (.ref 58),kD P "__doc__" 246 .none] 3),#[]⟩)::(nat_lit 57,⟨(.type "type"),none,(.cls ⟨"KinError",[(.type "ValueError")],[(.ref 57),(.type "ValueError"),(.type "Exception"),(.type "BaseException"),(.type "object")],56,"KinError",true,[],[(.ref 70)],false,none,false⟩),#[(some (.ref 48)),none,(some (.str "KinError" 231)),(some (.str "KinError" 239)),(some (.builtin "ValueError.__new__")),(some (.bool true))]⟩)::(nat_lit 58,⟨(.type "getset_descriptor"),none,(.fields #[(.str "__weakref__" 244),(.ref 57),(.builtin "ExceptionGroup.__weakref__"),.none]),#[]⟩)::(nat_lit 69,⟨(.type "dict"),none,(.dict #[kD P "__module__" 256 (.str "countkin.errors" 229),kD P "__firstlineno__" 260 (.int 23 259),kD P "__static_attributes__" 261 (.ref 68),kD P "__doc__" 262 .none] 2),#[]⟩)::(nat_lit 70,⟨(.type "type"),none,(.cls ⟨"NoThing",[(.ref 57)],[(.ref 70),(.ref 57),(.type "ValueError"),(.type "Exception"),(.type "BaseException"),(.type "object")],69,"NoThing",true,[],[],false,none,false⟩),#[(some (.ref 61)),none,(some (.str "NoThing" 249)),(some (.str "NoThing" 257)),(some (.builtin "ValueError.__new__")),(some (.bool true))]⟩)::(nat_lit 85,(kC "__init__" "Family.__init__" 279 28 3 (.ref 80) (.ref 81) .none (.ref 82) (.ref 83) (.ref 84) 285))::(nat_lit 86,(kF "__init__" "Family.__init__" (inClass (top 10) 0) "countkin.kin" 265 85))::(nat_lit 134,(kC "refuse_other" "Family.refuse_other" 337 50 2 (.ref 129) (.ref 130) .none (.ref 131) (.ref 132) (.ref 133) 342))::(nat_lit 135,(kF "refuse_other" "Family.refuse_other" (inClass (top 10) 7) "countkin.kin" 265 134))::(nat_lit 158,⟨(.type "dict"),none,(.dict #[kD P "__module__" 274 (.str "countkin.kin" 265),kD P "__firstlineno__" 278 (.int 26 277),kD P "__init__" 287 (.ref 86),kD P "size_of" 295 (.ref 93),kD P "is_one" 303 (.ref 100),kD P "unchecked_many" 311 (.ref 107),kD P "unchecked_number" 319 (.ref 114),kD P "unchecked_thing" 328 (.ref 121),kD P "many" 336 (.ref 128),kD P "refuse_other" 344 (.ref 135),kD P "number_of" 352 (.ref 142),kD P "thing_of" 361 (.ref 149),kD P "next_of" 369 (.ref 156),kD P "__static_attributes__" 372 (.ref 157),kD P "__dict__" 374 (.ref 160),kD P "__weakref__" 376 (.ref 161),kD P "__doc__" 377 .none] 4),#[]⟩)::(nat_lit 159,⟨(.type "type"),none,(.cls ⟨"Family",[(.type "object")],[(.ref 159),(.type "object")],158,"Family",true,[],[(.ref 236)],false,none,false⟩),#[none,none,(some (.str "Family" 267)),(some (.str "Family" 275)),(some (.builtin "object.__new__")),(some (.bool true))]⟩)::(nat_lit 160,⟨(.type "getset_descriptor"),none,(.fields #[(.str "__dict__" 373),(.ref 159),(.builtin "function.__dict__"),(.builtin "function.__dict__#set")]),#[]⟩)::(nat_lit 161,⟨(.type "getset_descriptor"),none,(.fields #[(.str "__weakref__" 375),(.ref 159),(.builtin "ExceptionGroup.__weakref__"),.none]),#[]⟩)::(nat_lit 176,(kC "__init__" "SplitFamily.__init__" 392 64 2 (.ref 171) (.ref 172) .none (.ref 173) (.ref 174) (.ref 175) 397))::(nat_lit 177,(kF "__init__" "SplitFamily.__init__" (inClass (top 11) 0) "countkin.kin" 265 176))::(nat_lit 235,⟨(.type "dict"),none,(.dict #[kD P "__module__" 387 (.str "countkin.kin" 265),kD P "__firstlineno__" 391 (.int 62 390),kD P "__init__" 399 (.ref 177),kD P "bare" 406 (.ref 184),kD P "parted" 414 (.ref 191),kD P "joined" 423 (.ref 198),kD P "unchecked_many" 431 (.ref 205),kD P "unchecked_number" 439 (.ref 212),kD P "unchecked_thing" 448 (.ref 219),kD P "number_by_parts" 457 (.ref 226),kD P "thing_by_parts" 467 (.ref 233),kD P "__static_attributes__" 468 (.ref 234),kD P "__doc__" 469 .none] 2),#[]⟩)::(nat_lit 236,⟨(.type "type"),none,(.cls ⟨"SplitFamily",[(.ref 159)],[(.ref 236),(.ref 159),(.type "object")],235,"SplitFamily",true,[],[(.ref 288),(.ref 340),(.ref 401),(.ref 469),(.ref 523)],false,none,false⟩),#[(some (.ref 164)),none,(some (.str "SplitFamily" 380)),(some (.str "SplitFamily" 388)),(some (.builtin "object.__new__")),(some (.bool true))]⟩)::(nat_lit 251,(kC "__init__" "Bows.__init__" 486 93 1 (.ref 246) (.ref 247) .none (.ref 248) (.ref 249) (.ref 250) 490))::(nat_lit 252,(kF "__init__" "Bows.__init__" (inClass (top 13) 0) "countkin.bends" 472 251))::(nat_lit 263,(kC "is_one" "Bows.is_one" 501 99 2 (.ref 260) (.ref 261) .none .none .none (.ref 262) 504))::(nat_lit 264,(kF "is_one" "Bows.is_one" (inClass (top 13) 2) "countkin.bends" 472 263))::(nat_lit 287,⟨(.type "dict"),none,(.dict #[kD P "__module__" 481 (.str "countkin.bends" 472),kD P "__firstlineno__" 485 (.int 91 484),kD P "__init__" 492 (.ref 252),kD P "size_of" 500 (.ref 259),kD P "is_one" 506 (.ref 264),kD P "bare" 513 (.ref 271),kD P "parted" 521 (.ref 278),kD P "joined" 530 (.ref 285),kD P "__static_attributes__" 531 (.ref 286),kD P "__doc__" 532 .none] 2),#[]⟩)::(nat_lit 288,⟨(.type "type"),none,(.cls ⟨"Bows",[(.ref 236)],[(.ref 288),(.ref 236),(.ref 159),(.type "object")],287,"Bows",true,[],[],false,none,false⟩),#[(some (.ref 239)),none,(some (.str "Bows" 474)),(some (.str "Bows" 482)),(some (.builtin "object.__new__")),(some (.bool true))]⟩)::(nat_lit 303,(kC "__init__" "Floors.__init__" 549 115 1 (.ref 298) (.ref 299) .none (.ref 300) (.ref 301) (.ref 302) 553))::(nat_lit 304,(kF "__init__" "Floors.__init__" (inClass (top 15) 0) "countkin.floors" 535 303))::(nat_lit 315,(kC "is_one" "Floors.is_one" 564 121 2 (.ref 312) (.ref 313) .none .none .none (.ref 314) 567))::(nat_lit 316,(kF "is_one" "Floors.is_one" (inClass (top 15) 2) "countkin.floors" 535 315))::(nat_lit 339,⟨(.type "dict"),none,(.dict #[kD P "__module__" 544 (.str "countkin.floors" 535),kD P "__firstlineno__" 548 (.int 113 547),kD P "__init__" 555 (.ref 304),kD P "size_of" 563 (.ref 311),kD P "is_one" 569 (.ref 316),kD P "bare" 576 (.ref 323),kD P "parted" 584 (.ref 330),kD P "joined" 593 (.ref 337),kD P "__static_attributes__" 594 (.ref 338),kD P "__doc__" 595 .none] 2),#[]⟩)::(nat_lit 340,⟨(.type "type"),none,(.cls ⟨"Floors",[(.ref 236)],[(.ref 340),(.ref 236),(.ref 159),(.type "object")],339,"Floors",true,[],[],false,none,false⟩),#[(some (.ref 291)),none,(some (.str "Floors" 537)),(some (.str "Floors" 545)),(some (.builtin "object.__new__")),(some (.bool true))]⟩)::(nat_lit 348,(kC "may_be_cut" "may_be_cut" 598 138 3 (.ref 343) (.ref 344) .none (.ref 345) (.ref 346) (.ref 347) 604))::(nat_lit 349,(kF "may_be_cut" "may_be_cut" (top 16) "countkin.floors" 535 348))::(nat_lit 362,(kC "__init__" "Turns.__init__" 621 143 1 (.ref 357) (.ref 358) .none (.ref 359) (.ref 360) (.ref 361) 625))::(nat_lit 363,(kF "__init__" "Turns.__init__" (inClass (top 18) 0) "countkin.rows" 607 362))::(nat_lit 376,(kC "is_one" "Turns.is_one" 636 149 2 (.ref 371) (.ref 372) .none (.ref 373) (.ref 374) (.ref 375) 641))::(nat_lit 377,(kF "is_one" "Turns.is_one" (inClass (top 18) 2) "countkin.rows" 607 376))::(nat_lit 400,⟨(.type "dict"),none,(.dict #[kD P "__module__" 616 (.str "countkin.rows" 607),kD P "__firstlineno__" 620 (.int 141 619),kD P "__init__" 627 (.ref 363),kD P "size_of" 635 (.ref 370),kD P "is_one" 643 (.ref 377),kD P "bare" 650 (.ref 384),kD P "parted" 658 (.ref 391),kD P "joined" 667 (.ref 398),kD P "__static_attributes__" 668 (.ref 399),kD P "__doc__" 669 .none] 2),#[]⟩)::(nat_lit 401,⟨(.type "type"),none,(.cls ⟨"Turns",[(.ref 236)],[(.ref 401),(.ref 236),(.ref 159),(.type "object")],400,"Turns",true,[],[],false,none,false⟩),#[(some (.ref 350)),none,(some (.str "Turns" 609)),(some (.str "Turns" 617)),(some (.builtin "object.__new__")),(some (.bool true))]⟩)::(nat_lit 409,(kC "comes_off_a_stack" "comes_off_a_stack" 672 160 1 (.ref 404) (.ref 405) .none (.ref 406) (.ref 407) (.ref 408) 679))::(nat_lit 410,(kF "comes_off_a_stack" "comes_off_a_stack" (top 19) "countkin.rows" 607 409))::(nat_lit 416,(kC "closes" "closes" 684 171 1 (.ref 411) (.ref 412) .none (.ref 413) (.ref 414) (.ref 415) 690))::(nat_lit 417,(kF "closes" "closes" (top 21) "countkin.steps" 682 416))::(nat_lit 430,(kC "__init__" "Brackets.__init__" 707 184 1 (.ref 425) (.ref 426) .none (.ref 427) (.ref 428) (.ref 429) 711))::(nat_lit 431,(kF "__init__" "Brackets.__init__" (inClass (top 23) 0) "countkin.signs" 693 430))::(nat_lit 444,(kC "is_one" "Brackets.is_one" 722 190 2 (.ref 439) (.ref 440) .none (.ref 441) (.ref 442) (.ref 443) 727))::(nat_lit 445,(kF "is_one" "Brackets.is_one" (inClass (top 23) 2) "countkin.signs" 693 444))::(nat_lit 468,⟨(.type "dict"),none,(.dict #[kD P "__module__" 702 (.str "countkin.signs" 693),kD P "__firstlineno__" 706 (.int 182 705),kD P "__init__" 713 (.ref 431),kD P "size_of" 721 (.ref 438),kD P "is_one" 729 (.ref 445),kD P "bare" 736 (.ref 452),kD P "parted" 744 (.ref 459),kD P "joined" 753 (.ref 466),kD P "__static_attributes__" 754 (.ref 467),kD P "__doc__" 755 .none] 2),#[]⟩)::(nat_lit 469,⟨(.type "type"),none,(.cls ⟨"Brackets",[(.ref 236)],[(.ref 469),(.ref 236),(.ref 159),(.type "object")],468,"Brackets",true,[],[],false,none,false⟩),#[(some (.ref 418)),none,(some (.str "Brackets" 695)),(some (.str "Brackets" 703)),(some (.builtin "object.__new__")),(some (.bool true))]⟩)::(nat_lit 484,(kC "__init__" "Twins.__init__" 772 204 1 (.ref 479) (.ref 480) .none (.ref 481) (.ref 482) (.ref 483) 776))::(nat_lit 485,(kF "__init__" "Twins.__init__" (inClass (top 25) 0) "countkin.twigs" 758 484))::(nat_lit 498,(kC "is_one" "Twins.is_one" 790 217 2 (.ref 493) (.ref 494) .none (.ref 495) (.ref 496) (.ref 497) 795))::(nat_lit 499,(kF "is_one" "Twins.is_one" (inClass (top 25) 2) "countkin.twigs" 758 498))::(nat_lit 522,⟨(.type "dict"),none,(.dict #[kD P "__module__" 767 (.str "countkin.twigs" 758),kD P "__firstlineno__" 771 (.int 202 770),kD P "__init__" 778 (.ref 485),kD P "size_of" 789 (.ref 492),kD P "is_one" 797 (.ref 499),kD P "bare" 804 (.ref 506),kD P "parted" 812 (.ref 513),kD P "joined" 821 (.ref 520),kD P "__static_attributes__" 822 (.ref 521),kD P "__doc__" 823 .none] 2),#[]⟩)::(nat_lit 523,⟨(.type "type"),none,(.cls ⟨"Twins",[(.ref 236)],[(.ref 523),(.ref 236),(.ref 159),(.type "object")],522,"Twins",true,[],[],false,none,false⟩),#[(some (.ref 472)),none,(some (.str "Twins" 760)),(some (.str "Twins" 768)),(some (.builtin "object.__new__")),(some (.bool true))]⟩)::(nat_lit 529,(kC "brackets_mirror" "brackets_mirror" 828 229 1 (.ref 526) (.ref 527) .none .none .none (.ref 528) 831))::(nat_lit 530,(kF "brackets_mirror" "brackets_mirror" (top 27) "countkin.mirrors" 826 529))::(nat_lit 536,(kC "bows_mirror" "bows_mirror" 834 232 1 (.ref 531) (.ref 532) .none (.ref 533) (.ref 534) (.ref 535) 838))::(nat_lit 537,(kF "bows_mirror" "bows_mirror" (top 28) "countkin.mirrors" 826 536))::(nat_lit 541,(kC "mirrored_pairs" "mirrored_pairs" 841 235 2 (.ref 538) (.ref 539) .none .none .none (.ref 540) 844))::(nat_lit 542,(kF "mirrored_pairs" "mirrored_pairs" (top 29) "countkin.mirrors" 826 541))::(nat_lit 548,(kC "twins_mirror" "twins_mirror" 847 237 1 (.ref 543) (.ref 544) .none (.ref 545) (.ref 546) (.ref 547) 851))::(nat_lit 549,(kF "twins_mirror" "twins_mirror" (top 30) "countkin.mirrors" 826 548))::(nat_lit 555,(kC "mirrored_twins" "mirrored_twins" 854 240 1 (.ref 550) (.ref 551) .none (.ref 552) (.ref 553) (.ref 554) 858))::(nat_lit 556,(kF "mirrored_twins" "mirrored_twins" (top 31) "countkin.mirrors" 826 555))::(nat_lit 562,(kC "floor_mirror" "floor_mirror" 861 244 1 (.ref 557) (.ref 558) .none (.ref 559) (.ref 560) (.ref 561) 865))::(nat_lit 563,(kF "floor_mirror" "floor_mirror" (top 32) "countkin.mirrors" 826 562))::(nat_lit 569,(kC "turns_mirror" "turns_mirror" 868 247 1 (.ref 564) (.ref 565) .none (.ref 566) (.ref 567) (.ref 568) 876))::(nat_lit 570,(kF "turns_mirror" "turns_mirror" (top 33) "countkin.mirrors" 826 569))::(nat_lit 576,(kC "brackets_to_twins" "brackets_to_twins" 881 255 1 (.ref 571) (.ref 572) .none (.ref 573) (.ref 574) (.ref 575) 888))::(nat_lit 577,(kF "brackets_to_twins" "brackets_to_twins" (top 35) "countkin.cuts" 879 576))::(nat_lit 583,(kC "twins_to_brackets" "twins_to_brackets" 891 266 1 (.ref 578) (.ref 579) .none (.ref 580) (.ref 581) (.ref 582) 898))::(nat_lit 584,(kF "twins_to_brackets" "twins_to_brackets" (top 36) "countkin.cuts" 879 583))::(nat_lit 590,(kC "twins_to_floor" "twins_to_floor" 901 278 1 (.ref 585) (.ref 586) .none (.ref 587) (.ref 588) (.ref 589) 907))::(nat_lit 591,(kF "twins_to_floor" "twins_to_floor" (top 37) "countkin.cuts" 879 590))::(nat_lit 597,(kC "lines_over" "lines_over" 910 283 3 (.ref 592) (.ref 593) .none (.ref 594) (.ref 595) (.ref 596) 918))::(nat_lit 598,(kF "lines_over" "lines_over" (top 38) "countkin.cuts" 879 597))::(nat_lit 604,(kC "brackets_to_bows" "brackets_to_bows" 923 291 1 (.ref 599) (.ref 600) .none (.ref 601) (.ref 602) (.ref 603) 931))::(nat_lit 605,(kF "brackets_to_bows" "brackets_to_bows" (top 40) "countkin.ways" 921 604))::(nat_lit 611,(kC "closed_in_runs" "closed_in_runs" 934 301 1 (.ref 606) (.ref 607) .none (.ref 608) (.ref 609) (.ref 610) 943))::(nat_lit 612,(kF "closed_in_runs" "closed_in_runs" (top 41) "countkin.ways" 921 611))::(nat_lit 618,(kC "brackets_to_turns" "brackets_to_turns" 946 316 1 (.ref 613) (.ref 614) .none (.ref 615) (.ref 616) (.ref 617) 950))::(nat_lit 619,(kF "brackets_to_turns" "brackets_to_turns" (top 42) "countkin.ways" 921 618))::(nat_lit 625,(kC "_law_cell_at" "_law_cell_at" 955 320 2 (.ref 620) (.ref 621) .none (.ref 622) (.ref 623) (.ref 624) 960))::(nat_lit 626,(kF "_law_cell_at" "_law_cell_at" (top 44) "law_countkin_k41_mirrors_meet" 953 625))::(nat_lit 632,(kC "_law_whole" "_law_whole" 963 324 1 (.ref 627) (.ref 628) .none (.ref 629) (.ref 630) (.ref 631) 967))::(nat_lit 633,(kF "_law_whole" "_law_whole" (top 45) "law_countkin_k41_mirrors_meet" 953 632))::(nat_lit 639,(kC "_law_mix" "_law_mix" 970 326 2 (.ref 634) (.ref 635) .none (.ref 636) (.ref 637) (.ref 638) 976))::(nat_lit 640,(kF "_law_mix" "_law_mix" (top 46) "law_countkin_k41_mirrors_meet" 953 639))::(nat_lit 644,(kC "_law_draws" "_law_draws" 979 329 3 (.ref 641) (.ref 642) .none .none .none (.ref 643) 982))::(nat_lit 645,(kF "_law_draws" "_law_draws" (top 47) "law_countkin_k41_mirrors_meet" 953 644))::(nat_lit 651,(kC "_law_text_by" "_law_text_by" 985 343 3 (.ref 646) (.ref 647) .none (.ref 648) (.ref 649) (.ref 650) 998))::(nat_lit 652,(kF "_law_text_by" "_law_text_by" (top 48) "law_countkin_k41_mirrors_meet" 953 651))::(nat_lit 658,(kC "_law_numbers" "_law_numbers" 1001 361 2 (.ref 653) (.ref 654) .none (.ref 655) (.ref 656) (.ref 657) 1007))::(nat_lit 659,(kF "_law_numbers" "_law_numbers" (top 49) "law_countkin_k41_mirrors_meet" 953 658))::(nat_lit 665,(kC "_law_pairs" "_law_pairs" 1010 368 2 (.ref 660) (.ref 661) .none (.ref 662) (.ref 663) (.ref 664) 1016))::(nat_lit 666,(kF "_law_pairs" "_law_pairs" (top 50) "law_countkin_k41_mirrors_meet" 953 665))::(nat_lit 672,(kC "_law_floor" "_law_floor" 1019 377 2 (.ref 667) (.ref 668) .none (.ref 669) (.ref 670) (.ref 671) 1024))::(nat_lit 673,(kF "_law_floor" "_law_floor" (top 51) "law_countkin_k41_mirrors_meet" 953 672))::(nat_lit 679,(kC "_law_twins_by" "_law_twins_by" 1027 381 1 (.ref 674) (.ref 675) .none (.ref 676) (.ref 677) (.ref 678) 1034))::(nat_lit 680,(kF "_law_twins_by" "_law_twins_by" (top 52) "law_countkin_k41_mirrors_meet" 953 679))::(nat_lit 686,(kC "_law_size" "_law_size" 1037 391 1 (.ref 681) (.ref 682) .none (.ref 683) (.ref 684) (.ref 685) 1041))::(nat_lit 687,(kF "_law_size" "_law_size" (top 53) "law_countkin_k41_mirrors_meet" 953 686))::(nat_lit 693,(kC "_law_mate" "_law_mate" 1044 395 2 (.ref 688) (.ref 689) .none (.ref 690) (.ref 691) (.ref 692) 1051))::(nat_lit 694,(kF "_law_mate" "_law_mate" (top 54) "law_countkin_k41_mirrors_meet" 953 693))::(nat_lit 698,(kC "_law_bows_of" "_law_bows_of" 1054 402 1 (.ref 695) (.ref 696) .none .none .none (.ref 697) 1057))::(nat_lit 699,(kF "_law_bows_of" "_law_bows_of" (top 55) "law_countkin_k41_mirrors_meet" 953 698))::(nat_lit 703,(kC "_law_turns_of" "_law_turns_of" 1060 404 1 (.ref 700) (.ref 701) .none .none .none (.ref 702) 1063))::(nat_lit 704,(kF "_law_turns_of" "_law_turns_of" (top 56) "law_countkin_k41_mirrors_meet" 953 703))::(nat_lit 710,(kC "_law_cuts" "_law_cuts" 1066 407 3 (.ref 705) (.ref 706) .none (.ref 707) (.ref 708) (.ref 709) 1073))::(nat_lit 711,(kF "_law_cuts" "_law_cuts" (top 57) "law_countkin_k41_mirrors_meet" 953 710))::(nat_lit 715,(kC "_law_floor_of" "_law_floor_of" 1076 412 1 (.ref 712) (.ref 713) .none .none .none (.ref 714) 1079))::(nat_lit 716,(kF "_law_floor_of" "_law_floor_of" (top 58) "law_countkin_k41_mirrors_meet" 953 715))::(nat_lit 722,(kC "_law_mirror" "_law_mirror" 1082 416 1 (.ref 717) (.ref 718) .none (.ref 719) (.ref 720) (.ref 721) 1088))::(nat_lit 723,(kF "_law_mirror" "_law_mirror" (top 59) "law_countkin_k41_mirrors_meet" 953 722))::(nat_lit 729,(kC "_law_over" "_law_over" 1091 421 1 (.ref 724) (.ref 725) .none (.ref 726) (.ref 727) (.ref 728) 1095))::(nat_lit 730,(kF "_law_over" "_law_over" (top 60) "law_countkin_k41_mirrors_meet" 953 729))::(nat_lit 736,(kC "law" "law" 1098 425 1 (.ref 731) (.ref 732) .none (.ref 733) (.ref 734) (.ref 735) 1106))::(nat_lit 737,(kF "law" "law" (top 61) "law_countkin_k41_mirrors_meet" 953 736))::[]
noncomputable def bT:Bool:=true
noncomputable def bF:Bool:=false
noncomputable def hM:List Bool:=(bF::bF::bT::bT::bF::bF::bF::bF::bF::bF::bF::bF::bF::bF::bF::bF::bF::bF::bF::bF::bF::bF::bF::bF::bF::bF::bF::bT::bT::bF::bF::bF::bF::bF::bT::bT::bF::bF::bF::bF::bF::bT::bT::bF::bF::bF::bT::bT::bF::bF::bF::bF::bF::bF::bF::bF::bT::bT::bT::bF::bF::bF::bF::bF::bF::bF::bF::bF::bF::bT::bT::bF::bF::bF::bF::bF::bF::bF::bF::bF::bF::bF::bF::bF::bF::bT::bT::bF::bF::bF::bF::bF::bF::bF::bF::bF::bF::bF::bF::bF::bF::bF::bF::bF::bF::bF::bF::bF::bF::bF::bF::bF::bF::bF::bF::bF::bF::bF::bF::bF::bF::bF::bF::bF::bF::bF::bF::bF::bF::bF::bF::bF::bF::bF::bT::bT::bF::bF::bF::bF::bF::bF::bF::bF::bF::bF::bF::bF::bF::bF::bF::bF::bF::bF::bF::bF::bF::bF::bT::bT::bT::bT::bF::bF::bF::bF::bF::bF::bF::bF::bF::bF::bF::bF::bF::bF::bT::bT::bF::bF::bF::bF::bF::bF::bF::bF::bF::bF::bF::bF::bF::bF::bF::bF::bF::bF::bF::bF::bF::bF::bF::bF::bF::bF::bF::bF::bF::bF::bF::bF::bF::bF::bF::bF::bF::bF::bF::bF::bF::bF::bF::bF::bF::bF::bF::bF::bF::bF::bF::bF::bF::bF::bF::bF::bF::bT::bT::bF::bF::bF::bF::bF::bF::bF::bF::bF::bF::bF::bF::bF::bF::bT::bT::bF::bF::bF::bF::bF::bF::bF::bF::bF::bF::bT::bT::bF::bF::bF::bF::bF::bF::bF::bF::bF::bF::bF::bF::bF::bF::bF::bF::bF::bF::bF::bF::bF::bF::bT::bT::bF::bF::bF::bF::bF::bF::bF::bF::bF::bF::bF::bF::bF::bF::bT::bT::bF::bF::bF::bF::bF::bF::bF::bF::bF::bF::bT::bT::bF::bF::bF::bF::bF::bF::bF::bF::bF::bF::bF::bF::bF::bF::bF::bF::bF::bF::bF::bF::bF::bF::bT::bT::bF::bF::bF::bF::bF::bF::bF::bT::bT::bF::bF::bF::bF::bF::bF::bF::bF::bF::bF::bF::bF::bT::bT::bF::bF::bF::bF::bF::bF::bF::bF::bF::bF::bF::bF::bT::bT::bF::bF::bF::bF::bF::bF::bF::bF::bF::bF::bF::bF::bF::bF::bF::bF::bF::bF::bF::bF::bF::bF::bT::bT::bF::bF::bF::bF::bF::bF::bF::bT::bT::bF::bF::bF::bF::bF::bT::bT::bF::bF::bF::bF::bF::bF::bF::bF::bF::bF::bF::bF::bT::bT::bF::bF::bF::bF::bF::bF::bF::bF::bF::bF::bF::bF::bT::bT::bF::bF::bF::bF::bF::bF::bF::bF::bF::bF::bF::bF::bF::bF::bF::bF::bF::bF::bF::bF::bF::bF::bT::bT::bF::bF::bF::bF::bF::bF::bF::bF::bF::bF::bF::bF::bF::bF::bT::bT::bF::bF::bF::bF::bF::bF::bF::bF::bF::bF::bF::bF::bT::bT::bF::bF::bF::bF::bF::bF::bF::bF::bF::bF::bF::bF::bF::bF::bF::bF::bF::bF::bF::bF::bF::bF::bT::bT::bF::bF::bF::bF::bF::bT::bT::bF::bF::bF::bF::bF::bT::bT::bF::bF::bF::bT::bT::bF::bF::bF::bF::bF::bT::bT::bF::bF::bF::bF::bF::bT::bT::bF::bF::bF::bF::bF::bT::bT::bF::bF::bF::bF::bF::bT::bT::bF::bF::bF::bF::bF::bT::bT::bF::bF::bF::bF::bF::bT::bT::bF::bF::bF::bF::bF::bT::bT::bF::bF::bF::bF::bF::bT::bT::bF::bF::bF::bF::bF::bT::bT::bF::bF::bF::bF::bF::bT::bT::bF::bF::bF::bF::bF::bT::bT::bF::bF::bF::bF::bF::bT::bT::bF::bF::bF::bF::bF::bT::bT::bF::bF::bF::bF::bF::bT::bT::bF::bF::bF::bT::bT::bF::bF::bF::bF::bF::bT::bT::bF::bF::bF::bF::bF::bT::bT::bF::bF::bF::bF::bF::bT::bT::bF::bF::bF::bF::bF::bT::bT::bF::bF::bF::bF::bF::bT::bT::bF::bF::bF::bF::bF::bT::bT::bF::bF::bF::bF::bF::bT::bT::bF::bF::bF::bT::bT::bF::bF::bF::bT::bT::bF::bF::bF::bF::bF::bT::bT::bF::bF::bF::bT::bT::bF::bF::bF::bF::bF::bT::bT::bF::bF::bF::bF::bF::bT::bT::bF::bF::bF::bF::bF::bT::bT::[])
noncomputable def hA:List Addr:=jo hM 0
theorem hAM:hA=jo hM 0:=rfl
noncomputable abbrev hX:Shared->Bool:=(fun s=>xlAt hQ [] s&&recOk (RowW.records (OpenRow.toRowW (OpenLaw.row PySem.Challenge.rw_countkin_k41_mirrors_meet))) s)
theorem hKA:∀ P:Params,hA=(hK P).map (·.1):=fun _=>by kernel_rfl
noncomputable abbrev hH:Hook:=kHook hK hA hKA
noncomputable def hLook (P:Params) (s:Shared):=((staticsOk (importedModules PySem.Challenge.pw_countkin_k41_mirrors_meet.main.body) (boot_heap P) s.heap&&namesBound PySem.Challenge.pw_countkin_k41_mirrors_meet s.heap&&gensDone s&&laidKept (boot_heap P) s.heap),openSeen hQ hL (importedModules PySem.Challenge.pw_countkin_k41_mirrors_meet.main.body) hX true s,fE s.heap.objs.toList hM)
noncomputable def hPreF (w:World) (os:OsState):=topGo treeTable PySem.Challenge.pw_countkin_k41_mirrors_meet w 11 (some (.ref 6)) 12 ⟨boot_heap w.params,Array.mk [],boot_drawn,boot_toks,os⟩ (topStub PySem.Challenge.pw_countkin_k41_mirrors_meet)
noncomputable def hPreG (w:World) (os:OsState):Option (Shared × Thread):=some ((hS w os).abs,⟨denote treeTable hC,hC,⟨0,0,0,0⟩,[topFrame ⟨0,0,0,0⟩]⟩)
noncomputable def hBlkF (w:World) (os:OsState):=segRun treeTable PySem.Challenge.pw_countkin_k41_mirrors_meet w 11 (some (.ref 6)) 1 1 (hS w os).abs (blockOf hB hE hC ⟨0,0,0,0⟩ [topFrame ⟨0,0,0,0⟩])
noncomputable def hBlkG (w:World) (os:OsState):Option (Flow × Shared × Code × Pos):=some (.next,(hS w os).abs,hC,⟨0,0,0,0⟩)
noncomputable def hRunF (w:World) (os:OsState):=(segRunT treeTable PySem.Challenge.pw_countkin_k41_mirrors_meet w 11 (some (.ref 6)) 1 4856 (hS w os) (piecesOf hB hE hC ⟨0,0,0,0⟩ [topFrame ⟨0,0,0,0⟩])).map (n8 treeTable PySem.Challenge.pw_countkin_k41_mirrors_meet w 11 (some (.ref 6)) ⟨0,0,0,0⟩ hC 2 (hLook w.params))
noncomputable def hRunG (w:World) (_:OsState):=some (Flow.next,hC,some (true,openGood hQ hL,(hK w.params).map fun p=>some p.2))
noncomputable def hSizF (w:World):=((boot_heap w.params).isNs mainGlobals&&(Array.mk []:Array GenState).size == 0,(boot_heap w.params).objs.size,(boot_heap w.params).nsMap mainGlobals "__annotations__")
noncomputable def hSizG (_:World):Bool × Nat × Option Value:=(true,11,(some (.ref 6)))
theorem hSeed:(fun _ _ _ _ _ _ _ _=>true) hPreF hPreG hBlkF hBlkG hRunF hRunG hSizF hSizG=true:=by k_qdec
theorem hPre:hPreF=hPreG:=Eq.trans PySem.W.Fast.te5317814654954331368 (Eq.trans (by kernel_rfl) (Eq.symm PySem.W.Fast.te14277440360295502494))
theorem hBlk:hBlkF=hBlkG:=Eq.trans PySem.W.Fast.te2033988648308832629 (Eq.trans (by kernel_rfl) (Eq.symm PySem.W.Fast.te1798457917166677164))
theorem hRun:hRunF=hRunG:=Eq.trans PySem.W.Fast.te6412348297585774662 (Eq.trans (by kernel_rfl) (Eq.symm PySem.W.Fast.te15447895654253735931))
theorem hSiz:hSizF=hSizG:=Eq.trans PySem.W.Fast.te13693962943478796877 (by kernel_rfl)
theorem hLeft:LeftO PySem.Challenge.pw_countkin_k41_mirrors_meet hQ hL hX (Hook.obs hH) (Hook.val hH) 9836 :=
 wz (boot_open (by kernel_rfl) (by decide) (fun _=>by kernel_rfl)) (fun w=>congrFun hSiz w)
  (fun w os=>by
   obtain ⟨e,r,l⟩:=yL (b:=hB) (env:=hE) (L:=hLook w.params) rfl (congrFun (congrFun hPre w) os) (congrFun (congrFun hBlk w) os) (congrFun (congrFun hRun w) os)
   exact ⟨e,r,(congrArg (fun z=>(_,_,z)) (A2 hAM e.heap)).trans l⟩) (by decide)
end Ck
open PySem PySem.W PyProof.Rows
set_option maxRecDepth 100000 in
set_option maxHeartbeats 0 in
theorem PySem.Challenge.cw_countkin_k41_mirrors_meet_holds : PySem.Challenge.rw_countkin_k41_mirrors_meet.Holds := by
 w_on; o_law
 refine holds_open (q:=Ck.hQ) (loose:=Ck.hL) (Xt:=Ck.hX) (XP:=XL Ck.hQ []) (Yf:=Hook.obs (kHook Ck.hK Ck.hA Ck.hKA)) (Ya:=Hook.val (kHook Ck.hK Ck.hA Ck.hKA)) (YP:=Hook.says (kHook Ck.hK Ck.hA Ck.hKA)) (N:=9836) Ck.hLeft (Hook.of (kHook Ck.hK Ck.hA Ck.hKA)) (Hook.keeps (kHook Ck.hK Ck.hA Ck.hKA))
  (fun s e=>xl_of s (Bool.and_eq_true_iff.mp e).1) XL.keeps (by rfl) (by rfl) (by rfl) (fun s e=>recFacts_of (Bool.and_eq_true_iff.mp e).2) (by rfl) (by first | assumption | decide +kernel) (by decide +kernel) ⟨rfl,rfl,rfl,rfl,rfl,by decide +kernel⟩ ?hw ?hc
 case hw=>w_witness2
 k_fill
 refine Ck.walk (l:=PySem.Challenge.rw_countkin_k41_mirrors_meet) rfl rfl (fun w h Y=>W.kIn_of Y) ?F
 case F =>
  intro w mg fa h KX G hmg
  refine' Ck.all_mk KX G hmg ?_ ?_ ?_ ?_ ?_ ?_ ?_ ?_ ?_ ?_ ?_ ?_ ?_ ?_ ?_ ?_ ?_ ?_ ?_ ?_ ?_ ?_ ?_ ?_ ?_ ?_ ?_ ?_ ?_ ?_ ?_ ?_ ?_ ?_ ?_ ?_ ?_ ?_ ?_ ?_ ?_ ?_ ?_ ?_ ?_ ?_ ?_ ?_ ?_ ?_ ?_ ?_ ?_ ?_ ?_ ?_ ?_ ?_ ?_ ?_ ?_ ?_ ?_ ?_ ?_ ?_ ?_ ?_ ?_ ?_ ?_ ?_ ?_ ?_ ?_ ?_ ?_ ?_ ?_ ?_ ?_ ?_ ?_ ?_ ?_ ?_ ?_ ?_ ?_ ?_ ?_ ?_ ?_ ?_ ?_ ?_ ?_ ?_ ?_ ?_ ?_ ?_ ?_ ?_ ?_ ?_ ?_ ?_ ?_ ?_ ?_ ?_ ?_ ?_ ?_ ?_ ?_ ?_ ?_ ?_ ?_ ?_ ?_ ?_ ?_ ?_ ?_ ?_ ?_ ?_ ?_ ?_ ?_ ?_ ?_ ?_ ?_ ?_ ?_ ?_ ?_ ?_ ?_ ?_ ?_ ?_ ?_ ?_ ?_ ?_ ?_ ?_ ?_ ?_ ?_ ?_ ?_ ?_ ?_ ?_ ?_ ?_ ?_ ?_ ?_ ?_ ?_ ?_ ?_ ?_ ?_ ?_ ?_ ?_ ?_ ?_ ?_ ?_ ?_ ?_ ?_ ?_ ?_ ?_ ?_ ?_ ?_ ?_ ?_ ?_ ?_ ?_ ?_ ?_ ?_ ?_ ?_ ?_ ?_ ?_ ?_ ?_ ?_ ?_ ?_ ?_ ?_ ?_ ?_ ?_ ?_ ?_ ?_ ?_ ?_ ?_ ?_ ?_ ?_ ?_ ?_ ?_ ?_ ?_ ?_ ?_ ?_ ?_ ?_ ?_ ?_ ?_ ?_ ?_ ?_ ?_ ?_ ?_ ?_ ?_ ?_ ?_ ?_ ?_ ?_ ?_ ?_ ?_ ?_ ?_ ?_ ?_ ?_ ?_ ?_ ?_ ?_ ?_ ?_ ?_ ?_ ?_ ?_ ?_ ?_ ?_ ?_ ?_ ?_ ?_ ?_ ?_ ?_ ?_ ?_ ?_ ?_ ?_ ?_ ?_ ?_ ?_ ?_ ?_ ?_ ?_ ?_ ?_ ?_ ?_ ?_ ?_ ?_ ?_ ?_ ?_ ?_ ?_ ?_ ?_ ?_ ?_ ?_ ?_ ?_ ?_ ?_ ?_ ?_ ?_ ?_ ?_ ?_ ?_ ?_ ?_ ?_ ?_ ?_ ?_ ?_ ?_ ?_ ?_ ?_ ?_ ?_ ?_ ?_ ?_ ?_ ?_ ?_ ?_ ?_ ?_ ?_ ?_ ?_ ?_ ?_ ?_ ?_ ?_ ?_ ?_ ?_ ?_ ?_ ?_ ?_ ?_ ?_ ?_ ?_ ?_ ?_ ?_ ?_ ?_ ?_ ?_
  any_goals k_is
