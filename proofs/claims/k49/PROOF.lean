import PyProof.Rows.All
import Wide.All
import OpenK.AllK
import Wide.FinOn
import Lean
import PyProof.EqAt
import PyProof.EqKinds
import PyProof.TupleCall
import KE.KMinBuiltin
import KE.KRevIter
import KE.KRevSl
import KE.KSortTup
import KE.KTryMore
import Open.Pieces
import OpenK.KQuick
import OpenK.KWalk
import PyProof.CollectWalk
import PyProof.DictWalks
import PyProof.EnumMake
import PyProof.ExcAttrAll.ValueError
import PyProof.FitsBits
import PyProof.ListRange
import PyProof.NeKinds
import PyProof.Rows.SortRuns
import PyProof.Rows.StrInSeq3
import PyProof.ZipIter
import PySem.Challenge.RW_countkin_k49_marks_of_bows_and_rooms
set_option Elab.async false
set_option linter.all false
set_option maxRecDepth 100000
namespace L2
open PySem PySem.Spec PyProof.Rows
noncomputable abbrev Key:=Sum Int Str
noncomputable def lQ:Key->Value->Bool
  | .inl k,v=>Value.isInt k v
  | .inr x,v=>Value.isStrOf x v
noncomputable def D0 (w:World):Key->Int
  | .inl k=>hashInt k
  | .inr x=>hashStr w x
theorem bS:∀ {k:Key} {v:Value},lQ k v=true->(∃ i t,k=Sum.inl i/\v=Value.int i t)\/(∃ x t,k=Sum.inr x/\v=Value.str x t)
  | .inl i,v,h=>by
    obtain ⟨t,e⟩:=Value.isInt_shape (k:=i) (v:=v) h
    exact .inl ⟨i,t,rfl,e⟩
  | .inr x,v,h=>by
    obtain ⟨t,e⟩:=Value.isStrOf_shape (x:=x) (v:=v) h
    exact .inr ⟨x,t,rfl,e⟩
theorem xD (i:Int) (t:Tok):lQ (.inl i) (.int i t)=true:=by simp [lQ,Value.isInt]
theorem xr (x:Str) (t:Tok):lQ (.inr x) (.str x t)=true:=by simp [lQ,Value.isStrOf]
theorem BI (a b:Int):decide ((Sum.inl a:Key)=Sum.inl b)=(a == b):=by
  by_cases e:a=b
  · subst e; simp
  · have h:¬ (Sum.inl a:Key)=Sum.inl b:=fun q=>e (Sum.inl.inj q)
    rw [decide_eq_false h]
    exact (beq_eq_false_iff_ne.mpr e).symm
theorem AE (a b:Str):decide ((Sum.inr a:Key)=Sum.inr b)=decide (a=b):=by
  by_cases e:a=b
  · subst e; simp
  · have h:¬ (Sum.inr a:Key)=Sum.inr b:=fun q=>e (Sum.inr.inj q)
    rw [decide_eq_false h,decide_eq_false e]
theorem A6 (a:Int) (b:Str):decide ((Sum.inl a:Key)=Sum.inr b)=false:=decide_eq_false (fun q=>nomatch q)
theorem AY (a:Str) (b:Int):decide ((Sum.inr a:Key)=Sum.inl b)=false:=decide_eq_false (fun q=>nomatch q)
noncomputable def cc (prog:Program) (w:World):PySem.KeyKind prog w Key where
  is:=lQ
  hash:=D0 w
  inj:=fun v a b ha hb=>by
    rcases bS ha with ⟨i,t,rfl,rfl⟩ | ⟨x,t,rfl,rfl⟩
    · rcases bS hb with ⟨j,u,rfl,e⟩ | ⟨y,u,rfl,e⟩
      · injection e with e1 _; rw [e1]
      · exact nomatch e
    · rcases bS hb with ⟨j,u,rfl,e⟩ | ⟨y,u,rfl,e⟩
      · exact nomatch e
      · injection e with e1 _; rw [e1]
  byValue:=fun k v h=>by
    rcases bS h with ⟨i,t,rfl,rfl⟩ | ⟨x,t,rfl,rfl⟩<;>rfl
  pyHash:=fun hv h=>by
    rcases bS hv with ⟨i,t,rfl,rfl⟩ | ⟨x,t,rfl,rfl⟩
    · exact wpAny_pyHash_int h
    · exact wpAny_pyHash_str h
  eqBool:=fun hu hv h=>by
    rcases bS hu with ⟨i,t,rfl,rfl⟩ | ⟨x,t,rfl,rfl⟩
    · rcases bS hv with ⟨j,u,rfl,rfl⟩ | ⟨y,u,rfl,rfl⟩
      · rw [BI] at h; exact wpAny_eqBool_int h
      · rw [A6] at h; exact SeqAt.EqAt.int_str i t y u _ _ _ _ h
    · rcases bS hv with ⟨j,u,rfl,rfl⟩ | ⟨y,u,rfl,rfl⟩
      · rw [AY] at h; exact SeqAt.EqAt.str_int x t j u _ _ _ _ h
      · rw [AE] at h; exact wpAny_eqBool_str h
  «strs»:=fun k x t v h=>by
    rcases bS h with ⟨i,u,rfl,e⟩ | ⟨y,u,rfl,e⟩
    · exact nomatch e
    · injection e with e1 _
      subst e1
      cases v<;>rfl
theorem uB (prog:Program) (w:World) (i:Int) (t:Tok):(cc prog w).is (.inl i) (.int i t)=true:=xD i t
theorem um (prog:Program) (w:World) (x:Str) (t:Tok):(cc prog w).is (.inr x) (.str x t)=true:=xr x t
end L2
namespace L2
open PySem PySem.Spec PyProof.Rows
inductive V where
  | non | bl (b:Bool) | int (i:Int) | str (x:Str) | byt (b:Array UInt8) | flt (b:UInt64) | ref (a:Addr) | ty (n:String)
  deriving DecidableEq
noncomputable def RelV:V->Value->Prop
  | .non,u=>u=Value.none
  | .bl b,u=>u=Value.bool b
  | .int i,u=>∃ t,u=Value.int i t
  | .str x,u=>∃ t,u=Value.str x t
  | .byt b,u=>∃ t,u=Value.bytes b t
  | .flt b,u=>∃ t,u=Value.float b t
  | .ref a,u=>u=Value.ref a
  | .ty n,u=>u=Value.type n
noncomputable abbrev Vals:List V->List Value->Prop:=Paired RelV
theorem Vals.length {xs:List V} {us:List Value} (r:Vals xs us):xs.length=us.length:=Paired.length r
theorem Vals.get:∀ {xs:List V} {us:List Value} {i:Nat} {x:V},Vals xs us->xs[i]? = some x->∃ u,us[i]? = some u/\RelV x u
  | _,_,_,_,.nil,e=>by simp at e
  | _,_,0,_,.cons r _,e=>by simp at e; subst e; exact ⟨_,rfl,r⟩
  | _,_,i+1,x,.cons _ t,e=>by
    obtain ⟨u,h1,h2⟩:=Vals.get (i:=i) (x:=x) t (by simpa using e)
    exact ⟨u,by simpa using h1,h2⟩
theorem Vals.set {x:V} {u:Value} (r:RelV x u):∀ {xs:List V} {us:List Value} (i:Nat),Vals xs us->Vals (xs.set i x) (us.set i u)
  | _,_,_,.nil=>.nil
  | _,_,0,.cons _ t=>.cons r t
  | _,_,i+1,.cons q t=>.cons q (Vals.set r i t)
theorem Vals.append:∀ {xs ys:List V} {us ws:List Value},Vals xs us->Vals ys ws->Vals (xs++ys) (us++ws)
  | _,_,_,_,.nil,s=>s
  | _,_,_,_,.cons r t,s=>.cons r (Vals.append t s)
theorem Vals.take:∀ {xs:List V} {us:List Value} (n:Nat),Vals xs us->Vals (xs.take n) (us.take n)
  | _,_,0,_=>.nil
  | _,_,_+1,.nil=>.nil
  | _,_,n+1,.cons r t=>.cons r (Vals.take n t)
theorem Vals.drop:∀ {xs:List V} {us:List Value} (n:Nat),Vals xs us->Vals (xs.drop n) (us.drop n)
  | _,_,0,r=>r
  | _,_,_+1,.nil=>.nil
  | _,_,n+1,.cons _ t=>Vals.drop n t
noncomputable def gD:Option V->Option Value->Prop
  | some v,some u=>RelV v u
  | none,none=>True
  | _,_=>False
noncomputable def KV {κ:Type}:List (κ × V)->List (κ × Value)->Prop:=Paired fun (p:κ × V) (q:κ × Value)=>p.1=q.1/\RelV p.2 q.2
noncomputable def kV:Key->V
  | .inl i=>.int i
  | .inr x=>.str x
inductive HO where
  | lst (xs:List V)
  | tup (xs:List V)
  | dK (kvs:List (Key × V)) | dT (kvs:List (List Key × V))
  | set (S:Int->Bool) (n:Nat)
  | ins (C dx:Addr) (fs:List (Str × V))
  | own (x:Addr)
  | xd (fs:List (Str × V))
  | met (f x:Addr)
  | rng (lo hi:Int)
  | frz (o:Obj) (u:HO)
  | tbl (ps:Array Value)
  | ext (φ:Heap->Prop)
noncomputable abbrev Hp:=Addr->Option HO
noncomputable def upd (H:Hp) (a:Addr) (o:HO):Hp:=fun b=>if b=a then some o else H b
theorem ae {H:Hp} {a:Addr} {o:HO}:upd H a o a=some o:=by unfold upd; rw [if_pos rfl]
theorem ak {H:Hp} {a b:Addr} {o:HO} (h:b≠a):upd H a o b=H b:=by unfold upd; rw [if_neg h]
theorem eh {H:Hp} {a:Addr} {o u:HO}:upd (upd H a o) a u=upd H a u:=by
  funext b; unfold upd; split<;>rfl
theorem DA {H:Hp} {a b:Addr} {o u:HO} (h:H a=some o) (h':H b=some u) (d:o≠u):a≠b:=by
  intro e; subst e; rw [h] at h'; exact d (Option.some.inj h')
theorem aw {H:Hp} {a b:Addr} {o:HO} (h:H a=some o) (h':H b=none):a≠b:=by
  intro e; subst e; rw [h] at h'; cases h'
section
variable (P:Program) (w:World)
noncomputable def bE (H:Hp) (h:Heap) (a:Addr):HO->Prop
  | .lst xs=>xs.length<=sizeLine/\∃ (its:List Value) (n:Nat),Vals xs its/\h.get? a=some { cls:=.type "list",data:=.seq its.toArray n }
  | .tup xs=>xs.length<=sizeLine/\∃ its:List Value,Vals xs its/\IsTup h a its.toArray
  | .dK kvs=>kvs.length<=sizeLine/\(a == sysModules)=false/\∃ vs,KV kvs vs/\h.DictOf (cc P w) a vs
  | .dT kvs=>kvs.length<=sizeLine/\(a == sysModules)=false/\∃ xs:List (List Key × Addr × Value),
      Paired (fun (p:List Key × V) (q:List Key × Addr × Value)=>p.1=q.1/\H q.2.1=some (.tup (p.1.map kV))/\RelV p.2 q.2.2) kvs xs /\
      ∃ o es ep,h.get? a=some o/\o.ExactDict/\o.data = .dict es ep/\es.toList=xs.map (entryOfKey (tupleKind (cc P w)))/\(xs.map (·.1)).Nodup
  | .set S n=>h.SetOf (intKind P w) a S n
  | .ins C dx fs=>H dx=some (.own a)/\fs.length<=1000/\dx≠a/\h.get? a=some (PySem.W.instObj C dx) /\
      ∃ mA,h.Ns1 dx mA/\(∀ f,gD (fs.lookup f) (mA f))/\PySem.Within mA (fs.map (·.1))
  | .own _=>∃ o,h.get? a=some o
  | .xd fs=>∃ mA,h.Ns1 a mA/\∀ f,gD (fs.lookup f) (mA f)
  | .rng lo hi=>∃ t u v,h.get? a=some { cls:=.type "range",data:=.fields #[.int lo t,.int hi u,.int 1 v] }
  | .frz o u=>h.get? a=some o/\bE H h a u
  | .tbl ps=>h.get? a=some { cls:=.none,data:=.fields ps }
  | .met f x=>h.get? a=some (PySem.W.methodObj (.ref f) (.ref x))
  | .ext φ=>φ h/\(∃ o,h.get? a=some o)/\∀ h1 h2:Heap,φ h1->(∀ o,h1.get? a=some o->h2.get? a=some o)->φ h2
def dZ (H:Hp) (h:Heap):Prop:=∀ a o,H a=some o->bE P w H h a o
end
section
variable {P:Program} {w:World} {H H':Hp} {h h':Heap} {a:Addr} {o:HO}
theorem bE.lt (x:bE P w H h a o):a < h.objs.size:=by
  cases o with
  | lst xs=>obtain ⟨_,_,_,_,e⟩:=x; exact Heap.lt_size e
  | tup xs=>obtain ⟨_,_,_,p⟩:=x; exact p.lt
  | dK kvs=>obtain ⟨_,_,_,_,o,_,_,e,_⟩:=x; exact Heap.lt_size e
  | dT kvs=>obtain ⟨_,_,_,_,o,_,_,e,_⟩:=x; exact Heap.lt_size e
  | set S n=>obtain ⟨o,_,_,_,e,_⟩:=x; exact Heap.lt_size e
  | ins C dx fs=>obtain ⟨_,_,_,e,_⟩:=x; exact Heap.lt_size e
  | own y=>obtain ⟨_,e⟩:=x; exact Heap.lt_size e
  | xd fs=>obtain ⟨_,⟨_,_,_,e,_⟩,_⟩:=x; exact Heap.lt_size e
  | rng lo hi=>obtain ⟨_,_,_,e⟩:=x; exact Heap.lt_size e
  | frz ob u=>obtain ⟨e,_⟩:=x; exact Heap.lt_size e
  | tbl ps=>exact Heap.lt_size (show h.get? a=some _ from x)
  | met f y=>exact Heap.lt_size (show h.get? a=some _ from x)
  | ext φ=>obtain ⟨_,⟨_,e⟩,_⟩:=x; exact Heap.lt_size e
theorem Paired.mapP {α β:Type} {F G:α->β->Prop}:∀ {l₁:List α} {l₂:List β},Paired F l₁ l₂->(∀ a b,F a b->G a b)->Paired G l₁ l₂
  | _,_,.nil,_=>.nil
  | _,_,.cons r t,f=>.cons (f _ _ r) (Paired.mapP t f)
theorem bE.stay (x:bE P w H h a o) (k:∀ b u,(b=a\/H b=some (.own a))->h.get? b=some u->h'.get? b=some u)
    (ho:∀ b,H b=some (.own a)->H' b=some (.own a)) (ht:∀ b xs,H b=some (.tup xs)->H' b=some (.tup xs)):bE P w H' h' a o:=by
  induction o with
  | lst xs=>obtain ⟨z,its,n,r,e⟩:=x; exact ⟨z,its,n,r,k _ _ (.inl rfl) e⟩
  | tup xs=>obtain ⟨z,its,r,ob,e,c⟩:=x; exact ⟨z,its,r,ob,k _ _ (.inl rfl) e,c⟩
  | dK kvs=>obtain ⟨z,y,vs,r,ob,es,ep,e,c⟩:=x; exact ⟨z,y,vs,r,ob,es,ep,k _ _ (.inl rfl) e,c⟩
  | dT kvs =>
    obtain ⟨z,y,xs,r,ob,es,ep,e,c⟩:=x
    exact ⟨z,y,xs,Paired.mapP r fun p q z=>⟨z.1,ht _ _ z.2.1,z.2.2⟩,ob,es,ep,k _ _ (.inl rfl) e,c⟩
  | set S n=>obtain ⟨ob,es,ep,t,e,c⟩:=x; exact ⟨ob,es,ep,t,k _ _ (.inl rfl) e,c⟩
  | ins C dx fs =>
    obtain ⟨d,z,ne,e,mA,⟨od,es,ep,e2,c⟩,r⟩:=x
    exact ⟨ho _ d,z,ne,k _ _ (.inl rfl) e,mA,⟨od,es,ep,k _ _ (.inr d) e2,c⟩,r⟩
  | own y=>obtain ⟨ob,e⟩:=x; exact ⟨ob,k _ _ (.inl rfl) e⟩
  | xd fs=>obtain ⟨mA,⟨od,es,ep,e,c⟩,r⟩:=x; exact ⟨mA,⟨od,es,ep,k _ _ (.inl rfl) e,c⟩,r⟩
  | rng lo hi=>obtain ⟨t,u,v,e⟩:=x; exact ⟨t,u,v,k _ _ (.inl rfl) e⟩
  | frz ob u ih=>obtain ⟨e,q⟩:=x; exact ⟨k _ _ (.inl rfl) e,ih q⟩
  | tbl ps =>
    have e:h.get? a=some { cls:=.none,data:=.fields ps }:=x
    show h'.get? a=some { cls:=.none,data:=.fields ps }
    exact k a _ (.inl rfl) e
  | met f y =>
    have e:h.get? a=some (PySem.W.methodObj (.ref f) (.ref y)):=x
    show h'.get? a=some (PySem.W.methodObj (.ref f) (.ref y))
    exact k a _ (.inl rfl) e
  | ext φ=>obtain ⟨p,⟨o,e⟩,st⟩:=x; exact ⟨st _ _ p fun o q=>k _ _ (.inl rfl) q,⟨o,k _ _ (.inl rfl) e⟩,st⟩
theorem dZ.lt (x:dZ P w H h) (e:H a=some o):a < h.objs.size:=(x a o e).lt
theorem dZ.fresh (x:dZ P w H h) (e:h.objs.size<=a):H a=none:=by
  cases q:H a with
  | none=>rfl
  | some u=>exact absurd (Nat.lt_of_lt_of_le (x.lt q) e) (Nat.lt_irrefl _)
theorem dZ.kept (x:dZ P w H h) (k:∀ b u,h.get? b=some u->h'.get? b=some u):dZ P w H h':=fun a o e =>
  (x a o e).stay (fun b u _ q=>k b u q) (fun _ q=>q) fun _ _ q=>q
theorem dZ.laid (x:dZ P w H h) (k:∀ b u,h.get? b=some u->h'.get? b=some u) (hp:h.objs.size<=a) (new:bE P w (upd H a o) h' a o):dZ P w (upd H a o) h':=fun b u e=>by
  have hn:=x.fresh hp
  by_cases hb:b=a
  · subst hb; rw [ae] at e; cases e; exact new
  · rw [ak hb] at e
    exact (x b u e).stay (fun c v _ q=>k c v q) (fun c q=>by rw [ak (aw q hn)]; exact q) fun c xs q=>by rw [ak (aw q hn)]; exact q
end
def Rd (H:Hp) (a:Addr) (u:HO):Prop:=H a=some u\/∃ o,H a=some (.frz o u)
theorem Rd.ok {P:Program} {w:World} {H:Hp} {h:Heap} {a:Addr} {u:HO} (r:Rd H a u) (x:dZ P w H h):bE P w H h a u:=by
  rcases r with r | ⟨o,r⟩
  · exact x a u r
  · obtain ⟨_,q⟩:=x a _ r
    exact q
noncomputable def xx:Option HO->Prop
  | some (.lst _)=>True
  | some (.dK _)=>True
  | some (.dT _)=>True
  | some (.set _ _)=>True
  | some (.ins _ _ _)=>True
  | some (.ext _)=>True
  | _=>False
section
variable {P:Program} {w:World} {H:Hp} {h h':Heap} {x e:Addr} {o':HO}
theorem dZ.write (ok:dZ P w H h) (mu:xx (H x)) (he:e=x\/H e=some (.own x)) (k:∀ b u,b≠e->h.get? b=some u->h'.get? b=some u) (heo:∃ u,h'.get? e=some u)
    (new:bE P w (upd H x o') h' x o'):dZ P w (upd H x o') h':=fun b u q=>by
  have nown:∀ c y,H c=some (.own y)->c≠x:=fun c y r z=>by subst z; rw [r] at mu; exact mu
  have ntup:∀ c xs,H c=some (.tup xs)->c≠x:=fun c xs r z=>by subst z; rw [r] at mu; exact mu
  by_cases hb:b=x
  · subst hb; rw [ae] at q; cases q; exact new
  · rw [ak hb] at q
    by_cases hbe:b=e
    · have q':H b=some (.own x):=by
        rcases he with z | z
        · exact absurd (hbe.trans z) hb
        · rw [hbe]; exact z
      rw [q] at q'; cases q'
      obtain ⟨v,hv⟩:=heo
      exact ⟨v,by rw [hbe]; exact hv⟩
    · refine (ok b u q).stay (fun c v hc r=>k c v ?_ r) (fun c r=>by rw [ak (nown c b r)]; exact r) fun c xs r=>by rw [ak (ntup c xs r)]; exact r
      rcases hc with rfl | hc
      · exact hbe
      · rintro rfl
        rcases he with z | z
        · exact nown c b hc z
        · rw [hc] at z; cases z; exact hb rfl
end
structure Un (fs ex:List Addr) (H H':Hp) (h h':Heap):Prop where
  keep:∀ b o,h.get? b=some o->H b=none->b∉fs->b∉ex->h'.get? b=some o
  slot:∀ b o,h.get? b=some o->H b=none->b∈fs->b∉ex->∃ sl,h'.get? b=some { o with slots:=sl }
  free:∀ b o,h.get? b=some o->H b=none->b∉ex->H' b=none
  there:∀ b o,h.get? b=some o->b∉ex->∃ o',h'.get? b=some o'
  tups:∀ b xs,H b=some (.tup xs)->H' b=some (.tup xs)
  frzs:∀ b o u,H b=some (.frz o u)->H' b=some (.frz o u)
  tbls:∀ b ps,H b=some (.tbl ps)->∃ more,H' b=some (.tbl (ps++more))
section
variable {fs fs' ex ex':List Addr} {H H1 H2:Hp} {h h1 h2 h':Heap} {a x e:Addr} {o:HO}
theorem Un.any (u:Un fs ex H H1 h h1) {b:Addr} {ob:Obj} (q:h.get? b=some ob) (n:H b=none) (hx:b∉ex):∃ sl,h1.get? b=some { ob with slots:=sl }:=by
  by_cases hb:b∈fs
  · exact u.slot b ob q n hb hx
  · exact ⟨ob.slots,u.keep b ob q n hb hx⟩
theorem Un.kept (k:∀ b u,h.get? b=some u->h'.get? b=some u):Un fs ex H H h h' :=
  ⟨fun b ob q _ _ _=>k b ob q,fun b ob q _ _ _=>⟨ob.slots,k b ob q⟩,fun _ _ _ n _=>n,fun b ob q _=>⟨ob,k b ob q⟩,fun _ _ q=>q,fun _ _ _ q=>q,fun _ ps q=>⟨#[],by rw [q]; simp⟩⟩
theorem Un.refl:Un fs ex H H h h:=Un.kept fun _ _ q=>q
theorem Un.laid (k:∀ b u,h.get? b=some u->h'.get? b=some u) (hp:h.objs.size<=a) (hn:H a=none):Un fs ex H (upd H a o) h h' where
  keep:=fun b u q _ _ _=>k b u q
  slot:=fun b u q _ _ _=>⟨u.slots,k b u q⟩
  free:=fun b u q n _=>by rw [ak (Nat.ne_of_lt (Nat.lt_of_lt_of_le (Heap.lt_size q) hp))]; exact n
  there:=fun b u q _=>⟨u,k b u q⟩
  tups:=fun b xs q=>by rw [ak (aw q hn)]; exact q
  frzs:=fun b u xs q=>by rw [ak (aw q hn)]; exact q
  tbls:=fun b ps q=>⟨#[],by rw [ak (aw q hn),q]; simp⟩
theorem Un.write (mu:xx (H x)) (he:e=x\/H e=some (.own x)) (k:∀ b u,b≠e->h.get? b=some u->h'.get? b=some u) (heo:∃ u,h'.get? e=some u):Un fs ex H (upd H x o) h h':=by
  have hx:∀ b,H b=none->b≠x:=fun b n z=>by subst z; rw [n] at mu; exact mu
  have hb:∀ b,H b=none->b≠e:=fun b n z=>by
    subst z
    rcases he with r | r
    · exact hx b n r
    · rw [n] at r; cases r
  have hm:∀ b u,H b=some u->¬ xx (some u)->b≠x:=fun b u q nm z=>by subst z; rw [q] at mu; exact nm mu
  refine ⟨fun b u q n _ _=>k b u (hb b n) q,fun b u q n _ _=>⟨u.slots,k b u (hb b n) q⟩,fun b u q n _=>by rw [ak (hx b n)]; exact n,fun b u q _=>?_,
    fun b xs q=>by rw [ak (hm b _ q fun z=>z)]; exact q,fun b u xs q=>by rw [ak (hm b _ q fun z=>z)]; exact q,fun b ps q=>⟨#[],by rw [ak (hm b _ q fun z=>z),q]; simp⟩⟩
  by_cases hbe:b=e
  · subst hbe; exact heo
  · exact ⟨u,k b u hbe q⟩
end
noncomputable def zF (h:Heap) (H:Hp):List Addr:=(List.range h.objs.size).filter fun a=>(H a).isSome
noncomputable def jz (h:Heap) (H:Hp):Heap:=PySem.W.hideAll h (zF h H)
theorem xq (h:Heap) (H:Hp):(jz h H).objs.size=h.objs.size:=PySem.W.hideAll_size _ _
theorem zd {h:Heap} {H:Hp} {b:Addr} {o:Obj} (e:h.get? b=some o) (n:H b=none):(jz h H).get? b=some o :=
  PySem.W.hideAll_get _ e fun hm=>by
    have q:(H b).isSome=true:=(List.mem_filter.mp hm).2
    rw [n] at q; simp at q
theorem z8 {h:Heap} {H:Hp} {b:Addr} {o:Obj} (e:(jz h H).get? b=some o):h.get? b=some o/\H b=none:=by
  have e':h.get? b=some o:=PySem.W.of_hideAll (zF h H) e
  refine ⟨e',?_⟩
  cases q:H b with
  | none=>rfl
  | some x =>
    have hm:b∈zF h H:=List.mem_filter.mpr ⟨List.mem_range.mpr (Heap.lt_size e'),by simp [q]⟩
    have z:(jz h H).get? b=none:=PySem.W.hideAll_none (zF h H) hm
    rw [z] at e; cases e
noncomputable def z5 (g h:Heap) (L:Addr):List (Addr × Obj):=(List.range h.objs.size).filterMap fun a=>if a=L\/(g.get? a).isSome=true then none else (h.get? a).map fun o=>(a,o)
noncomputable def rest (g h:Heap) (L d:Addr):List (Addr × Obj):=(z5 g h L).filter fun p=>decide (p.1≠d)
end L2
namespace L2
open PySem PySem.Spec PyProof.Rows
structure Mod (K:PySem.W.Frag) (mg:Str->Option Value) (base:Heap):Prop where
  kin:K.In base
  glob:base.Ns mainGlobals mg
  blt:∃ mb,base.Ns builtinsNs mb/\∀ x:Str,x≠"__name__"->mb x=bootBuiltins x
  nolimit:base.NoLimit
structure Cx where
  prog:Program
  w:World
  K:PySem.W.Frag
  mg:Str->Option Value
  base:Heap
  A:Around
  N:List Str
  s₀:Shared
  H₀:Hp
  env:Env
  outer:List Env
  stack:List Env
  ex:List Addr
  fn:Str->Bool
  calm:Bool
  pn:List (Addr × Obj)
  xe:Value->Shared->Prop
noncomputable def i4 (l:List Env):List Addr:=l.filterMap (·.frame)
noncomputable abbrev Cx.fs (X:Cx):List Addr:=i4 X.outer
def A8 (sc:Scope) (x:Str):Prop:=sc.names.lookup x=some .local\/sc.names.lookup x=some .cell\/sc.names.lookup x=some .free
def Loc (sc:Scope) (x:Str):Prop:=sc.names.lookup x=some .local\/sc.names.lookup x=some .cell
def Look (env:Env) (h:Heap) (m:Str->Option Value) (x:Str) (u:Value):Prop :=
  (env.kindOf x=some .local/\m x=some u)\/((env.kindOf x=some .cell\/env.kindOf x=some .free)/\∃ c,env.cells.lookup x=some c/\h.IsCell c (some u))
structure Cx.Ok (X:Cx):Prop where
  mod:Mod X.K X.mg X.base
  kind:X.env.scope.kind = .function
  glob:X.env.globals=mainGlobals
  blt:X.env.builtins=builtinsNs
  above:X.s₀.heap.objs.size<=X.env.locals
  inj:∀ x y c,X.env.cells.lookup x=some c->X.env.cells.lookup y=some c->x=y
  has:∀ x,(X.env.kindOf x=some .cell\/X.env.kindOf x=some .free)->∃ c,X.env.cells.lookup x=some c
  cab:∀ x c,X.fn x=true->X.env.cells.lookup x=some c->X.s₀.heap.objs.size<=c
  hd:X.calm=true->X.A.handled=none
  frames:X.A.frames=some X.stack
  stk:X.stack=X.outer\/(X.stack=X.env::X.outer/\X.env.frame=some X.env.locals)
  exf:∀ b∈X.ex,b≠X.env.locals/\∀ x c,X.env.cells.lookup x=some c->c≠b
  bs:∀ b o,X.base.get? b=some o->X.s₀.heap.get? b=some o/\X.H₀ b=none
  bsz:X.base.objs.size<=X.s₀.heap.objs.size
  noex:∀ b o,X.base.get? b=some o->b∉X.ex
  exfs:∀ b∈X.ex,b∉X.fs
  funs:X.s₀.heap.FunFrames X.base X.outer
  frf:∀ b∈X.fs,X.H₀ b=none
structure Inv (X:Cx) (pins:List (Addr × Obj)) (σ:List (Option V)) (H:Hp) (s:Shared):Prop where
  ok:X.Ok
  os:s.os=X.s₀.os
  bare:AllBare s.gens
  base:Un X.fs X.ex X.H₀ H X.s₀.heap s.heap
  loc:∃ m,s.heap.Ns X.env.locals m/\∀ (i:Nat) (x:Str) (v:V),X.N[i]? = some x->σ[i]? = some (some v)->A8 X.env.scope x->∃ u,RelV v u/\Look X.env s.heap m x u
  cell:∀ x c,X.env.cells.lookup x=some c->∃ v,s.heap.IsCell c v
  free:H X.env.locals=none
  freeC:∀ x c,X.env.cells.lookup x=some c->H c=none
  pin:∀ p∈X.pn++pins,s.heap.get? p.1=some p.2/\H p.1=none/\p.1≠X.env.locals/\p.1∉X.fs/\∀ v,p.2.data≠.cell v
  hok:dZ X.prog X.w H s.heap
  len:σ.length=X.N.length
section
variable {X:Cx} {pins:List (Addr × Obj)} {σ:List (Option V)} {H H':Hp} {s:Shared} {h':Heap}
theorem Cx.Ok.nofr (ok:X.Ok) {b:Addr} {o:Obj} (e:X.base.get? b=some o):b∉X.fs:=fun hb=>by
  have:=(ok.funs.mem hb).1
  rw [e] at this; cases this
theorem Inv.bs (I:Inv X pins σ H s):∀ b o,X.base.get? b=some o->s.heap.get? b=some o/\H b=none:=fun b o e =>
  ⟨I.base.keep b o (I.ok.bs b o e).1 (I.ok.bs b o e).2 (I.ok.nofr e) (I.ok.noex b o e),I.base.free b o (I.ok.bs b o e).1 (I.ok.bs b o e).2 (I.ok.noex b o e)⟩
theorem Inv.bk (I:Inv X pins σ H s):∀ b o,X.base.get? b=some o->s.heap.get? b=some o:=fun b o e=>(I.bs b o e).1
theorem Inv.mod (I:Inv X pins σ H s):Mod X.K X.mg X.base:=I.ok.mod
theorem Inv.kIn (I:Inv X pins σ H s):X.K.In s.heap:=I.ok.mod.kin.keeps I.bk
theorem Inv.fr (I:Inv X pins σ H s):∃ m,Fr X.base X.env.locals s.heap m :=
  let ⟨m,hn,_⟩:=I.loc
  ⟨m,hn,I.bk,Nat.le_trans I.ok.bsz I.ok.above⟩
theorem Inv.lt (I:Inv X pins σ H s):X.env.locals < s.heap.objs.size:=let ⟨_,hn,_⟩:=I.loc; hn.lt
theorem Inv.sz (I:Inv X pins σ H s):X.s₀.heap.objs.size<=s.heap.objs.size:=Nat.le_trans I.ok.above (Nat.le_of_lt I.lt)
theorem Inv.nofs (I:Inv X pins σ H s) {a:Addr} (h:s.heap.objs.size<=a):a∉X.fs:=fun hb=>by
  obtain ⟨_,o,ho,_⟩:=I.ok.funs.mem hb
  exact absurd (Nat.lt_of_lt_of_le (Heap.lt_size ho) (Nat.le_trans I.sz h)) (Nat.lt_irrefl _)
theorem Inv.cne (I:Inv X pins σ H s):∀ x c,X.env.cells.lookup x=some c->c≠X.env.locals:=fun x c e z=>by
  obtain ⟨v,o,ho,hd⟩:=I.cell x c e
  obtain ⟨m,⟨o',es,ep,ho',hd',_⟩,_⟩:=I.loc
  rw [z,ho'] at ho; cases ho; rw [hd'] at hd; cases hd
theorem Inv.funs (I:Inv X pins σ H s):s.heap.FunFrames X.base X.outer:=by
  have all:∀ (l:List Env),(∀ b∈i4 l,b∈X.fs)->X.s₀.heap.FunFrames X.base l->s.heap.FunFrames X.base l:=by
    intro l
    induction l with
    | nil=>intro _ _; trivial
    | cons env r ih =>
      intro hs hl
      obtain ⟨hk,⟨L,o,hf,hn,ho,hd⟩,hr⟩:=hl
      have hL:L∈X.fs:=hs L (by unfold i4; rw [List.filterMap_cons,hf]; exact List.mem_cons_self)
      obtain ⟨sl,e⟩:=I.base.slot L o ho (I.ok.frf L hL) hL fun z=>I.ok.exfs L z hL
      exact ⟨hk,⟨L,_,hf,hn,e,hd⟩,ih (fun b hb=>hs b (by unfold i4; rw [List.filterMap_cons,hf]; exact List.mem_cons_of_mem _ hb)) hr⟩
  exact all X.outer (fun _ hb=>hb) I.ok.funs
theorem Inv.stack (I:Inv X pins σ H s):s.heap.FunFrames X.base X.stack:=by
  rcases I.ok.stk with e | ⟨e,hf⟩
  · rw [e]; exact I.funs
  · rw [e]
    obtain ⟨m,hn,_⟩:=I.loc
    refine .cons (by rw [I.ok.kind]; decide) hf hn ?_ I.funs
    exact Heap.get?_none_of_le (Nat.le_trans I.ok.bsz I.ok.above)
theorem Inv.stkSub (I:Inv X pins σ H s):∀ b∈i4 X.stack,b∈X.env.locals::X.fs:=fun b hb=>by
  rcases I.ok.stk with e | ⟨e,hf⟩
  · rw [e] at hb; exact List.mem_cons_of_mem _ hb
  · rw [e] at hb
    unfold i4 at hb
    rw [List.filterMap_cons,hf] at hb
    exact hb
theorem Inv.stkFree (I:Inv X pins σ H s):∀ b∈i4 X.stack,H b=none:=fun b hb=>by
  rcases List.mem_cons.mp (I.stkSub b hb) with e | hb
  · rw [e]; exact I.free
  · obtain ⟨_,o,ho,_⟩:=I.ok.funs.mem hb
    exact I.base.free b o ho (I.ok.frf b hb) fun z=>I.ok.exfs b z hb
theorem Inv.step {g':Array GenState} {t':Nat} {d':Drawn} {ch:List Addr} (I:Inv X pins σ H s)
    (hch:∀ b∈ch,(b∈X.ex\/X.s₀.heap.objs.size<=b)/\b≠X.env.locals/\(∀ x c,X.env.cells.lookup x=some c->c≠b)/\∀ p∈X.pn++pins,p.1≠b)
    (keep:∀ b o,b≠X.env.locals->b∉X.fs->b∉ch->s.heap.get? b=some o->H b=none->h'.get? b=some o)
    (slot:∀ b o,b≠X.env.locals->b∈X.fs->b∉ch->s.heap.get? b=some o->H b=none->∃ sl,h'.get? b=some { o with slots:=sl }) (free:∀ b o,b∉ch->s.heap.get? b=some o->H b=none->H' b=none)
    (there:∀ b o,b∉ch->s.heap.get? b=some o->∃ o',h'.get? b=some o')
    (tups:∀ b xs,H b=some (.tup xs)->H' b=some (.tup xs)) (frzs:∀ b o u,H b=some (.frz o u)->H' b=some (.frz o u)) (tbls:∀ b ps,H b=some (.tbl ps)->∃ more,H' b=some (.tbl (ps++more)))
    (ns:∀ m,s.heap.Ns X.env.locals m->h'.Ns X.env.locals m) (hok:dZ X.prog X.w H' h') (hg:AllBare g') :
    Inv X pins σ H' { s with heap:=h',gens:=g',drawn:=d',toks:=t' }:=by
  have neL:∀ b o,X.s₀.heap.get? b=some o->b≠X.env.locals:=fun b o e=>Nat.ne_of_lt (Nat.lt_of_lt_of_le (Heap.lt_size e) I.ok.above)
  have neC:∀ b o,X.s₀.heap.get? b=some o->b∉X.ex->b∉ch:=fun b o e hx hb=>by
    rcases (hch b hb).1 with z | z
    · exact hx z
    · exact absurd (Nat.lt_of_lt_of_le (Heap.lt_size e) z) (Nat.lt_irrefl _)
  have cellK:∀ x c,X.env.cells.lookup x=some c->∀ v,s.heap.IsCell c v->h'.IsCell c v:=fun x c e v ⟨o,ho,hd⟩=>by
    have nch:c∉ch:=fun z=>(hch c z).2.2.1 x c e rfl
    by_cases hc:c∈X.fs
    · obtain ⟨sl,q⟩:=slot c o (I.cne x c e) hc nch ho (I.freeC x c e)
      exact ⟨_,q,hd⟩
    · exact ⟨o,keep c o (I.cne x c e) hc nch ho (I.freeC x c e),hd⟩
  refine ⟨I.ok,I.os,hg,⟨fun b o e n hb hx=>?_,fun b o e n hb hx=>?_,fun b o e n hx=>?_,fun b o e hx=>?_,fun b xs e=>tups b xs (I.base.tups b xs e),fun b o xs e=>frzs b o xs (I.base.frzs b o xs e),fun b ps e=>?_⟩,?_,fun x c e=>?_,?_,fun x c e=>?_,fun p hp=>?_,hok,I.len⟩
  · exact keep b o (neL b o e) hb (neC b o e hx) (I.base.keep b o e n hb hx) (I.base.free b o e n hx)
  · obtain ⟨sl,e1⟩:=I.base.slot b o e n hb hx
    obtain ⟨sl',e2⟩:=slot b _ (neL b o e) hb (neC b o e hx) e1 (I.base.free b o e n hx)
    exact ⟨sl',e2⟩
  · obtain ⟨o',e1⟩:=I.base.there b o e hx
    exact free b o' (neC b o e hx) e1 (I.base.free b o e n hx)
  · obtain ⟨o',e1⟩:=I.base.there b o e hx
    exact there b o' (neC b o e hx) e1
  · obtain ⟨m1,e1⟩:=I.base.tbls b ps e
    obtain ⟨m2,e2⟩:=tbls b _ e1
    exact ⟨m1++m2,by rw [e2,Array.append_assoc]⟩
  · obtain ⟨m,hn,hl⟩:=I.loc
    refine ⟨m,ns m hn,fun i x v e1 e2 e3=>?_⟩
    obtain ⟨u,r,l⟩:=hl i x v e1 e2 e3
    refine ⟨u,r,?_⟩
    rcases l with l | ⟨k,c,e,z⟩
    · exact .inl l
    · exact .inr ⟨k,c,e,cellK x c e _ z⟩
  · obtain ⟨v,z⟩:=I.cell x c e
    exact ⟨v,cellK x c e v z⟩
  · obtain ⟨m,⟨o,_,_,ho,_⟩,_⟩:=I.loc
    exact free _ o (fun z=>(hch _ z).2.1 rfl) ho I.free
  · obtain ⟨v,o,ho,hd⟩:=I.cell x c e
    exact free c o (fun z=>(hch c z).2.2.1 x c e rfl) ho (I.freeC x c e)
  · obtain ⟨e,n,ne,nf,d⟩:=I.pin p hp
    have nch:p.1∉ch:=fun z=>(hch p.1 z).2.2.2 p hp rfl
    exact ⟨keep p.1 p.2 ne nf nch e n,free p.1 p.2 nch e n,ne,nf,d⟩
theorem Inv.un {t':Nat} (I:Inv X pins σ H s) (u:Un X.fs [] H H' s.heap h') (hok:dZ X.prog X.w H' h'):Inv X pins σ H' { s with heap:=h',toks:=t' }:=by
  obtain ⟨m,⟨o,es,ep,ho,r⟩,_⟩:=id I.loc
  obtain ⟨sl,hL⟩:=u.any ho I.free (by simp)
  exact I.step (g':=s.gens) (d':=s.drawn) (ch:=[]) (fun _ z=>nomatch z) (fun b o _ hb _ e n=>u.keep b o e n hb (by simp)) (fun b o _ hb _ e n=>u.slot b o e n hb (by simp)) (fun b o _ e n=>u.free b o e n (by simp)) (fun b o _ e=>u.there b o e (by simp)) u.tups u.frzs u.tbls (fun m' hm=>by
    obtain ⟨o',es',ep',ho',r'⟩:=hm
    rw [ho] at ho'; cases ho'
    exact ⟨_,es',ep',hL,r'⟩) hok I.bare
theorem Inv.call {g':Array GenState} {t':Nat} {d':Drawn} {ch:List Addr} (I:Inv X pins σ H s) (u:Un (i4 X.stack) ch H H' s.heap h') (hok:dZ X.prog X.w H' h') (hg:AllBare g')
    (hch:∀ b∈ch,(b∈X.ex\/X.s₀.heap.objs.size<=b)/\b≠X.env.locals/\(∀ x c,X.env.cells.lookup x=some c->c≠b)/\∀ p∈X.pn++pins,p.1≠b) :
    Inv X pins σ H' { s with heap:=h',gens:=g',drawn:=d',toks:=t' }:=by
  obtain ⟨m,⟨o,es,ep,ho,r⟩,_⟩:=id I.loc
  obtain ⟨sl,hL⟩:=u.any ho I.free fun z=>(hch _ z).2.1 rfl
  exact I.step (ch:=ch) hch (fun b o hL hb hc e n=>u.keep b o e n (fun z=>(List.mem_cons.mp (I.stkSub b z)).elim hL hb) hc) (fun b o _ _ hc e n=>u.any e n hc) (fun b o hc e n=>u.free b o e n hc) (fun b o hc e=>u.there b o e hc) u.tups u.frzs u.tbls (fun m' hm=>by
    obtain ⟨o',es',ep',ho',r'⟩:=hm
    rw [ho] at ho'; cases ho'
    exact ⟨_,es',ep',hL,r'⟩) hok hg
theorem Inv.turned {t':Nat} {it:Addr} (I:Inv X pins σ H s) (k:∀ b o,b≠it->s.heap.get? b=some o->h'.get? b=some o) (hn:H it=none) (hL:it≠X.env.locals)
    (h1:it∈X.ex\/X.s₀.heap.objs.size<=it) (h2:∀ x c,X.env.cells.lookup x=some c->c≠it) (h3:∀ p∈X.pn++pins,p.1≠it):Inv X pins σ H { s with heap:=h',toks:=t' }:=by
  have nit:∀ b u,H b=some u->b≠it:=fun b u e z=>by rw [z,hn] at e; cases e
  refine I.step (g':=s.gens) (d':=s.drawn) (ch:=[it]) (fun b hb=>?_) (fun b o _ _ hc e _=>k b o (fun z=>hc (by simp [z])) e) (fun b o _ _ hc e _=>⟨o.slots,k b o (fun z=>hc (by simp [z])) e⟩) (fun _ _ _ _ n=>n)
    (fun b o hc e=>⟨o,k b o (fun z=>hc (by simp [z])) e⟩) (fun _ _ e=>e) (fun _ _ _ e=>e) (fun b ps e=>⟨#[],by rw [e]; simp⟩) (fun m hm=>?_) (fun b u e=>?_) I.bare
  · have e:b=it:=by simpa using hb
    subst e
    exact ⟨h1,hL,h2,h3⟩
  · obtain ⟨o,es,ep,ho,r⟩:=hm
    exact ⟨o,es,ep,k _ o (Ne.symm hL) ho,r⟩
  · refine (I.hok b u e).stay (fun c v hc q=>k c v ?_ q) (fun _ q=>q) fun _ _ q=>q
    rcases hc with z | z
    · rw [z]; exact nit b u e
    · exact nit c _ z
theorem Inv.tok (I:Inv X pins σ H s) (t:Nat):Inv X pins σ H { s with toks:=t }:=I.un (h':=s.heap) (t':=t) Un.refl I.hok
theorem Inv.kept {t':Nat} (I:Inv X pins σ H s) (k:∀ b u,s.heap.get? b=some u->h'.get? b=some u):Inv X pins σ H { s with heap:=h',toks:=t' }:=I.un (Un.kept k) (I.hok.kept k)
theorem Inv.laid {a:Addr} {o:HO} {t':Nat} (I:Inv X pins σ H s) (k:∀ b u,s.heap.get? b=some u->h'.get? b=some u) (hp:s.heap.objs.size<=a) (new:bE X.prog X.w (upd H a o) h' a o) :
    Inv X pins σ (upd H a o) { s with heap:=h',toks:=t' }:=I.un (Un.laid k hp (I.hok.fresh hp)) (I.hok.laid k hp new)
theorem Inv.write {x e:Addr} {o:HO} {t':Nat} (I:Inv X pins σ H s) (mu:xx (H x)) (he:e=x\/H e=some (.own x)) (k:∀ b u,b≠e->s.heap.get? b=some u->h'.get? b=some u) (heo:∃ u,h'.get? e=some u)
    (new:bE X.prog X.w (upd H x o) h' x o):Inv X pins σ (upd H x o) { s with heap:=h',toks:=t' }:=I.un (Un.write mu he k heo) (I.hok.write mu he k heo new)
theorem Inv.weak {σ':List (Option V)} (I:Inv X pins σ H s) (hl:σ'.length=σ.length) (w:∀ (i:Nat) v,σ'[i]? = some (some v)->σ[i]? = some (some v)):Inv X pins σ' H s :=
  ⟨I.ok,I.os,I.bare,I.base,let ⟨m,hn,hl'⟩:=I.loc; ⟨m,hn,fun i x v e1 e2 e3=>hl' i x v e1 (w i v e2) e3⟩,I.cell,I.free,I.freeC,I.pin,I.hok,hl.trans I.len⟩
theorem Inv.pins_of {pins':List (Addr × Obj)} (I:Inv X pins σ H s) (h:∀ p∈pins',s.heap.get? p.1=some p.2/\H p.1=none/\p.1≠X.env.locals/\p.1∉X.fs/\∀ v,p.2.data≠.cell v):Inv X pins' σ H s :=
  ⟨I.ok,I.os,I.bare,I.base,I.loc,I.cell,I.free,I.freeC,fun p hp=>(List.mem_append.mp hp).elim (fun z=>I.pin p (List.mem_append_left _ z)) (h p),I.hok,I.len⟩
theorem sX {N:List Str} (hN:N.Nodup) {i j:Nat} {x:Str} (a:N[i]? = some x) (b:N[j]? = some x):i=j:=by
  obtain ⟨h1,e1⟩:=List.getElem?_eq_some_iff.mp a
  obtain ⟨h2,e2⟩:=List.getElem?_eq_some_iff.mp b
  exact (List.getElem_inj hN).mp (e1.trans e2.symm)
theorem qh {M:Model} {A:Around} {E:Value->Shared->Prop} {i:Nat} {x:Str} {v:V} {u:Value} {Q:Unit->Shared->Prop} (I:Inv X pins σ H s) (hN:X.N.Nodup) (hi:X.N[i]? = some x) (hx:Loc X.env.scope x) (r:RelV v u)
    (h:∀ s',Inv X pins (σ.set i (some v)) H s'->(∃ a,Heap.SameBut a s.heap s'.heap/\(a=X.env.locals\/X.env.cells.lookup x=some a))->Q () s') (hf:X.fn x=true\/X.env.scope.names.lookup x=some .local:=by first | exact .inl rfl | exact .inr rfl | assumption):wpAny M A (storeName X.env x u) Q E s:=by
  obtain ⟨m,hn,hl⟩:=id I.loc
  have hcls:(X.env.scope.kind == .class || (X.env.scope.kind == .module&&X.env.locals != X.env.globals))=false:=by rw [I.ok.kind]; rfl
  have hiσ:i < σ.length:=by rw [I.len]; exact (List.getElem?_eq_some_iff.mp hi).1
  have cne:=I.cne
  have tracked:∀ {a:Addr} {h':Heap},(∃ o,s.heap.get? a=some o/\H a=none)->Heap.SameBut a s.heap h'->dZ X.prog X.w H h':=fun {a h'} ha hs b ob e=>by
    obtain ⟨_,_,hfree⟩:=ha
    refine (I.hok b ob e).stay (fun c w' hc q=>(hs.2 c ?_).trans q) (fun _ q=>q) fun _ _ q=>q
    rintro rfl
    rcases hc with rfl | hc
    · rw [hfree] at e; cases e
    · rw [hfree] at hc; cases hc
  rcases hx with hk | hk
  · refine wpAny_storeName_local hk hn (fun h' hn' hs=>?_) hcls
    obtain ⟨oL,_,_,hoL,_⟩:=id hn
    refine h _ ⟨I.ok,I.os,I.bare,⟨fun b o e n hb hx=>?_,fun b o e n hb hx=>?_,I.base.free,fun b o e hx=>?_,I.base.tups,I.base.frzs,I.base.tbls⟩,⟨_,hn',fun j y v' e1 e2 e3=>?_⟩,fun y c e=>?_,I.free,I.freeC,fun p hp=>?_,tracked ⟨oL,hoL,I.free⟩ hs,by simpa using I.len⟩ ⟨_,hs,.inl rfl⟩
    · exact (hs.2 b (Nat.ne_of_lt (Nat.lt_of_lt_of_le (Heap.lt_size e) I.ok.above))).trans (I.base.keep b o e n hb hx)
    · obtain ⟨sl,e1⟩:=I.base.slot b o e n hb hx
      exact ⟨sl,(hs.2 b (Nat.ne_of_lt (Nat.lt_of_lt_of_le (Heap.lt_size e) I.ok.above))).trans e1⟩
    · obtain ⟨o',e1⟩:=I.base.there b o e hx
      exact ⟨o',(hs.2 b (Nat.ne_of_lt (Nat.lt_of_lt_of_le (Heap.lt_size e) I.ok.above))).trans e1⟩
    · by_cases hj:j=i
      · subst hj
        rw [hi] at e1; cases e1
        rw [List.getElem?_set_self hiσ] at e2
        cases e2
        exact ⟨u,r,.inl ⟨hk,by simp⟩⟩
      · rw [List.getElem?_set_ne (Ne.symm hj)] at e2
        obtain ⟨u',r',q⟩:=hl j y v' e1 e2 e3
        refine ⟨u',r',?_⟩
        rcases q with ⟨k,e⟩ | ⟨k,c,e,z⟩
        · refine .inl ⟨k,?_⟩
          have:y≠x:=fun e=>hj (sX hN e1 (e▸hi))
          simp [this,e]
        · exact .inr ⟨k,c,e,z.sameBut hs (cne y c e)⟩
    · obtain ⟨w',z⟩:=I.cell y c e
      exact ⟨w',z.sameBut hs (cne y c e)⟩
    · obtain ⟨e,n,ne,nf,d⟩:=I.pin p hp
      exact ⟨(hs.2 p.1 ne).trans e,n,ne,nf,d⟩
  · have hfn:X.fn x=true:=by
      rcases hf with z | z
      · exact z
      · rw [z] at hk; cases hk
    obtain ⟨c,hc⟩:=I.ok.has x (.inl hk)
    obtain ⟨w',z⟩:=I.cell x c hc
    refine wpAny_storeName_cell I.ok.kind hk hc z (fun h' hc' hs=>?_)
    obtain ⟨oc,hoc,hocd⟩:=id z
    refine h { s with heap:=h' } ⟨I.ok,I.os,I.bare,⟨fun b o e n hb hx=>?_,fun b o e n hb hx=>?_,I.base.free,fun b o e hx=>?_,I.base.tups,I.base.frzs,I.base.tbls⟩,⟨m,hn.sameBut hs (Ne.symm (cne x c hc)),fun j y v' e1 e2 e3=>?_⟩,fun y c' e=>?_,I.free,I.freeC,fun p hp=>?_,tracked ⟨oc,hoc,I.freeC x c hc⟩ hs,by simpa using I.len⟩ ⟨c,hs,.inr hc⟩
    · exact (hs.2 b (Nat.ne_of_lt (Nat.lt_of_lt_of_le (Heap.lt_size e) (I.ok.cab x c hfn hc)))).trans (I.base.keep b o e n hb hx)
    · obtain ⟨sl,e1⟩:=I.base.slot b o e n hb hx
      exact ⟨sl,(hs.2 b (Nat.ne_of_lt (Nat.lt_of_lt_of_le (Heap.lt_size e) (I.ok.cab x c hfn hc)))).trans e1⟩
    · obtain ⟨o',e1⟩:=I.base.there b o e hx
      exact ⟨o',(hs.2 b (Nat.ne_of_lt (Nat.lt_of_lt_of_le (Heap.lt_size e) (I.ok.cab x c hfn hc)))).trans e1⟩
    · by_cases hj:j=i
      · subst hj
        rw [hi] at e1; cases e1
        rw [List.getElem?_set_self hiσ] at e2
        cases e2
        exact ⟨u,r,.inr ⟨.inl hk,c,hc,hc'⟩⟩
      · rw [List.getElem?_set_ne (Ne.symm hj)] at e2
        obtain ⟨u',r',q⟩:=hl j y v' e1 e2 e3
        refine ⟨u',r',?_⟩
        rcases q with q | ⟨k,c',e,z'⟩
        · exact .inl q
        · refine .inr ⟨k,c',e,z'.sameBut hs ?_⟩
          rintro rfl
          exact hj (sX hN e1 (I.ok.inj _ _ _ e hc▸hi))
    · by_cases hcc:c'=c
      · subst hcc; exact ⟨_,hc'⟩
      · obtain ⟨w2,z2⟩:=I.cell y c' e
        exact ⟨w2,z2.sameBut hs hcc⟩
    · obtain ⟨e,n,ne,nf,d⟩:=I.pin p hp
      refine ⟨(hs.2 p.1 ?_).trans e,n,ne,nf,d⟩
      intro q
      rw [q,hoc] at e
      have q':oc=p.2:=Option.some.inj e
      exact d w' (by rw [<- q']; exact hocd)
theorem sD {M:Model} {A:Around} {E:Value->Shared->Prop} {i:Nat} {x:Str} {v:V} {u:Value} {Q:Unit->Shared->Prop} (I:Inv X pins σ H s) (hN:X.N.Nodup) (hi:X.N[i]? = some x) (hx:Loc X.env.scope x) (r:RelV v u)
    (h:∀ s',Inv X pins (σ.set i (some v)) H s'->Q () s') (hf:X.fn x=true\/X.env.scope.names.lookup x=some .local:=by first | exact .inl rfl | exact .inr rfl | assumption):wpAny M A (storeName X.env x u) Q E s :=
  qh I hN hi hx r (fun s' I' _=>h s' I') hf
theorem Inv.call' {s':Shared} {ch:List Addr} (I:Inv X pins σ H s) (ho:s'.os=s.os) (u:Un (i4 X.stack) ch H H' s.heap s'.heap) (hok:dZ X.prog X.w H' s'.heap) (hg:AllBare s'.gens)
    (hch:∀ b∈ch,(b∈X.ex\/X.s₀.heap.objs.size<=b)/\b≠X.env.locals/\(∀ x c,X.env.cells.lookup x=some c->c≠b)/\∀ p∈X.pn++pins,p.1≠b):Inv X pins σ H' s':=by
  obtain ⟨h',g',d',t',o'⟩:=s'
  have e:o'=s.os:=ho
  subst e
  exact I.call (g':=g') (t':=t') (d':=d') u hok hg hch
end
noncomputable abbrev XK:=Value->Option Addr->Hp->Prop
noncomputable abbrev St:=List (Option V)
noncomputable abbrev VK:=V->Hp->Prop
noncomputable abbrev TE:=St->Hp->VK->Prop
noncomputable abbrev TT:=St->Hp->(Bool->Hp->Prop)->Prop
noncomputable abbrev TA:=St->Hp->(List V->Hp->Prop)->Prop
structure Ends where
  nx:St->Hp->Prop
  rt:VK
  bk:St->Hp->Prop:=fun _ _=>False
  ct:St->Hp->Prop:=fun _ _=>False
noncomputable abbrev TS:=Ends->St->Hp->Prop
def EP (X:Cx) (pins:List (Addr × Obj)) (σ:St) (Q:VK) (u:Value) (s':Shared):Prop:=∃ v H',Inv X pins σ H' s'/\RelV v u/\Q v H'
def TP (X:Cx) (pins:List (Addr × Obj)) (σ:St) (Q:Bool->Hp->Prop) (b:Bool) (s':Shared):Prop:=∃ H',Inv X pins σ H' s'/\Q b H'
def AP (X:Cx) (pins:List (Addr × Obj)) (σ:St) (Q:List V->Hp->Prop) (us:List Value) (s':Shared):Prop:=∃ vs H',Inv X pins σ H' s'/\Vals vs us/\Q vs H'
def SP (X:Cx) (pins:List (Addr × Obj)) (D:Ends) (f:Flow) (s':Shared):Prop :=
  match f with
  | .next=>∃ σ' H',Inv X pins σ' H' s'/\D.nx σ' H'
  | .brk=>∃ σ' H',Inv X pins σ' H' s'/\D.bk σ' H'
  | .cont=>∃ σ' H',Inv X pins σ' H' s'/\D.ct σ' H'
  | .ret u=>∃ v σ' H',Inv X pins σ' H' s'/\RelV v u/\D.rt v H'
def PE (X:Cx) (e:Expr) (t:TE):Prop :=
  ∀ (pins:List (Addr × Obj)) (s:Shared) (σ:St) (H:Hp) (Q:VK),Inv X pins σ H s->t σ H Q->wpAny (model X.prog X.w) X.A (eval e X.env) (EP X pins σ Q) X.xe s
def PT (X:Cx) (e:Expr) (t:TT):Prop :=
  ∀ (pins:List (Addr × Obj)) (s:Shared) (σ:St) (H:Hp) (Q:Bool->Hp->Prop),Inv X pins σ H s->t σ H Q->wpAny (model X.prog X.w) X.A (isTrue e X.env (eval e X.env)) (TP X pins σ Q) X.xe s
def PW (X:Cx) (e:Expr) (t:TT):Prop :=
  ∀ (whole:Sem Value) (pins:List (Addr × Obj)) (s:Shared) (σ:St) (H:Hp) (Q:Bool->Hp->Prop),Inv X pins σ H s->t σ H Q->wpAny (model X.prog X.w) X.A (isTrue e X.env whole) (TP X pins σ Q) X.xe s
theorem PW.pt {X:Cx} {e:Expr} {t:TT} (h:PW X e t):PT X e t:=h _
def PA (X:Cx) (es:List Expr) (t:TA):Prop :=
  ∀ (pos:Pos) (pins:List (Addr × Obj)) (s:Shared) (σ:St) (H:Hp) (Q:List V->Hp->Prop),Inv X pins σ H s->t σ H Q->wpAny (model X.prog X.w) X.A (spliced (backTo pos (starEach es X.env))) (AP X pins σ Q) X.xe s
def PS (X:Cx) (st:Stmt) (t:TS):Prop :=
  ∀ (pins:List (Addr × Obj)) (s:Shared) (σ:St) (H:Hp) (D:Ends),Inv X pins σ H s->t D σ H->wpAny (model X.prog X.w) X.A (exec st X.env) (SP X pins D) X.xe s
def ik (X:Cx) (st:List Stmt) (t:TS):Prop :=
  ∀ (pins:List (Addr × Obj)) (s:Shared) (σ:St) (H:Hp) (D:Ends),Inv X pins σ H s->t D σ H->wpAny (model X.prog X.w) X.A (execs st X.env) (SP X pins D) X.xe s
theorem aF {α:Type} {t:Sem α} {Q Q':α->Shared->Prop} {M:Model} {A:Around} {E:Value->Shared->Prop} {s:Shared} (h:wpAny M A t Q E s) (hQ:∀ a s,Q a s->Q' a s):wpAny M A t Q' E s:=wpAny_mono h hQ fun _ _ x=>x
end L2
namespace L2
open PySem PySem.Spec PyProof.Rows
section
variable {X:Cx}
theorem bin {a b:Expr} {ta tb:TE} (ha:PE X a ta) (hb:PE X b tb) {pins:List (Addr × Obj)} {s:Shared} {σ:St} {H:Hp} {R:V->V->Hp->Prop} (I:Inv X pins σ H s) (h:ta σ H fun x H1=>tb σ H1 fun y H2=>R x y H2)
    {α:Type} {Q:α->Shared->Prop} {f:Value->Value->Sem α}
    (hf:∀ v u s2 x y H2,Inv X pins σ H2 s2->RelV x v->RelV y u->R x y H2->wpAny (model X.prog X.w) X.A (f v u) Q X.xe s2) :
    wpAny (model X.prog X.w) X.A (eval a X.env) (fun v s₁=>wpAny (model X.prog X.w) X.A (eval b X.env) (fun u s₂=>wpAny (model X.prog X.w) X.A (f v u) Q X.xe s₂) X.xe s₁) X.xe s:=by
  refine aF (ha pins s σ H _ I h) fun v s1 ⟨x,H1,I1,r1,q1⟩=>?_
  refine aF (hb pins s1 σ H1 _ I1 q1) fun u s2 ⟨y,H2,I2,r2,q2⟩=>?_
  exact hf v u s2 x y H2 I2 r1 r2 q2
noncomputable def BA (i:Nat):TE:=fun σ H Q=>∃ v,σ[i]? = some (some v)/\Q v H
noncomputable def tC (v:V):TE:=fun _ H Q=>Q v H
theorem AG {i:Nat} {x:Str} {pos:Pos} (hN:X.N[i]? = some x) (hv:A8 X.env.scope x) (hd:(x == ("__debug__" : Str))=false:=by decide) (hcd:(x == ("__classdict__" : Str))=false:=by decide):PE X (.Name x pos) (BA i):=by
  intro pins s σ H Q I h
  obtain ⟨v,e,h⟩:=h
  obtain ⟨m,hn,hl⟩:=I.loc
  obtain ⟨u,r,l⟩:=hl i x v hN e hv
  have fin:EP X pins σ Q u s:=⟨v,H,I,r,h⟩
  rcases l with ⟨hk,hm⟩ | ⟨hk,c,hc,hcell⟩
  · exact wpAny_Name (wpAny_loadName_local I.ok.kind hk hn hm fin) hd
  · rcases hk with hk | hk
    · exact wpAny_Name (wpAny_loadName_cell I.ok.kind hk hc hcell fin) hd
    · exact wpAny_Name (wpAny_loadName_free I.ok.kind hk hc hcell fin hcd) hd
theorem ar {i j pos}:PE X (.Constant (.int i) j pos) (tC (.int i)):=fun _ _ _ H _ I h=>wpAny_Constant_int ⟨.int i,H,I.tok _,⟨_,rfl⟩,h⟩
theorem jx {b j pos}:PE X (.Constant (.bool b) j pos) (tC (.bl b)):=fun _ _ _ H _ I h=>Constant_bool ⟨.bl b,H,I,rfl,h⟩
theorem bV {x j pos}:PE X (.Constant (.str x) j pos) (tC (.str x)):=fun _ _ _ H _ I h=>Calls.Constant_str ⟨.str x,H,I.tok _,⟨_,rfl⟩,h⟩
def Gl (X:Cx) (x:Str):Prop:=X.env.kindOf x=some .globalImplicit
theorem jj {E:Value->Shared->Prop} {pins:List (Addr × Obj)} {s:Shared} {σ:St} {H:Hp} {x:Str} {u:Value} {pos:Pos} {Q:Value->Shared->Prop} (I:Inv X pins σ H s) (hg:Gl X x) (hm:X.mg x=some u) (h:Q u s)
    (hd:(x == ("__debug__" : Str))=false:=by decide):wpAny (model X.prog X.w) X.A (eval (.Name x pos) X.env) Q E s :=
  Calls.Name_function_global I.ok.kind hg (Calls.loadGlobal_global (by rw [I.ok.glob]; exact I.mod.glob.keeps I.bk) hm h) hd
theorem gB {E:Value->Shared->Prop} {pins:List (Addr × Obj)} {s:Shared} {σ:St} {H:Hp} {x:Str} {u:Value} {pos:Pos} {Q:Value->Shared->Prop} (I:Inv X pins σ H s) (hg:Gl X x) (hm:X.mg x=none) (hv:bootBuiltins x=some u) (h:Q u s)
    (hn:x≠"__name__":=by decide) (hd:(x == ("__debug__" : Str))=false:=by decide):wpAny (model X.prog X.w) X.A (eval (.Name x pos) X.env) Q E s:=by
  obtain ⟨mb,h1,h2⟩:=I.mod.blt
  exact Calls.Name_function_global I.ok.kind hg (Calls.loadGlobal_builtin (by rw [I.ok.glob]; exact I.mod.glob.keeps I.bk) hm (by rw [I.ok.blt]; exact h1.keeps I.bk) ((h2 x hn).trans hv) h) hd
theorem zP {x:Str} {v:V} {u:Value} {pos:Pos} (hg:Gl X x) (hm:X.mg x=some u) (r:RelV v u) (hd:(x == ("__debug__" : Str))=false:=by decide):PE X (.Name x pos) (tC v) :=
  fun _ _ _ H _ I h=>jj I hg hm ⟨v,H,I,r,h⟩ hd
theorem u7 {x:Str} {v:V} {u:Value} {pos:Pos} (hg:Gl X x) (hm:X.mg x=none) (hv:bootBuiltins x=some u) (r:RelV v u) (hn:x≠"__name__":=by decide) (hd:(x == ("__debug__" : Str))=false:=by decide):PE X (.Name x pos) (tC v) :=
  fun _ _ _ H _ I h=>gB I hg hm hv ⟨v,H,I,r,h⟩ hn hd
variable {a b:Expr} {ta tb:TE} {pos:Pos}
def PC (X:Cx) (op:CmpOp) (a b:Expr) (t:TE):Prop :=
  ∀ (pins:List (Addr × Obj)) (s:Shared) (σ:St) (H:Hp) (Q:VK),Inv X pins σ H s->t σ H Q ->
    wpAny (model X.prog X.w) X.A (eval a X.env) (fun v s₁=>wpAny (model X.prog X.w) X.A (eval b X.env) (fun u s₂=>wpAny (model X.prog X.w) X.A (compareOp op v u) (EP X pins σ Q) X.xe s₂) X.xe s₁) X.xe s
theorem y0 (b:Expr) {op:CmpOp} (h:op≠.In) (h2:op≠.NotIn):behindInMarks op b=false:=by
  have e1:(op == CmpOp.In)=false:=by cases op<;>first | rfl | exact absurd rfl h
  have e2:(op == CmpOp.NotIn)=false:=by cases op<;>first | rfl | exact absurd rfl h2
  cases b<;>simp [behindInMarks,e1,e2]
noncomputable def tB (t:TE):TT:=fun σ H Q=>t σ H fun x H1=>∃ c,x = .bl c/\Q c H1
theorem Eg {op:CmpOp} {t:TE} (h:PC X op a b t) (h1:behindInMarks op b=false:=by first | exact y0 _ (by decide) (by decide) | rfl):PT X (.Compare a [op] [b] pos) (tB t):=by
  intro pins s σ H Q I hw
  refine wpAny_isTrue_Compare1 (aF (h pins s σ H _ I hw) fun v s1 h1=>aF h1 fun u s2 h2=>aF h2 fun c s3 ⟨x,H1,I1,r1,q1⟩=>?_) h1
  obtain ⟨d,rfl,q⟩:=q1
  cases r1
  exact wpAny_truthy_bool ⟨H1,I1,q⟩
theorem iE {e:Expr} {t:TE} (h:PE X e t) (he:∀ whole,isTrue e X.env whole=(do let v <- whole; standAt e.pos; holding [v] (truthy v)):=by intro _; rfl):PT X e (tB t):=by
  intro pins s σ H Q I hw
  refine isTrue_plain (aF (h pins s σ H _ I hw) fun v s1 ⟨x,H1,I1,r1,q1⟩=>?_) (he _)
  obtain ⟨d,rfl,q⟩:=q1
  cases r1
  exact wpAny_truthy_bool ⟨H1,I1,q⟩
variable {tA tB':TT} {rest:List Expr}
noncomputable def DQ (t u:TT):TT:=fun σ H Q=>t σ H fun c H1=>if c=true then u σ H1 Q else Q false H1
noncomputable def Eb (t u:TT):TT:=fun σ H Q=>t σ H fun c H1=>if c=true then Q true H1 else u σ H1 Q
noncomputable def DL (t:TT):TT:=fun σ H Q=>t σ H fun c H1=>Q (!c) H1
theorem my (ha:PT X a tA):PW X (.BoolOp .And [a] pos) tA:=by
  intro wh pins s σ H Q I h
  refine isTrue_and (aF (ha pins s σ H Q I h) fun c s1 e=>?_)
  cases c with
  | true=>exact isTrue_and_nil e
  | false=>exact e
theorem kl (ha:PT X a tA):PW X (.BoolOp .Or [a] pos) tA:=by
  intro wh pins s σ H Q I h
  refine isTrue_or (aF (ha pins s σ H Q I h) fun c s1 e=>?_)
  cases c with
  | false=>exact isTrue_or_nil e
  | true=>exact e
theorem n8 (ha:PT X a tA) (hb:PW X (.BoolOp .And (b::rest) pos) tB'):PW X (.BoolOp .And (a::b::rest) pos) (DQ tA tB'):=by
  intro wh pins s σ H Q I h
  refine isTrue_and (aF (ha pins s σ H _ I h) fun c s1 ⟨H1,I1,q1⟩=>?_)
  cases c with
  | true=>exact hb wh pins s1 σ H1 Q I1 q1
  | false=>exact ⟨H1,I1,q1⟩
theorem lM (ha:PT X a tA) (hb:PW X (.BoolOp .Or (b::rest) pos) tB'):PW X (.BoolOp .Or (a::b::rest) pos) (Eb tA tB'):=by
  intro wh pins s σ H Q I h
  refine isTrue_or (aF (ha pins s σ H _ I h) fun c s1 ⟨H1,I1,q1⟩=>?_)
  cases c with
  | true=>exact ⟨H1,I1,q1⟩
  | false=>exact hb wh pins s1 σ H1 Q I1 q1
theorem jd (ha:PT X a tA):PT X (.UnaryOp .Not a pos) (DL tA):=by
  intro pins s σ H Q I h
  exact isTrue_not (ha pins s σ H (fun c H1=>Q (!c) H1) I h)
noncomputable def Dl (ta tb:TE):TE:=fun σ H Q=>ta σ H fun x H1=>∃ c,x = .bl c/\if c=true then tb σ H1 Q else Q (.bl false) H1
noncomputable def De (ta:TE):TE:=fun σ H Q=>ta σ H fun x H1=>∃ c,x = .bl c/\Q (.bl (!c)) H1
theorem rh {op} {t:TE} (h:PE X a t):PE X (.BoolOp op [a] pos) t:=fun pins s σ H Q I hw=>BoolOp_one (h pins s σ H Q I hw)
theorem rG (ha:PE X a ta) (hb:PE X (.BoolOp .And (b::rest) pos) tb):PE X (.BoolOp .And (a::b::rest) pos) (Dl ta tb):=by
  intro pins s σ H Q I h
  refine BoolOp_and (aF (ha pins s σ H _ I h) fun v s1 ⟨x,H1,I1,r1,q1⟩=>?_)
  obtain ⟨c,rfl,q1⟩:=q1
  cases r1
  refine wpAny_truthy_bool ?_
  cases c with
  | true=>exact hb pins s1 σ H1 Q I1 q1
  | false=>exact ⟨.bl false,H1,I1,rfl,q1⟩
theorem xu (ha:PE X a ta):PE X (.UnaryOp .Not a pos) (De ta):=by
  intro pins s σ H Q I h
  refine UnaryOp_ (aF (ha pins s σ H _ I h) fun v s1 ⟨x,H1,I1,r1,q1⟩=>?_)
  obtain ⟨c,rfl,q1⟩:=q1
  cases r1
  exact not_of (wpAny_truthy_bool ⟨.bl (!c),H1,I1,rfl,q1⟩)
end
end L2
namespace L2
open PySem PySem.Spec PyProof.Rows
def aq (K:PySem.W.Frag) (H:Hp) (a:Addr) (xs:List V):Prop :=
  Rd H a (.lst xs) \/
    ∃ (o:Obj) (its:Array Value) (n:Nat),K.lookup a=some o/\o.cls = .type "list"/\o.dict=none/\o.data = .seq its n/\its.size<=sizeLine/\Vals xs its.toList
def eE (K:PySem.W.Frag) (H:Hp) (a:Addr) (xs:List V):Prop :=
  Rd H a (.tup xs) \/
    ∃ (o:Obj) (its:Array Value) (n:Nat),K.lookup a=some o/\o.cls = .type "tuple"/\o.data = .seq its n/\its.size<=sizeLine/\Vals xs its.toList
noncomputable def DT:Value->Option V
  | .none=>some .non
  | .bool b=>some (.bl b)
  | .int i _=>some (.int i)
  | .str x _=>some (.str x)
  | .bytes b _=>some (.byt b)
  | .float b _=>some (.flt b)
  | .ref a=>some (.ref a)
  | .type n=>some (.ty n)
  | _=>none
theorem RelV.abs {x:V} {u:Value} (r:RelV x u):DT u=some x:=by
  cases x with
  | non=>cases r; rfl
  | bl _=>cases r; rfl
  | int _=>obtain ⟨t,rfl⟩:=r; rfl
  | str _=>obtain ⟨t,rfl⟩:=r; rfl
  | byt _=>obtain ⟨t,rfl⟩:=r; rfl
  | flt _=>obtain ⟨t,rfl⟩:=r; rfl
  | ref _=>cases r; rfl
  | ty _=>cases r; rfl
theorem RelV.inj {x y:V} {u:Value} (r:RelV x u) (q:RelV y u):x=y:=Option.some.inj (r.abs.symm.trans q.abs)
theorem Vals.inj:∀ {xs ys:List V} {us:List Value},Vals xs us->Vals ys us->xs=ys
  | _,_,_,.nil,.nil=>rfl
  | _,_,_,.cons r t,.cons r' t'=>by rw [r.inj r',Vals.inj t t']
section
variable {X:Cx} {pins:List (Addr × Obj)} {σ:St} {H:Hp} {s:Shared} {a:Addr} {xs ys:List V}
theorem aq.of {K:PySem.W.Frag} (h:H a=some (.lst xs)):aq K H a xs:=.inl (.inl h)
theorem eE.of {K:PySem.W.Frag} (h:H a=some (.tup xs)):eE K H a xs:=.inl (.inl h)
theorem Inv.list (I:Inv X pins σ H s) (h:aq X.K H a xs):∃ its:List Value,Vals xs its/\PlainL s.heap a its.toArray/\xs.length<=sizeLine:=by
  rcases h with h | ⟨o,its,n,hk,hc,hd,hs,hz,r⟩
  · obtain ⟨z,its,n,r,e⟩:=h.ok I.hok
    exact ⟨its,r,⟨_,n,e,rfl,rfl,rfl⟩,z⟩
  · refine ⟨its.toList,r,⟨o,n,I.kIn a o hk,hc,hd,by simpa using hs⟩,?_⟩
    have e:=r.length
    simp only [Array.length_toList] at e
    omega
theorem Inv.tuple (I:Inv X pins σ H s) (h:eE X.K H a xs):∃ its:List Value,Vals xs its/\IsTup s.heap a its.toArray/\xs.length<=sizeLine:=by
  rcases h with h | ⟨o,its,n,hk,hc,hs,hz,r⟩
  · obtain ⟨z,its,r,p⟩:=h.ok I.hok
    exact ⟨its,r,p,z⟩
  · refine ⟨its.toList,r,⟨o,I.kIn a o hk,hc,n,by simpa using hs⟩,?_⟩
    have e:=r.length
    simp only [Array.length_toList] at e
    omega
theorem Inv.list_inj (I:Inv X pins σ H s) (h:aq X.K H a xs) (h':aq X.K H a ys):xs=ys:=by
  obtain ⟨its,r,⟨o,n,e,_,_,d⟩,_⟩:=I.list h
  obtain ⟨its',r',⟨o',n',e',_,_,d'⟩,_⟩:=I.list h'
  rw [e] at e'; cases e'
  rw [d] at d'
  injection d' with d1 _
  have:its=its':=by simpa using congrArg Array.toList d1
  subst this
  exact r.inj r'
end
noncomputable abbrev Cx.wish (X:Cx) (E:Value->Shared->Prop):Cx:={ X with xe:=E }
noncomputable abbrev Cx.nox (X:Cx):Cx:=X.wish fun _ _=>False
theorem Cx.Ok.wish {X:Cx} (ok:X.Ok) (E:Value->Shared->Prop):(X.wish E).Ok :=
  ⟨ok.mod,ok.kind,ok.glob,ok.blt,ok.above,ok.inj,ok.has,ok.cab,ok.hd,ok.frames,ok.stk,ok.exf,ok.bs,ok.bsz,ok.noex,ok.exfs,ok.funs,ok.frf⟩
theorem Cx.Ok.unwish {X:Cx} {E:Value->Shared->Prop} (ok:(X.wish E).Ok):X.Ok :=
  ⟨ok.mod,ok.kind,ok.glob,ok.blt,ok.above,ok.inj,ok.has,ok.cab,ok.hd,ok.frames,ok.stk,ok.exf,ok.bs,ok.bsz,ok.noex,ok.exfs,ok.funs,ok.frf⟩
section
variable {X:Cx} {pins:List (Addr × Obj)} {σ:St} {H:Hp} {s:Shared} {E:Value->Shared->Prop}
theorem Inv.wish (I:Inv X pins σ H s) (E:Value->Shared->Prop):Inv (X.wish E) pins σ H s:=⟨I.ok.wish E,I.os,I.bare,I.base,I.loc,I.cell,I.free,I.freeC,I.pin,I.hok,I.len⟩
theorem Inv.unwish (I:Inv (X.wish E) pins σ H s):Inv X pins σ H s:=⟨I.ok.unwish,I.os,I.bare,I.base,I.loc,I.cell,I.free,I.freeC,I.pin,I.hok,I.len⟩
theorem SP.unwish {D:Ends} {f:Flow} {s':Shared} (h:SP (X.wish E) pins D f s'):SP X pins D f s':=by
  cases f with
  | next=>obtain ⟨σ',H',I,q⟩:=h; exact ⟨σ',H',I.unwish,q⟩
  | brk=>obtain ⟨σ',H',I,q⟩:=h; exact ⟨σ',H',I.unwish,q⟩
  | cont=>obtain ⟨σ',H',I,q⟩:=h; exact ⟨σ',H',I.unwish,q⟩
  | ret u=>obtain ⟨v,σ',H',I,r,q⟩:=h; exact ⟨v,σ',H',I.unwish,r,q⟩
theorem ik.nox {st:List Stmt} {t:TS} (h:ik X.nox st t):ik X st t:=fun pins s σ H D I hw =>
  wpAny_mono (h pins s σ H D (I.wish _) hw) (fun _ _ q=>q.unwish) fun _ _ z=>False.elim z
end
section
variable {X:Cx} {st:Stmt} {rest:List Stmt} {t u:TS} {e:Expr} {te:TE} {pos:Pos}
noncomputable def CP:TS:=fun D σ H=>D.nx σ H
noncomputable def D6 (t u:TS):TS:=fun D σ H=>t { D with nx:=u D } σ H
theorem eA:ik X [] CP:=fun _ _ σ H _ I h=>wpAny_execs_nil ⟨σ,H,I,h⟩
theorem au (h1:PS X st t) (h2:ik X rest u):ik X (st::rest) (D6 t u):=by
  intro pins s σ H D I h
  refine wpAny_execs_cons (aF (h1 pins s σ H { D with nx:=u D } I h) fun f s1 q=>?_)
  cases f with
  | next =>
    obtain ⟨σ',H',I',q⟩:=q
    exact h2 pins s1 σ' H' D I' q
  | ret v=>exact q
  | brk=>exact q
  | cont=>exact q
theorem ao (h1:PS X st t):ik X [st] t:=by
  intro pins s σ H D I h
  refine wpAny_execs_cons (aF (h1 pins s σ H D I h) fun f s1 q=>?_)
  cases f with
  | next=>exact wpAny_execs_nil q
  | ret v=>exact q
  | brk=>exact q
  | cont=>exact q
theorem Inv.quiet {pins:List (Addr × Obj)} {σ:St} {H:Hp} {s:Shared} (I:Inv X pins σ H s):interactive X.env=false:=by simp [interactive,I.ok.kind]
noncomputable def Dr (te:TE):TS:=fun D σ H=>te σ H fun _ H1=>D.nx σ H1
theorem aR (he:PE X e te) (hs:swapsWith e none pos.line X.env=pure false:=by rfl):PS X (.Expr e pos) (Dr te):=by
  intro pins s σ H D I h
  exact wpAny_Expr_any (aF (he pins s σ H _ I h) fun v s1 ⟨x,H1,I1,r1,q1⟩=>⟨σ,H1,I1,q1⟩) I.quiet hs
noncomputable def Bl (te:TE):TS:=fun D σ H=>te σ H D.rt
theorem aW (he:PE X e te):PS X (.Return (some e) pos) (Bl te):=by
  intro pins s σ H D I h
  exact wpAny_Return_some (aF (he pins s σ H _ I h) fun v s1 ⟨x,H1,I1,r1,q1⟩=>⟨x,σ,H1,I1,r1,q1⟩)
noncomputable def DJ (c:TT) (t u:TS):TS:=fun D σ H=>c σ H fun b H1=>if b=true then t D σ H1 else u D σ H1
theorem fX {c:Expr} {a b:List Stmt} {tc:TT} (hc:PT X c tc) (ha:ik X a t) (hb:ik X b u):PS X (.If c a b pos) (DJ tc t u):=by
  intro pins s σ H D I h
  refine wpAny_If (aF (hc pins s σ H _ I h) fun d s1 ⟨H1,I1,q1⟩=>?_)
  cases d with
  | true=>exact ha pins s1 σ H1 D I1 q1
  | false=>exact hb pins s1 σ H1 D I1 q1
noncomputable def yn:TS:=fun _ _ _=>False
theorem nh:PS X st yn:=fun _ _ _ _ _ _ h=>h.elim
theorem xp {sts:List Stmt}:ik X sts yn:=fun _ _ _ _ _ _ h=>h.elim
end
noncomputable abbrev TG:=V->St->Hp->(St->Hp->Prop)->Prop
noncomputable abbrev pX:=List V->St->Hp->(St->Hp->Prop)->Prop
def PG (X:Cx) (target:Expr) (t:TG):Prop :=
  ∀ (pins:List (Addr × Obj)) (s:Shared) (σ:St) (H:Hp) (v:V) (u:Value) (Q:St->Hp->Prop),Inv X pins σ H s->RelV v u->t v σ H Q ->
    wpAny (model X.prog X.w) X.A (assign target X.env u) (fun _ s'=>∃ σ' H',Inv X pins σ' H' s'/\Q σ' H') X.xe s
def xt (X:Cx) (ts:List Expr) (t:pX):Prop :=
  ∀ (pins:List (Addr × Obj)) (s:Shared) (σ:St) (H:Hp) (vs:List V) (us:List Value) (Q:St->Hp->Prop),Inv X pins σ H s->Vals vs us->t vs σ H Q ->
    wpAny (model X.prog X.w) X.A (assignInOrder ((assignEach ts X.env).map (·.2)) us) (fun _ s'=>∃ σ' H',Inv X pins σ' H' s'/\Q σ' H') X.xe s
noncomputable abbrev yM:=V->V->V->Hp->(Hp->Prop)->Prop
def AJ (X:Cx) (t:yM):Prop :=
  ∀ (pins:List (Addr × Obj)) (s:Shared) (σ:St) (H:Hp) (o i v:V) (ov iv u:Value) (Q:Hp->Prop),Inv X pins σ H s->RelV o ov->RelV i iv->RelV v u->t o i v H Q ->
    wpAny (model X.prog X.w) X.A (setItem ov iv u) (fun _ s'=>∃ H',Inv X pins σ H' s'/\Q H') X.xe s
section
variable {X:Cx} {pos:Pos}
noncomputable def zG (i:Nat):TG:=fun v σ H Q=>Q (σ.set i (some v)) H
theorem aO {i:Nat} {x:Str} (hN:X.N.Nodup) (hi:X.N[i]? = some x) (hx:Loc X.env.scope x) (hf:X.fn x=true\/X.env.scope.names.lookup x=some .local:=by first | exact .inl rfl | exact .inr rfl | assumption):PG X (.Name x pos) (zG i):=by
  intro pins s σ H v u Q I r h
  exact wpAny_assign_Name (sD I hN hi hx r (fun s' I'=>⟨_,H,I',h⟩) hf)
noncomputable def D8:pX:=fun vs σ H Q=>vs=[]/\Q σ H
noncomputable def Dn (t:TG) (u:pX):pX:=fun vs σ H Q=>∃ v r,vs=v::r/\t v σ H fun σ' H'=>u r σ' H' Q
theorem ja:xt X [] D8:=by
  intro pins s σ H vs us Q I r h
  obtain ⟨e,h⟩:=h
  subst e
  cases r
  exact assignInOrder_nil ⟨σ,H,I,h⟩
theorem eQ {e:Expr} {es:List Expr} {t:TG} {u:pX} (h1:PG X e t) (h2:xt X es u)
    (hs:(assignEach (e::es) X.env).map (·.2)=assign e X.env::(assignEach es X.env).map (·.2):=by rfl):xt X (e::es) (Dn t u):=by
  intro pins s σ H vs us Q I r h
  obtain ⟨v,vr,e1,h⟩:=h
  subst e1
  cases r with
  | cons r rr =>
    rw [hs]
    refine assignInOrder_cons (aF (h1 pins s σ H _ _ _ I r h) fun _ s1 ⟨σ1,H1,I1,q1⟩=>?_)
    exact h2 pins s1 σ1 H1 _ _ Q I1 rr q1
noncomputable def Aw (K:PySem.W.Frag) (n:Nat) (t:pX):TG:=fun v σ H Q=>∃ a xs,v = .ref a/\eE K H a xs/\xs.length=n/\t xs σ H Q
theorem tD {es:List Expr} {k:Nat} {t:pX} {n:Nat} (hc:X.calm=true) (h:xt X es t)
    (hn:(assignEach es X.env).length=n:=by rfl) (hst:(assignEach es X.env).findIdx? (·.1)=none:=by rfl):PG X (.Tuple es k pos) (Aw X.K n t):=by
  intro pins s σ H v u Q I r hw
  obtain ⟨a,xs,e1,hq,hl,hw⟩:=hw
  subst e1
  cases r
  obtain ⟨its,rv,ht,hz⟩:=I.tuple hq
  refine assign_Tuple_tuple (I.ok.hd hc) ht (by simp [hn,<- hl,rv.length]) hst fun h' hx=>?_
  have I1:Inv X pins σ H { s with heap:=h' }:=I.kept (t':=s.toks) fun b o e=>hx b o (Nat.ne_of_lt (Heap.lt_size e)) e
  exact h pins _ σ H xs _ Q I1 (by simpa using rv) hw
noncomputable def DU (to ti:TE) (t:yM):TG:=fun v σ H Q=>to σ H fun o H1=>ti σ H1 fun i H2=>t o i v H2 fun H3=>Q σ H3
theorem yb {o i:Expr} {to ti:TE} {t:yM} (ho:PE X o to) (hi:PE X i ti) (hs:AJ X t)
    (ha:∀ v,assign (.Subscript o i pos) X.env v=(do
      let ov <- holding [v] (eval o X.env)
      let iv <- holding [v,ov] (eval i X.env)
      standAt pos
      holding [v,ov,iv] (setItem ov iv v)
      release [v,ov,iv] []):=by intro _; rfl):PG X (.Subscript o i pos) (DU to ti t):=by
  intro pins s σ H v u Q I r h
  rw [ha]
  refine wpAny_bind (wpAny_holding (aF (ho pins s σ H _ I h) fun ov s1 ⟨x,H1,I1,r1,q1⟩=>?_))
  refine wpAny_bind (wpAny_holding (aF (hi pins s1 σ H1 _ I1 q1) fun iv s2 ⟨y,H2,I2,r2,q2⟩=>?_))
  refine wpAny_bind (wpAny_standAt (wpAny_bind (wpAny_holding (aF (hs pins s2 σ H2 x y v ov iv u _ I2 r1 r2 r q2) fun _ s3 ⟨H3,I3,q3⟩=>?_))))
  exact wpAny_release ⟨σ,H3,I3,q3⟩
noncomputable def Cb (te:TE) (g:TG):TS:=fun D σ H=>te σ H fun x H1=>g x σ H1 D.nx
theorem xi {tg e:Expr} {te:TE} {g:TG} (he:PE X e te) (hg:PG X tg g) (hs:swapsWithSole [tg] e pos.line X.env=pure false:=by rfl) (hw:swappedStores [tg] e X.env=pure none:=by rfl)
    (h1:(assignEach [tg] X.env).map (·.2)=[assign tg X.env]:=by rfl):PS X (.Assign [tg] e pos) (Cb te g):=by
  intro pins s σ H D I h
  refine wpAny_Assign_stores (aF (he pins s σ H _ I h) fun v s1 ⟨x,H1,I1,r1,q1⟩=>?_) hs hw
  rw [h1]
  exact aF (hg pins s1 σ H1 x v _ I1 r1 q1) fun _ s2 q=>q
theorem bg {i:Nat} {x:Str} {e:Expr} {te:TE} {pos':Pos} (hN:X.N.Nodup) (hi:X.N[i]? = some x) (hx:Loc X.env.scope x) (he:PE X e te) (hs:swapsWith e (some (.Name x pos')) pos.line X.env=pure false:=by rfl) (hf:X.fn x=true\/X.env.scope.names.lookup x=some .local:=by first | exact .inl rfl | exact .inr rfl | assumption) :
    PS X (.Assign [.Name x pos'] e pos) (Cb te (zG i)):=by
  intro pins s σ H D I h
  refine wpAny_Assign_Name (aF (he pins s σ H _ I h) fun v s1 ⟨y,H1,I1,r1,q1⟩=>?_) hs
  exact sD I1 hN hi hx r1 (fun s2 I2=>⟨_,H1,I2,q1⟩) hf
end
section
variable {X:Cx} {pos:Pos}
end
structure It where
  go:Nat->Hp->Prop
  yld:Nat->Hp->V->Hp->Prop
  stop:Nat->Hp->Prop
def mX (X:Cx) (pins:List (Addr × Obj)) (H:Hp) (b:Addr):Prop :=
  H b=none/\b≠X.env.locals/\b∉X.fs/\(b∈X.ex\/X.s₀.heap.objs.size<=b)/\(∀ x c,X.env.cells.lookup x=some c->c≠b)/\∀ p∈X.pn++pins,p.1≠b
theorem Inv.fpOk {X:Cx} {pins:List (Addr × Obj)} {σ:St} {H H':Hp} {s:Shared} {b:Addr} (I:Inv X pins σ H s) (hb:s.heap.objs.size<=b) (hn:H' b=none):mX X pins H' b:=by
  refine ⟨hn,Nat.ne_of_gt (Nat.lt_of_lt_of_le I.lt hb),I.nofs hb,.inr (Nat.le_trans I.sz hb),fun x c e z=>?_,fun p hp z=>?_⟩
  · obtain ⟨v,q⟩:=I.cell x c e
    exact absurd (Nat.lt_of_lt_of_le q.lt (by rw [z]; exact hb)) (Nat.lt_irrefl _)
  · exact absurd (Nat.lt_of_lt_of_le (Heap.lt_size (I.pin p hp).1) (by rw [z]; exact hb)) (Nat.lt_irrefl _)
structure Turn (P:Program) (w:World) (K:PySem.W.Frag) (tg:Expr) (J:It) (fp:List Addr) (it:Addr) (tn:Nat->Heap->Prop):Prop where
  mem:it∈fp
  obj:∀ i h,tn i h->∀ b∈fp,∃ o,h.get? b=some o/\∀ v,o.data≠.cell v
  keep:∀ i h h',tn i h->(∀ b∈fp,∀ o,h.get? b=some o->h'.get? b=some o)->tn i h'
  item:∀ (X:Cx),X.prog=P->X.w=w->X.K=K->X.calm=true->∀ (i:Nat) (pins:List (Addr × Obj)) (s:Shared) (σ:St) (H:Hp) (E:Value->Shared->Prop),Inv X pins σ H s->(∀ b∈fp,mX X pins H b)->tn i s.heap->J.go i H ->
    wpAny (model P w) X.A (pyNext (.ref it)) (fun r s1=>∃ u,r=some u /\
      wpAny (model P w) X.A (letOwnedTupleGo tg (.ref it) u) (fun _ s2=>∃ x H',Inv X pins σ H' s2/\RelV x u/\J.yld i H x H'/\tn (i+1) s2.heap/\∀ b∈fp,H' b=none) E s1) E s
  done:∀ (X:Cx),X.prog=P->X.w=w->X.K=K->X.calm=true->∀ (i:Nat) (pins:List (Addr × Obj)) (s:Shared) (σ:St) (H:Hp) (E:Value->Shared->Prop),Inv X pins σ H s->(∀ b∈fp,mX X pins H b)->tn i s.heap->J.stop i H ->
    wpAny (model P w) X.A (pyNext (.ref it)) (fun r s1=>r=none/\Inv X pins σ H s1) E s
  self:∀ (A:Around) (i:Nat) (s:Shared) (Q:Value->Shared->Prop) (E:Value->Shared->Prop),tn i s.heap->Q (.ref it) s->wpAny (model P w) A (pyIter (.ref it)) Q E s
noncomputable abbrev TI:=St->Hp->(It->Hp->Prop)->Prop
def DD (X:Cx) (pins:List (Addr × Obj)) (σ:St) (tg:Expr) (R:It->Hp->Prop) (itv:Value) (s2:Shared):Prop :=
  ∃ (it:Addr) (fp:List Addr) (tn:Nat->Heap->Prop) (J:It) (H':Hp),itv = .ref it/\Inv X pins σ H' s2/\Turn X.prog X.w X.K tg J fp it tn/\tn 0 s2.heap/\(∀ b∈fp,mX X pins H' b)/\R J H'
def PI (X:Cx) (tg iter:Expr) (wi:TI):Prop :=
  ∀ (pins:List (Addr × Obj)) (s:Shared) (σ:St) (H:Hp) (R:It->Hp->Prop),Inv X pins σ H s->wi σ H R ->
    wpAny (model X.prog X.w) X.A (eval iter X.env) (fun v s1=>wpAny (model X.prog X.w) X.A (pyIter v) (DD X pins σ tg R) X.xe s1) X.xe s
theorem zv {M:Model} {A:Around} {E:Value->Shared->Prop} {s:Shared} {tg:Expr} {it:Addr} {u:Value} {o:Obj} {n:String} {vs:Array Value} {Q:Unit->Shared->Prop} (ho:s.heap.get? it=some o) (hc:o.cls = .type n) (hd:o.data = .fields vs)
    (hn:["enumerate","zip","dict_itemiterator","dict_reverseitemiterator","odict_iterator","itertools.zip_longest","itertools.pairwise"].contains n=false) (hQ:Q () s):wpAny M A (letOwnedTupleGo tg (.ref it) u) Q E s:=by
  unfold letOwnedTupleGo
  cases tg<;>first
    | exact wpAny_pure hQ
    | (cases u<;>first
        | exact wpAny_pure hQ
        | (refine wpAny_bind (wpAny_load ho ?_)
           rw [hc,hd]
           show wpAny M A (if (["enumerate","zip","dict_itemiterator","dict_reverseitemiterator","odict_iterator","itertools.zip_longest","itertools.pairwise"].contains n&&vs[0]? == some (rawInt _))=true then _ else _) Q E s
           rw [if_neg (by intro h; rw [hn,Bool.false_and] at h; cases h)]
           exact wpAny_pure hQ))
noncomputable def ue (K:PySem.W.Frag) (a:Addr):It :=
  ⟨fun i H=>∃ xs x,aq K H a xs/\xs[i]? = some x,fun i H x H'=>H'=H/\∀ xs,aq K H a xs->xs[i]? = some x,fun i H=>∃ xs,aq K H a xs/\xs.length<=i⟩
noncomputable def rL (lo:Int) (n:Nat):It:=⟨fun i _=>i < n,fun i H x H'=>H'=H/\x = .int (lo+i),fun i _=>n<=i⟩
theorem xA {P:Program} {w:World} {K:PySem.W.Frag} {tg:Expr} (a it:Addr):Turn P w K tg (ue K a) [it] it (fun i h=>h.IsListIter it a i) where
  mem:=by simp
  obj:=fun i h st b hb=>by
    have e:b=it:=by simpa using hb
    subst e
    obtain ⟨o,e,c,d⟩:=st
    exact ⟨o,e,fun v z=>by rw [d] at z; cases z⟩
  keep:=fun i h h' st k=>st.at fun o e=>k it (by simp) o e
  item:=by
    intro X hP hw hK hc i pins s σ H E I hf st hg
    subst hP hw hK
    obtain ⟨xs,x,hq,hx⟩:=hg
    obtain ⟨its,rv,p,hz⟩:=I.list hq
    obtain ⟨u,hu,ru⟩:=rv.get hx
    obtain ⟨f0,f1,f2,f3,f4,f5⟩:=hf it (by simp)
    refine wpAny_pyNext_list_item st p.isList (x:=u) (by simpa using hu) fun h' st' sb=>?_
    have I1:Inv X pins σ H { s with heap:=h' }:=I.turned (t':=s.toks) (fun b o hb e=>(sb.2 b hb).trans e) f0 f1 f3 f4 f5
    obtain ⟨o,e,c,d⟩:=id st'
    exact ⟨u,rfl,zv (s:={ s with heap:=h' }) e c d (by decide) ⟨x,H,I1,ru,⟨rfl,fun ys hy=>by rw [I.list_inj hy hq]; exact hx⟩,st',fun b hb=>(hf b hb).1⟩⟩
  done:=by
    intro X hP hw hK hc i pins s σ H E I hf st hg
    subst hP hw hK
    obtain ⟨xs,hq,hx⟩:=hg
    obtain ⟨its,rv,p,hz⟩:=I.list hq
    obtain ⟨f0,f1,f2,f3,f4,f5⟩:=hf it (by simp)
    have hl:=rv.length
    exact wpAny_pyNext_list_end (I.ok.hd hc) st p.isList (by simp; omega) fun h' eb=>⟨rfl,I.turned (t':=s.toks) (fun b o hb e=>eb b o hb e) f0 f1 f3 f4 f5⟩
  self:=fun _ _ _ _ _ st h=>wpAny_pyIter_listiter st h
theorem v5 {P:Program} {w:World} {K:PySem.W.Frag} {tg:Expr} (it:Addr) (lo:Int) (n:Nat):Turn P w K tg (rL lo n) [it] it (fun i h=>IsRangeIter h it (lo+(i:Nat)*1) ((n:Int) - (i:Nat)) 1) where
  mem:=by simp
  obj:=fun i h st b hb=>by
    have e:b=it:=by simpa using hb
    subst e
    exact ⟨_,st,fun v z=>by
      have z':Data.fields _=Data.cell v:=z
      cases z'⟩
  keep:=fun i h h' st k=>k it (by simp) _ st
  item:=by
    intro X hP hw hK hc i pins s σ H E I hf st hg
    subst hP hw hK
    obtain ⟨f0,f1,f2,f3,f4,f5⟩:=hf it (by simp)
    have W:=Walks.range (prog:=X.prog) (w:=X.w) (I.ok.hd hc) it lo 1 n
    refine W.item i s _ _ hg st fun v h' tk hv st' kk=>?_
    obtain ⟨t,rfl⟩:=hv
    have I1:Inv X pins σ H { s with heap:=h',toks:=tk }:=I.turned (fun b o hb e=>kk b o (by simpa using hb) e) f0 f1 f3 f4 f5
    refine ⟨_,rfl,zv (s:={ s with heap:=h',toks:=tk }) (n:="range_iterator") st' rfl rfl (by decide) ⟨.int (lo+i),H,I1,⟨t,?_⟩,⟨rfl,rfl⟩,st',fun b hb=>(hf b hb).1⟩⟩
    rw [Int.mul_one]
  done:=by
    intro X hP hw hK hc i pins s σ H E I hf st hg
    subst hP hw hK
    obtain ⟨f0,f1,f2,f3,f4,f5⟩:=hf it (by simp)
    exact wpAny_pyNext_range_end (I.ok.hd hc) st (by have:n<=i:=hg; omega) fun h' eb=>⟨rfl,I.turned (t':=s.toks) (fun b o hb e=>eb b o hb e) f0 f1 f3 f4 f5⟩
  self:=fun _ _ _ _ _ st h=>wpAny_pyIter_rangeiter st h
end L2
namespace L2
open PySem PySem.Spec PyProof.Rows
section
variable {X:Cx} {tg:Expr}
noncomputable def CW (K:PySem.W.Frag) (tl:TE):TI:=fun σ H R=>tl σ H fun x H1=>∃ a,x = .ref a/\(∃ xs,aq K H1 a xs)/\R (ue K a) H1
theorem bH {l:Expr} {tl:TE} (hl:PE X l tl):PI X tg l (CW X.K tl):=by
  intro pins s σ H R I h
  refine aF (hl pins s σ H _ I h) fun v s1 ⟨x,H1,I1,r1,q1⟩=>?_
  obtain ⟨a,e,⟨xs,hq⟩,q⟩:=q1
  subst e
  cases r1
  obtain ⟨its,rv,p,hz⟩:=I1.list hq
  refine wpAny_pyIter_list p.isList ?_
  refine ⟨s1.heap.objs.size,[s1.heap.objs.size],_,_,H1,rfl,I1.kept (t':=s1.toks) fun b o e=>Heap.get?_push_of_some _ e,xA a _,⟨_,Heap.get?_push_size _ rfl,rfl,rfl⟩,fun b hb=>?_,q⟩
  have e:b=s1.heap.objs.size:=by simpa using hb
  subst e
  exact I1.fpOk (Nat.le_refl _) (I1.hok.fresh (Nat.le_refl _))
theorem yu {pins:List (Addr × Obj)} {σ:St} {H:Hp} {s:Shared} {R:It->Hp->Prop} {E:Value->Shared->Prop} {lo hi:Int} {t u v:Tok} {tk:Nat} (I:Inv X pins σ H s) (h1 : -(2 ^ 62)<=lo) (h2:lo < 2 ^ 62) (h3 : -(2 ^ 62)<=hi) (h4:hi < 2 ^ 62)
    (q:R (rL lo (hi - lo).toNat) H):wpAny (model X.prog X.w) X.A (pyIter (.ref s.heap.objs.size)) (DD X pins σ tg R) E { s with heap:=s.heap.push { cls:=.type "range",data:=.fields #[.int lo t,.int hi u,.int 1 v] },toks:=tk }:=by
  refine wpAny_pyIter_range (IsRange.new ..) (small_one h1 h2 h3 h4) ?_
  have I1:Inv X pins σ H { s with heap:=s.heap.push { cls:=.type "range",data:=.fields #[.int lo t,.int hi u,.int 1 v] },toks:=tk }:=I.kept fun b o e=>Heap.get?_push_of_some _ e
  refine ⟨(s.heap.push { cls:=.type "range",data:=.fields #[.int lo t,.int hi u,.int 1 v] }).objs.size,[(s.heap.push { cls:=.type "range",data:=.fields #[.int lo t,.int hi u,.int 1 v] }).objs.size],_,_,H,rfl,
    I1.kept (t':=tk) fun b o e=>Heap.get?_push_of_some _ e,v5 _ lo (hi - lo).toNat,?_,fun b hb=>?_,q⟩
  · have e1:lo+((0:Nat):Int)*1=lo:=by simp
    have e2:(((hi - lo).toNat:Nat):Int) - ((0:Nat):Int)=Builtin.Range.rangeSize lo hi 1:=by rw [rangeSize_one]; split<;>omega
    show IsRangeIter _ _ (lo+((0:Nat):Int)*1) ((((hi - lo).toNat:Nat):Int) - ((0:Nat):Int)) 1
    rw [e1,e2]
    exact Heap.get?_push_size _ rfl
  · have e:b=(s.heap.push { cls:=.type "range",data:=.fields #[.int lo t,.int hi u,.int 1 v] }).objs.size:=by simpa using hb
    subst e
    exact I1.fpOk (Nat.le_refl _) (I1.hok.fresh (Nat.le_refl _))
noncomputable def C8 (ta:TA):TI:=fun σ H R=>ta σ H fun vs H1=>∃ j:Int,vs=[.int j]/\-(2 ^ 62)<=j/\j < 2 ^ 62/\R (rL 0 j.toNat) H1
theorem eD {a:Expr} {ta:TA} {p pos:Pos} (hg:Gl X "range") (hm:X.mg "range" = none) (ha:PA X [a] ta) (hs:starEach [a] X.env=[(false,eval a X.env)]:=by rfl):PI X tg (.Call (.Name "range" p) [a] [] pos) (C8 ta):=by
  intro pins s σ H R I h
  refine Call_ (gB I hg hm boot_range (PyProof.Rows.callWith_type1 (aF (ha pos pins s σ H _ I h) fun us s1 ⟨vs,H1,I1,r1,q1⟩=>?_) hs rfl))
  obtain ⟨j,e,q1,q2,q⟩:=q1
  subst e
  cases r1 with
  | cons r rr =>
    cases rr
    obtain ⟨t,rfl⟩:=r
    exact call_range_1 (yu I1 (by omega) (by omega) q1 q2 (by simpa using q))
noncomputable def DM (wi:TI) (g:TG) (tb:TS):TS:=fun D σ H=>wi σ H fun J H1=>∃ W:Nat->Nat->St->Hp->Prop,(∃ m,W 0 m σ H1)/\∀ i m σ H,W i m σ H ->
  (J.stop i H/\D.nx σ H)\/(J.go i H/\∃ N:St->Hp->Prop,(∀ σ' H',N σ' H'->∃ m',m' < m/\W (i+1) m' σ' H')/\∀ x H',J.yld i H x H'->g x σ H' fun σ2 H2=>tb { D with nx:=N,ct:=N,bk:=D.nx } σ2 H2)
noncomputable def kg (fp:List Addr) (h:Heap):List (Addr × Obj):=fp.filterMap fun b=>(h.get? b).map fun o=>(b,o)
theorem iz {fp:List Addr} {h:Heap} {b:Addr} {o:Obj} (hb:b∈fp) (e:h.get? b=some o):(b,o)∈kg fp h:=List.mem_filterMap.mpr ⟨b,hb,by rw [e]; rfl⟩
theorem ye {fp:List Addr} {h:Heap} {p:Addr × Obj} (hp:p∈kg fp h):p.1∈fp/\h.get? p.1=some p.2:=by
  obtain ⟨b,hb,e⟩:=List.mem_filterMap.mp hp
  cases q:h.get? b with
  | none=>rw [q] at e; cases e
  | some o =>
    rw [q] at e
    have e':(b,o)=p:=Option.some.inj e
    subst e'
    exact ⟨hb,q⟩
theorem Inv.pinned {pins:List (Addr × Obj)} {σ:St} {H:Hp} {s:Shared} {fp:List Addr} (I:Inv X pins σ H s) (hf:∀ b∈fp,mX X pins H b) (ho:∀ b∈fp,∃ o,s.heap.get? b=some o/\∀ v,o.data≠.cell v):Inv X (pins++kg fp s.heap) σ H s :=
  I.pins_of fun p hp=>(List.mem_append.mp hp).elim (fun z=>I.pin p (List.mem_append_right _ z)) fun z=>by
    obtain ⟨hb,e⟩:=ye z
    obtain ⟨f0,f1,f2,_⟩:=hf p.1 hb
    obtain ⟨o,e',d⟩:=ho p.1 hb
    rw [e] at e'; cases e'
    exact ⟨e,f0,f1,f2,d⟩
theorem Inv.unpinned {pins pl:List (Addr × Obj)} {σ:St} {H:Hp} {s:Shared} (I:Inv X (pins++pl) σ H s):Inv X pins σ H s:=I.pins_of fun p hp=>I.pin p (List.mem_append_right _ (List.mem_append_left _ hp))
theorem fz {iter:Expr} {body:List Stmt} {wi:TI} {g:TG} {tb:TS} {pos:Pos} (hp:PassesOwn (model X.prog X.w) X.A X.env X.xe) (hc:X.calm=true) (hi:PI X tg iter wi) (hg:PG X tg g) (hb:ik X body tb)
    (hs:∀ x,foldedSetIterable iter X.env x=pure x:=by intro _; rfl):PS X (.For tg iter body [] pos) (DM wi g tb):=by
  intro pins s σ H D I h
  refine wpAny_For (aF (hi pins s σ H _ I h) fun v s1 h1=>aF h1 fun itv s2 h2=>?_) hs
  obtain ⟨it,fp,tn,J,H2,e,I2,T,st2,f2,W,⟨m0,w0⟩,turn⟩:=h2
  subst e
  -- what stays true of the iterator's objects through the loop
  have stat:∀ {H':Hp},(∀ b∈fp,H' b=none)->∀ b∈fp,mX X pins H' b:=fun hn b hb=>⟨hn b hb,(f2 b hb).2⟩
  refine codeAny_forLoop_any (fun n s'=>∃ i σ' H',Inv X pins σ' H' s'/\tn i s'.heap/\(∀ b∈fp,H' b=none)/\W i n σ' H') ?_ m0 ⟨0,σ,H2,I2,st2,fun b hb=>(f2 b hb).1,w0⟩
  rintro n s3 ⟨i,σ3,H3,I3,st3,fr3,w3⟩
  rcases turn i n σ3 H3 w3 with ⟨stop,qn⟩ | ⟨go,N,hN,step⟩
  · refine wpAny_passesOwn hp (aF (T.done X rfl rfl rfl hc i pins s3 σ3 H3 X.xe I3 (stat fr3) st3 stop) fun r s4 ⟨hr,I4⟩=>?_)
    subst hr
    exact wpAny_execs_nil ⟨σ3,H3,I4,qn⟩
  · refine wpAny_passesOwn hp (aF (T.item X rfl rfl rfl hc i pins s3 σ3 H3 X.xe I3 (stat fr3) st3 go) fun r s4 ⟨u,hr,h4⟩=>?_)
    subst hr
    refine wpAny_passesOwn hp (aF h4 fun _ s5 ⟨x,H5,I5,r5,y5,st5,fr5⟩=>?_)
    have I5':=I5.pinned (stat fr5) (T.obj _ _ st5)
    refine wpAny_passesOwn hp (aF (hg _ s5 σ3 H5 x u _ I5' r5 (step x H5 y5)) fun _ s6 ⟨σ6,H6,I6,q6⟩=>?_)
    refine wpAny_passesOwn hp (aF (hb _ s6 σ6 H6 _ I6 q6) fun f s7 q7=>?_)
    have again:∀ {σ7:St} {H7:Hp},Inv X (pins++kg fp s5.heap) σ7 H7 s7->N σ7 H7->∃ m,m < n/\∃ i σ' H',Inv X pins σ' H' s7/\tn i s7.heap/\(∀ b∈fp,H' b=none)/\W i m σ' H':=fun {σ7 H7} I7 n7=>by
      obtain ⟨m',hm,w7⟩:=hN σ7 H7 n7
      refine ⟨m',hm,i+1,σ7,H7,I7.unpinned,T.keep _ _ _ st5 fun b hb o e=>(I7.pin (b,o) (List.mem_append_right _ (List.mem_append_right _ (iz hb e)))).1,fun b hb=>?_,w7⟩
      obtain ⟨o,e,d⟩:=T.obj _ _ st5 b hb
      exact (I7.pin (b,o) (List.mem_append_right _ (List.mem_append_right _ (iz hb e)))).2.1
    cases f with
    | next=>obtain ⟨σ7,H7,I7,n7⟩:=q7; exact again I7 n7
    | cont=>obtain ⟨σ7,H7,I7,n7⟩:=q7; exact again I7 n7
    | brk=>obtain ⟨σ7,H7,I7,q7⟩:=q7; exact ⟨σ7,H7,I7.unpinned,q7⟩
    | ret v=>obtain ⟨x7,σ7,H7,I7,r7,q7⟩:=q7; exact ⟨x7,σ7,H7,I7.unpinned,r7,q7⟩
end
theorem gY {K:PySem.W.Frag} {a:Addr} {xs:List V} {g:TG} {tb:TS} {D:Ends} {σ:St} {H:Hp} (Pv:Nat->St->Hp->Prop) (h0:Pv 0 σ H) (hl:∀ i σ H,i<=xs.length->Pv i σ H->aq K H a xs)
    (hs:∀ i x σ H,xs[i]? = some x->Pv i σ H->g x σ H fun σ2 H2=>tb { D with nx:=Pv (i+1),ct:=Pv (i+1),bk:=D.nx } σ2 H2) (hd:∀ σ H,Pv xs.length σ H->D.nx σ H) :
    ∃ W:Nat->Nat->St->Hp->Prop,(∃ m,W 0 m σ H)/\∀ i m σ H,W i m σ H ->
      ((ue K a).stop i H/\D.nx σ H)\/((ue K a).go i H/\∃ N:St->Hp->Prop,(∀ σ' H',N σ' H'->∃ m',m' < m/\W (i+1) m' σ' H')/\∀ x H',(ue K a).yld i H x H'->g x σ H' fun σ2 H2=>tb { D with nx:=N,ct:=N,bk:=D.nx } σ2 H2):=by
  refine ⟨fun i m σ H=>m=xs.length - i/\i<=xs.length/\Pv i σ H,⟨xs.length,by simp,Nat.zero_le _,h0⟩,?_⟩
  rintro i m σ H ⟨rfl,hi,p⟩
  have q:=hl i σ H hi p
  by_cases hlt:i < xs.length
  · refine .inr ⟨⟨xs,xs[i],q,by simp [hlt]⟩,Pv (i+1),fun σ' H' p'=>⟨xs.length - (i+1),by omega,rfl,hlt,p'⟩,fun x H' y=>?_⟩
    obtain ⟨e,y⟩:=y
    subst e
    exact hs i x σ _ (y xs q) p
  · have e:i=xs.length:=by omega
    subst e
    exact .inl ⟨⟨xs,q,Nat.le_refl _⟩,hd σ H p⟩
theorem fC {lo:Int} {n:Nat} {g:TG} {tb:TS} {D:Ends} {σ:St} {H:Hp} (Pv:Nat->St->Hp->Prop) (h0:Pv 0 σ H)
    (hs:∀ i σ H,i < n->Pv i σ H->g (.int (lo+i)) σ H fun σ2 H2=>tb { D with nx:=Pv (i+1),ct:=Pv (i+1),bk:=D.nx } σ2 H2) (hd:∀ σ H,Pv n σ H->D.nx σ H) :
    ∃ W:Nat->Nat->St->Hp->Prop,(∃ m,W 0 m σ H)/\∀ i m σ H,W i m σ H ->
      ((rL lo n).stop i H/\D.nx σ H)\/((rL lo n).go i H/\∃ N:St->Hp->Prop,(∀ σ' H',N σ' H'->∃ m',m' < m/\W (i+1) m' σ' H')/\∀ x H',(rL lo n).yld i H x H'->g x σ H' fun σ2 H2=>tb { D with nx:=N,ct:=N,bk:=D.nx } σ2 H2):=by
  refine ⟨fun i m σ H=>m=n - i/\i<=n/\Pv i σ H,⟨n,by simp,Nat.zero_le _,h0⟩,?_⟩
  rintro i m σ H ⟨rfl,hi,p⟩
  by_cases hlt:i < n
  · refine .inr ⟨hlt,Pv (i+1),fun σ' H' p'=>⟨n - (i+1),by omega,rfl,hlt,p'⟩,fun x H' y=>?_⟩
    obtain ⟨e,y⟩:=y
    subst e y
    exact hs i σ _ hlt p
  · have e:i=n:=by omega
    subst e
    exact .inl ⟨Nat.le_refl _,hd σ H p⟩
end L2
namespace L2
open PySem PySem.Spec PyProof.Rows
noncomputable abbrev R2:=V->V->Hp->VK->Prop
def fG (X:Cx) (f:Value->Value->Sem Value) (r:R2):Prop :=
  ∀ (pins:List (Addr × Obj)) (s:Shared) (σ:St) (H:Hp) (x y:V) (v u:Value) (Q:VK),Inv X pins σ H s->RelV x v->RelV y u->r x y H Q ->
    wpAny (model X.prog X.w) X.A (f v u) (EP X pins σ Q) X.xe s
def Br (X:Cx) (f:Value->Sem Value) (r:V->Hp->VK->Prop):Prop :=
  ∀ (pins:List (Addr × Obj)) (s:Shared) (σ:St) (H:Hp) (x:V) (v:Value) (Q:VK),Inv X pins σ H s->RelV x v->r x H Q ->
    wpAny (model X.prog X.w) X.A (f v) (EP X pins σ Q) X.xe s
def dY (X:Cx) (f:Value) (r:List V->Hp->VK->Prop):Prop :=
  ∀ (pins:List (Addr × Obj)) (s:Shared) (σ:St) (H:Hp) (xs:List V) (us:List Value) (Q:VK),Inv X pins σ H s->Vals xs us->r xs H Q ->
    wpAny (model X.prog X.w) X.A (call f us) (EP X pins σ Q) X.xe s
noncomputable def zt (r:R2) (ta tb:TE):TE:=fun σ H Q=>ta σ H fun x H1=>tb σ H1 fun y H2=>r x y H2 Q
noncomputable def Ef (r:V->Hp->VK->Prop) (ta:TE):TE:=fun σ H Q=>ta σ H fun x H1=>r x H1 Q
noncomputable def rI (C:Int->Int->Prop) (g:Int->Int->V):R2:=fun x y H Q=>∃ i j,x = .int i/\y = .int j/\C i j/\Q (g i j) H
noncomputable def tX (g:Int->Int->V):R2:=fun x y H Q=>∃ i j,x = .int i/\y = .int j/\Q (g i j) H
noncomputable def rU (g:Int->V):V->Hp->VK->Prop:=fun x H Q=>∃ i,x = .int i/\Q (g i) H
section
variable {X:Cx} {a b c:Expr} {ta tb tc:TE} {pos:Pos}
theorem zh (ha:PE X a ta) (hb:PE X b tb) {pins:List (Addr × Obj)} {s:Shared} {σ:St} {H:Hp} {R:V->V->Hp->Prop} (I:Inv X pins σ H s)
    (h:ta σ H fun x H1=>tb σ H1 fun y H2=>R x y H2) {Q:Value->Shared->Prop} {f:Value->Value->Sem Value}
    (hf:∀ v u s2 x y H2,Inv X pins σ H2 s2->RelV x v->RelV y u->R x y H2->wpAny (model X.prog X.w) X.A (f v u) Q X.xe s2) :
    wpAny (model X.prog X.w) X.A (eval a X.env) (fun v s₁=>wpAny (model X.prog X.w) X.A (eval b X.env) (fun u s₂=>wpAny (model X.prog X.w) X.A (f v u) Q X.xe s₂) X.xe s₁) X.xe s:=by
  refine aF (ha pins s σ H _ I h) fun v s1 ⟨x,H1,I1,r1,q1⟩=>?_
  refine aF (hb pins s1 σ H1 _ I1 q1) fun u s2 ⟨y,H2,I2,r2,q2⟩=>?_
  exact hf v u s2 x y H2 I2 r1 r2 q2
theorem aI {op:Operator} {r:R2} (ho:fG X (binaryOp op) r) (ha:PE X a ta) (hb:PE X b tb):PE X (.BinOp a op b pos) (zt r ta tb):=by
  intro pins s σ H Q I h
  exact wpAny_BinOp (zh ha hb I h fun v u s2 x y H2 I2 rx ry q=>ho pins s2 σ H2 x y v u Q I2 rx ry q)
theorem nY {op:UnaryOp} {r:V->Hp->VK->Prop} (ho:Br X (unaryOp op) r) (ha:PE X a ta):PE X (.UnaryOp op a pos) (Ef r ta):=by
  intro pins s σ H Q I h
  exact UnaryOp_ (aF (ha pins s σ H _ I h) fun v s1 ⟨x,H1,I1,r1,q1⟩=>ho pins s1 σ H1 x v Q I1 r1 q1)
theorem Bk {f:Value->Value->Sem Value} {C:Int->Int->Prop} {g:Int->Int->Int}
    (rule:∀ (i j:Int) (t u:Tok) (s:Shared) (Q:Value->Shared->Prop) (E:Value->Shared->Prop),C i j->Q (.int (g i j) s.toks) { s with toks:=s.toks+1 }->wpAny (model X.prog X.w) X.A (f (.int i t) (.int j u)) Q E s) :
    fG X f (rI C fun i j=>.int (g i j)):=by
  intro pins s σ H x y v u Q I rx ry h
  obtain ⟨i,j,rfl,rfl,hc,q⟩:=h
  obtain ⟨t,rfl⟩:=rx
  obtain ⟨t',rfl⟩:=ry
  exact rule i j t t' s _ _ hc ⟨.int (g i j),H,I.tok _,⟨_,rfl⟩,q⟩
theorem AV {f:Value->Value->Sem Value} {g:Int->Int->Int}
    (rule:∀ (i j:Int) (t u:Tok) (s:Shared) (Q:Value->Shared->Prop) (E:Value->Shared->Prop),Q (.int (g i j) s.toks) { s with toks:=s.toks+1 }->wpAny (model X.prog X.w) X.A (f (.int i t) (.int j u)) Q E s) :
    fG X f (tX fun i j=>.int (g i j)):=by
  intro pins s σ H x y v u Q I rx ry h
  obtain ⟨i,j,rfl,rfl,q⟩:=h
  obtain ⟨t,rfl⟩:=rx
  obtain ⟨t',rfl⟩:=ry
  exact rule i j t t' s _ _ ⟨.int (g i j),H,I.tok _,⟨_,rfl⟩,q⟩
theorem yJ {f:Value->Value->Sem Value} {g:Int->Int->Bool}
    (rule:∀ (i j:Int) (t u:Tok) (s:Shared) (Q:Value->Shared->Prop) (E:Value->Shared->Prop),Q (.bool (g i j)) s->wpAny (model X.prog X.w) X.A (f (.int i t) (.int j u)) Q E s) :
    fG X f (tX fun i j=>.bl (g i j)):=by
  intro pins s σ H x y v u Q I rx ry h
  obtain ⟨i,j,rfl,rfl,q⟩:=h
  obtain ⟨t,rfl⟩:=rx
  obtain ⟨t',rfl⟩:=ry
  exact rule i j t t' s _ _ ⟨.bl (g i j),H,I,rfl,q⟩
def yS (i j:Int):Prop:=(-(2 ^ 64) < i/\i < 2 ^ 64)\/(-(2 ^ 64) < j/\j < 2 ^ 64)
theorem yS.ok {i j:Int} (h:yS i j):IntMulOk i j:=by
  rcases h with ⟨h1,h2⟩ | ⟨h1,h2⟩
  · exact .of_left (intBits_le_64 h1 h2)
  · exact .of_right (intBits_le_64 h1 h2)
theorem dE:fG X (binaryOp .Add) (tX fun i j=>.int (i+j)):=AV fun _ _ _ _ _ _ _ q=>add_int q
theorem BM:fG X (binaryOp .Sub) (tX fun i j=>.int (i - j)):=AV fun _ _ _ _ _ _ _ q=>sub_int q
theorem gC:fG X (binaryOp .Mult) (rI yS fun i j=>.int (i*j)):=Bk fun _ _ _ _ _ _ _ hc q=>mul_int q hc.ok
theorem df:fG X (binaryOp .Mod) (rI (fun _ j=>0 < j) fun i j=>.int (i % j)):=Bk fun i j _ _ _ _ _ hc q=>by
  have h1:(0:Int) < j:=hc
  exact mod_int' (by omega) (by rw [Int.fmod_eq_emod_of_nonneg i (by omega)]; exact q)
theorem Ek {f:Value->Sem Value} {g:Int->Int}
    (rule:∀ (i:Int) (t:Tok) (s:Shared) (Q:Value->Shared->Prop) (E:Value->Shared->Prop),Q (.int (g i) s.toks) { s with toks:=s.toks+1 }->wpAny (model X.prog X.w) X.A (f (.int i t)) Q E s) :
    Br X f (rU fun i=>.int (g i)):=by
  intro pins s σ H x v Q I rx h
  obtain ⟨i,rfl,q⟩:=h
  obtain ⟨t,rfl⟩:=rx
  exact rule i t s _ _ ⟨.int (g i),H,I.tok _,⟨_,rfl⟩,q⟩
theorem jT:Br X (unaryOp .USub) (rU fun i=>.int (-i)):=Ek fun _ _ _ _ _ q=>neg_int q
end
noncomputable def B1:V->V->Bool
  | .non,.non=>true | .non,.int _=>true | .int _,.non=>true | .non,.bl _=>true | .bl _,.non=>true | .non,.str _=>true | .str _,.non=>true
  | .int _,.int _=>true | .bl _,.bl _=>true | .str _,.str _=>true | .byt _,.byt _=>true
  | .int _,.str _=>true | .str _,.int _=>true | .bl _,.str _=>true | .str _,.bl _=>true
  | _,_=>false
noncomputable def Ee:R2:=fun x y H Q=>B1 x y=true/\Q (.bl (decide (x=y))) H
noncomputable def Ea:R2:=fun x y H Q=>B1 x y=true/\Q (.bl (!decide (x=y))) H
theorem oK {i j:Int}:decide (V.int i=V.int j)=(i == j):=by
  rw [Bool.eq_iff_iff]
  simp
theorem xf {i j:Bool}:decide (V.bl i=V.bl j)=(i == j):=by
  rw [Bool.eq_iff_iff]
  simp
theorem uN {i j:Str}:decide (V.str i=V.str j)=(i == j):=by
  rw [Bool.eq_iff_iff]
  simp
theorem uG {i j:Array UInt8}:decide (V.byt i=V.byt j)=(i.toList == j.toList):=by
  rw [Bool.eq_iff_iff]
  cases i
  cases j
  simp
section
variable {X:Cx} {a b c:Expr} {ta tb tc:TE} {pos:Pos}
theorem bh {pins:List (Addr × Obj)} {σ:St} {H:Hp} {s:Shared} {Q:VK} {k k':Bool} (I:Inv X pins σ H s) (q:Q (.bl k) H) (e:k=k'):EP X pins σ Q (.bool k') s:=by
  subst e
  exact ⟨.bl k,H,I,rfl,q⟩
theorem iO:fG X (compareOp .Eq) Ee:=by
  intro pins s σ H x y v u Q I rx ry h
  obtain ⟨hs,q⟩:=h
  cases x with
  | non =>
    cases rx
    cases y with
    | non=>cases ry; exact PySem.EqNone.eq_none_none (bh I q (by simp))
    | bl j=>cases ry; exact PySem.EqNone.eq_none_bool (bh I q (by simp))
    | int j=>obtain ⟨t',rfl⟩:=ry; exact PySem.EqNone.eq_none_int (bh I q (by simp))
    | str j=>obtain ⟨t',rfl⟩:=ry; exact PySem.EqNone.eq_none_str (bh I q (by simp))
    | _=>exact absurd (show false=true from hs) Bool.false_ne_true
  | bl i =>
    cases rx
    cases y with
    | non=>cases ry; exact PySem.EqNone.eq_bool_none (bh I q (by simp))
    | bl j=>cases ry; exact eq_bool (bh I q xf)
    | str j=>obtain ⟨t',rfl⟩:=ry; exact PySem.EqMixed.eq_bool_str (bh I q (by simp))
    | _=>exact absurd (show false=true from hs) Bool.false_ne_true
  | int i =>
    obtain ⟨t,rfl⟩:=rx
    cases y with
    | non=>cases ry; exact PySem.EqNone.eq_int_none (bh I q (by simp))
    | int j=>obtain ⟨t',rfl⟩:=ry; exact eq_int (bh I q oK)
    | str j=>obtain ⟨t',rfl⟩:=ry; exact PySem.EqMixed.eq_int_str (bh I q (by simp))
    | _=>exact absurd (show false=true from hs) Bool.false_ne_true
  | str i =>
    obtain ⟨t,rfl⟩:=rx
    cases y with
    | non=>cases ry; exact PySem.EqNone.eq_str_none (bh I q (by simp))
    | bl j=>cases ry; exact PySem.EqMixed.eq_str_bool (bh I q (by simp))
    | int j=>obtain ⟨t',rfl⟩:=ry; exact PySem.EqMixed.eq_str_int (bh I q (by simp))
    | str j=>obtain ⟨t',rfl⟩:=ry; exact eq_str (bh I q uN)
    | _=>exact absurd (show false=true from hs) Bool.false_ne_true
  | byt i =>
    obtain ⟨t,rfl⟩:=rx
    cases y with
    | byt j=>obtain ⟨t',rfl⟩:=ry; exact PySem.W.eq_bytes (bh I q uG)
    | _=>exact absurd (show false=true from hs) Bool.false_ne_true
  | _=>cases y<;>exact absurd (show false=true from hs) Bool.false_ne_true
theorem Dp:fG X (compareOp .NotEq) Ea:=by
  intro pins s σ H x y v u Q I rx ry h
  obtain ⟨hs,q⟩:=h
  cases x with
  | non =>
    cases rx
    cases y with
    | non=>cases ry; exact PySem.EqNone.ne_none_none (bh I q (by simp))
    | bl j=>cases ry; exact PySem.EqNone.ne_none_bool (bh I q (by simp))
    | int j=>obtain ⟨t',rfl⟩:=ry; exact PySem.EqNone.ne_none_int (bh I q (by simp))
    | str j=>obtain ⟨t',rfl⟩:=ry; exact PySem.EqNone.ne_none_str (bh I q (by simp))
    | _=>exact absurd (show false=true from hs) Bool.false_ne_true
  | bl i =>
    cases rx
    cases y with
    | non=>cases ry; exact PySem.EqNone.ne_bool_none (bh I q (by simp))
    | bl j=>cases ry; exact ne_bool (bh I q (congrArg not xf))
    | str j=>obtain ⟨t',rfl⟩:=ry; exact PySem.EqMixed.ne_bool_str (bh I q (by simp))
    | _=>exact absurd (show false=true from hs) Bool.false_ne_true
  | int i =>
    obtain ⟨t,rfl⟩:=rx
    cases y with
    | non=>cases ry; exact PySem.EqNone.ne_int_none (bh I q (by simp))
    | int j=>obtain ⟨t',rfl⟩:=ry; exact ne_int (bh I q (congrArg not oK))
    | str j=>obtain ⟨t',rfl⟩:=ry; exact PySem.EqMixed.ne_int_str (bh I q (by simp))
    | _=>exact absurd (show false=true from hs) Bool.false_ne_true
  | str i =>
    obtain ⟨t,rfl⟩:=rx
    cases y with
    | non=>cases ry; exact PySem.EqNone.ne_str_none (bh I q (by simp))
    | bl j=>cases ry; exact PySem.EqMixed.ne_str_bool (bh I q (by simp))
    | int j=>obtain ⟨t',rfl⟩:=ry; exact PySem.EqMixed.ne_str_int (bh I q (by simp))
    | str j=>obtain ⟨t',rfl⟩:=ry; exact ne_str (bh I q (congrArg not uN))
    | _=>exact absurd (show false=true from hs) Bool.false_ne_true
  | byt i =>
    obtain ⟨t,rfl⟩:=rx
    cases y with
    | byt j=>obtain ⟨t',rfl⟩:=ry; exact PySem.W.ne_bytes (bh I q (congrArg not uG))
    | _=>exact absurd (show false=true from hs) Bool.false_ne_true
  | _=>cases y<;>exact absurd (show false=true from hs) Bool.false_ne_true
theorem fY:fG X (compareOp .Lt) (tX fun i j=>.bl (decide (i < j))):=yJ fun _ _ _ _ _ _ _ q=>lt_int q
theorem Dg:fG X (compareOp .LtE) (tX fun i j=>.bl (decide (i<=j))):=yJ fun _ _ _ _ _ _ _ q=>le_int q
theorem CN:fG X (compareOp .GtE) (tX fun i j=>.bl (decide (j<=i))):=yJ fun _ _ _ _ _ _ _ q=>ge_int q
theorem bo (b:Expr) {op:CmpOp} (h:op≠.In:=by decide) (h2:op≠.NotIn:=by decide):behindInMarks op b=false:=by
  have e1:(op == CmpOp.In)=false:=by cases op<;>first | rfl | exact absurd rfl h
  have e2:(op == CmpOp.NotIn)=false:=by cases op<;>first | rfl | exact absurd rfl h2
  cases b<;>simp [behindInMarks,e1,e2]
theorem gN {op:CmpOp} {r:R2} (ho:fG X (compareOp op) r) (ha:PE X a ta) (hb:PE X b tb) (hm:behindInMarks op b=false):PE X (.Compare a [op] [b] pos) (zt r ta tb):=by
  intro pins s σ H Q I h
  exact wpAny_Compare1 (zh ha hb I h fun v u s2 x y H2 I2 rx ry q=>ho pins s2 σ H2 x y v u Q I2 rx ry q) hm
noncomputable def zl (t:TE):TT:=fun σ H Q=>t σ H fun x H'=>∃ k,x = .bl k/\Q k H'
theorem bz {op:CmpOp} {r:R2} (ho:fG X (compareOp op) r) (ha:PE X a ta) (hb:PE X b tb) (hm:behindInMarks op b=false):PT X (.Compare a [op] [b] pos) (zl (zt r ta tb)):=by
  intro pins s σ H Q I h
  refine wpAny_isTrue_Compare1 (aF (ha pins s σ H _ I h) fun v s1 ⟨x,H1,I1,r1,q1⟩=>aF (hb pins s1 σ H1 _ I1 q1) fun u s2 ⟨y,H2,I2,r2,q2⟩ =>
    aF (ho pins s2 σ H2 x y v u _ I2 r1 r2 q2) fun c s3 ⟨z,H3,I3,r3,k,e,q3⟩=>?_) hm
  subst e
  cases r3
  exact wpAny_truthy_bool ⟨H3,I3,q3⟩
theorem oI:(sizeLine:Nat) < 2 ^ 63:=by rw [sizeLine_eq]; decide
theorem vals1 {x:V} {us:List Value} (r:Vals [x] us):∃ u,us=[u]/\RelV x u:=by
  cases r with
  | cons r1 r2=>cases r2; exact ⟨_,rfl,r1⟩
theorem vals2 {x y:V} {us:List Value} (r:Vals [x,y] us):∃ u w',us=[u,w']/\RelV x u/\RelV y w':=by
  cases r with
  | cons r1 r2 =>
    cases r2 with
    | cons r3 r4=>cases r4; exact ⟨_,_,rfl,r1,r3⟩
theorem xn (hc:X.calm=true):dY X (.builtin "min") (fun xs H Q=>∃ i j,xs=[.int i,.int j]/\Q (.int (if j < i then j else i)) H):=by
  intro pins s σ H xs us Q I r h
  obtain ⟨i,j,rfl,q⟩:=h
  obtain ⟨u,w',rfl,⟨t,rfl⟩,⟨t',rfl⟩⟩:=vals2 r
  refine min_two_ints (I.ok.hd hc) fun h' tk k=>⟨_,H,I.kept k,?_,q⟩
  by_cases hj:j < i
  · rw [if_pos hj,if_pos hj]; exact ⟨_,rfl⟩
  · rw [if_neg hj,if_neg hj]; exact ⟨_,rfl⟩
theorem jR:dY X (.type "int") (fun xs H Q=>(∃ i,xs=[.int i]/\Q (.int i) H)\/∃ k,xs=[.bl k]/\Q (.int (if k then 1 else 0)) H):=by
  intro pins s σ H xs us Q I r h
  rcases h with ⟨i,rfl,q⟩ | ⟨k,rfl,q⟩
  · obtain ⟨u,rfl,t,rfl⟩:=vals1 r
    exact call_int_int ⟨.int i,H,I,⟨_,rfl⟩,q⟩
  · obtain ⟨u,rfl,r1⟩:=vals1 r
    cases r1
    exact call_int_bool ⟨.int (if k then 1 else 0),H,I.tok _,⟨_,rfl⟩,q⟩
end
end L2
namespace L2
open PySem PySem.Spec PyProof.Rows
structure mW (h:Heap) (x dx C:Addr) (mA:Str->Option Value):Prop where
  obj:h.get? x=some (PySem.W.instObj C dx)
  ns:h.Ns1 dx mA
  ne:dx≠x
theorem ya {h:Heap} {dx:Addr} {mA:Str->Option Value} (n:h.Ns1 dx mA):∃ od,h.get? dx=some od/\∀ name,PySem.W.lookIn name od=some (mA name):=by
  obtain ⟨o,es,ep,ho,hd,hk,_,hm⟩:=n
  refine ⟨o,ho,fun name=>?_⟩
  have e:=hm name
  unfold nsFind findBy at e
  rw [<- Array.find?_toList] at e
  unfold PySem.W.lookIn
  rw [hd]
  dsimp only
  split
  · rename_i y q
    rw [q] at e
    exact congrArg some e
  · rename_i q
    rw [q] at e
    have a:es.toList.any (·.refKey)=false:=by
      rw [List.any_eq_false]
      intro y hy
      obtain ⟨z,t,hkey⟩:=hk y (Array.mem_toList_iff.mp hy)
      simp [DictEntry.refKey,hkey]
    have a':¬ es.toList.any (·.refKey)=true:=by rw [a]; exact Bool.false_ne_true
    rw [if_neg a']
    exact congrArg some e
theorem mW.look {h:Heap} {x dx C:Addr} {mA:Str->Option Value} (I:mW h x dx C mA):∃ od,PySem.W.InstAt h x (PySem.W.instObj C dx) C (some od)/\∀ name,PySem.W.lookIn name od=some (mA name) :=
  let ⟨od,ho,hl⟩:=ya I.ns
  ⟨od,⟨I.obj,rfl,rfl,ho⟩,hl⟩
section
variable {prog:Program} {w:World} {A:Around} {E:Value->Shared->Prop} {s:Shared} {K:PySem.W.Frag} {x dx C f:Addr} {mA:Str->Option Value} {name:Str} {v:Value}
theorem get_map {expr:Bool} {Q:Value->Shared->Prop} (X:K.In s.heap) (I:mW s.heap x dx C mA) (hg:PySem.W.plainGet K C name=true) (hh:PySem.W.hasDictIn K C=true)
    (ha:PySem.W.findIn K (.ref C) name=some none) (hv:mA name=some v) (hv':PySem.W.handedIn v=true) (h:Q v { s with toks:=s.toks+1 }) :
    wpAny (model prog w) A (getAttr (.ref x) name expr) Q E s:=by
  obtain ⟨od,J,hl⟩:=I.look
  exact PySem.W.get_value X J (PySem.W.plainGet_of hg).1 (PySem.W.findObj_own hh ha rfl (by rw [hl,hv])) hv' h
theorem yr {pl:Sem Bool} {Q:Value × List Value->Shared->Prop} (X:K.In s.heap) (I:mW s.heap x dx C mA) (hg:PySem.W.plainGet K C name=true)
    (hf:PySem.W.findIn K (.ref C) name=some (some (.ref f))) (ht:PySem.W.isFn K (.ref f)=true) (hv:mA name=none) (h:Q (.ref f,[.ref x]) s) :
    wpAny (model prog w) A (getMethod (.ref x) name pl) Q E s:=by
  obtain ⟨od,J,hl⟩:=I.look
  exact PySem.W.method_fn X J (PySem.W.plainGet_of hg).1 (PySem.W.plainGet_of hg).2 hf (beq_iff_eq.mp ht) (by show (PySem.W.lookIn name od).map (·.isSome)=some false; rw [hl,hv]; rfl) h
theorem zV {ns:List Str} {Q:Unit->Shared->Prop} (X:K.In s.heap) (I:mW s.heap x dx C mA)
    (hs:PySem.W.findIn K (.ref C) "__setattr__" = some (some (.builtin "object.__setattr__"))) (hp:PySem.W.plainOver K C=true) (ht:PySem.W.takerIn K C name=some none) (hh:PySem.W.hasDictIn K C=true)
    (hw:PySem.Within mA ns) (hsz:ns.length<=sizeLine)
    (h:∀ h',mW h' x dx C (fun y=>if y=name then some v else mA y)->Heap.SameBut dx s.heap h'->Q () { s with heap:=h',toks:=s.toks+2 }) :
    wpAny (model prog w) A (setAttr (.ref x) name v) Q E s:=by
  obtain ⟨od,J,hl⟩:=I.look
  refine PySem.W.set_plain X J hs (PySem.W.osa_open (s:={ s with toks:=s.toks+1 }) (r:=none) X J hp ht fun b=>?_)
  obtain ⟨cd,hc,hd'⟩:=PySem.W.any_some hh
  have hx:s.heap.get? x=some ⟨.ref C,some dx,.plain,#[]⟩:=I.obj
  refine wpAny_bind (wpAny_pure (wpAny_bind (wpAny_bind (wpAny_loadPart hx (wpAny_bind (PySem.W.Looks.here (s:={ s with toks:=s.toks+1 }) (PySem.W.looks_clsIn X hc) ?_))))))
  rw [hd']
  refine wpAny_pure (a:=some dx) (wpAny_bind (wpAny_pure (wpAny_bind ?_)))
  refine wpAny_nsSet1 (s:={ s with toks:=s.toks+1 }) I.ns fun h' hn2 hs2=>?_
  obtain ⟨oD,esD,epD,hoD,hdD,hcD⟩:=hn2.count (PySem.Within.cons name v hw)
  refine wpAny_bind (wpAny_lookBehind hoD (by rw [hdD]; exact pastItsLine_dict (Nat.le_trans hcD (by rw [List.length_cons]; omega))) ?_)
  exact wpAny_pure (h _ ⟨(hs2.2 _ (Ne.symm I.ne)).trans I.obj,hn2,I.ne⟩ hs2)
theorem yQ {R:Result->Shared->Prop} {vs:List Value} {kw:List (Str × Value)} (X:K.In s.heap) (hm:PySem.W.makesIn K C=true)
    (hi:PySem.W.findIn K (.ref C) "__init__" = some (some (.ref f))) (hf:PySem.W.typeIn K (.ref f)=some (.type "function"))
    (h:codeAny (model prog w) (A.under (.builtin "type.__call__" ⟨.ref C::vs,kw⟩)) (.call (.ref f) ⟨.ref (s.heap.objs.size+1)::vs,kw⟩) (PySem.W.InitBack (s.heap.objs.size+1) R)
      { s with heap:=(s.heap.push PySem.W.emptyDict).push (PySem.W.instObj C s.heap.objs.size) }) :
    codeAny (model prog w) A (.call (.ref C) ⟨vs,kw⟩) R s:=by
  obtain ⟨hh,g,d,t,os⟩:=s
  exact PySem.W.make_core (PySem.W.makes_of X hm) (PySem.W.looks_findIn X hi) (fun self=>PySem.W.bind_fn X self hf) (.inl rfl) h
end
noncomputable def fU (f:Str) (v:V):List (Str × V)->List (Str × V)
  | []=>[(f,v)]
  | (g,x)::r=>if g=f then (g,v)::r else (g,x)::fU f v r
theorem eP (f g:Str) (v:V):∀ fs:List (Str × V),(fU f v fs).lookup g=if g=f then some v else fs.lookup g
  | []=>by
    show List.lookup g [(f,v)]=_
    by_cases h:g=f
    · have hb:(g == f)=true:=beq_iff_eq.mpr h
      simp only [List.lookup,hb,if_pos h]
    · have hb:(g == f)=false:=beq_eq_false_iff_ne.mpr h
      simp only [List.lookup,hb,if_neg h]
  | (k,x)::r=>by
    have ih:=eP f g v r
    rw [show fU f v ((k,x)::r)=(if k=f then (k,v)::r else (k,x)::fU f v r) from rfl]
    by_cases hk:k=f
    · rw [if_pos hk]
      by_cases h:g=k
      · have hb:(g == k)=true:=beq_iff_eq.mpr h
        simp only [List.lookup,hb,if_pos (h.trans hk)]
      · have hb:(g == k)=false:=beq_eq_false_iff_ne.mpr h
        simp only [List.lookup,hb,if_neg (fun e:g=f=>h (e.trans hk.symm))]
    · rw [if_neg hk]
      by_cases h:g=k
      · have hb:(g == k)=true:=beq_iff_eq.mpr h
        simp only [List.lookup,hb,if_neg (fun e:g=f=>hk (h.symm.trans e))]
      · have hb:(g == k)=false:=beq_eq_false_iff_ne.mpr h
        simp only [List.lookup,hb]
        exact ih
theorem kd (f:Str) (v:V):∀ fs:List (Str × V),f∈(fU f v fs).map (·.1)/\∀ g,g∈fs.map (·.1)->g∈(fU f v fs).map (·.1)
  | []=>⟨by simp [fU],fun g h=>by simp at h⟩
  | (k,x)::r=>by
    obtain ⟨i1,i2⟩:=kd f v r
    rw [show fU f v ((k,x)::r)=(if k=f then (k,v)::r else (k,x)::fU f v r) from rfl]
    by_cases hk:k=f
    · rw [if_pos hk]
      subst hk
      exact ⟨by simp,fun g h=>by simpa using h⟩
    · rw [if_neg hk]
      refine ⟨?_,fun g h=>?_⟩
      · rw [List.map_cons]
        exact List.mem_cons_of_mem _ i1
      · rw [List.map_cons] at h |-
        rcases List.mem_cons.mp h with e | e
        · exact List.mem_cons.mpr (.inl e)
        · exact List.mem_cons_of_mem _ (i2 g e)
theorem mQ (f:Str) (v:V):∀ fs:List (Str × V),(fU f v fs).length<=fs.length+1
  | []=>by simp [fU]
  | (k,x)::r=>by
    have ih:=mQ f v r
    rw [show fU f v ((k,x)::r)=(if k=f then (k,v)::r else (k,x)::fU f v r) from rfl]
    by_cases hk:k=f
    · rw [if_pos hk,List.length_cons,List.length_cons]; omega
    · rw [if_neg hk,List.length_cons,List.length_cons]; omega
theorem gD.some_of {v:V} {o:Option Value} (r:gD (some v) o):∃ u,o=some u/\RelV v u:=by
  cases o with
  | none=>exact (show False from r).elim
  | some u=>exact ⟨u,rfl,r⟩
theorem gD.none_of {o:Option Value} (r:gD none o):o=none:=by
  cases o with
  | none=>rfl
  | some u=>exact (show False from r).elim
theorem yo {v:V} {u:Value} (r:RelV v u):PySem.W.handedIn u=true:=by
  cases v with
  | non=>cases (show u=Value.none from r); rfl
  | bl b=>cases (show u=Value.bool b from r); rfl
  | int i=>obtain ⟨t,e⟩:=(show ∃ t,u=Value.int i t from r); cases e; rfl
  | str x=>obtain ⟨t,e⟩:=(show ∃ t,u=Value.str x t from r); cases e; rfl
  | byt b=>obtain ⟨t,e⟩:=(show ∃ t,u=Value.bytes b t from r); cases e; rfl
  | flt b=>obtain ⟨t,e⟩:=(show ∃ t,u=Value.float b t from r); cases e; rfl
  | ref a=>cases (show u=Value.ref a from r); rfl
  | ty n=>cases (show u=Value.type n from r); rfl
section
variable {P:Program} {w:World} {H H':Hp} {h h':Heap} {a C dx:Addr} {fs fs':List (Str × V)}
theorem lE (hok:dZ P w H h) (e:H a=some (.ins C dx fs)):∃ mA,mW h a dx C mA/\(∀ f,gD (fs.lookup f) (mA f))/\PySem.Within mA (fs.map (·.1))/\fs.length<=1000/\H dx=some (.own a):=by
  obtain ⟨d,z,ne,ob,mA,n,r,q⟩:=(show bE P w H h a (.ins C dx fs) from hok a _ e)
  exact ⟨mA,⟨ob,n,ne⟩,r,q,z,d⟩
end
structure gd (K:PySem.W.Frag) (C:Addr):Prop where
  pg:PySem.W.plainGet K C Str.empty=true
  hd:PySem.W.hasDictIn K C=true
  po:PySem.W.plainOver K C=true
  sa:PySem.W.findIn K (.ref C) "__setattr__" = some (some (.builtin "object.__setattr__"))
theorem gd.get {K:PySem.W.Frag} {C:Addr} (c:gd K C) (f:Str):PySem.W.plainGet K C f=true:=c.pg
def bp (K:PySem.W.Frag) (C:Addr) (f:Str):Prop:=PySem.W.findIn K (.ref C) f=some none
theorem bp.taker {K:PySem.W.Frag} {C:Addr} {f:Str} (n:bp K C f):PySem.W.takerIn K C f=some none:=by
  unfold PySem.W.takerIn
  rw [show PySem.W.findIn K (.ref C) f=some none from n]
  rfl
structure Meth (K:PySem.W.Frag) (C:Addr) (m:Str) (f:Addr):Prop where
  at_:PySem.W.findIn K (.ref C) m=some (some (.ref f))
  fn:PySem.W.isFn K (.ref f)=true
  kp:PySem.W.keepIn K (.ref f)=true
section
variable {X:Cx} {pins:List (Addr × Obj)} {σ:St} {H:Hp} {s:Shared} {a C dx:Addr} {fs:List (Str × V)} {f:Str} {v:V} {A:Around} {E:Value->Shared->Prop}
theorem wO {b:Bool} {Q:Value->Shared->Prop} (I:Inv X pins σ H s) (e:H a=some (.ins C dx fs)) (c:gd X.K C) (n:bp X.K C f) (l:fs.lookup f=some v)
    (h:∀ u s',Inv X pins σ H s'->RelV v u->Q u s'):wpAny (model X.prog X.w) A (getAttr (.ref a) f b) Q E s:=by
  obtain ⟨mA,O,r,_,_,_⟩:=lE I.hok e
  obtain ⟨u,hu,ru⟩:=gD.some_of (v:=v) (o:=mA f) (by rw [<- l]; exact r f)
  exact get_map I.kIn O (c.get f) c.hd n hu (yo ru) (h u _ (I.tok _) ru)
theorem oa {m:Str} {g:Addr} {pl:Sem Bool} {Q:Value × List Value->Shared->Prop} (I:Inv X pins σ H s) (e:H a=some (.ins C dx fs)) (c:gd X.K C) (k:Meth X.K C m g) (l:fs.lookup m=none)
    (h:Q (.ref g,[.ref a]) s):wpAny (model X.prog X.w) A (getMethod (.ref a) m pl) Q E s:=by
  obtain ⟨mA,O,r,_,_,_⟩:=lE I.hok e
  have hn:mA m=none:=gD.none_of (by rw [<- l]; exact r m)
  exact yr I.kIn O (c.get m) k.at_ k.fn hn h
theorem vG {y:V} {u:Value} {Q:Unit->Shared->Prop} (I:Inv X pins σ H s) (e:H a=some (.ins C dx fs)) (c:gd X.K C) (n:bp X.K C f) (hl:fs.length < 1000) (ry:RelV y u)
    (h:∀ s',Inv X pins σ (upd H a (.ins C dx (fU f y fs))) s'->Q () s'):wpAny (model X.prog X.w) A (setAttr (.ref a) f u) Q E s:=by
  obtain ⟨mA,O,r,wi,_,ho⟩:=lE I.hok e
  have hz:(fs.map (·.1)).length<=sizeLine:=by rw [List.length_map,sizeLine_eq]; omega
  refine zV I.kIn O c.sa c.po n.taker c.hd wi hz fun h' O' sb=>h _ ?_
  have hd:∃ o,h'.get? dx=some o:=let ⟨o,_,_,e',_⟩:=O'.ns; ⟨o,e'⟩
  refine I.write (x:=a) (e:=dx) (by rw [e]; exact True.intro) (.inr ho) (fun b q hb z=>(sb.2 b hb).trans z) hd ?_
  refine ⟨by rw [ak O.ne]; exact ho,?_,O.ne,O'.obj,_,O'.ns,fun g=>?_,fun g hg=>?_⟩
  · have:=mQ f y fs; omega
  · show gD ((fU f y fs).lookup g) (if g=f then some u else mA g)
    rw [eP]
    by_cases q:g=f
    · rw [if_pos q,if_pos q]; exact ry
    · rw [if_neg q,if_neg q]; exact r g
  · by_cases q:g=f
    · rw [q]; exact (kd f y fs).1
    · refine (kd f y fs).2 g (wi g fun z=>hg ?_)
      show (if g=f then some u else mA g)=none
      rw [if_neg q]; exact z
theorem Inv.made (I:Inv X pins σ H s):Inv X pins σ (upd (upd H s.heap.objs.size (.own (s.heap.objs.size+1))) (s.heap.objs.size+1) (.ins C s.heap.objs.size []))
    { s with heap:=(s.heap.push PySem.W.emptyDict).push (PySem.W.instObj C s.heap.objs.size) }:=by
  have e1:(s.heap.push PySem.W.emptyDict).get? s.heap.objs.size=some PySem.W.emptyDict:=Heap.get?_push_size s.heap rfl
  have e2:((s.heap.push PySem.W.emptyDict).push (PySem.W.instObj C s.heap.objs.size)).get? (s.heap.objs.size+1)=some (PySem.W.instObj C s.heap.objs.size):=by
    have:=Heap.get?_push_size (s.heap.push PySem.W.emptyDict) (o:=PySem.W.instObj C s.heap.objs.size) rfl
    rwa [Heap.size_push] at this
  have e3:(s.heap.push PySem.W.emptyDict).Ns s.heap.objs.size (fun _=>none):=⟨PySem.W.emptyDict,#[],_,e1,rfl,(fun e he=>absurd he (by simp)),fun _=>rfl⟩
  have I1:=I.laid (a:=s.heap.objs.size) (o:=.own (s.heap.objs.size+1)) (h':=s.heap.push PySem.W.emptyDict) (t':=s.toks) (fun b u q=>Heap.get?_push_of_some _ q) (Nat.le_refl _) ⟨_,e1⟩
  refine I1.laid (a:=s.heap.objs.size+1) (o:=.ins C s.heap.objs.size []) (t':=s.toks) (fun b u q=>Heap.get?_push_of_some _ q) (Nat.le_of_eq (Heap.size_push _ _)) ?_
  have ne:s.heap.objs.size≠s.heap.objs.size+1:=Nat.ne_of_lt (Nat.lt_succ_self _)
  refine ⟨by rw [ak ne,ae],Nat.zero_le _,ne,e2,fun _=>none,(Heap.Ns1.of_empty e3).at fun o q=>Heap.get?_push_of_some _ q,fun _=>True.intro,fun y hy=>absurd rfl hy⟩
theorem zQ {prog:Program} {w:World} {env:Env} {e:Expr} {f:Str} {pos:Pos} {s:Shared} {Q:Value->Shared->Prop} (hb:attributeBase e f env (eval e env)=eval e env)
    (h:wpAny (model prog w) A (eval e env) (fun o s₁=>wpAny (model prog w) A (getAttr o f true) Q E s₁) E s):wpAny (model prog w) A (eval (.Attribute e f pos) env) Q E s :=
  Attribute_any_ h (by rw [arm_eval_Attribute,hb])
end
noncomputable def D5 (K:PySem.W.Frag) (ta:TE) (f:Str):TE:=fun σ H Q=>ta σ H fun x H1=>∃ a C dx fs v,x = .ref a/\H1 a=some (.ins C dx fs)/\gd K C/\bp K C f/\fs.lookup f=some v/\Q v H1
noncomputable def D2 (K:PySem.W.Frag) (ta tv:TE) (f:Str):TS:=fun D σ H=>tv σ H fun y H1=>ta σ H1 fun x H2=>∃ a C dx fs,x = .ref a/\H2 a=some (.ins C dx fs)/\gd K C/\bp K C f/\fs.length < 1000 /\
  D.nx σ (upd H2 a (.ins C dx (fU f y fs)))
section
variable {X:Cx} {o e value:Expr} {f:Str} {pos pos' tpos:Pos} {ta tv:TE}
theorem xH (he:PE X e ta) (hb:attributeBase e f X.env (eval e X.env)=eval e X.env):PE X (.Attribute e f pos) (D5 X.K ta f):=by
  intro pins s σ H Q I h
  refine zQ hb (aF (he pins s σ H _ I h) fun u s1 ⟨x,H1,I1,rx,a,C,dx,fs,v,ex,ea,c,n,l,q⟩=>?_)
  subst ex
  obtain rfl:u=Value.ref a:=rx
  exact wO I1 ea c n l fun u' s2 I2 ru=>⟨v,H1,I2,ru,q⟩
theorem bO (ha:PE X o ta) (hv:PE X value tv) (hs:swapsWith value (some (.Attribute o f pos')) pos.line X.env=pure false):PS X (.Assign [.Attribute o f pos'] value pos) (D2 X.K ta tv f):=by
  intro pins s σ H D I h
  refine plainObj_wpAny_Assign_Attribute (aF (hv pins s σ H _ I h) fun u s1 ⟨y,H1,I1,ry,q⟩=>aF (ha pins s1 σ H1 _ I1 q) fun ov s2 ⟨x,H2,I2,rx,a,C,dx,fs,ex,ea,c,n,l,q2⟩=>?_) hs
  subst ex
  obtain rfl:ov=Value.ref a:=rx
  exact vG I2 ea c n l ry fun s3 I3=>⟨σ,_,I3,q2⟩
theorem CL {pl:Sem Bool} {m:Str} {apos:Pos} {args:List Expr} {pins:List (Addr × Obj)} {s:Shared} {σ:St} {H:Hp} {Q:Value->Shared->Prop} {te:TE} (he:PE X e te) (I:Inv X pins σ H s)
    (h:te σ H fun x H1=>∃ a C dx fs g,x = .ref a/\H1 a=some (.ins C dx fs)/\gd X.K C/\Meth X.K C m g/\fs.lookup m=none /\
      ∀ s1,Inv X pins σ H1 s1->wpAny (model X.prog X.w) X.A (callWith pos (.ref g) [.ref a] (backTo pos (starEach args X.env)) (backToKw pos (keywordEach [] X.env))) Q X.xe s1)
    (ht:eval (.Call (.Attribute e m apos) args [] pos) X.env=(do
      let ov <- eval e X.env
      standAt apos.atName
      let (f,first) <- holding [ov] (getMethod ov m pl)
      callWith pos f first (backTo pos (starEach args X.env)) (backToKw pos (keywordEach [] X.env)))) :
    wpAny (model X.prog X.w) X.A (eval (.Call (.Attribute e m apos) args [] pos) X.env) Q X.xe s:=by
  refine PySem.W.methodCall_KW (pl:=pl) (aF (he pins s σ H _ I h) fun u s1 ⟨x,H1,I1,rx,a,C,dx,fs,g,ex,ea,c,k,l,q⟩=>?_) ht
  subst ex
  obtain rfl:u=Value.ref a:=rx
  exact oa I1 ea c k l (q s1 I1)
end
section
variable {X:Cx} {pins:List (Addr × Obj)} {σ:St} {H:Hp} {s:Shared} {A:Around} {E:Value->Shared->Prop} {Q:Value->Shared->Prop} {c:Value} {b:Bool}
inductive gJ (K:PySem.W.Frag) (H:Hp):V->Value->Prop where
  | non:gJ K H .non (.type "NoneType")
  | bl (x:Bool):gJ K H (.bl x) (.type "bool")
  | int (i:Int):gJ K H (.int i) (.type "int")
  | str (x:Str):gJ K H (.str x) (.type "str")
  | flt (x:UInt64):gJ K H (.flt x) (.type "float")
  | lst {a:Addr} {xs:List V} (e:H a=some (.lst xs)):gJ K H (.ref a) (.type "list")
  | frz {a:Addr} {o:Obj} {xs:List V} (e:H a=some (.frz o (.lst xs))):gJ K H (.ref a) (.type "list")
  | tup {a:Addr} {xs:List V} (e:H a=some (.tup xs)):gJ K H (.ref a) (.type "tuple")
  | dK {a:Addr} {kvs:List (Key × V)} (e:H a=some (.dK kvs)):gJ K H (.ref a) (.type "dict")
  | dT {a:Addr} {kvs:List (List Key × V)} (e:H a=some (.dT kvs)):gJ K H (.ref a) (.type "dict")
  | ins {a C dx:Addr} {fs:List (Str × V)} (e:H a=some (.ins C dx fs)) (cl:gd K C) (ha:PySem.W.findIn K (.ref C) "__class__" = some (some (.builtin "object.__class__")))
      (hn:PySem.W.specialIn K (.builtin "object.__class__") "__get__" = some (some (.builtin "getset_descriptor.__get__"))) (htk:PySem.W.takesIn K (.builtin "object.__class__")=some true)
      (hm:PySem.W.mroIn K C (.type "object")=some true):gJ K H (.ref a) (.ref C)
theorem xk {x:V} {u t:Value} (I:Inv X pins σ H s) (rx:RelV x u) (ty:gJ X.K H x t) (e:PySem.W.kitOne X.K t c=some b) (h:∀ tk,Q (.bool b) { s with toks:=tk }) :
    wpAny (model X.prog X.w) A (call (.builtin "isinstance") [u,c]) Q E s:=by
  cases ty with
  | non=>cases (show u=Value.none from rx); exact PySem.W.kia_one PySem.W.kitx_none I.kIn True.intro e (fun z=>nomatch z) h
  | bl y=>cases (show u=Value.bool y from rx); exact PySem.W.kia_one PySem.W.kitx_bool I.kIn True.intro e (fun z=>nomatch z) h
  | int i=>obtain ⟨t,q⟩:=(show ∃ t,u=Value.int i t from rx); cases q; exact PySem.W.kia_one PySem.W.kitx_int I.kIn True.intro e (fun z=>nomatch z) h
  | str y=>obtain ⟨t,q⟩:=(show ∃ t,u=Value.str y t from rx); cases q; exact PySem.W.kia_one PySem.W.kitx_str I.kIn True.intro e (fun z=>nomatch z) h
  | flt y=>obtain ⟨t,q⟩:=(show ∃ t,u=Value.float y t from rx); cases q; exact PySem.W.kia_one PySem.W.kitx_float I.kIn True.intro e (fun z=>nomatch z) h
  | @lst a xs ea =>
    cases (show u=Value.ref a from rx)
    obtain ⟨_,_,n,_,h1⟩:=(show bE X.prog X.w H s.heap a (.lst xs) from I.hok a _ ea)
    exact PySem.W.kia_one PySem.W.kitx_list I.kIn ⟨_,h1,rfl⟩ e (fun z=>nomatch z) h
  | @frz a ob xs ea =>
    cases (show u=Value.ref a from rx)
    obtain ⟨_,_,_,n,_,h1⟩:=(show bE X.prog X.w H s.heap a (.frz ob (.lst xs)) from I.hok a _ ea)
    exact PySem.W.kia_one PySem.W.kitx_list I.kIn ⟨_,h1,rfl⟩ e (fun z=>nomatch z) h
  | @tup a xs ea =>
    cases (show u=Value.ref a from rx)
    obtain ⟨_,_,_,p⟩:=(show bE X.prog X.w H s.heap a (.tup xs) from I.hok a _ ea)
    obtain ⟨o,h1,h2,_⟩:=p
    exact PySem.W.kia_one PySem.W.kitx_tuple I.kIn ⟨o,h1,h2⟩ e (fun z=>nomatch z) h
  | @dK a kvs ea =>
    cases (show u=Value.ref a from rx)
    obtain ⟨_,_,vs,_,p⟩:=(show bE X.prog X.w H s.heap a (.dK kvs) from I.hok a _ ea)
    obtain ⟨o,es,ep,h1,h2,_⟩:=p
    exact PySem.W.kia_one PySem.W.kitx_dict I.kIn ⟨o,h1,h2.1⟩ e (fun z=>nomatch z) h
  | @dT a kvs ea =>
    cases (show u=Value.ref a from rx)
    obtain ⟨_,_,xs,_,o,es,ep,h1,h2,_⟩:=(show bE X.prog X.w H s.heap a (.dT kvs) from I.hok a _ ea)
    exact PySem.W.kia_one PySem.W.kitx_dict I.kIn ⟨o,h1,h2.1⟩ e (fun z=>nomatch z) h
  | @ins a C dx fs ea cl ha hn htk hm =>
    cases (show u=Value.ref a from rx)
    obtain ⟨mA,O,_⟩:=lE I.hok ea
    obtain ⟨od,J,_⟩:=O.look
    exact PySem.W.kia_one (PySem.W.kitx_own (cl.get _) cl.hd ha hn htk hm) I.kIn J e (fun z=>nomatch z) h
end
end L2
namespace L2
open PySem PySem.Spec PyProof.Rows
structure bF (k:Nat) (A:Around):Prop where
  hd:A.handled=none
  dp:A.depth+3*k+5 < recursionLimit
  un:A.units+16*k+200 < cLine
theorem bF.mono {j k:Nat} {A:Around} (r:bF k A) (h:j<=k):bF j A:=⟨r.hd,by have:=r.dp; omega,by have:=r.un; omega⟩
theorem bF.deeper {k:Nat} {A:Around} (r:bF (k+1) A) (env:Env):bF k (A.deeper env) :=
  ⟨r.hd,by have:=r.dp; show A.depth+1+3*k+5 < _; omega,by have:=r.un; show A.units+3+16*k+200 < _; omega⟩
theorem vx {A:Around} {C:Addr} {us:List Value} {kw:List (Str × Value)}:(A.under (.builtin "type.__call__" ⟨.ref C::us,kw⟩)).depth=A.depth+1:=by
  first | rfl | simp [Around.under,Code.weight,Code.isCreation,Code.isGuard,Code.isCaller,Code.frames,Code.isFrame,guardIds]
theorem vF {A:Around} {C:Addr} {us:List Value} {kw:List (Str × Value)}:(A.under (.builtin "type.__call__" ⟨.ref C::us,kw⟩)).units=A.units+1:=by
  first | rfl | simp [Around.under,Code.cUnits,Code.frames,Code.isFrame]
theorem bF.make {k:Nat} {A:Around} (r:bF (k+1) A) (C:Addr) (us:List Value) (kw:List (Str × Value)):bF k (A.under (.builtin "type.__call__" ⟨.ref C::us,kw⟩)) :=
  ⟨r.hd,by have:=r.dp; rw [vx]; omega,by have:=r.un; rw [vF]; omega⟩
theorem bF.depth {k:Nat} {A:Around} (r:bF k A):A.depth < recursionLimit:=by have:=r.dp; omega
theorem bF.units {k:Nat} {A:Around} (r:bF k A):A.units+64 < cLine:=by have:=r.un; omega
noncomputable def pA:TA:=fun _ H Q=>Q [] H
noncomputable def zr (ta:TE) (tr:TA):TA:=fun σ H Q=>ta σ H fun x H1=>tr σ H1 fun xs H2=>Q (x::xs) H2
section
variable {X:Cx} {e:Expr} {es:List Expr} {te:TE} {t:TA} {pos:Pos}
theorem ag:PA X [] pA:=fun _ _ _ _ H Q I h=>Calls.spliced_nil ⟨[],H,I,.nil,h⟩
theorem aa (ha:PE X e te) (hr:PA X es t) (hs:starEach (e::es) X.env=(false,eval e X.env)::starEach es X.env:=by rfl):PA X (e::es) (zr te t):=by
  intro pos pins s σ H Q I h
  rw [hs]
  show wpAny _ _ (spliced ((false,eval e X.env)::backTo pos (starEach es X.env))) _ _ s
  refine Calls.spliced_cons (aF (ha pins s σ H _ I h) fun u s1 ⟨x,H1,I1,r1,q1⟩=>?_)
  exact aF (hr pos pins s1 σ H1 _ I1 q1) fun us s2 ⟨xs,H2,I2,r2,q2⟩=>⟨x::xs,H2,I2,.cons r1 r2,q2⟩
noncomputable def DZ (t:TA):TE:=fun σ H Q=>t σ H fun xs H1=>xs.length<=sizeLine/\∀ p,H1 p=none->Q (.ref p) (upd H1 p (.tup xs))
noncomputable def DV (t:TA):TE:=fun σ H Q=>t σ H fun xs H1=>xs.length<=sizeLine/\∀ p,H1 p=none->Q (.ref p) (upd H1 p (.lst xs))
theorem ud {x1} (h:PA X es t):PE X (.Tuple es x1 pos) (DZ t):=by
  intro pins s σ H Q I hq
  refine wpAny_Tuple_spliced (aF (h pos pins s σ H _ I hq) fun us s1 ⟨xs,H1,I1,r,z,q⟩=>⟨by rw [<- r.length]; exact z,?_⟩)
  have hf:H1 s1.heap.objs.size=none:=I1.hok.fresh (Nat.le_refl _)
  refine ⟨.ref s1.heap.objs.size,upd H1 s1.heap.objs.size (.tup xs),I1.laid (t':=s1.toks) (fun b u e=>Heap.get?_push_of_some _ e) (Nat.le_refl _) ?_,rfl,q _ hf⟩
  exact ⟨z,us,r,⟨_,Heap.get?_push_size _ rfl,rfl,_,rfl⟩⟩
theorem br (h:PA X es t):PE X (.List es pos) (DV t):=by
  intro pins s σ H Q I hq
  refine wpAny_List_spliced (aF (h pos pins s σ H _ I hq) fun us s1 ⟨xs,H1,I1,r,z,q⟩=>⟨by rw [<- r.length]; exact z,?_⟩)
  have hf:H1 s1.heap.objs.size=none:=I1.hok.fresh (Nat.le_refl _)
  refine ⟨.ref s1.heap.objs.size,upd H1 s1.heap.objs.size (.lst xs),I1.laid (t':=s1.toks) (fun b u e=>Heap.get?_push_of_some _ e) (Nat.le_refl _) ?_,rfl,q _ hf⟩
  exact ⟨z,us,0,r,Heap.get?_push_size _ rfl⟩
end
noncomputable abbrev Sp:=List V->Hp->VK->XK->Prop
noncomputable abbrev jn:=List Env->Hp->Shared->XK->Value->Shared->Prop
structure nH (P:Program) (w:World) (K:PySem.W.Frag) (mg:Str->Option Value) (base:Heap) (A:Around) (outer:List Env) (s:Shared) (H:Hp):Prop where
  frames:A.frames=some outer
  mod:Mod K mg base
  bs:∀ b o,base.get? b=some o->s.heap.get? b=some o/\H b=none
  bsz:base.objs.size<=s.heap.objs.size
  funs:s.heap.FunFrames base outer
  frf:∀ b∈i4 outer,H b=none
  hok:dZ P w H s.heap
  bare:AllBare s.gens
def CE (outer:List Env) (P:Program) (w:World) (H:Hp) (s:Shared) (Q:VK) (u:Value) (s':Shared):Prop :=
  ∃ v H',s'.os=s.os/\AllBare s'.gens/\Un (i4 outer) [] H H' s.heap s'.heap/\dZ P w H' s'.heap/\RelV v u/\Q v H'
def CR (CX:jn) (outer:List Env) (P:Program) (w:World) (H:Hp) (s:Shared) (Q:VK) (E:XK) (r:Result) (s':Shared):Prop :=
  match r with
  | .ok (.ret u)=>CE outer P w H s Q u s'
  | .ok _=>False
  | .error e=>CX outer H s E e s'
structure aD (P:Program) (w:World) (K:PySem.W.Frag) (mg:Str->Option Value) (base:Heap) (CX:jn) (k:Nat) (f:Addr) (fd:FuncData) (ps:List Str) (sp:Sp):Prop where
  len:∀ vs H Q E,sp vs H Q E->vs.length=ps.length
  run:∀ (A:Around) (outer:List Env) (s:Shared) (H:Hp) (args:Args) (us:List Value) (vs:List V) (Q:VK) (E:XK),bF k A->nH P w K mg base A outer s H->BindsTo s fd args (ps.zip us)->Vals vs us->sp vs H Q E ->
    codeAny (model P w) A (.call (.ref f) args) (CR CX outer P w H s Q E) s
theorem nH.make {P:Program} {w:World} {K:PySem.W.Frag} {mg:Str->Option Value} {base:Heap} {A:Around} {outer:List Env} {s:Shared} {H:Hp} (e:nH P w K mg base A outer s H) (C:Addr) (us:List Value) (kw:List (Str × Value)) :
    nH P w K mg base (A.under (.builtin "type.__call__" ⟨.ref C::us,kw⟩)) outer s H:=⟨by first | exact e.frames | (simpa [Around.under,Code.envs,Code.isFrame,pushEnvs] using e.frames),e.mod,e.bs,e.bsz,e.funs,e.frf,e.hok,e.bare⟩
section
variable {X:Cx} {pins:List (Addr × Obj)} {σ:St} {H:Hp} {s s':Shared}
theorem Inv.env0 (I:Inv X pins σ H s):nH X.prog X.w X.K X.mg X.base X.A X.stack s H :=
  ⟨I.ok.frames,I.ok.mod,I.bs,Nat.le_trans I.ok.bsz I.sz,I.stack,I.stkFree,I.hok,I.bare⟩
theorem Inv.after {Q:VK} {u:Value} (I:Inv X pins σ H s) (h:CE X.stack X.prog X.w H s Q u s'):EP X pins σ Q u s':=by
  obtain ⟨v,H',os,bare,un,hok,r,q⟩:=h
  obtain ⟨hh,g,d,t,os'⟩:=s'
  obtain rfl:os'=s.os:=os
  exact ⟨v,H',I.call (h':=hh) (g':=g) (d':=d) (t':=t) (ch:=[]) un hok bare (fun b z=>absurd z (by simp)),r,q⟩
end
noncomputable def om (sp:Sp) (dvs:List V) (E:XK) (t:TA):TE:=fun σ H Q=>t σ H fun vs H1=>sp (vs++dvs) H1 Q E
noncomputable def zq (C:Addr) (m:Str) (sp:Sp) (dvs:List V) (E:XK) (ta:TE) (t:TA):TE:=fun σ H Q=>ta σ H fun x H1=>∃ a dx fs,x = .ref a/\H1 a=some (.ins C dx fs)/\fs.lookup m=none /\
  t σ H1 fun vs H2=>sp (x::(vs++dvs)) H2 Q E
noncomputable def zk (C:Addr) (sp:Sp) (dvs:List V) (E:XK) (t:TA):TE:=fun σ H Q=>t σ H fun vs H1=>∀ x dx,H1 x=none->H1 dx=none->dx≠x ->
  sp (.ref x::(vs++dvs)) (upd (upd H1 dx (.own x)) x (.ins C dx [])) (fun v H2=>v = .non/\Q (.ref x) H2) E
def Binds (K:PySem.W.Frag) (fd:FuncData) (ps:List Str) (ds:List Value):Prop :=
  ∀ (s:Shared) (us:List Value),K.In s.heap->(us++ds).length=ps.length->BindsTo s fd ⟨us,[]⟩ (ps.zip (us++ds))
theorem Binds.all {K:PySem.W.Frag} {fd:FuncData} {ps:List Str} (h:∀ us:List Value,us.length=ps.length->bindArgs fd ⟨us,[]⟩=pure (ps.zip us)):Binds K fd ps []:=fun s us _ hl=>by
  rw [List.append_nil] at hl |-
  exact .of_eq (h us hl)
def Passes (CX:jn) (X:Cx) (E:XK):Prop:=∀ (pins:List (Addr × Obj)) (σ:St) (H:Hp) (s:Shared) (e:Value) (s':Shared),Inv X pins σ H s->CX X.stack H s E e s'->X.xe e s'
section
variable {X:Cx} {CX:jn} {k:Nat} {f C:Addr} {fd:FuncData} {ps:List Str} {sp:Sp} {dvs:List V} {ds:List Value} {E:XK} {x m:Str} {p pos apos:Pos} {e o:Expr} {es:List Expr} {ta:TE} {t:TA}
theorem jW {pins:List (Addr × Obj)} {σ:St} {H:Hp} {s:Shared} {Q:VK} {us:List Value} {vs:List V} (F:aD X.prog X.w X.K X.mg X.base CX k f fd ps sp) (hr:bF k X.A) (hb:Binds X.K fd ps ds) (hd:Vals dvs ds) (hx:Passes CX X E)
    (I:Inv X pins σ H s) (r:Vals vs us) (h:sp (vs++dvs) H Q E):wpAny (model X.prog X.w) X.A (call (.ref f) us) (EP X pins σ Q) X.xe s:=by
  have r2:Vals (vs++dvs) (us++ds):=r.append hd
  have hl:(us++ds).length=ps.length:=by rw [<- r2.length]; exact F.len _ _ _ _ h
  refine wpAny_call (codeAny_mono (F.run X.A X.stack s H ⟨us,[]⟩ (us++ds) (vs++dvs) Q E hr I.env0 (hb s us I.kIn hl) r2 h) fun r s' hq=>?_)
  cases r with
  | error e=>exact hx pins σ H s e s' I hq
  | ok fl =>
    cases fl with
    | ret u=>exact I.after hq
    | next=>exact False.elim hq
    | brk=>exact False.elim hq
    | cont=>exact False.elim hq
theorem z6 (F:aD X.prog X.w X.K X.mg X.base CX k f fd ps sp) (hr:bF k X.A) (hg:Gl X x) (hm:X.mg x=some (.ref f)) (hk:PySem.W.keepIn X.K (.ref f)=true) (hb:Binds X.K fd ps ds) (hd:Vals dvs ds) (hx:Passes CX X E)
    (ha:PA X (e::es) t) (hdb:(x == ("__debug__" : Str))=false:=by decide) (he:starEach (e::es) X.env=(false,eval e X.env)::starEach es X.env:=by rfl) (hpl:(backTo pos (starEach es X.env)).any (·.1)=false:=by rfl) :
    PE X (.Call (.Name x p) (e::es) [] pos) (om sp dvs E t):=by
  intro pins s σ H Q I h
  refine wpAny_Call_Name_kw (jj I hg hm ?_ hdb)
  refine PySem.W.callWith_K (h₀:=X.base) I.ok.mod.kin hk (aF (ha pos pins s σ H _ I h) fun us s1 ⟨vs,H1,I1,r,q⟩=>⟨I1.kIn,?_⟩) he hpl
  exact jW F hr hb hd hx I1 r q
theorem yv (F:aD X.prog X.w X.K X.mg X.base CX k f fd ps sp) (hr:bF k X.A) (hg:Gl X x) (hm:X.mg x=some (.ref f)) (hk:PySem.W.keepIn X.K (.ref f)=true) (hb:Binds X.K fd ps ds) (hd:Vals dvs ds) (hx:Passes CX X E)
    (hdb:(x == ("__debug__" : Str))=false:=by decide):PE X (.Call (.Name x p) [] [] pos) (om sp dvs E pA):=by
  intro pins s σ H Q I h
  refine wpAny_Call_Name_kw (jj I hg hm ?_ hdb)
  exact PySem.W.callWith_K0 I.kIn hk (jW (us:=[]) F hr hb hd hx I .nil h)
theorem Ad {pl:Sem Bool} (he:PE X o ta) (c:gd X.K C) (hm:Meth X.K C m f) (F:aD X.prog X.w X.K X.mg X.base CX k f fd ps sp) (hr:bF k X.A) (hb:Binds X.K fd ps ds) (hd:Vals dvs ds) (hx:Passes CX X E) (ha:PA X (e::es) t)
    (hst:starEach (e::es) X.env=(false,eval e X.env)::starEach es X.env:=by rfl) (hpl:(backTo pos (starEach es X.env)).any (·.1)=false:=by rfl)
    (ht:eval (.Call (.Attribute o m apos) (e::es) [] pos) X.env=(do
      let ov <- eval o X.env
      standAt apos.atName
      let (f,first) <- holding [ov] (getMethod ov m pl)
      callWith pos f first (backTo pos (starEach (e::es) X.env)) (backToKw pos (keywordEach [] X.env))):=by rfl) :
    PE X (.Call (.Attribute o m apos) (e::es) [] pos) (zq C m sp dvs E ta t):=by
  intro pins s σ H Q I h
  refine PySem.W.methodCall_KW (pl:=pl) (aF (he pins s σ H _ I h) fun u s1 ⟨x,H1,I1,rx,a,dx,fs,ex,ea,l,q⟩=>?_) ht
  subst ex
  obtain rfl:u=Value.ref a:=rx
  refine oa I1 ea c hm l ?_
  refine PySem.W.callWith_K (first:=[.ref a]) (h₀:=X.base) I.ok.mod.kin hm.kp (aF (ha pos pins s1 σ H1 _ I1 q) fun us s2 ⟨vs,H2,I2,r,q2⟩=>⟨I2.kIn,?_⟩) hst hpl
  exact jW (us:=.ref a::us) (vs:=.ref a::vs) F hr hb hd hx I2 (.cons rfl r) q2
structure Mk (K:PySem.W.Frag) (C f:Addr):Prop where
  makes:PySem.W.makesIn K C=true
  init:PySem.W.findIn K (.ref C) "__init__" = some (some (.ref f))
  fn:PySem.W.isFn K (.ref f)=true
  kp:PySem.W.keepIn K (.ref C)=true
theorem zc {pins:List (Addr × Obj)} {σ:St} {H:Hp} {s:Shared} {Q:VK} {us:List Value} {vs:List V} (M:Mk X.K C f) (F:aD X.prog X.w X.K X.mg X.base CX k f fd ps sp) (hr:bF (k+1) X.A) (hb:Binds X.K fd ps ds) (hd:Vals dvs ds)
    (hx:Passes CX X E) (I:Inv X pins σ H s) (r:Vals vs us)
    (h:∀ x dx,H x=none->H dx=none->dx≠x->sp (.ref x::(vs++dvs)) (upd (upd H dx (.own x)) x (.ins C dx [])) (fun v H2=>v = .non/\Q (.ref x) H2) E) :
    wpAny (model X.prog X.w) X.A (call (.ref C) us) (EP X pins σ Q) X.xe s:=by
  have hq:=h (s.heap.objs.size+1) s.heap.objs.size (I.hok.fresh (Nat.le_succ _)) (I.hok.fresh (Nat.le_refl _)) (Nat.ne_of_lt (Nat.lt_succ_self _))
  have I2:=Inv.made (C:=C) I
  have r2:Vals (V.ref (s.heap.objs.size+1)::(vs++dvs)) (Value.ref (s.heap.objs.size+1)::(us++ds)):=.cons rfl (r.append hd)
  have hl:(Value.ref (s.heap.objs.size+1)::us++ds).length=ps.length:=by
    have e:=r2.length
    rw [F.len _ _ _ _ hq] at e
    exact e.symm
  refine wpAny_call (yQ (f:=f) I.kIn M.makes M.init (beq_iff_eq.mp M.fn) (codeAny_mono (F.run _ X.stack _ _ ⟨Value.ref (s.heap.objs.size+1)::us,[]⟩ (Value.ref (s.heap.objs.size+1)::(us++ds)) _ _ E (hr.make C us [])
    (I2.env0.make C us []) (hb _ (Value.ref (s.heap.objs.size+1)::us) I2.kIn hl) r2 hq) fun r s' hq'=>?_))
  cases r with
  | error e=>exact hx pins σ _ _ e s' I2 hq'
  | ok fl =>
    cases fl with
    | ret u =>
      obtain ⟨v,H',I3,rv,ev,q3⟩:=I2.after hq'
      subst ev
      exact ⟨rv,⟨V.ref (s.heap.objs.size+1),H',I3,rfl,q3⟩⟩
    | next=>exact False.elim hq'
    | brk=>exact False.elim hq'
    | cont=>exact False.elim hq'
theorem yy (M:Mk X.K C f) (F:aD X.prog X.w X.K X.mg X.base CX k f fd ps sp) (hr:bF (k+1) X.A) (hg:Gl X x) (hm:X.mg x=some (.ref C)) (hb:Binds X.K fd ps ds) (hd:Vals dvs ds) (hx:Passes CX X E)
    (hdb:(x == ("__debug__" : Str))=false:=by decide):PE X (.Call (.Name x p) [] [] pos) (zk C sp dvs E pA):=by
  intro pins s σ H Q I h
  refine wpAny_Call_Name_kw (jj I hg hm ?_ hdb)
  exact PySem.W.callWith_K0 I.kIn M.kp (zc (us:=[]) M F hr hb hd hx I .nil h)
end
def PK (X:Cx) (kws:List Keyword) (t:TA):Prop :=
  ∀ (pos:Pos) (pins:List (Addr × Obj)) (s:Shared) (σ:St) (H:Hp) (Q:List V->Hp->Prop),Inv X pins σ H s->t σ H Q->wpAny (model X.prog X.w) X.A (evalAll ((backToKw pos (keywordEach kws X.env)).map (·.2))) (AP X pins σ Q) X.xe s
section
variable {X:Cx} {CX:jn} {k:Nat} {f C:Addr} {fd:FuncData} {ps ks:List Str} {sp:Sp} {E:XK} {x m:Str} {p pos apos kpos:Pos} {e o:Expr} {es:List Expr} {kws:List Keyword} {te ta:TE} {t tk:TA} {nm:Option Str}
theorem BS:PK X [] pA:=fun _ _ _ _ H Q I h=>wpAny_evalAll_nil ⟨[],H,I,.nil,h⟩
theorem Af (ha:PE X e te) (hr:PK X kws t):PK X (⟨nm,e,kpos⟩::kws) (zr te t):=by
  intro pos pins s σ H Q I h
  show wpAny _ _ (evalAll ((do let v <- eval e X.env; standAt pos; pure v)::(backToKw pos (keywordEach kws X.env)).map (·.2))) _ _ s
  refine wpAny_evalAll_cons (wpAny_bind (aF (ha pins s σ H _ I h) fun u s1 ⟨x,H1,I1,r1,q1⟩=>wpAny_bind (wpAny_standAt (wpAny_pure ?_))))
  exact aF (hr pos pins s1 σ H1 _ I1 q1) fun us s2 ⟨xs,H2,I2,r2,q2⟩=>⟨x::xs,H2,I2,.cons r1 r2,q2⟩
variable {g:List Value->List Value->List Value} {gV:List V->List V->List V}
end
structure av (N P:List Str) (sc:Scope):Prop where
  kind:sc.kind = .function
  co:sc.isCoroutine=false
  gen:sc.isGenerator=false
  nd:N.Nodup
  pre:N.take P.length=P
  par:∀ x∈P,sc.names.lookup x=some .local\/sc.names.lookup x=some .cell
  nofree:∀ y∈sc.names,y.2≠.free
theorem p4 {kindOf:Str->Option NameKind} {x:Str}:∀ {binds:List (Str × Value)} {m:Str->Option Value},(∀ v,(x,v)∉binds)->bindL kindOf binds m x=m x
  | [],_,_=>rfl
  | (n,v)::r,m,h=>by
    unfold bindL
    rw [p4 fun w hw=>h w (List.mem_cons_of_mem _ hw)]
    split
    · have:x≠n:=by rintro rfl; exact h v List.mem_cons_self
      simp [this]
    · rfl
theorem pQ {kindOf:Str->Option NameKind} {x:Str}:∀ {binds:List (Str × Value)} {m:Str->Option Value},(∀ v,(x,v)∉binds)->bindC kindOf binds m x=m x
  | [],_,_=>rfl
  | (n,v)::r,m,h=>by
    unfold bindC
    rw [pQ fun w hw=>h w (List.mem_cons_of_mem _ hw)]
    split
    · rfl
    · have:x≠n:=by rintro rfl; exact h v List.mem_cons_self
      simp [this]
theorem p8 {kindOf:Str->Option NameKind} {x:Str} {v:Value}:∀ {P:List Str} {vs:List Value} {i:Nat} {m:Str->Option Value},P.Nodup->P[i]? = some x->vs[i]? = some v->kindOf x=some .local ->
    bindL kindOf (P.zip vs) m x=some v
  | [],_,_,_,_,h,_,_=>by simp at h
  | _::_,[],_,_,_,_,h,_=>by simp at h
  | p::P,w::vs,0,m,nd,h1,h2,hk=>by
    simp at h1 h2; subst h1; subst h2
    show bindL kindOf ((p,w)::P.zip vs) m p=_
    unfold bindL
    rw [p4 fun v hv=>(List.nodup_cons.mp nd).1 (List.of_mem_zip hv).1,if_pos hk]
    simp
  | p::P,w::vs,i+1,m,nd,h1,h2,hk=>by
    show bindL kindOf ((p,w)::P.zip vs) m x=_
    unfold bindL
    exact p8 (i:=i) (List.nodup_cons.mp nd).2 (by simpa using h1) (by simpa using h2) hk
theorem p3 {kindOf:Str->Option NameKind} {x:Str} {v:Value}:∀ {P:List Str} {vs:List Value} {i:Nat} {m:Str->Option Value},P.Nodup->P[i]? = some x->vs[i]? = some v->kindOf x≠some .local ->
    bindC kindOf (P.zip vs) m x=some v
  | [],_,_,_,_,h,_,_=>by simp at h
  | _::_,[],_,_,_,_,h,_=>by simp at h
  | p::P,w::vs,0,m,nd,h1,h2,hk=>by
    simp at h1 h2; subst h1; subst h2
    show bindC kindOf ((p,w)::P.zip vs) m p=_
    unfold bindC
    rw [pQ fun v hv=>(List.nodup_cons.mp nd).1 (List.of_mem_zip hv).1,if_neg hk]
    simp
  | p::P,w::vs,i+1,m,nd,h1,h2,hk=>by
    show bindC kindOf ((p,w)::P.zip vs) m x=_
    unfold bindC
    exact p3 (i:=i) (List.nodup_cons.mp nd).2 (by simpa using h1) (by simpa using h2) hk
noncomputable def start (N:List Str) (vs:List V):St:=vs.map some++List.replicate (N.length - vs.length) none
noncomputable def oR (CX:jn) (P:Program) (w:World) (K:PySem.W.Frag) (mg:Str->Option Value) (base:Heap) (N:List Str) (qual:Str) (scope:Scope) (f:Addr) (cd:Value) (A:Around) (outer:List Env) (s:Shared) (H:Hp) (E:XK):Cx where
  prog:=P
  w:=w
  K:=K
  mg:=mg
  base:=base
  A:=A.deeper (envOfC qual scope s.heap.objs.size f cd)
  N:=N
  s₀:=s
  H₀:=H
  env:=envOfC qual scope s.heap.objs.size f cd
  outer:=outer
  stack:=envOfC qual scope s.heap.objs.size f cd::outer
  ex:=[]
  calm:=true
  fn:=fun _=>true
  pn:=[]
  xe:=fun e s'=>wpAny (model P w) (A.deeper (envOfC qual scope s.heap.objs.size f cd)) (leaving (envOfC qual scope s.heap.objs.size f cd) e) (fun _ s''=>CX outer H s E e s'') (fun e' s''=>CX outer H s E e' s'') s'
theorem sj {sc:Scope} {n:Nat} {x:Str} (h:sc.names.lookup x=some .cell):∃ c,(cellsFrom n sc.names []).lookup x=some c:=by
  have q:=PySem.W.cellsFrom_some sc.names n [] (.inl h)
  exact Option.isSome_iff_exists.mp q
theorem xc {CX:jn} {P:Program} {w:World} {K:PySem.W.Frag} {mg:Str->Option Value} {base:Heap} {N ps:List Str} {qual:Str} {scope:Scope} {f:Addr} {cd:Value} {A:Around} {outer:List Env} {s s1:Shared} {H:Hp} {E:XK} {us:List Value} {vs:List V}
    (S:av N ps scope) (hd:A.handled=none) (e0:nH P w K mg base A outer s H) (hl:vs.length=ps.length) (r:Vals vs us)
    (x:InCallC s s.heap.objs.size (bindL (envOfC qual scope s.heap.objs.size f cd).kindOf (ps.zip us) fun _=>none) (cellsFrom (s.heap.objs.size+1) scope.names []) (bindC (envOfC qual scope s.heap.objs.size f cd).kindOf (ps.zip us) fun _=>none) s1) :
    Inv (oR CX P w K mg base N qual scope f cd A outer s H E) [] (start N vs) H s1:=by
  have hpl:ps.length<=N.length:=by have:=congrArg List.length S.pre; rw [List.length_take] at this; omega
  obtain ⟨h1,tk,rfl,hk⟩:=x.done
  have noA:∀ b:Addr,b∉(oR CX P w K mg base N qual scope f cd A outer s H E).ex:=fun b z=>absurd (show b∈([]:List Addr) from z) (by simp)
  refine ⟨⟨e0.mod,S.kind,rfl,rfl,Nat.le_refl _,fun y z c h1 h2=>?_,fun y hy=>?_,fun y c _ h=>?_,fun _=>hd,Around.frames_deeper e0.frames,.inr ⟨rfl,rfl⟩,fun b z=>absurd z (noA b),e0.bs,e0.bsz,fun b _ _=>noA b,fun b z=>absurd z (noA b),e0.funs,e0.frf⟩,
    rfl,e0.bare,Un.kept hk,⟨_,x.toInCall.ns,fun i y v h1 h2 h3=>?_⟩,fun y c h=>⟨_,x.cell y c h⟩,e0.hok.fresh (Nat.le_refl _),fun y c h=>?_,fun p hp=>absurd (show p∈([]:List (Addr × Obj)) from hp) (by simp),e0.hok.kept hk,?_⟩
  · exact name_of_addr x.apart (PySem.mem_of_lookup h1) (PySem.mem_of_lookup h2)
  · have hy:scope.names.lookup y=some .cell\/scope.names.lookup y=some .free:=hy
    rcases hy with hy | hy
    · exact sj hy
    · exact absurd rfl (S.nofree _ (PySem.mem_of_lookup hy))
  · exact Nat.le_of_lt (x.above y c (PySem.mem_of_lookup h))
  · have hi:i < vs.length:=by
      unfold start at h2
      by_cases hi:i < vs.length
      · exact hi
      · rw [List.getElem?_append_right (by simpa using hi)] at h2
        rw [List.getElem?_replicate] at h2
        split at h2<;>cases h2
    have ha:vs[i]? = some v:=by
      unfold start at h2
      rw [List.getElem?_append_left (by simpa using hi),List.getElem?_map] at h2
      cases e:vs[i]? with
      | none=>rw [e] at h2; cases h2
      | some a=>rw [e] at h2; cases h2; rfl
    obtain ⟨u,hu,rv⟩:=r.get ha
    have hp:ps[i]? = some y:=by
      rw [<- S.pre,List.getElem?_take_of_lt (by omega)]; exact h1
    have ndP:ps.Nodup:=by rw [<- S.pre]; exact S.nd.sublist (List.take_sublist _ _)
    refine ⟨u,rv,?_⟩
    rcases S.par y (List.mem_of_getElem? hp) with k | k
    · exact .inl ⟨k,p8 ndP hp hu k⟩
    · obtain ⟨c,e⟩:=sj (n:=s.heap.objs.size+1) k
      refine .inr ⟨.inl k,c,e,?_⟩
      have q:=x.cell y c e
      rw [p3 ndP hp hu (by show scope.names.lookup y≠_; rw [k]; decide)] at q
      exact q
  · exact e0.hok.fresh (Nat.le_of_lt (x.above y c (PySem.mem_of_lookup h)))
  · unfold start
    show _=N.length
    rw [List.length_append,List.length_map,List.length_replicate]
    omega
theorem Dx {CX:jn} {P:Program} {w:World} {K:PySem.W.Frag} {mg:Str->Option Value} {base:Heap} {k:Nat} {f:Addr} {name qual:Str} {params:Arguments} {body:List Stmt} {scope:Scope} {dV kV doc pm cdv ct oc:Value} {an od:Option Addr}
    {osl:Array (Option Value)} {N ps:List Str} {sp:Sp} (lk:K.lookup f=some ⟨oc,od,.func (PySem.W.fnOf name qual params body scope dV kV doc pm an cdv ct),osl⟩) (hcd:PySem.W.codeIn K cdv qual=true) (S:av N ps scope)
    (len:∀ vs H Q E,sp vs H Q E->vs.length=ps.length)
    (hbody:∀ (A:Around) (outer:List Env) (s:Shared) (H:Hp) (vs:List V) (Q:VK) (E:XK),bF k (A.deeper (envOfC qual scope s.heap.objs.size f cdv))->sp vs H Q E ->
      ∃ t,ik (oR CX P w K mg base N qual scope f cdv A outer s H E) body t/\t { nx:=fun _ H'=>Q .non H',rt:=Q } (start N vs) H) :
    aD P w K mg base CX (k+1) f (PySem.W.fnOf name qual params body scope dV kV doc pm an cdv ct) ps sp:=by
  refine ⟨len,fun A outer s H args us vs Q E hr e0 hb r hsp=>?_⟩
  have hl:=len _ _ _ _ hsp
  have KX:K.In s.heap:=e0.mod.kin.keeps fun b o e=>(e0.bs b o e).1
  have lim:s.heap.NoLimit:=e0.mod.nolimit.keeps fun b o e=>(e0.bs b o e).1
  have hkind:∀ y∈ps.zip us,scope.names.lookup y.1=some .local\/(scope.names.lookup y.1=some .cell/\((cellsFrom (s.heap.objs.size+1) scope.names []).lookup y.1).isSome=true):=fun ⟨n,v⟩ hy=>by
    rcases S.par n (List.of_mem_zip hy).1 with q | q
    · exact .inl q
    · exact .inr ⟨q,PySem.W.cellsFrom_some _ _ _ (.inl q)⟩
  refine codeAny_call_function hr.depth (KX _ _ lk) rfl S.co S.gen rfl (PySem.W.codeRec_of KX hcd) (hb _ _ _ _ ?_)
  refine wpAny_newFunctionEnv_cells S.kind hkind fun env he s1 x=>?_
  subst he
  refine ⟨lim.keeps x.toInCall.keep,codeAny_func ?_⟩
  obtain ⟨t,ht,hq⟩:=hbody A outer s H vs Q E (hr.deeper _) hsp
  have I:Inv (oR CX P w K mg base N qual scope f cdv A outer s H E) [] (start N vs) H s1:=xc S hr.hd e0 hl r x
  refine wpAny_mono (ht [] s1 (start N vs) H _ I hq) (fun fl s' hs=>?_) fun e s' hs=>hs
  have fin:∀ {σ':St} {H':Hp} {v:V} {u:Value},Inv (oR CX P w K mg base N qual scope f cdv A outer s H E) [] σ' H' s'->RelV v u->Q v H'->CE outer P w H s Q u s' :=
    fun {σ' H' v u} J rv q=>⟨v,H',J.os,J.bare,J.base,J.hok,rv,q⟩
  cases fl with
  | ret u =>
    obtain ⟨v,σ',H',J,rv,q⟩:=hs
    exact fin J rv q
  | next =>
    obtain ⟨σ',H',J,q⟩:=hs
    exact fin (v:=V.non) (u:=Value.none) J rfl q
  | brk =>
    obtain ⟨_,_,_,q⟩:=hs
    exact False.elim q
  | cont =>
    obtain ⟨_,_,_,q⟩:=hs
    exact False.elim q
end L2
namespace L2
open PySem PySem.Spec PyProof.Rows
section
variable {X:Cx} {x:Str} {p pos:Pos} {e:Expr} {es:List Expr} {t:TA} {id T:String} {r:List V->Hp->VK->Prop}
noncomputable def DH (r:List V->Hp->VK->Prop) (t:TA):TE:=fun σ H Q=>t σ H fun vs H1=>r vs H1 Q
theorem aK (hc:dY X (.builtin id) r) (hg:Gl X x) (hm:X.mg x=none) (hv:bootBuiltins x=some (.builtin id)) (ha:PA X (e::es) t) (hn:x≠"__name__":=by decide) (hdb:(x == ("__debug__" : Str))=false:=by decide)
    (he:starEach (e::es) X.env=(false,eval e X.env)::starEach es X.env:=by rfl) (hpl:(backTo pos (starEach es X.env)).any (·.1)=false:=by rfl):PE X (.Call (.Name x p) (e::es) [] pos) (DH r t):=by
  intro pins s σ H Q I h
  refine wpAny_Call_Name_kw (gB I hg hm hv ?_ hn hdb)
  exact PyProof.Rows.callWith_builtin1 (aF (ha pos pins s σ H _ I h) fun us s1 ⟨vs,H1,I1,r1,q1⟩=>hc pins s1 σ H1 vs us Q I1 r1 q1) he hpl
theorem gv (hc:dY X (.type T) r) (hg:Gl X x) (hm:X.mg x=none) (hv:bootBuiltins x=some (.type T)) (ha:PA X (e::es) t) (hn:x≠"__name__":=by decide) (hdb:(x == ("__debug__" : Str))=false:=by decide)
    (he:starEach (e::es) X.env=(false,eval e X.env)::starEach es X.env:=by rfl) (hpl:(backTo pos (starEach es X.env)).any (·.1)=false:=by rfl):PE X (.Call (.Name x p) (e::es) [] pos) (DH r t):=by
  intro pins s σ H Q I h
  refine wpAny_Call_Name_kw (gB I hg hm hv ?_ hn hdb)
  exact PyProof.Rows.callWith_type1 (aF (ha pos pins s σ H _ I h) fun us s1 ⟨vs,H1,I1,r1,q1⟩=>hc pins s1 σ H1 vs us Q I1 r1 q1) he hpl
end
end L2
namespace HT
open PySem PyProof.Rows
section
open PySem.SeqAt
open PySem.AutoSeq1 (wpAny_loadPart')
open PySem.MeetsSeq PySem.MeetsSeq2 PySem.MeetsSeq3
end
section
variable {prog:Program} {w:World} {A:Around} {E:Value->Shared->Prop} {s:Shared}
noncomputable def sIx (n d:Nat):Option Int->Nat
  | none=>d
  | some v=>if v < 0 then (v+(n:Int)).toNat else min v.toNat n
theorem sIx_none (n d:Nat):sIx n d none=d:=rfl
theorem sIx_nat (n d k:Nat):sIx n d (some (k:Int))=min k n:=by
  show (if (k:Int) < 0 then ((k:Int)+(n:Int)).toNat else min (k:Int).toNat n)=min k n
  rw [if_neg (by omega),Int.toNat_natCast]
end
end HT
namespace L2
open PySem PySem.Spec PyProof.Rows
noncomputable abbrev TO:=St->Hp->(Option Int->Hp->Prop)->Prop
def PO (X:Cx) (e:Option Expr) (t:TO):Prop :=
  ∀ (pins:List (Addr × Obj)) (s:Shared) (σ:St) (H:Hp) (Q:Option Int->Hp->Prop),Inv X pins σ H s->t σ H Q ->
    wpAny (model X.prog X.w) X.A (evalPart e X.env) (fun u s'=>∃ o H',Inv X pins σ H' s'/\IsPart u o/\Q o H') X.xe s
noncomputable def zS:TO:=fun _ H Q=>Q none H
noncomputable def Dz (t:TE):TO:=fun σ H Q=>t σ H fun x H1=>∃ i,x = .int i/\Q (some i) H1
theorem intsAre_of {ns:List Int}:∀ {us:List Value},Vals (ns.map V.int) us->IntsAre us ns:=by
  induction ns with
  | nil=>intro us r; rw [List.map_nil] at r; cases r; exact .nil
  | cons n ns ih =>
    intro us r
    rw [List.map_cons] at r
    cases r with
    | cons r1 r2 =>
      obtain ⟨t,e⟩:=r1
      subst e
      exact .cons n t (ih r2)
section
variable {X:Cx} {e:Expr} {te:TE} {lo hi:Option Expr} {tl th:TO} {pos p2:Pos}
theorem uS:PO X none zS:=by
  intro pins s σ H Q I h
  rw [evalPart_none]
  exact wpAny_pure ⟨none,H,I,.none,h⟩
theorem uF (h:PE X e te):PO X (some e) (Dz te):=by
  intro pins s σ H Q I hw
  rw [evalPart_some]
  refine aF (h pins s σ H _ I hw) fun u s1 ⟨x,H1,I1,r1,q1⟩=>?_
  obtain ⟨i,rfl,q⟩:=q1
  obtain ⟨t,rfl⟩:=r1
  exact ⟨some i,H1,I1,.int i t,q⟩
def Bi (X:Cx) (r:V->Option Int->Option Int->Hp->VK->Prop):Prop :=
  ∀ (pins:List (Addr × Obj)) (s:Shared) (σ:St) (H:Hp) (x:V) (v vl vu:Value) (lo hi:Option Int) (sl:Addr) (Q:VK),Inv X pins σ H s->RelV x v->s.heap.IsSliceOf sl vl vu .none->IsPart vl lo->IsPart vu hi->r x lo hi H Q ->
    ∃ T id,typeLookup (.type T) "__getitem__" = pure (some (.builtin id))/\s.TypeIs v T/\wpAny (model X.prog X.w) X.A (getItem v (.ref sl)) (EP X pins σ Q) X.xe s
noncomputable def Eh (r:V->Option Int->Option Int->Hp->VK->Prop) (te:TE) (tl th:TO):TE:=fun σ H Q=>te σ H fun x H1=>tl σ H1 fun l H2=>th σ H2 fun u H3=>r x l u H3 Q
theorem rT {r:V->Option Int->Option Int->Hp->VK->Prop} (hr:Bi X r) (he:PE X e te) (hl:PO X lo tl) (hu:PO X hi th):PE X (.Subscript e (.Slice lo hi none p2) pos) (Eh r te tl th):=by
  intro pins s σ H Q I h
  refine Subscript_ (aF (he pins s σ H _ I h) fun v s1 ⟨x,H1,I1,r1,q1⟩=>?_)
  refine wpAny_Slice (aF (hl pins s1 σ H1 _ I1 q1) fun vl s2 ⟨l,H2,I2,pl,q2⟩=>aF (hu pins s2 σ H2 _ I2 q2) fun vu s3 ⟨u,H3,I3,pu,q3⟩=>?_)
  rw [evalPart_none]
  refine wpAny_pure ?_
  have I4:Inv X pins σ H3 { s3 with heap:=s3.heap.push { cls:=.type "slice",data:=.fields #[vl,vu,.none] } }:=I3.kept (t':=s3.toks) fun b ob q=>Heap.get?_push_of_some _ q
  obtain ⟨T,id,hT,ht,hg⟩:=hr pins { s3 with heap:=s3.heap.push { cls:=.type "slice",data:=.fields #[vl,vu,.none] } } σ H3 x v vl vu l u s3.heap.objs.size Q I4 r1 (Heap.IsSliceOf.new ..) pl pu q3
  show wpAny (model X.prog X.w) X.A (subscriptTail e (.Slice lo hi none p2) v (.ref s3.heap.objs.size)) (EP X pins σ Q) X.xe { s3 with heap:=s3.heap.push { cls:=.type "slice",data:=.fields #[vl,vu,.none] } }
  exact tail_any (ops:=[.ref s3.heap.objs.size,v]) ht hT hg (by with_unfolding_all rfl)
noncomputable def ic (xs:List V) (lo hi:Option Int):List V:=(xs.drop (HT.sIx xs.length 0 lo)).take (HT.sIx xs.length xs.length hi - HT.sIx xs.length 0 lo)
theorem uk (xs:List V) (lo hi:Option Int):(ic xs lo hi).length<=xs.length:=by
  unfold ic
  rw [List.length_take,List.length_drop]
  omega
end
end L2
namespace L2
open PySem PySem.Spec PyProof.Rows
noncomputable def kq (n:Nat) (i:Int):Option Nat:=if 0<=i then (if i < n then some i.toNat else none) else if -(n:Int)<=i then some (i+n).toNat else none
noncomputable def gi {α:Type} (xs:List α) (i:Int):Option α:=(kq xs.length i).bind fun j=>xs[j]?
theorem uE {n:Nat} {i:Int} {j:Nat} (h:kq n i=some j):seqIndex? i n=some j/\j < n/\-(n:Int)<=i/\i < n:=by
  unfold kq at h
  by_cases h0:0<=i
  · rw [if_pos h0] at h
    by_cases h1:i < n
    · rw [if_pos h1] at h
      have e:i.toNat=j:=Option.some.inj h
      exact ⟨by rw [seqIndex_of h0 h1,e],by omega,by omega,h1⟩
    · rw [if_neg h1] at h; cases h
  · rw [if_neg h0] at h
    by_cases h1 : -(n:Int)<=i
    · rw [if_pos h1] at h
      have e:(i+n).toNat=j:=Option.some.inj h
      exact ⟨by rw [seqIndex_neg (by omega) h1,e],by omega,h1,by omega⟩
    · rw [if_neg h1] at h; cases h
theorem uO {α:Type} {xs:List α} {i:Int} {v:α} (h:gi xs i=some v):∃ j,seqIndex? i xs.length=some j/\xs[j]? = some v/\j < xs.length/\-(xs.length:Int)<=i/\i < xs.length:=by
  unfold gi at h
  cases e:kq xs.length i with
  | none=>rw [e] at h; cases h
  | some j =>
    rw [e] at h
    obtain ⟨h1,h2,h3,h4⟩:=uE e
    exact ⟨j,h1,h,h2,h3,h4⟩
theorem gW {α:Type} {xs:List α} {j:Nat} {v:α} (h:xs[j]? = some v):gi xs (j:Int)=some v:=by
  have hj:j < xs.length:=(List.getElem?_eq_some_iff.mp h).1
  have e:kq xs.length (j:Int)=some j:=by
    unfold kq
    rw [if_pos (by omega),if_pos (by omega)]; simp
  unfold gi; rw [e]; exact h
theorem sV {α:Type} (xs:List α) (v:α):gi (xs++[v]) (-1)=some v:=by
  have hl:(xs++[v]).length=xs.length+1:=by simp
  have e:kq (xs++[v]).length (-1)=some xs.length:=by
    unfold kq
    rw [hl,if_neg (by decide),if_pos (by omega)]
    congr 1
    omega
  unfold gi
  rw [e]
  show (xs++[v])[xs.length]? = some v
  simp
def Am (b:Expr):Prop:=∀ o i,subscripted b false o i=operate [o,i] (getItem o i)
def xC (X:Cx) (r:R2):Prop :=
  ∀ (value slice:Expr) (pins:List (Addr × Obj)) (s:Shared) (σ:St) (H:Hp) (x y:V) (v u:Value) (Q:VK),Inv X pins σ H s->RelV x v->RelV y u->r x y H Q ->
    subscripted slice false v u=operate [v,u] (getItem v u)->wpAny (model X.prog X.w) X.A (subscriptTail value slice v u) (EP X pins σ Q) X.xe s
def DF (X:Cx) (id:String) (r:V->List V->Hp->VK->Prop):Prop :=
  ∀ (pins:List (Addr × Obj)) (s:Shared) (σ:St) (H:Hp) (x:V) (xs:List V) (v:Value) (us:List Value) (Q:VK),Inv X pins σ H s->RelV x v->Vals xs us->r x xs H Q ->
    wpAny (model X.prog X.w) X.A (call (.builtin id) (v::us)) (EP X pins σ Q) X.xe s
section
variable {X:Cx} {a b:Expr} {ta tb:TE} {pos:Pos}
theorem aV {r:R2} (hr:xC X r) (ha:PE X a ta) (hb:PE X b tb) (hs:Am b):PE X (.Subscript a b pos) (zt r ta tb):=by
  intro pins s σ H Q I h
  exact Subscript_ (zh ha hb I h fun v u s2 x y H2 I2 rx ry q=>hr a b pins s2 σ H2 x y v u Q I2 rx ry q (hs _ _))
noncomputable def Cg (K:PySem.W.Frag):R2:=fun x y H Q=>∃ p xs i v,x = .ref p/\y = .int i/\aq K H p xs/\gi xs i=some v/\Q v H
noncomputable def AS (K:PySem.W.Frag):R2:=fun x y H Q=>∃ p xs i v,x = .ref p/\y = .int i/\eE K H p xs/\gi xs i=some v/\Q v H
theorem bj:xC X (Cg X.K):=by
  intro value slice pins s σ H x y v u Q I rx ry h hs
  obtain ⟨p,xs,i,z,rfl,rfl,hq,he,q⟩:=h
  cases rx
  obtain ⟨t,rfl⟩:=ry
  obtain ⟨its,r,pl,hz⟩:=I.list hq
  obtain ⟨j,h1,h2,h3,h4,h5⟩:=uO he
  obtain ⟨w,ew,rw'⟩:=r.get h2
  have hl:=r.length
  have hn:=oI
  have fin:EP X pins σ Q w s:=⟨z,H,I,rw',q⟩
  by_cases h0:0<=i
  · have hj:i.toNat=j:=by
      rw [seqIndex_of h0 h5] at h1
      exact Option.some.inj h1
    exact item_listR pl.isList h0 (by omega) (by rw [hj]; simpa using ew) fin hs
  · have hj:(i+(its.toArray.size:Int)).toNat=j:=by
      rw [seqIndex_neg (by omega) h4] at h1
      rw [List.size_toArray,<- hl]
      exact Option.some.inj h1
    exact subscriptTail_builtinR (x:=w) pl.isList.typeIs slot_list_getitem.lookup
      (wpAny_getItem_list_neg (Q:=fun r s'=>r=w/\EP X pins σ Q r s') pl.isList (by omega) (by rw [List.size_toArray]<;>omega) (by omega) (by rw [hj]; simpa using ew) ⟨rfl,fin⟩) hs
theorem nN:xC X (AS X.K):=by
  intro value slice pins s σ H x y v u Q I rx ry h hs
  obtain ⟨p,xs,i,z,rfl,rfl,hq,he,q⟩:=h
  cases rx
  obtain ⟨t,rfl⟩:=ry
  obtain ⟨its,r,pl,hz⟩:=I.tuple hq
  obtain ⟨j,h1,h2,h3,h4,h5⟩:=uO he
  obtain ⟨w,ew,rw'⟩:=r.get h2
  have hl:=r.length
  have hn:=oI
  have fin:EP X pins σ Q w s:=⟨z,H,I,rw',q⟩
  exact subscriptTail_builtinR (x:=w) pl.typeIs slot_tuple_getitem.lookup
    (getItem_tuple (j:=j) (Q:=fun r s'=>r=w/\EP X pins σ Q r s') pl (by omega) (by omega) (by rw [List.size_toArray,<- hl]; exact h1) (by simpa using ew) ⟨rfl,fin⟩) hs
theorem wL (its:List Value) (n j:Nat) (u:Value):Obj.mapSeq (·.setIfInBounds j u) { cls:=.type "list",data:=.seq its.toArray n }={ cls:=.type "list",data:=.seq (its.set j u).toArray n }:=by
  simp [Obj.mapSeq]
theorem Inv.lst {pins:List (Addr × Obj)} {σ:St} {H:Hp} {s:Shared} {p:Addr} {xs:List V} (I:Inv X pins σ H s) (h:H p=some (.lst xs)) :
    ∃ (its:List Value) (n:Nat),Vals xs its/\s.heap.get? p=some { cls:=.type "list",data:=.seq its.toArray n }/\xs.length<=sizeLine:=by
  obtain ⟨z,its,n,r,e⟩:=I.hok p _ h
  exact ⟨its,n,r,e,z⟩
theorem Inv.lstUpd {pins:List (Addr × Obj)} {σ:St} {H:Hp} {s:Shared} {p:Addr} {xs ys:List V} {its its':List Value} {n n':Nat} {f:Obj->Obj} (I:Inv X pins σ H s) (h:H p=some (.lst xs))
    (ho:s.heap.get? p=some { cls:=.type "list",data:=.seq its.toArray n }) (hf:f { cls:=.type "list",data:=.seq its.toArray n }={ cls:=.type "list",data:=.seq its'.toArray n' }) (r:Vals ys its') (hz:ys.length<=sizeLine) (t:Nat) :
    Inv X pins σ (upd H p (.lst ys)) { s with heap:=s.heap.update p f,toks:=t }:=by
  have e:(s.heap.update p f).get? p=some { cls:=.type "list",data:=.seq its'.toArray n' }:=by
    rw [Heap.get?_update_self f ho (by rw [hf]<;>rfl),hf]
  refine I.write (x:=p) (e:=p) (by rw [h]; trivial) (.inl rfl) (fun b u hb q=>(Heap.get?_update_other _ _ (Ne.symm hb)).trans q) ⟨_,e⟩ ?_
  exact ⟨hz,its',n',r,e⟩
noncomputable def C2:V->V->V->Hp->(Hp->Prop)->Prop:=fun o i v H Q=>∃ p xs k j,o = .ref p/\i = .int k/\H p=some (.lst xs)/\kq xs.length k=some j/\Q (upd H p (.lst (xs.set j v)))
theorem set_list:AJ X C2:=by
  intro pins s σ H o i v ov iv u Q I ro ri rv h
  obtain ⟨p,xs,k,j,rfl,rfl,hp,hj,q⟩:=h
  cases ro
  obtain ⟨t,rfl⟩:=ri
  obtain ⟨its,n,r,ho,hz⟩:=I.lst hp
  obtain ⟨h1,h2,h3,h4⟩:=uE hj
  have hl:=r.length
  have hn:=oI
  have I':Inv X pins σ (upd H p (.lst (xs.set j v))) { s with heap:=s.heap.update p (Obj.mapSeq (·.setIfInBounds j u)) } :=
    I.lstUpd hp ho (wL its n j u) (r.set rv j) (by rw [List.length_set]; exact hz) s.toks
  by_cases h0:0<=k
  · have hk:k.toNat=j:=by
      rw [seqIndex_of h0 h4] at h1
      exact Option.some.inj h1
    exact PySem.W.ki_setAt ho h0 (by omega) (by rw [List.size_toArray,<- hl]; exact h4) (by rw [hk]; exact ⟨_,I',q⟩)
  · have hk:(k+(its.toArray.size:Int)).toNat=j:=by
      rw [seqIndex_neg (by omega) h3] at h1
      rw [List.size_toArray,<- hl]
      exact Option.some.inj h1
    exact PySem.W.ki_setBack ho (by omega) (by rw [List.size_toArray,<- hl]; exact h3) (by omega) (by rw [hk]; exact ⟨_,I',q⟩)
theorem sS (lo hi:Option Int) (n:Nat):(sliceBounds lo hi none n).1=((HT.sIx n 0 lo:Nat):Int)/\(sliceBounds lo hi none n).2.1=((HT.sIx n n hi:Nat):Int)/\(sliceBounds lo hi none n).2.2=1:=by
  refine ⟨?_,?_,rfl⟩
  · cases lo with
    | none=>simp [sliceBounds,HT.sIx]
    | some i =>
      simp only [sliceBounds,HT.sIx,Option.getD_none,show (1:Int) > 0 by decide,if_true]
      by_cases h:i < 0
      · simp only [h,if_true]<;>omega
      · simp only [h,if_false]<;>omega
  · cases hi with
    | none=>simp [sliceBounds,HT.sIx]
    | some i =>
      simp only [sliceBounds,HT.sIx,Option.getD_none,show (1:Int) > 0 by decide,if_true]
      by_cases h:i < 0
      · simp only [h,if_true]<;>omega
      · simp only [h,if_false]<;>omega
theorem qk (its:List Value) (lo hi:Option Int):slicePick its.toArray lo hi none=((its.drop (HT.sIx its.length 0 lo)).take (HT.sIx its.length its.length hi - HT.sIx its.length 0 lo)).toArray:=by
  obtain ⟨h1,h2,h3⟩:=sS lo hi its.toArray.size
  unfold slicePick
  rw [h1,h2,h3]
  simp only [sliceRange_one,pick_run,List.size_toArray]<;>rfl
noncomputable def Cj (K:PySem.W.Frag):V->Option Int->Option Int->Hp->VK->Prop:=fun x lo hi H Q=>∃ a xs,x = .ref a/\aq K H a xs/\∀ p,H p=none->Q (.ref p) (upd H p (.lst (ic xs lo hi)))
theorem uQ:Bi X (Cj X.K):=by
  intro pins s σ H x v vl vu lo hi sl Q I rx hs pl pu h
  obtain ⟨a,xs,rfl,hx,q⟩:=h
  cases rx
  obtain ⟨its,r,ht,hz⟩:=I.list hx
  have hlen:=r.length
  refine ⟨"list",_,slot_list_getitem.lookup,ht.isList.typeIs,?_⟩
  refine wpAny_getItem_list_slice ht.isList hs pl pu .none (by simp) ?_ (by rw [List.size_toArray]<;>omega)
  rw [qk,<- hlen]
  refine ⟨.ref s.heap.objs.size,_,I.laid (t':=s.toks) (o:=.lst (ic xs lo hi)) (fun b ob q=>Heap.get?_push_of_some _ q) (Nat.le_refl _) ?_,rfl,q _ (I.hok.fresh (Nat.le_refl _))⟩
  exact ⟨Nat.le_trans (uk xs lo hi) hz,_,0,(r.drop (HT.sIx xs.length 0 lo)).take (HT.sIx xs.length xs.length hi - HT.sIx xs.length 0 lo),Heap.get?_push_size _ rfl⟩
noncomputable def iq:V->Bool
  | .non=>true
  | .bl _=>true
  | .int _=>true
  | .str _=>true
  | _=>false
noncomputable def mK:V->V->Bool
  | .non,.non=>true
  | .bl a,.bl b=>a == b
  | .bl a,.int b=>(if a then 1 else 0) == b
  | .int a,.bl b=>a == (if b then 1 else 0)
  | .int a,.int b=>a == b
  | .str a,.str b=>a == b
  | _,_=>false
theorem yd {A:Around} {s:Shared} {y x:V} {u v:Value} (ry:RelV y u) (rx:RelV x v) (fy:iq y=true) (fx:iq x=true):SeqAt.EqAt A s u v (mK y x):=by
  cases y with
  | non =>
    cases ry
    cases x with
    | non=>cases rx; exact SeqAt.EqAt.same _
    | bl b=>cases rx; exact SeqAt.EqAt.none_bool b
    | int b=>obtain ⟨t,rfl⟩:=rx; exact SeqAt.EqAt.none_int b t
    | str b=>obtain ⟨t,rfl⟩:=rx; exact SeqAt.EqAt.none_str b t
    | _=>exact absurd (show false=true from fx) Bool.false_ne_true
  | bl a =>
    cases ry
    cases x with
    | non=>cases rx; exact SeqAt.EqAt.bool_none a
    | bl b=>cases rx; exact SeqAt.EqAt.bool_bool a b
    | int b=>obtain ⟨t,rfl⟩:=rx; exact SeqAt.EqAt.bool_int a b t
    | str b=>obtain ⟨t,rfl⟩:=rx; exact SeqAt.EqAt.bool_str a b t
    | _=>exact absurd (show false=true from fx) Bool.false_ne_true
  | int a =>
    obtain ⟨t',rfl⟩:=ry
    cases x with
    | non=>cases rx; exact SeqAt.EqAt.int_none a t'
    | bl b=>cases rx; exact SeqAt.EqAt.int_bool a t' b
    | int b=>obtain ⟨t,rfl⟩:=rx; exact SeqAt.EqAt.int_int a t' b t
    | str b=>obtain ⟨t,rfl⟩:=rx; exact SeqAt.EqAt.int_str a t' b t
    | _=>exact absurd (show false=true from fx) Bool.false_ne_true
  | str a =>
    obtain ⟨t',rfl⟩:=ry
    cases x with
    | non=>cases rx; exact SeqAt.EqAt.str_none a t'
    | bl b=>cases rx; exact SeqAt.EqAt.str_bool a t' b
    | int b=>obtain ⟨t,rfl⟩:=rx; exact SeqAt.EqAt.str_int a t' b t
    | str b=>obtain ⟨t,rfl⟩:=rx; exact SeqAt.EqAt.str_str a t' b t
    | _=>exact absurd (show false=true from fx) Bool.false_ne_true
  | _=>exact absurd (show false=true from fy) Bool.false_ne_true
theorem aJ:dY X (.builtin "len") (fun xs H Q=>∃ p ys,xs=[.ref p]/\(aq X.K H p ys\/eE X.K H p ys)/\Q (.int ys.length) H):=by
  intro pins s σ H xs us Q I r h
  obtain ⟨p,ys,rfl,hq,q⟩:=h
  obtain ⟨u,rfl,rx⟩:=vals1 r
  cases rx
  have hn:=oI
  rcases hq with hq | hq
  · obtain ⟨its,r',pl,hz⟩:=I.list hq
    have hlen:=r'.length
    exact Calls.call_len_list pl.isList (by simp only [List.size_toArray]<;>omega) ⟨.int ys.length,H,I.tok _,⟨s.toks+1,by rw [List.size_toArray,hlen]⟩,q⟩
  · obtain ⟨its,r',pl,hz⟩:=I.tuple hq
    have hlen:=r'.length
    exact len_tuple pl (by simp only [List.size_toArray]<;>omega) ⟨.int ys.length,H,I.tok _,⟨s.toks+1,by rw [List.size_toArray,hlen]⟩,q⟩
theorem jY:dY X (.type "list") (fun xs H Q=>∃ p ys,xs=[.ref p]/\(aq X.K H p ys\/eE X.K H p ys)/\∀ l,H l=none->Q (.ref l) (upd H l (.lst ys))):=by
  intro pins s σ H xs us Q I r h
  obtain ⟨p,ys,rfl,hq,q⟩:=h
  obtain ⟨u,rfl,rx⟩:=vals1 r
  cases rx
  have fin:∀ (its:List Value),Vals ys its->ys.length<=sizeLine->∀ (h':Heap) (c':Nat),(∀ b o',s.heap.get? b=some o'->h'.get? b=some o') ->
      h'.get? s.heap.objs.size=some { cls:=.type "list",dict:=none,data:=.seq its.toArray c',slots:=#[] }->EP X pins σ Q (.ref s.heap.objs.size) { s with heap:=h' }:=fun its r' hz h' c' kp e =>
    ⟨.ref s.heap.objs.size,_,I.laid (t':=s.toks) kp (Nat.le_refl _) (show bE X.prog X.w _ h' _ (.lst ys) from ⟨hz,its,c',r',e⟩),rfl,q _ (I.hok.fresh (Nat.le_refl _))⟩
  rcases hq with hq | hq
  · obtain ⟨its,r',pl,hz⟩:=I.list hq
    have hlen:=r'.length
    obtain ⟨o,ho,hc,n,hd⟩:=pl.isList
    exact call_list_seq p (.inl rfl) ho hc hd (fun h' c' kp e=>fin its r' hz h' c' kp e) (by simp only [List.size_toArray]<;>omega)
  · obtain ⟨its,r',pl,hz⟩:=I.tuple hq
    have hlen:=r'.length
    obtain ⟨o,ho,hc,n,hd⟩:=pl
    exact call_list_seq p (.inr rfl) ho hc hd (fun h' c' kp e=>fin its r' hz h' c' kp e) (by simp only [List.size_toArray]<;>omega)
def B0 (K:PySem.W.Frag) (T:String) (x:V) (H:Hp):Prop:=match x with
  | .str _=>T = "str"
  | .int _=>T = "int"
  | .ref p=>(T = "list"/\∃ xs,aq K H p xs)\/(T = "tuple"/\∃ o,K.lookup p=some o/\o.cls = .type "tuple"/\o.dict=none) \/
      (T = "dict"/\((∃ kvs,H p=some (.dK kvs))\/∃ kvs,H p=some (.dT kvs)))\/(T = "set"/\∃ S n,H p=some (.set S n))
  | _=>False
theorem xW {pins:List (Addr × Obj)} {σ:St} {H:Hp} {s:Shared} {T:String} {x:V} {v:Value} (I:Inv X pins σ H s) (r:RelV x v) (ty:B0 X.K T x H) :
    s.TypeIs v T/\∀ a,v = .ref a->∃ ob,s.heap.get? a=some ob/\ob.dict=none:=by
  cases x with
  | str z =>
    obtain ⟨t,rfl⟩:=r
    cases (show T = "str" from ty)
    exact ⟨typeIs_str s z t,fun _ e=>nomatch e⟩
  | int i =>
    obtain ⟨t,rfl⟩:=r
    cases (show T = "int" from ty)
    exact ⟨typeIs_int s i t,fun _ e=>nomatch e⟩
  | ref p =>
    cases r
    rcases ty with ⟨rfl,xs,hq⟩ | ⟨rfl,o,hk,hc,hd⟩ | ⟨rfl,hk⟩ | ⟨rfl,S,n,hk⟩
    · obtain ⟨its,_,pl,_⟩:=I.list hq
      refine ⟨pl.isList.typeIs,fun a e=>?_⟩
      cases e
      obtain ⟨o,n,e,c,hd,_⟩:=pl
      exact ⟨o,e,hd⟩
    · refine ⟨⟨o,I.kIn p o hk,hc⟩,fun a e=>?_⟩
      cases e
      exact ⟨o,I.kIn _ o hk,hd⟩
    · have z:∃ o,s.heap.get? p=some o/\o.ExactDict:=by
        rcases hk with ⟨kvs,hk⟩ | ⟨kvs,hk⟩
        · obtain ⟨_,_,_,_,o,_,_,e,ex,_⟩:=I.hok p _ hk
          exact ⟨o,e,ex⟩
        · obtain ⟨_,_,_,_,o,_,_,e,ex,_⟩:=I.hok p _ hk
          exact ⟨o,e,ex⟩
      obtain ⟨o,e,ex⟩:=z
      refine ⟨⟨o,e,ex.1⟩,fun a e2=>?_⟩
      cases e2
      exact ⟨o,e,ex.2.1⟩
    · obtain ⟨o,_,_,_,e,ex,_⟩:=I.hok p _ hk
      refine ⟨⟨o,e,ex.1⟩,fun a e2=>?_⟩
      cases e2
      exact ⟨o,e,ex.2.1⟩
  | _=>exact False.elim ty
noncomputable def D7 (K:PySem.W.Frag) (T:String) (r:V->List V->Hp->VK->Prop) (to:TE):TE:=fun σ H Q=>to σ H fun x H1=>B0 K T x H1/\r x [] H1 Q
noncomputable def Ed (K:PySem.W.Frag) (T:String) (r:V->List V->Hp->VK->Prop) (to:TE) (t:TA):TE:=fun σ H Q=>to σ H fun x H1=>B0 K T x H1/\t σ H1 fun xs H2=>r x xs H2 Q
variable {o e:Expr} {es:List Expr} {to:TE} {t:TA} {name:Str} {apos cpos:Pos} {T id:String} {r:V->List V->Hp->VK->Prop}
theorem ym (pa:PlainAttrs T) (slot:Slot T name id) (hty:typeOf (.builtin id)=pure (.type "method_descriptor")) (hm:DF X id r) (ho:PE X o to)
    (hbase:attributeBase o name X.env (eval o X.env)=eval o X.env:=by rfl) (hline:(apos.endLine == cpos.line)=true:=by rfl):PE X (.Call (.Attribute o name apos) [] [] cpos) (D7 X.K T r to):=by
  intro pins s σ H Q I h
  refine wpAny_Call_method0_late hbase hline (aF (ho pins s σ H _ I h) fun v s1 ⟨x,H1,I1,r1,ty,q1⟩=>?_)
  obtain ⟨h1,h2⟩:=xW I1 r1 ty
  exact ⟨T,id,pa,slot,hty,h1,h2,Calls.callWith_builtin rfl (PySem.evalArgs_none (hm pins s1 σ H1 x [] v [] Q I1 r1 .nil q1))⟩
theorem iw (pa:PlainAttrs T) (slot:Slot T name id) (hty:typeOf (.builtin id)=pure (.type "method_descriptor")) (hm:DF X id r) (ho:PE X o to) (ha:PA X (e::es) t)
    (hbase:attributeBase o name X.env (eval o X.env)=eval o X.env:=by rfl)
    (hfew:((backTo cpos (starEach (e::es) X.env)).all (fun x=>!x.1)&&(backToKw cpos (keywordEach [] X.env)).all (fun x=>x.1.isSome)
      && decide ((e::es).length+([]:List Keyword).length+(if ([]:List Keyword).isEmpty then 0 else 1) < 30))=true:=by rfl)
    (hline:(apos.endLine == cpos.line)=true:=by rfl) (hs:starEach (e::es) X.env=(false,eval e X.env)::starEach es X.env:=by rfl) (hplain:(backTo cpos (starEach es X.env)).any (·.1)=false:=by rfl) :
    PE X (.Call (.Attribute o name apos) (e::es) [] cpos) (Ed X.K T r to t):=by
  intro pins s σ H Q I h
  refine wpAny_Call_method_late hbase hfew hline rfl (aF (ho pins s σ H _ I h) fun v s1 ⟨x,H1,I1,r1,ty,q1⟩=>?_)
  obtain ⟨h1,h2⟩:=xW I1 r1 ty
  refine ⟨T,id,pa,slot,hty,h1,h2,?_⟩
  have hA:=ha cpos pins s1 σ H1 _ I1 q1
  rw [hs] at hA |-
  refine Calls.callWith_builtin (by show (false || (backTo cpos (starEach es X.env)).any (·.1))=false; rw [hplain]<;>rfl) (Calls.evalArgs_plain ?_)
  exact aF hA fun us s2 ⟨vs,H2,I2,r2,q2⟩=>hm pins s2 σ H2 x vs v us Q I2 r1 r2 q2
end
end L2
namespace L2
open PySem PySem.Spec PyProof.Rows
def x9 (X:Cx) (id:String) (r:V->List V->Hp->VK->Prop):Prop :=
  ∀ (pins:List (Addr × Obj)) (s:Shared) (σ:St) (H:Hp) (x:V) (xs:List V) (v:Value) (us:List Value) (Q:VK),Inv X pins σ H s->RelV x v->Vals xs us->r x xs H Q ->
    wpAny (model X.prog X.w) X.A (call (.builtin id) (v::us)) (EP X pins σ Q) X.xe s
theorem Vals.one:∀ {x:V} {us:List Value},Vals [x] us->∃ u,us=[u]/\RelV x u
  | _,_,.cons r .nil=>⟨_,rfl,r⟩
theorem Vals.zero:∀ {us:List Value},Vals [] us->us=[]
  | _,.nil=>rfl
theorem Vals.dropLast {xs:List V} {us:List Value} (h:Vals xs us):Vals xs.dropLast us.dropLast:=by
  induction h with
  | nil=>exact .nil
  | cons r t ih =>
    cases t with
    | nil=>exact .nil
    | cons q t'=>exact .cons r ih
theorem wz {α:Type} (l:List α):l.eraseIdx (l.length - 1)=l.dropLast:=by
  induction l with
  | nil=>rfl
  | cons a r ih =>
    cases r with
    | nil=>rfl
    | cons b r =>
      have e:(a::b::r).length - 1=((b::r).length - 1)+1:=by
        have h1:(a::b::r).length=r.length+2:=rfl
        have h2:(b::r).length=r.length+1:=rfl
        omega
      rw [e,List.eraseIdx_cons_succ,ih]
      all_goals rfl
section
variable {X:Cx} {pins:List (Addr × Obj)} {σ:St} {H:Hp} {s:Shared} {l b:Addr} {xs ys zs:List V}
theorem Inv.lset {its its':List Value} {n:Nat} {f:Array Value->Array Value} {t':Nat} (I:Inv X pins σ H s) (hH:H l=some (.lst xs))
    (e:s.heap.get? l=some { cls:=.type "list",data:=.seq its.toArray n }) (hf:f its.toArray=its'.toArray) (hv:Vals ys its') (hz:ys.length<=sizeLine) :
    Inv X pins σ (upd H l (.lst ys)) { s with heap:=s.heap.update l (Obj.mapSeq f),toks:=t' }:=by
  have q:=PySem.IsL.update e f
  rw [hf] at q
  refine I.write (x:=l) (e:=l) (by rw [hH]; exact trivial) (.inl rfl) (fun b' u hb hu=>(Heap.get?_update_other s.heap (Obj.mapSeq f) (Ne.symm hb)).trans hu) ⟨_,q⟩ ?_
  exact ⟨hz,its',_,hv,q⟩
theorem Inv.lnew {its:List Value} {t':Nat} (I:Inv X pins σ H s) (hv:Vals ys its) (hz:ys.length<=sizeLine) :
    Inv X pins σ (upd H s.heap.objs.size (.lst ys)) { s with heap:=s.heap.push { cls:=.type "list",data:=.seq its.toArray },toks:=t' } :=
  I.laid (fun _ _ q=>Heap.get?_push_of_some _ q) (Nat.le_refl _) ⟨hz,its,0,hv,Heap.get?_push_size _ rfl⟩
theorem Inv.fresh (I:Inv X pins σ H s):H s.heap.objs.size=none:=I.hok.fresh (Nat.le_refl _)
theorem Inv.lstM (I:Inv X pins σ H s) (hH:H l=some (.lst xs)):xs.length<=sizeLine/\∃ (its:List Value) (n:Nat),Vals xs its/\xs.length=its.length/\s.heap.get? l=some { cls:=.type "list",data:=.seq its.toArray n }:=by
  obtain ⟨z,its,n,r,e⟩:=I.hok l _ hH
  exact ⟨z,its,n,r,r.length,e⟩
theorem tE {n:Nat} (h:n<=sizeLine):Builtin.List.listTooLong n=false:=by
  unfold Builtin.List.listTooLong
  exact decide_eq_false (by omega)
end
section
variable {X:Cx}
noncomputable def Ah:V->List V->Hp->VK->Prop:=fun x vs H Q=>∃ l xs y,x = .ref l/\vs=[y]/\H l=some (.lst xs)/\xs.length < sizeLine/\Q .non (upd H l (.lst (xs++[y])))
theorem eN:x9 X "list.append" Ah:=by
  intro pins s σ H x vs v us Q I rx rv h
  obtain ⟨l,xs,y,rfl,rfl,hH,hz,q⟩:=h
  cases rx
  obtain ⟨u,rfl,ru⟩:=rv.one
  obtain ⟨z,its,n,r,hl,e⟩:=I.lstM hH
  refine call_meets F.slot_list_append ⟨_,e,rfl⟩ F.entry_list_append (F.args_list_append_2 _ _) (PySem.list_append l its.toArray n u (by rw [List.size_toArray]; omega)) ⟨e,?_⟩
  refine ⟨.non,_,I.lset (its':=its++[u]) hH e (by simp) (r.append (.cons ru .nil)) ?_,rfl,q⟩
  rw [List.length_append,List.length_singleton]
  omega
noncomputable def uW:V->List V->Hp->VK->Prop:=fun x vs H Q=>∃ l b xs zs,x = .ref l/\vs=[.ref b]/\H l=some (.lst xs)/\H b=some (.lst zs)/\xs.length+zs.length<=sizeLine/\Q .non (upd H l (.lst (xs++zs)))
theorem xw:x9 X "list.extend" uW:=by
  intro pins s σ H x vs v us Q I rx rv h
  obtain ⟨l,b,xs,zs,rfl,rfl,hH,hB,hz,q⟩:=h
  cases rx
  obtain ⟨u,rfl,ru⟩:=rv.one
  cases ru
  obtain ⟨z,its,n,r,hl,e⟩:=I.lstM hH
  obtain ⟨z2,its2,n2,r2,hl2,e2⟩:=I.lstM hB
  have hsz:its.toArray.size+its2.toArray.size<=sizeLine:=by rw [List.size_toArray,List.size_toArray]; omega
  have hlong:¬ (!its.toArray.isEmpty&&Builtin.List.listTooLong (its.toArray.size+its2.toArray.size))=true:=by
    rw [tE hsz,Bool.and_false]
    exact Bool.false_ne_true
  refine call_meets F.slot_list_extend ⟨_,e,rfl⟩ F.entry_list_extend (F.args_list_extend_2 _ _)
    (AutoSeq1.list_extend_list_list_0 l its.toArray n b its2.toArray n2 hlong (by rw [List.size_toArray]; omega) (by omega)) ⟨e,e2,?_⟩
  refine ⟨.non,_,I.lset (its':=its++its2) hH e (by simp) (r.append r2) ?_,rfl,q⟩
  rw [List.length_append]
  omega
noncomputable def DP:V->List V->Hp->VK->Prop:=fun x vs H Q=>∃ l xs y,x = .ref l/\vs=[]/\H l=some (.lst xs)/\xs[xs.length - 1]? = some y/\Q y (upd H l (.lst xs.dropLast))
theorem xK:x9 X "list.pop" DP:=by
  intro pins s σ H x vs v us Q I rx rv h
  obtain ⟨l,xs,y,rfl,rfl,hH,hy,q⟩:=h
  cases rx
  have hus:=rv.zero
  subst hus
  obtain ⟨z,its,n,r,hl,e⟩:=I.lstM hH
  obtain ⟨u,hu,ru⟩:=r.get hy
  have hy':its.toArray[its.toArray.size - 1]? = some u:=by
    show its.toArray[its.length - 1]? = some u
    rw [<- Array.getElem?_toList,<- hl]
    exact hu
  refine call_meets F.slot_list_pop ⟨_,e,rfl⟩ F.entry_list_pop (F.args_list_pop_1 _) (MeetsSeq.list_pop_last l its.toArray n u hy' (by rw [List.size_toArray]; omega)) ⟨e,?_⟩
  refine ⟨y,_,I.lset (its':=its.dropLast) hH e ?_ r.dropLast ?_,ru,q⟩
  · show its.toArray.eraseIdxIfInBounds (its.toArray.size - 1)=its.dropLast.toArray
    rw [List.size_toArray,List.eraseIdxIfInBounds_toArray,wz]
  · rw [List.length_dropLast]
    omega
noncomputable def DX:R2:=fun x y H Q=>∃ l b xs zs,x = .ref l/\y = .ref b/\H l=some (.lst xs)/\H b=some (.lst zs)/\xs.length+zs.length<=sizeLine/\∀ p,H p=none->Q (.ref p) (upd H p (.lst (xs++zs)))
theorem oG:fG X (binaryOp .Add) DX:=by
  intro pins s σ H x y v u Q I rx ry h
  obtain ⟨l,b,xs,zs,rfl,rfl,hH,hB,hz,q⟩:=h
  cases rx
  cases ry
  obtain ⟨z,its,n,r,hl,e⟩:=I.lstM hH
  obtain ⟨z2,its2,n2,r2,hl2,e2⟩:=I.lstM hB
  refine PySem.P.add_list e e2 ?_ (by rw [List.size_toArray,List.size_toArray]; omega)
  have ea:its.toArray++its2.toArray=(its++its2).toArray:=by simp
  rw [ea]
  exact ⟨.ref _,_,I.lnew (t':=s.toks) (r.append r2) (by rw [List.length_append]; omega),rfl,q _ I.fresh⟩
end
section
variable {prog:Program} {w:World} {A:Around} {E:Value->Shared->Prop} {s:Shared}
set_option maxRecDepth 100000 in
end
section
variable {X:Cx}
end
end L2
namespace Att
open PySem PySem.W PySem.Calls PyProof.Rows
theorem nX {P:Params} {h:Heap}:∀ (ns:List Int) (vs:List Value),WellAll P h vs (ns.map WData.int)->IntsAre vs ns:=by
  intro ns
  induction ns with
  | nil =>
    intro vs w
    rw [List.map_nil] at w
    cases w
    exact .nil
  | cons n ns ih =>
    intro vs w
    rw [List.map_cons] at w
    cases w with
    | cons a b =>
      cases a
      exact .cons _ _ (ih _ b)
theorem xa {l:OpenLaw} {n:Nat} (hn:l.most=some n) {P:Params} {h:Heap} {args:List WData} {vals:List Value}
    (hpre:l.row.toRowW.claim.pre args=true) (hwl:WellAll P h vals args) :
    ∃ a vs ns,vals=[Value.ref a]/\args=[WData.list (ns.map WData.int)]/\h.get? a=some { cls:=.type "list",data:=.seq vs.toArray }/\IntsAre vs ns/\ns.length<=n:=by
  have hsh:WShape.hasAll [] args [.list .int]=true:=(pre_splitW hpre).1
  have hc:l.pre.holds [] { args:=args }=true:=(pre_splitW hpre).2
  obtain ⟨d,r,rfl,h1,h2⟩:=hasAllW_cons hsh
  obtain rfl:=hasAllW_nil h2
  obtain ⟨xs,rfl,h3⟩:=hasW_list h1
  obtain ⟨ns,rfl⟩:=items_int h3
  have hlen:ns.length<=n:=by
    unfold OpenLaw.pre at hc
    have h4:(WTm.not (.lt (.lit (.int (n:Int))) (.len (.arg 0)))).holds [] { args:=[.list (ns.map .int)] }=true:=by
      have h4:=(holds_andW hc).1
      rw [hn] at h4
      exact h4
    have h5:=condW_of h4 (w_not (w_lt w_lit (w_len_list (w_arg rfl))))
    rw [List.length_map] at h5
    refine Nat.le_of_not_lt fun q=>?_
    have q':(n:Int) < ((ns.length:Nat):Int):=by omega
    first
      | (rw [decide_eq_true q'] at h5; exact absurd h5 (by decide))
      | (simp at h5; omega)
  cases hwl with
  | cons w1 w2 =>
    cases w2
    cases w1 with
    | list ho hall=>exact ⟨_,_,ns,rfl,rfl,ho,nX ns _ hall,hlen⟩
theorem x8 (l:OpenLaw) (args:List WData):l.row.toRowW.claim.post args (.bool true) args=true :=
  postW_of (r:=l.row.toRowW) (X:=(true == true))
    (show WShape.has [] (.bool true) .bool=true by first | rfl | decide | simp [WShape.has,WShape.arms,WShape.armsAll])
    (show (WTm.eq .res (.lit (.bool true))).value [] { args:=args,res:=some (.bool true),after:=args }=some (.bool (true == true)) from w_eq_bool (w_res rfl) w_lit) rfl
theorem attach_call {l:OpenLaw} {n:Nat} {q:Program} {loose:List Str} {XP:(Str->Option Value)->Heap->Prop} {YP:World->Heap->Prop} {d:DefRec}
    (hn:l.most=some n) (hdf:d.params.defaults=[])
    (call:∀ (w:World) (s₀ s₁:Shared) (mg mb:Str->Option Value) (fa:Addr) (o:Obj) (pm cd doc:Value) (a:Addr) (vs:List Value) (ns:List Int),
      Ground q loose [] XP w s₀ mg mb s₁.heap->YP w s₁.heap ->
      s₁.heap.get? fa=some o->o.data = .func (docDef d.name d.params d.body d.scope pm cd doc)->s₁.heap.CodeRec cd d.name->mg d.name=some (.ref fa) ->
      s₁.heap.get? a=some { cls:=.type "list",data:=.seq vs.toArray }->IntsAre vs ns->ns.length<=n->s₁.gens = #[] ->
      codeAny (model l.prog w) callerA (.call (.ref fa) ⟨[.ref a],[]⟩) (fun r s'=>r = .ok (.ret (.bool true))/\OldK s₁.heap s'.heap/\s'.os=s₁.os/\AllBare s'.gens) s₁) :
    WalkO q loose XP YP l.row.toRowW d [] (fun f vs=>PySem.call f vs):=by
  intro w s₀ s₁ mg mb G Y fa o pm cd doc dV kV ho hd hcd hD hmg hg args vals as hpre hlay hrd hwl hlo
  obtain rfl:dV = .none:=Dflts.none hD hdf
  obtain rfl:kV = .none:=Dflts.noKw hD
  obtain ⟨a,vs,ns,rfl,rfl,hobj,hints,hlen⟩:=xa hn hpre hwl
  refine enter_call (codeAny_mono (call w s₀ s₁ mg mb fa o pm cd doc a vs ns G Y ho (fd_plain hd) hcd hmg hobj hints hlen hg) fun r s' hq=>?_)
  obtain ⟨rfl,h2,h3,h4⟩:=hq
  exact ⟨.inl ⟨.bool true,.bool true,[],rfl,fun _=>rfl,.bool true,x8 l _,fun _=>⟨List.Pairwise.nil,fun _ hm=>(nomatch hm)⟩⟩,h2,h3,h4⟩
section
variable {prog:Program} {w:World} {A:Around} {E:Value->Shared->Prop} {s:Shared} {K:Frag}
noncomputable def ledger (h:Heap) (L d:Addr):List (Addr × Obj):=(List.range h.objs.size).filterMap fun a=>if a=L\/a=d then none else (h.get? a).map fun o=>(a,o)
end
end Att
namespace L2
open PySem PySem.Spec PyProof.Rows
theorem pO:∀ {vs:List Value} {ns:List Int},IntsAre vs ns->Vals (ns.map V.int) vs
  | _,_,.nil=>.nil
  | _,_,.cons n t h=>.cons ⟨t,rfl⟩ (pO h)
def vT (H:Hp):Prop:=∀ b,H b=none\/∃ o xs,H b=some (.frz o (.lst xs))
theorem zg {P:Program} {w:World} {K:PySem.W.Frag} {mg mb:Str->Option Value} {CX:jn} {k:Nat} {fa a:Addr} {fd:FuncData} {x:Str} {sp:Sp} {s₁:Shared} {vs:List Value} {ns:List Int}
    (KX:K.In s₁.heap) (hns:s₁.heap.Ns mainGlobals mg) (hb:s₁.heap.Ns builtinsNs mb) (hbb:∀ x:Str,x≠"__name__"->mb x=bootBuiltins x) (hlim:s₁.heap.NoLimit) (hg:s₁.gens = #[])
    (ha:s₁.heap.get? a=some { cls:=.type "list",data:=.seq vs.toArray }) (hi:IntsAre vs ns) (hl:ns.length<=sizeLine) (hr:bF k callerA)
    (F:∀ base:Heap,K.In base->base.Ns mainGlobals mg->aD P w K mg base CX k fa fd [x] sp) (hbind:∀ (s:Shared) (u:Value),BindsTo s fd ⟨[u],[]⟩ [(x,u)])
    (hsp:∀ H:Hp,vT H->aq K H a (ns.map V.int)->sp [.ref a] H (fun v _=>v = .bl true) fun _ _ _=>False)
    (hCX:∀ H e s',CX [] H s₁ (fun _ _ _=>False) e s'->False) :
    codeAny (model P w) callerA (.call (.ref fa) ⟨[.ref a],[]⟩) (fun r s'=>r = .ok (.ret (.bool true))/\OldK s₁.heap s'.heap/\s'.os=s₁.os/\AllBare s'.gens) s₁:=by
  have rv:=pO hi
  have lenV:=hi.length
  -- from an abstract heap in which nothing but the script may be tracked
  have core:∀ H:Hp,vT H->aq K H a (ns.map V.int)->dZ P w H s₁.heap->(∀ b,H b≠none->b=a)->(H a≠none->K.lookup a=none) ->
      codeAny (model P w) callerA (.call (.ref fa) ⟨[.ref a],[]⟩) (fun r s'=>r = .ok (.ret (.bool true))/\OldK s₁.heap s'.heap/\s'.os=s₁.os/\AllBare s'.gens) s₁:=by
    intro H hO hS hok hA hK
    have base_of:∀ {b:Addr} {o:Obj},s₁.heap.get? b=some o->H b=none->(jz s₁.heap H).get? b=some o:=fun e n=>zd e n
    have noA:∀ {b:Addr} {o:Obj} {es:Array DictEntry} {ep:Nat},s₁.heap.get? b=some o->o.data = .dict es ep->H b=none:=fun {b o es ep} e d=>by
      cases q:H b with
      | none=>rfl
      | some u =>
        have e':b=a:=hA b (by rw [q]; simp)
        subst e'
        rw [ha] at e; cases e
        have d':Data.seq vs.toArray _=Data.dict es ep:=d
        cases d'
    have nsK:∀ {b:Addr} {m:Str->Option Value},s₁.heap.Ns b m->(jz s₁.heap H).Ns b m:=fun {b m} ⟨o,es,ep,e,d,r⟩=>⟨o,es,ep,base_of e (noA e d),d,r⟩
    have hKb:K.In (jz s₁.heap H):=fun b o e=>base_of (KX b o e) (by
      cases q:H b with
      | none=>rfl
      | some u =>
        have e':b=a:=hA b (by rw [q]; simp)
        subst e'
        rw [hK (by rw [q]; simp)] at e; cases e)
    have hM:Mod K mg (jz s₁.heap H):=⟨hKb,nsK hns,⟨mb,nsK hb,hbb⟩,let ⟨mc,h1,h2⟩:=hlim; ⟨mc,nsK h1,h2⟩⟩
    have e0:nH P w K mg (jz s₁.heap H) callerA [] s₁ H:=⟨rfl,hM,fun b o e=>z8 e,Nat.le_of_eq (xq _ _),trivial,fun b hb=>absurd (show b∈([]:List Addr) from hb) (by simp),hok,.of_eq hg⟩
    refine codeAny_mono ((F _ hKb (nsK hns)).run callerA [] s₁ H ⟨[.ref a],[]⟩ [.ref a] [.ref a] _ _ hr e0 (hbind s₁ (.ref a)) (.cons rfl .nil) (hsp H hO hS)) fun r s' h=>?_
    cases r with
    | error e=>exact (hCX H e s' h).elim
    | ok fl =>
      cases fl with
      | next=>exact False.elim h
      | brk=>exact False.elim h
      | cont=>exact False.elim h
      | ret u =>
        obtain ⟨v,H',os,bare,un,hok',r',q⟩:=h
        have q':v = .bl true:=q
        subst q'
        obtain rfl:u=Value.bool true:=r'
        refine ⟨rfl,OldK.of_keep fun b o e=>?_,os,bare⟩
        cases q:H b with
        | none=>exact un.keep b o e q (by intro z; exact absurd (show b∈([]:List Addr) from z) (by simp)) (by simp)
        | some u =>
          rcases hO b with z | ⟨ob,xs,z⟩
          · rw [q] at z; cases z
          · have z2:=un.frzs b ob _ z
            obtain ⟨e1,_⟩:=hok b _ z
            obtain ⟨e2,_⟩:=hok' b _ z2
            rw [e] at e1; cases e1
            exact e2
  cases hk:K.lookup a with
  | some o =>
    -- the script is one of the module's own objects
    have e:=KX a o hk
    rw [ha] at e
    cases e
    refine core (fun _=>none) (fun _=>.inl rfl) (.inr ⟨_,vs.toArray,_,hk,rfl,rfl,rfl,by rw [List.size_toArray,lenV]; exact hl,by simpa using rv⟩) (fun b u z=>by have z':(none:Option HO)=some u:=z; cases z') (fun b z=>absurd rfl z) fun z=>absurd rfl z
  | none =>
    refine core (fun b=>if b=a then some (.frz { cls:=.type "list",data:=.seq vs.toArray } (.lst (ns.map V.int))) else none) (fun b=>?_) (.inl (.inr ⟨{ cls:=.type "list",data:=.seq vs.toArray },if_pos rfl⟩)) (fun b u z=>?_) (fun b z=>?_) fun _=>hk
    · by_cases hb:b=a
      · exact .inr ⟨_,_,if_pos hb⟩
      · exact .inl (if_neg hb)
    · by_cases hb:b=a
      · have z':=(if_pos hb).symm.trans z
        cases z'
        subst hb
        exact ⟨ha,by rw [List.length_map]; exact hl,vs,_,rv,ha⟩
      · have z':=(if_neg hb).symm.trans z
        cases z'
    · by_cases hb:b=a
      · exact hb
      · exact absurd (if_neg hb) z
end L2
namespace L2
open PySem PySem.Spec PyProof.Rows
noncomputable abbrev En {K:PySem.W.Frag} {h:Heap} (_:K.In h):PySem.W.Frag:=K
theorem walk_of {l:PySem.W.OpenLaw} {n k:Nat} {q:Program} {loose:List Str} {XP:(Str->Option Value)->Heap->Prop} {YP:World->Heap->Prop} {d:DefRec} {K:Params->PySem.W.Frag} {CX:World->jn} {sp:World->Sp} {x:Str}
    (hn:l.most=some n) (hn2:n<=sizeLine) (hdf:d.params.defaults=[]) (hr:bF k callerA)
    (hY:∀ (w:World) (h:Heap),YP w h->(K w.params).In h)
    (F:∀ (w:World) (mg:Str->Option Value) (fa:Addr) (h:Heap),(K w.params).In h->h.Ns mainGlobals mg->mg d.name=some (.ref fa) ->
      ∃ fd:FuncData,(∀ (s:Shared) (u:Value),BindsTo s fd ⟨[u],[]⟩ [(x,u)]) /\
        ∀ base:Heap,(K w.params).In base->base.Ns mainGlobals mg->aD l.prog w (K w.params) mg base (CX w) k fa fd [x] (sp w))
    (hsp:∀ (w:World) (H:Hp) (a:Addr) (ns:List Int),ns.length<=n->vT H->aq (K w.params) H a (ns.map V.int)->sp w [.ref a] H (fun v _=>v = .bl true) fun _ _ _=>False)
    (hCX:∀ (w:World) (H:Hp) (s:Shared) (e:Value) (s':Shared),CX w [] H s (fun _ _ _=>False) e s'->False) :
    PySem.W.WalkO q loose XP YP l.row.toRowW d [] (fun f vs=>PySem.call f vs):=by
  refine Att.attach_call hn hdf fun w s₀ s₁ mg mb fa o pm cd doc a vs ns G Y ho hd hcd hmg hobj hints hlen hg=>?_
  have KX:=hY w _ Y
  obtain ⟨fd,hb,hF⟩:=F w mg fa _ KX G.T.g hmg
  exact zg KX G.T.g G.T.b G.T.builtins G.T.nolimit hg hobj hints (Nat.le_trans hlen hn2) hr hF hb (fun H hO hS=>hsp w H a ns hlen hO hS) fun H e s'=>hCX w H s₁ e s'
end L2
namespace L2
open PySem PySem.Spec PyProof.Rows
noncomputable def inClass (s:Stmt) (j:Nat):Stmt:=match s with
  | .ClassDef _ _ _ body _ _ _ _ _ _ _=>body.getD j (.Pass ⟨0,0,0,0⟩)
  | _=>.Pass ⟨0,0,0,0⟩
noncomputable def aj (s:Stmt):Arguments:=match s with
  | .FunctionDef _ a _ _ _ _ _ _ _ _=>a
  | _=>{ posonlyargs:=[],args:=[],vararg:=none,kwonlyargs:=[],kw_defaults:=[],kwarg:=none,defaults:=[] }
noncomputable def ah (s:Stmt):List Stmt:=match s with
  | .FunctionDef _ _ b _ _ _ _ _ _ _=>b
  | _=>[]
noncomputable def ab (s:Stmt):Scope:=match s with
  | .FunctionDef _ _ _ _ _ _ sc _ _ _=>sc
  | _=>{ kind:=.function,names:=[],isGenerator:=false,isCoroutine:=false }
noncomputable abbrev a8:jn:=fun _ _ _ _ _ _=>False
noncomputable abbrev E0:XK:=fun _ _ _=>False
structure ba (K:PySem.W.Frag) (x qual:Str) (st:Stmt) (f:Addr) (fd:FuncData):Prop where
  ex:∃ (oc:Value) (od:Option Addr) (kV doc pm:Value) (an:Option Addr) (cdv ct:Value) (osl:Array (Option Value)),
    fd=PySem.W.fnOf x qual (aj st) (ah st) (ab st) .none kV doc pm an cdv ct/\K.lookup f=some ⟨oc,od,.func fd,osl⟩/\PySem.W.codeIn K cdv qual=true
  kp:PySem.W.keepIn K (.ref f)=true
section
variable {P:Program} {w:World} {K:PySem.W.Frag} {mg:Str->Option Value} {base:Heap}
theorem ba.ok {x qual:Str} {st:Stmt} {f:Addr} {fd:FuncData} {N ps:List Str} {k:Nat} {sp:Sp} (F:ba K x qual st f fd) (S:av N ps (ab st)) (len:∀ vs H Q E,sp vs H Q E->vs.length=ps.length)
    (hbody:∀ (cdv:Value) (A:Around) (outer:List Env) (s:Shared) (H:Hp) (vs:List V) (Q:VK) (E:XK),bF k (A.deeper (envOfC qual (ab st) s.heap.objs.size f cdv))->sp vs H Q E ->
      ∃ t,ik (oR a8 P w K mg base N qual (ab st) f cdv A outer s H E).nox (ah st) t/\t { nx:=fun _ H'=>Q .non H',rt:=Q } (start N vs) H):aD P w K mg base a8 (k+1) f fd ps sp:=by
  obtain ⟨oc,od,kV,doc,pm,an,cdv,ct,osl,rfl,lk,hcd⟩:=F.ex
  refine Dx lk hcd S len fun A outer s H vs Q E hr hsp=>?_
  obtain ⟨t,h,q⟩:=hbody cdv A outer s H vs Q E hr hsp
  exact ⟨t,h.nox,q⟩
theorem ba.binds {x qual:Str} {st:Stmt} {f:Addr} {fd:FuncData} {ps:List Str} (F:ba K x qual st f fd)
    (h:∀ (kV doc pm:Value) (an:Option Addr) (cdv ct:Value) (us:List Value),us.length=ps.length->bindArgs (PySem.W.fnOf x qual (aj st) (ah st) (ab st) .none kV doc pm an cdv ct) ⟨us,[]⟩=pure (ps.zip us)):Binds K fd ps []:=by
  obtain ⟨oc,od,kV,doc,pm,an,cdv,ct,osl,rfl,lk,hcd⟩:=F.ex
  exact .all (h kV doc pm an cdv ct)
theorem aA {x qual:Str} {st:Stmt} {f:Addr} {oc:Value} {od an:Option Addr} {osl:Array (Option Value)} {kV doc pm cdv ct:Value} (l:K.lookup f=some ⟨oc,od,.func (PySem.W.fnOf x qual (aj st) (ah st) (ab st) .none kV doc pm an cdv ct),osl⟩)
    (c:PySem.W.codeIn K cdv qual=true) (k:PySem.W.keepIn K (.ref f)=true):ba K x qual st f (PySem.W.fnOf x qual (aj st) (ah st) (ab st) .none kV doc pm an cdv ct):=⟨⟨oc,od,kV,doc,pm,an,cdv,ct,osl,rfl,l,c⟩,k⟩
end
theorem Dy {A:Around} {k:Nat} (hr:bF k A):A.units+1 < cLine:=Nat.lt_of_le_of_lt (Nat.add_le_add_left (by decide:1<=64) _) hr.units
section
variable {X:Cx}
theorem pv (i:Nat) {x:Str} {pos:Pos} (hN:X.N[i]? = some x:=by rfl) (hv:A8 X.env.scope x:=by first | exact Or.inl rfl | exact Or.inr (Or.inl rfl) | exact Or.inr (Or.inr rfl)) (hd:(x == ("__debug__" : Str))=false:=by decide)
    (hcd:(x == ("__classdict__" : Str))=false:=by decide):PE X (.Name x pos) (BA i):=AG hN hv hd hcd
end
theorem fJ {A B:Prop} (h:B):if false=true then A else B:=by
  rw [if_neg Bool.false_ne_true]
  exact h
theorem fI {A B:Prop} (h:A):if true=true then A else B:=by
  rw [if_pos rfl]
  exact h
theorem rF {c A B:Prop} [Decidable c] (h1:c->A) (h2:¬ c->B):if c then A else B:=by
  by_cases h:c
  · rw [if_pos h]
    exact h1 h
  · rw [if_neg h]
    exact h2 h
theorem vn {c A B:Prop} [Decidable c] (hc:c) (h:B):if (!decide c)=true then A else B:=by
  rw [decide_eq_true hc]
  exact fJ h
def af (H H':Hp):Prop:=∀ b o,H b=some o->H' b=some o
theorem af.refl (H:Hp):af H H:=fun _ _ h=>h
theorem af.trans {H H1 H2:Hp} (a:af H H1) (b:af H1 H2):af H H2:=fun c o h=>b c o (a c o h)
theorem af.free {H H':Hp} (e:af H H') {l:Addr} (h:H' l=Option.none):H l=Option.none:=by
  cases q:H l with
  | none=>rfl
  | some o =>
    rw [e l o q] at h
    cases h
theorem af.seq {K:PySem.W.Frag} {H H':Hp} {a:Addr} {xs:List V} (e:af H H') (h:aq K H a xs):aq K H' a xs:=by
  rcases h with (h | ⟨o,h⟩) | h
  · exact .inl (.inl (e _ _ h))
  · exact .inl (.inr ⟨o,e _ _ h⟩)
  · exact .inr h
end L2
set_option Elab.async false
set_option linter.all false
set_option maxRecDepth 100000
set_option maxHeartbeats 4000000
namespace L2
open PySem PySem.Spec PyProof.Rows
section
variable {X:Cx}
def Dq (i j:Int):Prop:=0 < j/\j.natAbs.log2 < 9000
theorem iF:fG X (binaryOp .FloorDiv) (rI Dq fun i j=>.int (i / j)):=Bk fun i j _ _ _ _ _ hc q=>by
  have h1:(0:Int) < j:=hc.1
  exact floordiv_int (by omega) (by rw [Int.fdiv_eq_ediv_of_nonneg i (by omega)]; exact q) (.inl (PyProof.noPylong_of_log2 hc.2))
theorem mO:dY X (.builtin "isinstance") (fun xs H Q=>∃ x c cv t b,xs=[x,c]/\(∀ u,RelV c u->u=cv)/\gJ X.K H x t/\PySem.W.kitOne X.K t cv=some b/\Q (.bl b) H):=by
  intro pins s σ H xs us Q I r h
  obtain ⟨x,c,cv,t,b,rfl,hcv,ty,e,q⟩:=h
  obtain ⟨u,w',rfl,r1,r2⟩:=vals2 r
  rw [hcv w' r2]
  exact xk I r1 ty e fun tk=>⟨.bl b,H,I.tok _,rfl,q⟩
theorem zp {n:String}:∀ u,RelV (.ty n) u->u=Value.type n:=fun _ h=>h
theorem wK {ys:List Str}:∀ {us:List Value},Vals (ys.map V.str) us->StrsAre us ys:=by
  induction ys with
  | nil=>intro us r; rw [List.map_nil] at r; cases r; exact .nil
  | cons n ns ih =>
    intro us r
    rw [List.map_cons] at r
    cases r with
    | cons h t =>
      obtain ⟨tk,rfl⟩:=h
      exact .cons n tk (ih t)
end
theorem ql {α β:Type} {l:List α} {f:α->β->Sem (ForInStep β)} (g:β->α->β) (c:β) (h:∀ x∈l,∀ c,f x c=pure (.yield (g c x))) :
    forIn l c f=pure (l.foldl g c):=by
  induction l generalizing c with
  | nil=>rfl
  | cons x l ih =>
    rw [List.forIn_cons,h x List.mem_cons_self,pure_bind]
    exact ih _ fun y hy=>h y (List.mem_cons_of_mem _ hy)
noncomputable def tS (cells:List (Str × Addr)) (names:List (Str × NameKind)) (acc:List (Str × Addr)):List (Str × Addr) :=
  names.foldl (fun cs y=>if y.2 == .free then (y.1,(cells.lookup y.1).getD 0)::cs else cs) acc
theorem vD {scope:Scope} {env:Env} (h:∀ y∈scope.names,y.2 = .free->∃ c,env.cells.lookup y.1=some c):closureFor scope env=pure (tS env.cells scope.names []):=by
  simp only [closureFor]
  rw [ql (fun cs y=>if y.2 == .free then (y.1,(env.cells.lookup y.1).getD 0)::cs else cs) [] fun x hx c=>?_]
  · rfl
  · obtain ⟨n,k⟩:=x
    by_cases hk:k = .free
    · subst hk
      obtain ⟨a,ea⟩:=h (n,.free) hx rfl
      have ea':env.cells.lookup n=some a:=ea
      simp only [beq_self_eq_true,if_true,cellOf,ea',pure_bind,Option.getD_some]
    · have hb:(k == NameKind.free)=false:=by simpa using hk
      simp only [hb,Bool.false_eq_true,if_false]
theorem lookup_mem {α:Type}:∀ {l:List (Str × α)} {x:Str} {c:α},l.lookup x=some c->(x,c)∈l
  | [],_,_,h=>by simp at h
  | (y,d)::r,x,c,h=>by
    rw [List.lookup_cons] at h
    cases hx:x == y with
    | true =>
      rw [hx] at h
      have e:x=y:=by simpa using hx
      subst e
      cases h
      exact List.mem_cons_self
    | false =>
      rw [hx] at h
      exact List.mem_cons_of_mem _ (lookup_mem h)
theorem mem_lookup {α:Type}:∀ {l:List (Str × α)} {x:Str} {c:α},(x,c)∈l->∃ d,l.lookup x=some d
  | [],_,_,h=>by cases h
  | (y,d)::r,x,c,h=>by
    rw [List.lookup_cons]
    cases hx:x == y with
    | true=>exact ⟨d,rfl⟩
    | false =>
      rcases List.mem_cons.mp h with e | h
      · cases e; simp at hx
      · exact mem_lookup h
theorem m8 {cells:List (Str × Addr)}:∀ {names:List (Str × NameKind)} {acc:List (Str × Addr)} {p:Str × Addr},p∈tS cells names acc↔p∈acc\/((p.1,NameKind.free)∈names/\p.2=(cells.lookup p.1).getD 0)
  | [],acc,p=>by simp [tS]
  | (n,k)::r,acc,p=>by
    show p∈tS cells r (if k == .free then (n,(cells.lookup n).getD 0)::acc else acc)↔_
    rw [m8 (names:=r)]
    by_cases hk:k = .free
    · subst hk
      simp only [beq_self_eq_true,if_true,List.mem_cons]
      constructor
      · rintro ((rfl | h) | h)
        · exact .inr ⟨.inl rfl,rfl⟩
        · exact .inl h
        · exact .inr ⟨.inr h.1,h.2⟩
      · rintro (h | ⟨h | h,e⟩)
        · exact .inl (.inr h)
        · obtain ⟨a,b⟩:=p
          cases h
          exact .inl (.inl (by rw [show b=_ from e]))
        · exact .inr ⟨h,e⟩
    · have hb:(k == NameKind.free)=false:=by simpa using hk
      simp only [hb,Bool.false_eq_true,if_false,List.mem_cons]
      constructor
      · rintro (h | h)
        · exact .inl h
        · exact .inr ⟨.inr h.1,h.2⟩
      · rintro (h | ⟨h | h,e⟩)
        · exact .inl h
        · cases h; exact absurd rfl hk
        · exact .inr ⟨h,e⟩
theorem iS {scope:Scope} {env:Env} {x:Str} {k:NameKind} (h:(relabel scope env).names.lookup x=some k):∃ k',(x,k')∈scope.names/\(k'=k\/(k' = .free/\k = .cell)):=by
  have m:=lookup_mem h
  unfold relabel at m
  obtain ⟨⟨n,k'⟩,hm,e⟩:=List.mem_map.mp m
  dsimp only at e
  split at e
  · rename_i hc
    rw [Bool.and_eq_true,Bool.and_eq_true] at hc
    have e1:n=x:=congrArg Prod.fst e
    have e2:NameKind.cell=k:=congrArg Prod.snd e
    subst e1 e2
    exact ⟨k',hm,.inr ⟨by simpa using hc.1.1,rfl⟩⟩
  · have e1:n=x:=congrArg Prod.fst e
    have e2:k'=k:=congrArg Prod.snd e
    subst e1 e2
    exact ⟨k',hm,.inl rfl⟩
noncomputable def dm (X:Cx) (scope:Scope) (N:List Str) (cl:List (Str × Addr)) (C:Addr) (s:Shared) (H:Hp) (fp:List Addr) (xe:Value->Shared->Prop):Cx :=
  { X with N:=N,s₀:=s,H₀:=H,env:=compEnvC scope cl C X.env,outer:=X.stack,stack:=X.stack,ex:=fp,fn:=fun _=>false,pn:=[],xe:=xe }
inductive hZ (X:Cx) (scope:Scope):List Str->List (Option Nat)->Prop where
  | nil:hZ X scope [] []
  | own {x:Str} {N:List Str} {ix:List (Option Nat)} (r:hZ X scope N ix):hZ X scope (x::N) (none::ix)
  | cap {x:Str} {j:Nat} {N:List Str} {ix:List (Option Nat)} (h1:X.N[j]? = some x) (h2:X.env.kindOf x=some .cell) (h3:(relabel scope X.env).names.lookup x=some .cell) (r:hZ X scope N ix):hZ X scope (x::N) (some j::ix)
noncomputable def gU (ix:List (Option Nat)) (σ:St):St:=ix.map fun o=>match o with
  | none=>none
  | some j=>(σ[j]?).getD none
theorem hZ.get {X:Cx} {scope:Scope} {σ:St}:∀ {N:List Str} {ix:List (Option Nat)},hZ X scope N ix->∀ (i:Nat) (x:Str) (v:V),N[i]? = some x->(gU ix σ)[i]? = some (some v) ->
    ∃ j:Nat,X.N[j]? = some x/\σ[j]? = some (some v)/\X.env.kindOf x=some .cell/\(relabel scope X.env).names.lookup x=some .cell
  | _,_,.nil,i,x,v,h,_=>by simp at h
  | _,_,.own r,0,x,v,_,h=>by simp [gU] at h
  | _,_,.own r,i+1,x,v,h1,h2=>r.get i x v (by simpa using h1) (by simpa [gU] using h2)
  | _,_,.cap (j:=j) e1 e2 e3 r,0,x,v,h1,h2=>by
    simp at h1
    subst h1
    refine ⟨j,e1,?_,e2,e3⟩
    simp only [gU,List.map_cons,List.getElem?_cons_zero,Option.some.injEq] at h2
    cases q:σ[j]? with
    | none=>rw [q] at h2; cases h2
    | some o=>rw [q] at h2; simp only [Option.getD_some] at h2; rw [h2]
  | _,_,.cap e1 e2 e3 r,i+1,x,v,h1,h2=>r.get i x v (by simpa using h1) (by simpa [gU] using h2)
theorem hZ.length {X:Cx} {scope:Scope} {N:List Str} {ix:List (Option Nat)} (h:hZ X scope N ix):ix.length=N.length:=by
  induction h with
  | nil=>rfl
  | own _ ih=>simp [ih]
  | cap _ _ _ _ ih=>simp [ih]
def Ext (a b:St):Prop:=b.length=a.length/\∀ (i:Nat) v,a[i]? = some (some v)->b[i]? = some (some v)
theorem Ext.set {a:St} {i:Nat} {v:V} (h:a[i]? = some none):Ext a (a.set i (some v)):=by
  refine ⟨by simp,fun j w e=>?_⟩
  by_cases hj:j=i
  · subst hj; rw [h] at e; cases e
  · rw [List.getElem?_set_ne (Ne.symm hj)]; exact e
theorem Ext.trans {a b c:St} (h:Ext a b) (h':Ext b c):Ext a c:=⟨h'.1.trans h.1,fun i v e=>h'.2 i v (h.2 i v e)⟩
def yi (X:Cx) (ifs:List Expr) (t:TT):Prop :=
  ∀ (pins:List (Addr × Obj)) (s:Shared) (σ:St) (H:Hp) (Q:Bool->Hp->Prop),Inv X pins σ H s->t σ H Q ->
    wpAny (model X.prog X.w) X.A (forIn ifs true fun c r=>if r=true then do let ok <- isTrue c X.env (eval c X.env); pure (ForInStep.yield ok) else pure (ForInStep.yield r)) (TP X pins σ Q) X.xe s
noncomputable def zD:TT:=fun _ H Q=>Q true H
theorem gP {X:Cx}:yi X [] zD:=fun pins s σ H Q I h=>wpAny_tests_nil ⟨H,I,h⟩
theorem gR {X:Cx} {c:Expr} {t:TT} (h:PT X c t):yi X [c] t:=fun pins s σ H Q I q=>wpAny_tests_one (h pins s σ H Q I q)
def qR (J:It) (g:TG) (tt:TT) (te:TE) (σ0:St) (D:Addr) (Q:VK) (H1:Hp):Prop:=∃ W:Nat->Nat->List V->Hp->Prop,(∃ m,W 0 m [] (upd H1 D (.lst [])))/\∀ i m ys H,W i m ys H ->
  (J.stop i H/\Q (.ref D) H)\/(J.go i H/\∀ x H',J.yld i H x H'->g x σ0 H' fun σ2 H2=>Ext σ0 σ2/\tt σ2 H2 fun b H3 =>
    if b=true then te σ2 H3 fun v H4=>H4 D=some (.lst ys)/\ys.length < sizeLine/\∃ m',m' < m/\W (i+1) m' (ys++[v]) (upd H4 D (.lst (ys++[v]))) else ∃ m',m' < m/\W (i+1) m' ys H3)
noncomputable def wq (wi:TI) (g:TG) (tt:TT) (te:TE) (ix:List (Option Nat)):TE:=fun σ H Q=>wi σ H fun J H1=>∀ D,H1 D=none->qR J g tt te (gU ix σ) D Q H1
section
variable {prog:Program} {w:World} {A:Around} {R:Result->Shared->Prop} {s:Shared}
theorem xZ {elt target iter:Expr} {ifs:List Expr} {scope:Scope} {pos:Pos} {it acc:Value} {env:Env} (I:Nat->Shared->Prop)
    (turn:∀ n s,I n s->wpAny (model prog w) A (pyNext it) (fun r s₁=>match r with
      | none=>R (.ok .next) s₁
      | some v=>wpAny (model prog w) A (letOwnedTupleGo target it v) (fun _ s₁'=>wpAny (model prog w) A (assign target env v) (fun _ s₂ =>
          wpAny (model prog w) A (forIn ifs true fun c r=>if r=true then do let ok <- isTrue c env (eval c env); pure (ForInStep.yield ok) else pure (ForInStep.yield r)) (fun ok s₃ =>
            if ok=true then wpAny (model prog w) A (eval elt env) (fun x s₄ =>
              wpAny (model prog w) A (call (.builtin "list.append") [acc,x]) (fun _ s₅=>∃ m,m < n/\I m s₅) (notedBy (model prog w) A env fun e s'=>R (.error e) s') s₄) (notedBy (model prog w) A env fun e s'=>R (.error e) s') s₃
            else ∃ m,m < n/\I m s₃) (notedBy (model prog w) A env fun e s'=>R (.error e) s') s₂) (notedBy (model prog w) A env fun e s'=>R (.error e) s') s₁') (notedBy (model prog w) A env fun e s'=>R (.error e) s') s₁) (notedBy (model prog w) A env fun e s'=>R (.error e) s') s)
    (n:Nat) (h:I n s):codeAny (model prog w) A (.compLoop (.ListComp elt [⟨target,iter,ifs,0⟩] scope pos) 0 it acc env) R s:=by
  refine codeAny_loop rfl I (fun n s hI=>?_) n h
  show wpAny _ A ((compTurn (.ListComp elt [⟨target,iter,ifs,0⟩] scope pos) 0 it acc env).onRaise (fun x=>do noteFrame x env; theTreesLotGoes x)) _ _ s
  refine wpAny_noted ?_
  rw [compTurn_list]
  refine wpAny_bind (wpAny_standAt (wpAny_bind (wpAny_mono (turn n s hI) (fun r s₁ h₁=>?_) fun _ _ h'=>h')))
  cases r with
  | none=>exact wpAny_pure h₁
  | some v =>
    refine wpAny_bind (wpAny_mono h₁ (fun _ s₁' h₁'=>?_) fun _ _ h'=>h')
    refine wpAny_bind (wpAny_mono h₁' (fun _ s₂ h₂=>wpAny_bind (wpAny_mono h₂ (fun ok s₃ h₃=>?_) fun _ _ h'=>h')) fun _ _ h'=>h')
    cases ok with
    | false=>exact wpAny_pure ⟨rfl,h₃⟩
    | true =>
      exact wpAny_bind (wpAny_bind (wpAny_mono h₃ (fun x s₄ h₄=>wpAny_bind (wpAny_mono h₄ (fun _ s₅ h₅=>wpAny_pure (wpAny_pure ⟨rfl,h₅⟩)) fun _ _ h'=>h')) fun _ _ h'=>h'))
end
section
variable {X:Cx}
noncomputable def tL (sc:Scope):Bool:=sc.names.all fun y=>y.2 != .cell
noncomputable def freeOk (sc:Scope) (env:Env):Bool:=sc.names.all fun y=>y.2 != .free || env.kindOf y.1 == some .cell
noncomputable def namesOk (sc:Scope):Bool:=sc.names.all fun y=>y.2 != .local || sc.names.lookup y.1 == some .local
structure jr (X:Cx) (pins:List (Addr × Obj)) (σ:St) (H:Hp) (C:Addr) (s:Shared):Prop where
  inv:Inv X pins σ H s
  ns:∃ m,s.heap.Ns C m
  free:H C=none
  loc:C≠X.env.locals
  young:X.s₀.heap.objs.size<=C
  cell:∀ x c,X.env.cells.lookup x=some c->c≠C
  pin:∀ p∈X.pn++pins,p.1≠C
theorem jr.gone {pins:List (Addr × Obj)} {σ:St} {H:Hp} {C:Addr} {s:Shared} (B:jr X pins σ H C s) {h':Heap} (hs:Heap.SameBut C s.heap h'):Inv X pins σ H { s with heap:=h' } :=
  B.inv.turned (t':=s.toks) (it:=C) (fun b o hb e=>hs.extBut b o hb e) B.free B.loc (.inr B.young) B.cell B.pin
theorem qg {elt tg iter:Expr} {ifs:List Expr} {scope:Scope} {pos pos':Pos} {N:List Str} {ix:List (Option Nat)} {wi:TI} {g:TG} {tt:TT} {te:TE} {use:Option (Value->Sem Unit)} {Qv:Value->Shared->Prop}
    (hc:X.calm=true) (hi:PI X tg iter wi) (hk:scope.kind = .function) (hcell0:tL scope=true) (hfree0:freeOk scope X.env=true) (hnames0:namesOk scope=true) (caps:hZ X scope N ix)
    (hg:∀ cl C s H fp xe,PG (dm X scope N cl C s H fp xe) tg g) (ht:∀ cl C s H fp xe,yi (dm X scope N cl C s H fp xe) ifs tt) (he:∀ cl C s H fp xe,PE (dm X scope N cl C s H fp xe) elt te)
    (hs:∀ x,foldedSetIterable iter X.env x=pure x)
    {pins:List (Addr × Obj)} {s:Shared} {σ:St} {H:Hp} {Q:VK} (I:Inv X pins σ H s) (h:wq wi g tt te ix σ H Q)
    (fin:∀ (C D:Addr) (H6:Hp) (s6:Shared),jr X pins σ H6 C s6->Q (.ref D) H6->compPost (model X.prog X.w) X.A X.xe use Qv (.ref D) C (.ok .next) s6) :
    wpAny (model X.prog X.w) X.A (comprehension (.ListComp elt [⟨tg,iter,ifs,0⟩] scope pos) scope X.env pos' (newList []) false (eval iter X.env) use) Qv X.xe s:=by
  have hcell:∀ y∈scope.names,y.2≠.cell:=fun y hy e=>by
    have:=List.all_eq_true.mp hcell0 y hy
    rw [e] at this; exact absurd this (by decide)
  have hfree:∀ y∈scope.names,y.2 = .free->X.env.kindOf y.1=some .cell:=fun y hy e=>by
    have:=List.all_eq_true.mp hfree0 y hy
    rw [e] at this; simpa using this
  have hnames:∀ y∈scope.names,y.2 = .local->scope.names.lookup y.1=some .local:=fun y hy e=>by
    have:=List.all_eq_true.mp hnames0 y hy
    rw [e] at this; simpa using this
  have hcl:∀ y∈scope.names,y.2 = .free->∃ c,X.env.cells.lookup y.1=some c:=fun y hy e=>I.ok.has y.1 (.inl (hfree y hy e))
  refine wpAny_comprehension_free (use:=use) rfl hs (vD hcl) hk hnames ?_
  generalize ecl:tS X.env.cells scope.names []=cl
  -- the cells of the block are the def's
  have cl1:∀ x c,cl.lookup x=some c->X.env.cells.lookup x=some c:=fun x c e=>by
    have m:=lookup_mem e
    rw [<- ecl] at m
    rcases m8.mp m with z | ⟨z,z'⟩
    · cases z
    · obtain ⟨a,ea⟩:=hcl _ z rfl
      have ea':X.env.cells.lookup x=some a:=ea
      have z2:c=(X.env.cells.lookup x).getD 0:=z'
      rw [ea',Option.getD_some] at z2
      rw [ea',z2]
  have cl2:∀ x,(x,NameKind.free)∈scope.names->∃ c,cl.lookup x=some c:=fun x hx=>by
    have m:(x,(X.env.cells.lookup x).getD 0)∈cl:=by rw [<- ecl]; exact m8.mpr (.inr ⟨hx,rfl⟩)
    exact mem_lookup m
  refine aF (hi pins s σ H _ I h) fun v s1 h1=>aF h1 fun itv s2 h2=>?_
  obtain ⟨it,fp,tn,J,H2,e,I2,T,st2,f2,body⟩:=h2
  subst e
  refine wpAny_newObj_type (wpAny_newFunctionEnv hcell (by intro y hy; simp at hy) (fun h₁ hns₁ hsb₁=>?_) hk)
  dsimp only at hns₁ hsb₁ |-
  have hD:H2 s2.heap.objs.size=none:=I2.hok.fresh (Nat.le_refl _)
  obtain ⟨W,⟨m0,w0⟩,turn⟩:=body _ hD
  have I3:Inv X pins σ (upd H2 s2.heap.objs.size (.lst [])) { s2 with heap:=s2.heap.push { cls:=.type "list",dict:=none,data:=.seq ([]:List Value).toArray } } :=
    I2.laid (t':=s2.toks) (fun b o e=>Heap.get?_push_of_some _ e) (Nat.le_refl _) ⟨Nat.zero_le _,[],0,.nil,Heap.get?_push_size _ rfl⟩
  generalize hs3:({ s2 with heap:=s2.heap.push { cls:=.type "list",dict:=none,data:=.seq ([]:List Value).toArray } }:Shared)=s3 at I3
  have es3:s2.heap.push { cls:=.type "list",dict:=none,data:=.seq ([]:List Value).toArray }=s3.heap:=by rw [<- hs3]
  rw [es3] at hns₁ hsb₁ |-
  generalize hD':s2.heap.objs.size=D at *
  generalize hH3:upd H2 D (.lst [])=H3 at *
  have szC:s3.heap.objs.size=D+1:=by rw [<- es3,Heap.size_push,hD']
  -- what was,is
  have old:∀ b o,s3.heap.get? b=some o->h₁.get? b=some o:=fun b o e=>hsb₁.extBut b o (Nat.ne_of_lt (Heap.lt_size e)) (Heap.get?_push_of_some _ e)
  have fpl:∀ b∈fp,b < D:=fun b hb=>by
    obtain ⟨o,e,_⟩:=T.obj 0 _ st2 b hb
    rw [<- hD']; exact Heap.lt_size e
  have fpD:∀ b∈fp,H3 b=none:=fun b hb=>by
    rw [<- hH3,ak (Nat.ne_of_lt (fpl b hb))]; exact (f2 b hb).1
  have fstk:∀ b∈fp,b∉i4 X.stack:=fun b hb z=>by
    obtain ⟨_,f1,f3,_⟩:=f2 b hb
    rcases List.mem_cons.mp (I2.stkSub b z) with e | e
    · exact f1 e
    · exact f3 e
  let E':Value->Shared->Prop:=notedBy (model X.prog X.w) X.A (compEnvC scope cl s3.heap.objs.size X.env) fun e s'=>compPost (model X.prog X.w) X.A X.xe use Qv (.ref D) s3.heap.objs.size (.error e) s'
  have ok':(dm X scope N cl s3.heap.objs.size s3 H3 fp E').Ok:=by
    refine { mod:=I.ok.mod,kind:=?_,glob:=I.ok.glob,blt:=I.ok.blt,above:=Nat.le_refl _,inj:=?_,has:=?_,cab:=?_,hd:=I.ok.hd,frames:=I.ok.frames,stk:=.inl rfl,exf:=?_,bs:=I3.bs,bsz:=?_,noex:=?_,exfs:=fstk,funs:=I3.stack,frf:=I3.stkFree }
    · show (relabel scope X.env).kind = .function
      exact hk
    · exact fun x y c e1 e2=>I.ok.inj x y c (cl1 x c e1) (cl1 y c e2)
    · intro x hx
      have hx':(relabel scope X.env).names.lookup x=some .cell\/(relabel scope X.env).names.lookup x=some .free:=hx
      have:(x,NameKind.free)∈scope.names:=by
        rcases hx' with e | e
        · obtain ⟨k',hm,z | ⟨z,_⟩⟩:=iS e
          · subst z; exact absurd rfl (hcell _ hm)
          · subst z; exact hm
        · obtain ⟨k',hm,z | ⟨z,z'⟩⟩:=iS e
          · subst z; exact hm
          · cases z'
      exact cl2 x this
    · intro x c z; cases z
    · intro b hb
      refine ⟨fun z=>?_,fun x c e=>(f2 b hb).2.2.2.2.1 x c (cl1 x c e)⟩
      have lt:=fpl b hb
      have z':b=s3.heap.objs.size:=z
      rw [z',szC] at lt
      exact absurd lt (Nat.not_lt.mpr (Nat.le_succ D))
    · exact Nat.le_trans I3.ok.bsz I3.sz
    · intro b o e hb
      rcases (f2 b hb).2.2.2.1 with z | z
      · exact I.ok.noex b o e z
      · exact absurd (Nat.lt_of_lt_of_le (Heap.lt_size e) (Nat.le_trans I.ok.bsz z)) (Nat.lt_irrefl _)
  have I4:∀ tk,Inv (dm X scope N cl s3.heap.objs.size s3 H3 fp E') [] (gU ix σ) H3 { s3 with heap:=h₁,toks:=tk }:=fun tk=>by
    refine ⟨ok',rfl,I3.bare,Un.kept old,⟨_,hns₁,fun i x v e1 e2 e3=>?_⟩,fun x c e=>?_,?_,fun x c e=>I3.freeC x c (cl1 x c e),fun p hp=>(by cases hp),I3.hok.kept old,?_⟩
    · obtain ⟨j,j1,j2,j3,j4⟩:=caps.get i x v e1 e2
      obtain ⟨m,hn,hl⟩:=I3.loc
      obtain ⟨u,r,l⟩:=hl j x v j1 j2 (.inr (.inl j3))
      refine ⟨u,r,.inr ⟨.inl j4,?_⟩⟩
      rcases l with ⟨l,_⟩ | ⟨_,c,ec,hcell⟩
      · have l':X.env.kindOf x=some .local:=l
        rw [j3] at l'; cases l'
      · obtain ⟨k',hm,z | ⟨z,_⟩⟩:=iS j4
        · subst z; exact absurd rfl (‹∀ y∈scope.names,y.2≠.cell› _ hm)
        · subst z
          obtain ⟨c',ec'⟩:=cl2 x hm
          have:=cl1 x c' ec'
          rw [ec] at this; cases this
          obtain ⟨o,ho,hd⟩:=hcell
          exact ⟨c,ec',o,old _ _ ho,hd⟩
    · obtain ⟨v,o,ho,hd⟩:=I3.cell x c (cl1 x c e)
      exact ⟨v,o,old _ _ ho,hd⟩
    · exact I3.hok.fresh (Nat.le_refl _)
    · show (gU ix σ).length=N.length
      rw [<- caps.length]; simp [gU]
  have st4:tn 0 h₁:=T.keep 0 _ _ st2 fun b hb o e=>old b o (by rw [<- es3]; exact Heap.get?_push_of_some _ e)
  -- the block's end
  have fin6:∀ (s6:Shared) (H6:Hp),Inv (dm X scope N cl s3.heap.objs.size s3 H3 fp E') [] (gU ix σ) H6 s6->Q (.ref D) H6 ->
      compPost (model X.prog X.w) X.A X.xe use Qv (.ref D) s3.heap.objs.size (.ok .next) s6:=fun s6 H6 I6 q=>by
    obtain ⟨m,hn,_⟩:=I6.loc
    refine fin s3.heap.objs.size D H6 s6 ⟨I3.call' (s':=s6) (ch:=fp) I6.os I6.base I6.hok I6.bare ?_,⟨m,hn⟩,I6.free,?_,I3.sz,?_,?_⟩ q
    · intro b hb
      obtain ⟨_,f1,_,f3,f4,f5⟩:=f2 b hb
      exact ⟨f3,f1,f4,f5⟩
    · exact Nat.ne_of_gt I3.lt
    · intro x c e z
      obtain ⟨v,o,ho,_⟩:=I3.cell x c e
      exact absurd (Heap.lt_size ho) (by rw [z]; exact Nat.lt_irrefl _)
    · intro p hp z
      exact absurd (Heap.lt_size (I3.pin p hp).1) (by rw [z]; exact Nat.lt_irrefl _)
  -- the loop
  have loop:∀ s4:Shared,s4={ s3 with heap:=h₁,toks:=s2.toks+([]:List (Str × Value)).length } ->
      codeAny (model X.prog X.w) X.A (.compLoop (.ListComp elt [⟨tg,iter,ifs,0⟩] scope pos) 0 (.ref it) (.ref D) (compEnvC scope cl s3.heap.objs.size X.env)) (compPost (model X.prog X.w) X.A X.xe use Qv (.ref D) s3.heap.objs.size) s4:=by
    rintro s4 rfl
    refine xZ (fun n s'=>∃ i ys H',Inv (dm X scope N cl s3.heap.objs.size s3 H3 fp E') [] (gU ix σ) H' s'/\tn i s'.heap/\(∀ b∈fp,H' b=none)/\W i n ys H') ?_ m0 ⟨0,[],H3,I4 _,st4,fpD,w0⟩
    rintro n s5 ⟨i,ys,H5,I5,st5,fr5,w5⟩
    have stat:∀ {H':Hp},(∀ b∈fp,H' b=none)->∀ b∈fp,mX (dm X scope N cl s3.heap.objs.size s3 H3 fp E') [] H' b:=fun hn b hb=>by
      refine ⟨hn b hb,fun z=>?_,fstk b hb,.inl hb,fun x c e=>(f2 b hb).2.2.2.2.1 x c (cl1 x c e),fun p hp=>(by cases hp)⟩
      have lt:=fpl b hb
      have z':b=s3.heap.objs.size:=z
      rw [z',szC] at lt
      exact absurd lt (Nat.not_lt.mpr (Nat.le_succ D))
    rcases turn i n ys H5 w5 with ⟨stop,q⟩ | ⟨go,step⟩
    · refine aF (T.done (dm X scope N cl s3.heap.objs.size s3 H3 fp E') rfl rfl rfl hc i [] s5 _ H5 E' I5 (stat fr5) st5 stop) fun r s6 ⟨hr,I6⟩=>?_
      subst hr
      exact fin6 s6 H5 I6 q
    · refine aF (T.item (dm X scope N cl s3.heap.objs.size s3 H3 fp E') rfl rfl rfl hc i [] s5 _ H5 E' I5 (stat fr5) st5 go) fun r s6 ⟨u,hr,h6⟩=>?_
      subst hr
      refine aF h6 fun _ s7 ⟨x,H7,I7,r7,y7,st7,fr7⟩=>?_
      have I7':=I7.pinned (stat fr7) (T.obj _ _ st7)
      refine aF (hg cl s3.heap.objs.size s3 H3 fp E' _ s7 _ H7 x u _ I7' r7 (step x H7 y7)) fun _ s8 ⟨σ8,H8,I8,ext,q8⟩=>?_
      have again:∀ {σ9:St} {H9:Hp} {s9:Shared} {m':Nat} {zs:List V},Ext (gU ix σ) σ9->Inv (dm X scope N cl s3.heap.objs.size s3 H3 fp E') ([]++kg fp s7.heap) σ9 H9 s9->m' < n->W (i+1) m' zs H9 ->
          ∃ m,m < n/\∃ i ys H',Inv (dm X scope N cl s3.heap.objs.size s3 H3 fp E') [] (gU ix σ) H' s9/\tn i s9.heap/\(∀ b∈fp,H' b=none)/\W i m ys H':=fun {σ9 H9 s9 m' zs} ex I9 hm w9=>by
        refine ⟨m',hm,i+1,zs,H9,(I9.unpinned).weak ex.1.symm ex.2,T.keep _ _ _ st7 fun b hb o e=>(I9.pin (b,o) (List.mem_append_right _ (List.mem_append_right _ (iz hb e)))).1,fun b hb=>?_,w9⟩
        obtain ⟨o,e,d⟩:=T.obj _ _ st7 b hb
        exact (I9.pin (b,o) (List.mem_append_right _ (List.mem_append_right _ (iz hb e)))).2.1
      refine aF (ht cl s3.heap.objs.size s3 H3 fp E' _ s8 σ8 H8 _ I8 q8) fun ok s9 ⟨H9,I9,q9⟩=>?_
      cases ok with
      | false =>
        obtain ⟨m',hm,w9⟩:=q9
        exact again ext I9 hm w9
      | true =>
        refine aF (he cl s3.heap.objs.size s3 H3 fp E' _ s9 σ8 H9 _ I9 q9) fun u10 s10 ⟨v10,H10,I10,r10,hDl,hlt,m',hm,w10⟩=>?_
        refine aF (eN (X:=dm X scope N cl s3.heap.objs.size s3 H3 fp E') _ s10 σ8 H10 (.ref D) [v10] (.ref D) [u10] (fun _ H'=>H'=upd H10 D (.lst (ys++[v10]))) I10 rfl (.cons r10 .nil) ⟨D,ys,v10,rfl,rfl,hDl,hlt,rfl⟩) fun _ s11 ⟨_,H11,I11,_,e11⟩=>?_
        subst e11
        exact again ext I11 hm w10
  exact codeAny_compStart_list (loop _ (by rw [<- hs3])) (T.self _ 0 _ _ _ st4 (loop _ (by rw [<- hs3])))
theorem eW {elt tg iter:Expr} {ifs:List Expr} {scope:Scope} {pos:Pos} {N:List Str} {ix:List (Option Nat)} {wi:TI} {g:TG} {tt:TT} {te:TE}
    (hc:X.calm=true) (hi:PI X tg iter wi) (hk:scope.kind = .function) (hcell0:tL scope=true) (hfree0:freeOk scope X.env=true) (hnames0:namesOk scope=true) (caps:hZ X scope N ix)
    (hg:∀ cl C s H fp xe,PG (dm X scope N cl C s H fp xe) tg g) (ht:∀ cl C s H fp xe,yi (dm X scope N cl C s H fp xe) ifs tt) (he:∀ cl C s H fp xe,PE (dm X scope N cl C s H fp xe) elt te)
    (hs:∀ x,foldedSetIterable iter X.env x=pure x:=by intro _; rfl) :
    PE X (.ListComp elt [⟨tg,iter,ifs,0⟩] scope pos) (wq wi g tt te ix):=by
  intro pins s σ H Q I h
  rw [eval_ListComp]
  refine qg (use:=none) hc hi hk hcell0 hfree0 hnames0 caps hg ht he hs I h fun C D H6 s6 B q=>?_
  obtain ⟨m,hn⟩:=B.ns
  exact ⟨m,hn,fun h' hsb=>⟨.ref D,H6,B.gone hsb,rfl,q⟩⟩
noncomputable def CT (i:Nat) (te:TE):TS:=fun D σ H=>te σ H fun x H1=>D.nx (σ.set i (some x)) H1
theorem jA {i:Nat} {y:Str} {py:Pos} {spos:Pos} {elt tg iter:Expr} {ifs:List Expr} {scope:Scope} {pos:Pos} {N:List Str} {ix:List (Option Nat)} {wi:TI} {g:TG} {tt:TT} {te:TE}
    (hN:X.N.Nodup) (hi':X.N[i]? = some y) (hx:Loc X.env.scope y) (hsw:swapsWith (.ListComp elt [⟨tg,iter,ifs,0⟩] scope pos) (some (.Name y py)) spos.line X.env=pure true)
    (hc:X.calm=true) (hi:PI X tg iter wi) (hk:scope.kind = .function) (hcell0:tL scope=true) (hfree0:freeOk scope X.env=true) (hnames0:namesOk scope=true) (caps:hZ X scope N ix)
    (hg:∀ cl C s H fp xe,PG (dm X scope N cl C s H fp xe) tg g) (ht:∀ cl C s H fp xe,yi (dm X scope N cl C s H fp xe) ifs tt) (he:∀ cl C s H fp xe,PE (dm X scope N cl C s H fp xe) elt te)
    (hs:∀ x,foldedSetIterable iter X.env x=pure x:=by intro _; rfl) (hf:X.fn y=true\/X.env.scope.names.lookup y=some .local:=by first | exact .inl rfl | exact .inr rfl | assumption) :
    PS X (.Assign [.Name y py] (.ListComp elt [⟨tg,iter,ifs,0⟩] scope pos) spos) (CT i (wq wi g tt te ix)):=by
  intro pins s σ H D I h
  rw [exec_Assign_Name_used _ _ _ _ hsw]
  refine wpAny_bind (wpAny_standAt (wpAny_bind ?_))
  show wpAny _ X.A (do let _ <- comprehension (.ListComp elt [⟨tg,iter,ifs,0⟩] scope pos) scope X.env _ (newList []) false (eval iter X.env) (some (assign (.Name y py) X.env))) _ _ s
  refine wpAny_bind (wpAny_mono (qg (use:=some (assign (.Name y py) X.env)) (Qv:=fun _ s'=>SP X pins D .next s') hc hi hk hcell0 hfree0 hnames0 caps hg ht he hs I h fun C a H6 s6 B q=>?_) (fun _ s' hq=>wpAny_pure (wpAny_pure hq)) fun _ _ e=>e)
  obtain ⟨m,hn⟩:=B.ns
  show wpAny _ X.A (assign (.Name y py) X.env (.ref a)) _ _ s6
  refine wpAny_assign_Name (qh B.inv hN hi' hx (v:=.ref a) rfl (fun s7 I7 ⟨z,hz,hz'⟩=>?_) hf)
  have hzC:C≠z:=by
    rcases hz' with e | e
    · rw [e]; exact B.loc
    · exact fun w=>B.cell y z e w.symm
  refine ⟨m,hn.sameBut hz hzC,fun h' hsb=>?_⟩
  have B7:jr X pins (σ.set i (some (.ref a))) H6 C s7:=⟨I7,⟨m,hn.sameBut hz hzC⟩,B.free,B.loc,B.young,B.cell,B.pin⟩
  exact ⟨_,H6,B7.gone hsb,q⟩
theorem xM {K:PySem.W.Frag} {a:Addr} {xs:List V} {g:TG} {tt:TT} {te:TE} {σ0:St} {H:Hp} {D:Addr} {Q:VK} (f:V->V) (hz:xs.length<=sizeLine) (hx:aq K H a xs) (hD:H D=none)
    (hs:∀ (i:Nat) (x:V) (H':Hp) (R:VK) (R0:Hp->Prop),xs[i]? = some x->(∀ b,b≠D->H' b=H b)->R (f x) H'->g x σ0 H' fun σ2 H2=>Ext σ0 σ2/\tt σ2 H2 fun b H3=>if b=true then te σ2 H3 R else R0 H3)
    (hq:Q (.ref D) (upd H D (.lst (xs.map f)))) :
    qR (ue K a) g tt te σ0 D Q H:=by
  have stays:∀ ys:List V,aq K (upd H D (.lst ys)) a xs:=fun ys=>by
    have sm:af H (upd H D (.lst ys)):=fun b u q=>by rw [ak (aw q hD)]; exact q
    exact sm.seq hx
  refine ⟨fun i m ys H'=>m=xs.length - i/\i<=xs.length/\ys=(xs.take i).map f/\H'=upd H D (.lst ys),⟨xs.length,by simp,Nat.zero_le _,by simp,rfl⟩,?_⟩
  rintro i m ys H' ⟨rfl,hi,rfl,rfl⟩
  by_cases hlt:i < xs.length
  · refine .inr ⟨⟨xs,xs[i],stays _,by simp [hlt]⟩,fun x H'' y=>?_⟩
    obtain ⟨e,y⟩:=y
    subst e
    have ex:=y xs (stays _)
    refine hs i x _ _ _ ex (fun b hb=>ak hb) ⟨ae,by simp; omega,xs.length - (i+1),by omega,rfl,hlt,?_,?_⟩
    · rw [List.take_add_one,ex,List.map_append]; rfl
    · rw [eh]
  · have e:i=xs.length:=by omega
    subst e
    refine .inl ⟨⟨xs,stays _,Nat.le_refl _⟩,?_⟩
    rw [List.take_length]
    exact hq
end
end L2
set_option Elab.async false
set_option linter.all false
set_option maxRecDepth 100000
set_option maxHeartbeats 4000000
namespace L2
open PySem PySem.Spec PyProof.Rows
section
variable {P:Program} {w:World} {H:Hp} {h h':Heap} {a:Addr} {o:HO}
end
def Tr (h:Heap) (e T:Addr) (cls:Value):Prop:=∃ oe vs oT ts a0,h.get? e=some oe/\oe.cls=cls/\vs[0]? = some a0/\oe.data = .fields vs/\vs[1]? = some (.ref T)/\T≠e/\h.get? T=some oT/\oT.data = .fields ts/\ts[3]? = some Value.none
section
variable {M:Model} {A:Around} {E:Value->Shared->Prop} {s:Shared} {Q:Unit->Shared->Prop} {base:Heap} {env:Env} {outer l:List Env} {L e T:Addr} {cls:Value}
end
section
variable {X:Cx} {pins:List (Addr × Obj)} {σ:St} {H:Hp} {s:Shared} {h':Heap} {ch:List Addr}
structure yV (X:Cx) (pins:List (Addr × Obj)) (H:Hp) (b:Addr):Prop where
  new:X.s₀.heap.get? b=none
  free:H b=none
  loc:b≠X.env.locals
  cell:∀ x c,X.env.cells.lookup x=some c->c≠b
  pin:∀ p∈X.pn++pins,p.1≠b
end
noncomputable def BZ (P:Program) (w:World):jn:=fun outer H s E e s'=>∃ (ea T:Addr) (cls:Value) (H':Hp),e = .ref ea/\s.heap.get? ea=none/\s.heap.get? T=none/\H' ea=none/\H' T=none/\Tr s'.heap ea T cls /\
  s'.os=s.os/\AllBare s'.gens/\Un (i4 outer) [] H H' s.heap s'.heap/\dZ P w H' s'.heap/\E cls none H'
theorem lr {P:Program} {w:World} {X:Cx}:Passes (BZ P w) X E0:=fun _ _ _ _ _ _ _ ⟨_,_,_,_,_,_,_,_,_,_,_,_,_,_,q⟩=>q.elim
section
variable {P:Program} {w:World} {K:PySem.W.Frag} {mg:Str->Option Value} {base:Heap} {N:List Str} {qual:Str} {scope:Scope} {f:Addr} {cd:Value} {A:Around} {outer:List Env} {s:Shared} {H:Hp} {E:XK}
end
section
variable {P:Program} {w:World} {K:PySem.W.Frag} {mg:Str->Option Value} {base:Heap}
theorem aD.up {CX:jn} {k:Nat} {f:Addr} {fd:FuncData} {ps:List Str} {sp:Sp} (F:aD P w K mg base a8 k f fd ps sp):aD P w K mg base CX k f fd ps sp :=
  ⟨F.len,fun A outer s H args us vs Q E hr he hb hv hs=>codeAny_mono (F.run A outer s H args us vs Q E hr he hb hv hs) fun r s' q=>by
    cases r with
    | error e=>exact False.elim q
    | ok fl=>cases fl<;>exact q⟩
end
section
variable {X:Cx} {pins:List (Addr × Obj)} {σ:St} {H:Hp} {s:Shared} {e:Addr}
end
end L2
set_option Elab.async false
set_option linter.all false
set_option maxRecDepth 100000
set_option maxHeartbeats 4000000
namespace L2
open PySem PySem.Spec PyProof.Rows
structure Def (P:Program) (w:World) (K:PySem.W.Frag) (mg:Str->Option Value) (base:Heap) (x:Str) (ps:List Str) (k:Nat) (sp:Sp) (f:Addr) (fd:FuncData):Prop where
  ok:aD P w K mg base (BZ P w) k f fd ps sp
  b:Binds K fd ps []
  kp:PySem.W.keepIn K (.ref f)=true
  m:mg x=some (.ref f)
section
variable {X:Cx} {f:Addr} {fd:FuncData} {ps:List Str} {sp:Sp} {x:Str} {p pos:Pos} {e:Expr} {es:List Expr} {t:TA} {j k:Nat}
theorem bI (D:Def X.prog X.w X.K X.mg X.base x ps j sp f fd) (hr:bF k X.A) (ha:PA X (e::es) t) (hjk:j<=k:=by decide) (hg:Gl X x:=by rfl)
    (hdb:(x == ("__debug__" : Str))=false:=by decide) (he:starEach (e::es) X.env=(false,eval e X.env)::starEach es X.env:=by rfl) (hpl:(backTo pos (starEach es X.env)).any (·.1)=false:=by rfl) :
    PE X (.Call (.Name x p) (e::es) [] pos) (om sp [] E0 t):=z6 D.ok (hr.mono hjk) hg D.m D.kp D.b .nil lr ha hdb he hpl
theorem hV (D:Def X.prog X.w X.K X.mg X.base x ps j sp f fd) (hr:bF k X.A) (hjk:j<=k:=by decide) (hg:Gl X x:=by rfl) (hdb:(x == ("__debug__" : Str))=false:=by decide) :
    PE X (.Call (.Name x p) [] [] pos) (om sp [] E0 pA):=yv D.ok (hr.mono hjk) hg D.m D.kp D.b .nil lr hdb
end
theorem jM:bootBuiltins "isinstance" = some (.builtin "isinstance"):=by decide +kernel
theorem nK:bootBuiltins "int" = some (.type "int"):=by decide +kernel
theorem zR:bootBuiltins "bool" = some (.type "bool"):=by decide +kernel
theorem i0:bootBuiltins "list" = some (.type "list"):=by decide +kernel
theorem Cm:bootBuiltins "min" = some (.builtin "min"):=by decide +kernel
theorem ui:bootBuiltins "max" = some (.builtin "max"):=by decide +kernel
theorem bN:bootBuiltins "len" = some (.builtin "len"):=by decide +kernel
theorem af.upd {H H':Hp} (h:af H H') {p:Addr} (n:H p=none) (o:HO):af H (L2.upd H' p o):=fun b u q=>by
  rw [ak (aw q n)]; exact h b u q
theorem af.new {H H':Hp} (h:af H H') {p:Addr} (n:H' p=none) (o:HO):af H (L2.upd H' p o):=h.trans fun b u q=>by
  rw [ak (aw q n)]; exact q
theorem sz {n:Nat} (h:n<=1000000):n<=sizeLine:=Nat.le_trans h (by decide)
theorem jJ {n:Nat} (h:n<=1000000):n < sizeLine:=Nat.lt_of_le_of_lt h (by decide)
theorem uz {K:PySem.W.Frag}:PySem.W.kitOne K (.type "int") (.type "int")=some true:=by rfl
theorem rC {K:PySem.W.Frag}:PySem.W.kitOne K (.type "int") (.type "bool")=some false:=by rfl
theorem ff {ns:List Int} {i:Int} (h0:0<=i) (h1:i < (ns.length:Int)):gi (ns.map V.int) i=some (.int (ns.getD i.toNat 0)):=by
  have hk:i.toNat < ns.length:=by omega
  have ek:i=((i.toNat:Nat):Int):=by omega
  have q:gi (ns.map V.int) ((i.toNat:Nat):Int)=some (.int (ns.getD i.toNat 0)):=gW (by rw [List.getElem?_map,List.getD_eq_getElem?_getD,List.getElem?_eq_getElem hk]<;>rfl)
  rw [<- ek] at q
  exact q
end L2
namespace L2
open PySem PySem.Spec PyProof.Rows
theorem rO {σ:St} {H:Hp} {F:Bool->Hp->Prop} (h:F true H):zD σ H F:=h
theorem dD {X:Cx} {K:PySem.W.Frag} (h:X.K=K):xC X (Cg K):=h▸bj
theorem pm {j:Int} (h:0 < j):0 < j:=h
noncomputable def gX (ns:List Int) (lo hi:Option Int):List Int:=(ns.drop (HT.sIx ns.length 0 lo)).take (HT.sIx ns.length ns.length hi - HT.sIx ns.length 0 lo)
theorem ng (ns:List Int) (lo hi:Option Int):ic (ns.map V.int) lo hi=(gX ns lo hi).map V.int:=by
  unfold ic gX
  rw [List.length_map,List.map_take,List.map_drop]
theorem kG {ns:List Int} {i:Nat} {x:V} (h:(ns.map V.int)[i]? = some x):∃ c,x = .int c:=by
  rw [List.getElem?_map] at h
  cases e:ns[i]? with
  | none=>rw [e] at h; cases h
  | some c=>rw [e] at h; cases h; exact ⟨c,rfl⟩
end L2
namespace L2
open PySem PySem.Spec PyProof.Rows
noncomputable def DY (t u:TS):TS:=fun D σ H=>∃ P:St->Hp->Prop,t { D with nx:=P } σ H/\∀ σ' H',P σ' H'->u D σ' H'
theorem uV {X:Cx} {st:Stmt} {rest:List Stmt} {t u:TS} (h1:PS X st t) (h2:ik X rest u):ik X (st::rest) (DY t u):=by
  intro pins s σ H D I h
  obtain ⟨P,ha,hb⟩:=h
  refine wpAny_execs_cons (aF (h1 pins s σ H { D with nx:=P } I ha) fun f s1 q=>?_)
  cases f with
  | next =>
    obtain ⟨σ',H',I',q⟩:=q
    exact h2 pins s1 σ' H' D I' (hb σ' H' q)
  | ret v=>exact q
  | brk=>exact q
  | cont=>exact q
theorem gr {c A B:Prop} [Decidable c] (hc:c) (h:A):if decide c=true then A else B:=by rw [decide_eq_true hc]; exact fI h
theorem gu {c A B:Prop} [Decidable c] (hc:¬ c) (h:B):if decide c=true then A else B:=by rw [decide_eq_false hc]; exact fJ h
theorem lK {n:Nat} {i:Int} (h0:0<=i) (h1:i < n):kq n i=some i.toNat:=by unfold kq; rw [if_pos h0,if_pos h1]
theorem uy (ns:List Int) (lo hi:Option Int):(gX ns lo hi).length<=ns.length:=by
  unfold gX; rw [List.length_take,List.length_drop]; omega
end L2
namespace Ck
noncomputable def zj:Nat->List Int
  | 0=>[1]
  | k+1=>zj k++[((List.range (k+1)).map fun j=>(zj k).getD j 0*(zj k).getD (k - j) 0).sum]
noncomputable def sh (k:Nat):Int:=(zj k).getD k 0
end Ck
namespace Ck
noncomputable def r:Nat->Nat->Int
  | 0,_=>1
  | _+1,0=>0
  | u+1,d+1=>if d < u then 0 else r u (d+1)+r (u+1) d
noncomputable def row (n u:Nat):List Int:=(List.range (n+1 - u)).map fun i=>r u (u+i)
noncomputable def pw (a:Int):Nat->Int
  | 0=>1
  | k+1=>pw a k*a
end Ck
namespace Ck
noncomputable def lt:List Nat->List Nat->Bool
  | c::s,e::t=>if c=e then lt s t else c == 40
  | _,_=>false
end Ck
set_option Elab.async false
set_option linter.all false
set_option maxRecDepth 100000
set_option maxHeartbeats 4000000
namespace Ck
open PySem
noncomputable def ix (n d:Nat):Option Int->Nat
  | none=>d
  | some v=>if v < 0 then (v+(n:Int)).toNat else min v.toNat n
end Ck
set_option Elab.async false
set_option linter.all false
set_option maxRecDepth 100000
set_option maxHeartbeats 4000000
namespace Ck
open PySem L2
end Ck
namespace L2
open PySem
theorem yp (ns:List Int):gX ns (some 1) none=ns.drop 1:=by
  unfold gX
  have e1:HT.sIx ns.length 0 (some 1)=min 1 ns.length:=HT.sIx_nat _ _ 1
  rw [e1,HT.sIx_none]
  cases ns with
  | nil=>rfl
  | cons a r =>
    have e2:min 1 (a::r).length=1:=by simp
    rw [e2]
    exact List.take_of_length_le (by simp)
end L2
namespace Ck
open PySem L2
end Ck
namespace L2
open PySem PySem.Spec PyProof.Rows
end L2
namespace Ck
open PySem L2
end Ck
set_option Elab.async false
set_option linter.all false
set_option maxRecDepth 100000
set_option maxHeartbeats 4000000
namespace L2
open PySem PySem.Spec PyProof.Rows
section
variable {X:Cx} {tg:Expr}
end
noncomputable def mS:List V->List V->Bool
  | [],[]=>true
  | x::xs,y::ys=>mK x y&&mS xs ys
  | _,_=>false
theorem u0:∀ {xs ys:List V},xs.length≠ys.length->mS xs ys=false
  | [],[],h=>absurd rfl h
  | [],_::_,_=>rfl
  | _::_,[],_=>rfl
  | x::xs,y::ys,h=>by
    rw [mS,u0 (xs:=xs) (ys:=ys) (by simpa using h),Bool.and_false]
theorem u6:∀ {xs ys:List V},xs.length=ys.length->(List.range xs.length).all (fun j=>mK (xs.getD j .non) (ys.getD j .non))=mS xs ys
  | [],[],_=>rfl
  | x::xs,y::ys,h=>by
    rw [mS,<- u6 (xs:=xs) (ys:=ys) (by simpa using h),List.length_cons,List.range_succ_eq_map,List.all_cons,List.all_map]
    rfl
noncomputable def DO (K:PySem.W.Frag) (neg:Bool):R2:=fun x y H Q=>∃ a b xs ys,x = .ref a/\y = .ref b/\aq K H a xs/\aq K H b ys/\xs.all iq=true/\ys.all iq=true/\Q (.bl (if neg then !mS xs ys else mS xs ys)) H
section
variable {X:Cx}
theorem items_eqAt {A:Around} {s:Shared} {xs ys:List V} {us vs:List Value} (r:Vals xs us) (r':Vals ys vs) (fx:xs.all iq=true) (fy:ys.all iq=true) :
    ∀ j (h1:j < us.toArray.size) (h2:j < vs.toArray.size),SeqAt.EqAt A s us.toArray[j] vs.toArray[j] (mK (xs.getD j .non) (ys.getD j .non)):=fun j h1 h2=>by
  have l1:=r.length
  have l2:=r'.length
  have h1':j < us.length:=by simpa using h1
  have h2':j < vs.length:=by simpa using h2
  obtain ⟨u,eu,ru⟩:=r.get (List.getElem?_eq_getElem (show j < xs.length by omega))
  obtain ⟨v,ev,rv⟩:=r'.get (List.getElem?_eq_getElem (show j < ys.length by omega))
  have e1:us.toArray[j]=u:=by
    rw [List.getElem?_eq_getElem h1'] at eu
    simpa using eu
  have e2:vs.toArray[j]=v:=by
    rw [List.getElem?_eq_getElem h2'] at ev
    simpa using ev
  rw [e1,e2]
  have g1:xs.getD j .non=xs[j]'(by omega):=by rw [List.getD_eq_getElem?_getD,List.getElem?_eq_getElem (show j < xs.length by omega)]; rfl
  have g2:ys.getD j .non=ys[j]'(by omega):=by rw [List.getD_eq_getElem?_getD,List.getElem?_eq_getElem (show j < ys.length by omega)]; rfl
  rw [g1,g2]
  exact yd ru rv (List.all_eq_true.mp fx _ (List.getElem_mem _)) (List.all_eq_true.mp fy _ (List.getElem_mem _))
theorem vz (hu:X.A.units < cLine):fG X (compareOp .Eq) (DO X.K false):=by
  intro pins s σ H x y v u Q I rx ry h
  obtain ⟨a,b,xs,ys,rfl,rfl,ha,hb,fx,fy,q⟩:=h
  cases rx
  cases ry
  obtain ⟨us,r,pl,hz⟩:=I.list ha
  obtain ⟨vs,r',pl',hz'⟩:=I.list hb
  have l1:=r.length
  have l2:=r'.length
  by_cases hl:xs.length=ys.length
  · refine SeqAt.eq_listAt (e:=fun j=>mK (xs.getD j .non) (ys.getD j .non)) pl.isList pl'.isList (by simp; omega) hu (items_eqAt r r' fx fy) ⟨.bl _,H,I,rfl,?_⟩
    rw [show us.toArray.size=xs.length by simp; omega,u6 hl]
    exact q
  · refine SeqAt.eq_list_lengthsAt pl.isList pl'.isList (by simp; omega) hu ⟨.bl false,H,I,rfl,?_⟩
    rw [<- u0 hl]
    exact q
end
end L2
set_option Elab.async false
set_option linter.all false
set_option maxRecDepth 100000
set_option maxHeartbeats 4000000
namespace L2
open PySem PySem.Spec PyProof.Rows PySem.W Builtin Builtin.ObjectAttr Builtin.Getset_descriptor
section
variable {K:Frag} {e C:Addr} {M:Model} {h:Heap} {prog:Program} {w:World} {A:Around} {E:Value->Shared->Prop} {s:Shared}
end
section
variable {K:Frag} {e C:Addr} {M:Model} {h:Heap} {prog:Program} {w:World} {A:Around} {E:Value->Shared->Prop} {s:Shared}
end
section
variable {X:Cx}
theorem D9 {A:Around} {k:Nat} (hr:bF k A):A.units < cLine:=Nat.lt_of_succ_lt (Dy hr)
end
end L2
namespace Ck
open PySem L2
end Ck
set_option Elab.async false
set_option linter.all false
set_option maxRecDepth 100000
set_option maxHeartbeats 4000000
namespace L2
open PySem PySem.Spec PyProof.Rows
structure aE (P:Program) (w:World) (K:PySem.W.Frag) (mg:Str->Option Value) (base:Heap) (ps:List Str) (k:Nat) (sp:Sp) (f:Addr) (fd:FuncData):Prop where
  ok:aD P w K mg base (BZ P w) k f fd ps sp
  b:Binds K fd ps []
section
variable {X:Cx} {C f:Addr} {fd:FuncData} {ps:List Str} {sp:Sp} {m:Str} {apos pos:Pos} {o e:Expr} {es:List Expr} {ta:TE} {t:TA} {j k:Nat}
theorem qW {pl:Sem Bool} (ho:PE X o ta) (c:gd X.K C) (hm:Meth X.K C m f) (D:aE X.prog X.w X.K X.mg X.base ps j sp f fd) (hr:bF k X.A) (ha:PA X (e::es) t) (hjk:j<=k:=by decide)
    (hst:starEach (e::es) X.env=(false,eval e X.env)::starEach es X.env:=by rfl) (hpl:(backTo pos (starEach es X.env)).any (·.1)=false:=by rfl)
    (ht:eval (.Call (.Attribute o m apos) (e::es) [] pos) X.env=(do
      let ov <- eval o X.env
      standAt apos.atName
      let (f,first) <- holding [ov] (getMethod ov m pl)
      callWith pos f first (backTo pos (starEach (e::es) X.env)) (backToKw pos (keywordEach [] X.env))):=by rfl) :
    PE X (.Call (.Attribute o m apos) (e::es) [] pos) (zq C m sp [] E0 ta t):=Ad ho c hm D.ok (hr.mono hjk) D.b .nil lr ha hst hpl ht
end
structure eO (K:PySem.W.Frag) (C:Addr) (m:Str) (f:Addr):Prop where
  hg:PySem.W.specialIn K (.ref C) "__getattribute__" = some (some (.builtin "type.__getattribute__"))
  rd:PySem.W.readsIn K C (.type "type")=true
  at_:PySem.W.findCls K (.ref C) (.type "type") m=some (.val (.ref f))
  kp:PySem.W.keepIn K (.ref f)=true
section
variable {X:Cx} {C f:Addr} {fd:FuncData} {ps:List Str} {sp:Sp} {x m:Str} {p apos pos:Pos} {e:Expr} {es:List Expr} {t:TA} {j k:Nat}
theorem fB {pl:Sem Bool} (hm:X.mg x=some (.ref C)) (M:eO X.K C m f) (D:aE X.prog X.w X.K X.mg X.base ps j sp f fd) (hr:bF k X.A) (ha:PA X (e::es) t) (hjk:j<=k:=by decide) (hg:Gl X x:=by rfl)
    (hdb:(x == ("__debug__" : Str))=false:=by decide) (hst:starEach (e::es) X.env=(false,eval e X.env)::starEach es X.env:=by rfl) (hpl:(backTo pos (starEach es X.env)).any (·.1)=false:=by rfl)
    (ht:eval (.Call (.Attribute (.Name x p) m apos) (e::es) [] pos) X.env=(do
      let ov <- eval (.Name x p) X.env
      standAt apos.atName
      let (f,first) <- holding [ov] (getMethod ov m pl)
      callWith pos f first (backTo pos (starEach (e::es) X.env)) (backToKw pos (keywordEach [] X.env))):=by rfl) :
    PE X (.Call (.Attribute (.Name x p) m apos) (e::es) [] pos) (om sp [] E0 t):=by
  intro pins s σ H Q I h
  refine PySem.W.methodCall_KW (pl:=pl) (jj I hg hm ?_ hdb) ht
  refine PySem.W.method_cls I.kIn M.hg (PySem.W.cls_value I.kIn M.rd M.at_ rfl ?_)
  have I1:Inv X pins σ H { s with toks:=s.toks+1 }:=I.tok _
  refine PySem.W.callWith_K (first:=[]) (h₀:=X.base) I.ok.mod.kin M.kp (aF (ha pos pins _ σ H _ I1 h) fun us s2 ⟨vs,H2,I2,r,q2⟩=>⟨I2.kIn,?_⟩) hst hpl
  exact jW D.ok (hr.mono hjk) D.b .nil lr I2 r q2
end
section
variable {X:Cx} {C f:Addr} {fd:FuncData} {ps:List Str} {sp:Sp} {x:Str} {p pos:Pos} {j k:Nat}
theorem gq (M:Mk X.K C f) (hm:X.mg x=some (.ref C)) (D:aE X.prog X.w X.K X.mg X.base ps j sp f fd) (hr:bF k X.A) (hjk:j+1<=k:=by decide) (hg:Gl X x:=by rfl) (hdb:(x == ("__debug__" : Str))=false:=by decide) :
    PE X (.Call (.Name x p) [] [] pos) (zk C sp [] E0 pA):=yy M D.ok (hr.mono hjk) hg hm D.b .nil lr hdb
end
end L2
namespace L2
open PySem
noncomputable def below (N:Nat) (sp:Nat->Sp):Sp:=fun vs H Q E=>∃ m,m < N/\sp m vs H Q E
end L2
set_option Elab.async false
set_option linter.all false
set_option maxRecDepth 100000
set_option maxHeartbeats 4000000
namespace L2
open PySem PySem.Spec PyProof.Rows
inductive EqD (K:PySem.W.Frag) (H:Hp):Nat->V->V->Bool->Prop
  | flat {n:Nat} {x y:V} (fx:iq x=true) (fy:iq y=true):EqD K H n x y (mK x y)
  | same {n:Nat} {a:Addr}:EqD K H n (.ref a) (.ref a) true
  | lst {n:Nat} {a b:Addr} {xs ys:List V} {e:Nat->Bool} (ne:a≠b) (ha:aq K H a xs) (hb:aq K H b ys) (hl:xs.length=ys.length)
      (hi:∀ j x y,xs[j]? = some x->ys[j]? = some y->EqD K H n x y (e j)):EqD K H (n+1) (.ref a) (.ref b) ((List.range xs.length).all e)
  | lstN {n:Nat} {a b:Addr} {xs ys:List V} (ne:a≠b) (ha:aq K H a xs) (hb:aq K H b ys) (hl:xs.length≠ys.length):EqD K H (n+1) (.ref a) (.ref b) false
  | tup {n:Nat} {a b:Addr} {xs ys:List V} {e:Nat->Bool} (ne:a≠b) (ha:eE K H a xs) (hb:eE K H b ys)
      (hi:∀ j x y,xs[j]? = some x->ys[j]? = some y->EqD K H n x y (e j)):EqD K H (n+1) (.ref a) (.ref b) ((List.range (min xs.length ys.length)).all e&&xs.length == ys.length)
theorem EqD.lstT {K:PySem.W.Frag} {H:Hp} {n:Nat} {a b:Addr} {xs ys:List V} (ne:a≠b) (ha:aq K H a xs) (hb:aq K H b ys) (hl:xs.length=ys.length) (hi:∀ (j:Nat) (x y:V),xs[j]? = some x->ys[j]? = some y->EqD K H n x y true):EqD K H (n+1) (.ref a) (.ref b) true:=by
  have h:=EqD.lst (e:=fun _=>true) ne ha hb hl hi
  have e (k:Nat):(List.range k).all (fun _=>true)=true:=List.all_eq_true.mpr fun _ _=>rfl
  rw [e] at h
  exact h
section
variable {X:Cx} {pins:List (Addr × Obj)} {σ:St} {H:Hp} {s:Shared}
theorem fR {xs:List V} {us:List Value} (r:Vals xs us) {j:Nat} (h:j < us.toArray.size):∃ x,xs[j]? = some x/\RelV x us.toArray[j]:=by
  have h':j < us.length:=by simpa using h
  have hx:j < xs.length:=by rw [r.length]; exact h'
  obtain ⟨u,eu,ru⟩:=r.get (List.getElem?_eq_getElem hx)
  rw [List.getElem?_eq_getElem h'] at eu
  exact ⟨_,List.getElem?_eq_getElem hx,by
    have:us.toArray[j]=u:=by simpa using eu
    rw [this]; exact ru⟩
theorem EqD.at_ {n:Nat} {x y:V} {b:Bool} (d:EqD X.K H n x y b):∀ {A:Around} {u v:Value},A.units+n < cLine->Inv X pins σ H s->RelV x u->RelV y v->SeqAt.EqAt A s u v b:=by
  induction d with
  | flat fx fy=>intro A u v _ I ru rv; exact yd ru rv fx fy
  | same =>
    intro A u v _ I ru rv
    cases (show u=Value.ref _ from ru)
    cases (show v=Value.ref _ from rv)
    exact SeqAt.EqAt.same _
  | @lst n a b xs ys e ne ha hb hl hi ih =>
    intro A u v hu I ru rv
    cases (show u=Value.ref _ from ru)
    cases (show v=Value.ref _ from rv)
    obtain ⟨us,r,pl,_⟩:=I.list ha
    obtain ⟨vs,r',pl',_⟩:=I.list hb
    have l1:=r.length
    have l2:=r'.length
    have z:=SeqAt.RcAt.lists (A:=A) (e:=e) pl.isList pl'.isList (by simp; omega) (by omega) fun j h1 h2=>by
      obtain ⟨x,ex,rx⟩:=fR r h1
      obtain ⟨y,ey,ry⟩:=fR r' h2
      exact ih j x y ex ey (A:=A.in1) (by show A.units+1+n < cLine; omega) I rx ry
    rw [show us.toArray.size=xs.length by simp; omega] at z
    exact .of_refs ne z
  | @lstN n a b xs ys ne ha hb hl =>
    intro A u v hu I ru rv
    cases (show u=Value.ref _ from ru)
    cases (show v=Value.ref _ from rv)
    obtain ⟨us,r,pl,_⟩:=I.list ha
    obtain ⟨vs,r',pl',_⟩:=I.list hb
    have l1:=r.length
    have l2:=r'.length
    exact .of_refs ne (SeqAt.RcAt.lists_lengths pl.isList pl'.isList (by simp; omega) (by omega))
  | @tup n a b xs ys e ne ha hb hi ih =>
    intro A u v hu I ru rv
    cases (show u=Value.ref _ from ru)
    cases (show v=Value.ref _ from rv)
    obtain ⟨us,r,pl,_⟩:=I.tuple ha
    obtain ⟨vs,r',pl',_⟩:=I.tuple hb
    have l1:=r.length
    have l2:=r'.length
    have z:=SeqAt.RcAt.tuples (A:=A) (e:=e) pl pl' (by omega) fun j h1 h2=>by
      obtain ⟨x,ex,rx⟩:=fR r h1
      obtain ⟨y,ey,ry⟩:=fR r' h2
      exact ih j x y ex ey (A:=A.in1) (by show A.units+1+n < cLine; omega) I rx ry
    rw [show us.toArray.size=xs.length by simp; omega,show vs.toArray.size=ys.length by simp; omega] at z
    exact .of_refs ne z
noncomputable def yL (K:PySem.W.Frag) (neg:Bool):R2:=fun x y H Q=>∃ n b,n<=100/\EqD K H n x y b/\(∃ a c,x = .ref a/\y = .ref c/\a≠c)/\Q (.bl (if neg then !b else b)) H
theorem sR (hu:X.A.units+100 < cLine):fG X (compareOp .Eq) (yL X.K false):=by
  intro pins s σ H x y u v Q I ru rv h
  obtain ⟨n,b,hn,d,⟨a,c,rfl,rfl,hne⟩,q⟩:=h
  cases (show u=Value.ref _ from ru)
  cases (show v=Value.ref _ from rv)
  cases d with
  | flat fx _=>cases fx
  | same=>exact absurd rfl hne
  | @lst n _ _ xs ys e ne ha hb hl hi =>
    obtain ⟨us,r,pl,_⟩:=I.list ha
    obtain ⟨vs,r',pl',_⟩:=I.list hb
    have l1:=r.length
    have l2:=r'.length
    refine SeqAt.eq_listAt (e:=e) pl.isList pl'.isList (by simp; omega) (by omega) (fun j h1 h2=>?_) ⟨.bl _,H,I,rfl,?_⟩
    · obtain ⟨x,ex,rx⟩:=fR r h1
      obtain ⟨y,ey,ry⟩:=fR r' h2
      exact (hi j x y ex ey).at_ (A:=X.A.in1) (by show X.A.units+1+n < cLine; omega) I rx ry
    · rw [show us.toArray.size=xs.length by simp; omega]; exact q
  | @lstN n _ _ xs ys ne ha hb hl =>
    obtain ⟨us,r,pl,_⟩:=I.list ha
    obtain ⟨vs,r',pl',_⟩:=I.list hb
    have l1:=r.length
    have l2:=r'.length
    exact SeqAt.eq_list_lengthsAt pl.isList pl'.isList (by simp; omega) (by omega) ⟨.bl false,H,I,rfl,q⟩
  | @tup n _ _ xs ys e ne ha hb hi =>
    obtain ⟨us,r,pl,_⟩:=I.tuple ha
    obtain ⟨vs,r',pl',_⟩:=I.tuple hb
    have l1:=r.length
    have l2:=r'.length
    refine SeqAt.eq_tupleAt (e:=e) pl pl' (by omega) (fun j h1 h2=>?_) ⟨.bl _,H,I,rfl,?_⟩
    · obtain ⟨x,ex,rx⟩:=fR r h1
      obtain ⟨y,ey,ry⟩:=fR r' h2
      exact (hi j x y ex ey).at_ (A:=X.A.in1) (by show X.A.units+1+n < cLine; omega) I rx ry
    · rw [show us.toArray.size=xs.length by simp; omega,show vs.toArray.size=ys.length by simp; omega]; exact q
theorem AD (hu:X.A.units+100 < cLine):fG X (compareOp .NotEq) (yL X.K true):=by
  intro pins s σ H x y u v Q I ru rv h
  obtain ⟨n,b,hn,d,⟨a,c,rfl,rfl,hne⟩,q⟩:=h
  cases (show u=Value.ref _ from ru)
  cases (show v=Value.ref _ from rv)
  cases d with
  | flat fx _=>cases fx
  | same=>exact absurd rfl hne
  | @lst n _ _ xs ys e ne ha hb hl hi =>
    obtain ⟨us,r,pl,_⟩:=I.list ha
    obtain ⟨vs,r',pl',_⟩:=I.list hb
    have l1:=r.length
    have l2:=r'.length
    refine SeqAt.RcNeAt.lists (e:=e) pl.isList pl'.isList (by simp; omega) (by omega) (fun j h1 h2=>?_) _ _ _ _ ⟨.bl _,H,I,rfl,?_⟩
    · obtain ⟨x,ex,rx⟩:=fR r h1
      obtain ⟨y,ey,ry⟩:=fR r' h2
      exact (hi j x y ex ey).at_ (A:=X.A.in1) (by show X.A.units+1+n < cLine; omega) I rx ry
    · rw [show us.toArray.size=xs.length by simp; omega]; exact q
  | @lstN n _ _ xs ys ne ha hb hl =>
    obtain ⟨us,r,pl,_⟩:=I.list ha
    obtain ⟨vs,r',pl',_⟩:=I.list hb
    have l1:=r.length
    have l2:=r'.length
    exact SeqAt.RcNeAt.lists_lengths pl.isList pl'.isList (by simp; omega) (by omega) _ _ _ _ ⟨.bl true,H,I,rfl,q⟩
  | @tup n _ _ xs ys e ne ha hb hi =>
    obtain ⟨us,r,pl,_⟩:=I.tuple ha
    obtain ⟨vs,r',pl',_⟩:=I.tuple hb
    have l1:=r.length
    have l2:=r'.length
    refine SeqAt.RcNeAt.tuples (e:=e) pl pl' (by omega) (fun j h1 h2=>?_) _ _ _ _ ⟨.bl _,H,I,rfl,?_⟩
    · obtain ⟨x,ex,rx⟩:=fR r h1
      obtain ⟨y,ey,ry⟩:=fR r' h2
      exact (hi j x y ex ey).at_ (A:=X.A.in1) (by show X.A.units+1+n < cLine; omega) I rx ry
    · rw [show us.toArray.size=xs.length by simp; omega,show vs.toArray.size=ys.length by simp; omega]; exact q
theorem jw {A:Around} {k:Nat} (hr:bF k A):A.units+100 < cLine:=Nat.lt_of_le_of_lt (by omega) hr.un
end
end L2
set_option Elab.async false
set_option linter.all false
set_option maxRecDepth 100000
set_option maxHeartbeats 4000000
namespace L2
open PySem PySem.Spec PyProof.Rows
section
variable {X:Cx}
theorem DE (hc:X.calm=true):dY X (.builtin "min") (fun xs H Q=>∃ p ns,xs=[.ref p]/\aq X.K H p (ns.map V.int)/\ns≠[]/\∀ M,M∈ns->(∀ a∈ns,M<=a)->Q (.int M) H):=by
  intro pins s σ H xs us Q I r h
  obtain ⟨p,ns,rfl,hl,hne,q⟩:=h
  obtain ⟨u,rfl,ru⟩:=vals1 r
  cases ru
  obtain ⟨its,r',pl,hz⟩:=I.list hl
  have hi:IntsAre its ns:=intsAre_of r'
  obtain ⟨ys,e⟩:=hi.allInts.items
  have hns:ns=ys.toList.map (·.1):=by rw [<- hi.numsOf,<- nums_intItems,<- e]
  have hsz:0 < ys.size:=by
    have:=List.length_pos_iff.mpr hne
    rw [hns,List.length_map,Array.length_toList] at this
    exact this
  have hl':s.heap.IsList p (intItems ys):=by rw [<- e]; exact pl.isList
  refine min_intList (I.ok.hd hc) hl' hsz fun v h' tk hv hk=>?_
  obtain ⟨t,rfl⟩:=intItems_at hv
  obtain ⟨a1,a2⟩:=argBest_lt (numAt ys) (ys.size - 1)
  refine ⟨.int _,H,I.kept hk,⟨t,rfl⟩,q _ ?_ fun a ha=>?_⟩
  · rw [hns,numAt_eq]; exact getD_mem (by rw [List.length_map,Array.length_toList]; omega)
  · rw [hns] at ha
    obtain ⟨j,hj,rfl⟩:=mem_getD ha
    rw [List.length_map,Array.length_toList] at hj
    rw [<- numAt_eq]; exact a2 j (by omega)
theorem pZ (hc:X.calm=true):dY X (.builtin "max") (fun xs H Q=>∃ p ns,xs=[.ref p]/\aq X.K H p (ns.map V.int)/\ns≠[]/\∀ M,M∈ns->(∀ a∈ns,a<=M)->Q (.int M) H):=by
  intro pins s σ H xs us Q I r h
  obtain ⟨p,ns,rfl,hl,hne,q⟩:=h
  obtain ⟨u,rfl,ru⟩:=vals1 r
  cases ru
  obtain ⟨its,r',pl,hz⟩:=I.list hl
  have hi:IntsAre its ns:=intsAre_of r'
  obtain ⟨ys,e⟩:=hi.allInts.items
  have hns:ns=ys.toList.map (·.1):=by rw [<- hi.numsOf,<- nums_intItems,<- e]
  have hsz:0 < ys.size:=by
    have:=List.length_pos_iff.mpr hne
    rw [hns,List.length_map,Array.length_toList] at this
    exact this
  have hl':s.heap.IsList p (intItems ys):=by rw [<- e]; exact pl.isList
  refine max_intList (I.ok.hd hc) hl' hsz fun v h' tk hv hk=>?_
  obtain ⟨t,rfl⟩:=intItems_at hv
  obtain ⟨a1,a2⟩:=argBest_gt (numAt ys) (ys.size - 1)
  refine ⟨.int _,H,I.kept hk,⟨t,rfl⟩,q _ ?_ fun a ha=>?_⟩
  · rw [hns,numAt_eq]; exact getD_mem (by rw [List.length_map,Array.length_toList]; omega)
  · rw [hns] at ha
    obtain ⟨j,hj,rfl⟩:=mem_getD ha
    rw [List.length_map,Array.length_toList] at hj
    rw [<- numAt_eq]; exact a2 j (by omega)
end
section
variable {X:Cx} {pins:List (Addr × Obj)} {σ:St} {H:Hp} {s:Shared} {h':Heap}
theorem Inv.trackO {e:Addr} {o':HO} (I:Inv X pins σ H s) (o:yV X pins H e) (new:bE X.prog X.w (upd H e o') s.heap e o'):Inv X pins σ (upd H e o') s:=by
  have ne:∀ b u,H b=some u->b≠e:=fun b u q z=>by rw [z,o.free] at q; cases q
  refine ⟨I.ok,I.os,I.bare,⟨I.base.keep,I.base.slot,fun b ob q n hx=>?_,I.base.there,fun b xs q=>?_,fun b ob u q=>?_,fun b ps q=>?_⟩,I.loc,I.cell,?_,fun x c q=>?_,fun p hp=>?_,fun b u q=>?_,I.len⟩
  · rw [ak (fun z=>by rw [z,o.new] at q; cases q)]; exact I.base.free b ob q n hx
  · have:=I.base.tups b xs q
    rw [ak (ne _ _ this)]; exact this
  · have:=I.base.frzs b ob u q
    rw [ak (ne _ _ this)]; exact this
  · obtain ⟨m,z⟩:=I.base.tbls b ps q
    exact ⟨m,by rw [ak (ne _ _ z)]; exact z⟩
  · rw [ak (Ne.symm o.loc)]; exact I.free
  · rw [ak (o.cell x c q)]; exact I.freeC x c q
  · obtain ⟨z,n,r⟩:=I.pin p hp
    exact ⟨z,by rw [ak (o.pin p hp)]; exact n,r⟩
  · by_cases z:b=e
    · subst z; rw [ae] at q; cases q; exact new
    · rw [ak z] at q
      exact (I.hok b u q).stay (fun _ _ _ x=>x) (fun c x=>by rw [ak (ne _ _ x)]; exact x) fun c xs x=>by rw [ak (ne _ _ x)]; exact x
end
section
variable {X:Cx}
end
end L2
set_option Elab.async false
set_option linter.all false
set_option maxRecDepth 100000
set_option maxHeartbeats 4000000
namespace Ck
open PySem L2
inductive Tree where
  | int (i:Int)
  | lst (l:List Tree)
  | tup (l:List Tree)
mutual
noncomputable def Rep (H:Hp):Tree->V->Prop
  | .int i,v=>v = .int i
  | .lst ts,v=>∃ a xs,v = .ref a/\H a=some (.lst xs)/\ts.length<=1000000/\iJ H ts xs
  | .tup ts,v=>∃ a xs,v = .ref a/\H a=some (.tup xs)/\ts.length<=1000000/\iJ H ts xs
noncomputable def iJ (H:Hp):List Tree->List V->Prop
  | [],xs=>xs=[]
  | t::ts,xs=>∃ v vs,xs=v::vs/\Rep H t v/\iJ H ts vs
end
mutual
noncomputable def dep:Tree->Nat
  | .int _=>0
  | .lst ts=>yZ ts+1
  | .tup ts=>yZ ts+1
noncomputable def yZ:List Tree->Nat
  | []=>0
  | t::ts=>max (dep t) (yZ ts)
end
mutual
theorem Rep.same {H H':Hp} (s:af H H'):∀ (t:Tree) {v:V},Rep H t v->Rep H' t v
  | .int i,v,h=>by unfold Rep at h |-; exact h
  | .lst ts,v,h=>by
    unfold Rep at h |-
    obtain ⟨a,xs,e,ha,hl,r⟩:=h
    exact ⟨a,xs,e,s _ _ ha,hl,iJ.same s ts r⟩
  | .tup ts,v,h=>by
    unfold Rep at h |-
    obtain ⟨a,xs,e,ha,hl,r⟩:=h
    exact ⟨a,xs,e,s _ _ ha,hl,iJ.same s ts r⟩
theorem iJ.same {H H':Hp} (s:af H H'):∀ (ts:List Tree) {xs:List V},iJ H ts xs->iJ H' ts xs
  | [],xs,h=>by unfold iJ at h |-; exact h
  | t::ts,xs,h=>by
    unfold iJ at h |-
    obtain ⟨v,vs,e,r,rs⟩:=h
    exact ⟨v,vs,e,Rep.same s t r,iJ.same s ts rs⟩
end
noncomputable abbrev Pair:=Int × Int
def cL (H:Hp) (xs:List V) (ps:List Pair):Prop:=Paired (fun (v:V) (p:Pair)=>∃ t,v = .ref t/\H t=some (.tup [.int p.1,.int p.2])) xs ps
theorem cL.same {H H':Hp} {xs:List V} {ps:List Pair} (h:cL H xs ps) (s:af H H'):cL H' xs ps:=Paired.mapP h fun v p ⟨t,e,q⟩=>⟨t,e,s _ _ q⟩
theorem cL.length {H:Hp} {xs:List V} {ps:List Pair} (h:cL H xs ps):xs.length=ps.length:=Paired.length h
theorem cL.get {H:Hp}:∀ {xs:List V} {ps:List Pair},cL H xs ps->∀ {i:Nat} {x:V},xs[i]? = some x->∃ p t,ps[i]? = some p/\x = .ref t/\H t=some (.tup [.int p.1,.int p.2])
  | _,_,.nil,i,x,e=>by cases e
  | _,_,.cons r t,0,x,e=>by
    obtain ⟨a,e1,e2⟩:=r
    rw [List.getElem?_cons_zero] at e
    cases e
    exact ⟨_,a,rfl,e1,e2⟩
  | _,_,.cons r t,i+1,x,e=>by
    obtain ⟨p,a,h1,h2,h3⟩:=cL.get t (i:=i) (by simpa using e)
    exact ⟨p,a,by simpa using h1,h2,h3⟩
theorem cL.snoc {H:Hp}:∀ {xs:List V} {ps:List Pair} {t:Addr} {p:Pair},cL H xs ps->H t=some (.tup [.int p.1,.int p.2])->cL H (xs++[.ref t]) (ps++[p])
  | _,_,t,p,.nil,h=>.cons ⟨t,rfl,h⟩ .nil
  | _,_,t,p,.cons r s,h=>.cons r (cL.snoc s h)
theorem cL.set {H:Hp} {t:Addr} {p:Pair} (h:H t=some (.tup [.int p.1,.int p.2])):∀ {xs:List V} {ps:List Pair} (i:Nat),cL H xs ps->cL H (xs.set i (.ref t)) (ps.set i p)
  | _,_,_,.nil=>.nil
  | _,_,0,.cons _ s=>.cons ⟨t,rfl,h⟩ s
  | _,_,i+1,.cons r s=>.cons r (cL.set h i s)
theorem cL.updL {H:Hp} {xs:List V} {ps:List Pair} {a:Addr} {l:List V} (h:cL H xs ps) (ha:H a=some (.lst l)) (o:HO):cL (upd H a o) xs ps :=
  Paired.mapP h fun v p ⟨t,e,q⟩=>⟨t,e,(ak (DA q ha (by intro z; cases z))).trans q⟩
theorem cL.updN {H:Hp} {xs:List V} {ps:List Pair} {a:Addr} (h:cL H xs ps) (ha:H a=none) (o:HO):cL (upd H a o) xs ps :=
  Paired.mapP h fun v p ⟨t,e,q⟩=>⟨t,e,(ak (aw q ha)).trans q⟩
def gf (H:Hp) (a:Addr) (ps:List Pair):Prop:=∃ xs,H a=some (.lst xs)/\cL H xs ps
theorem gf.same {H H':Hp} {a:Addr} {ps:List Pair} (h:gf H a ps) (s:af H H'):gf H' a ps:=let ⟨xs,e,r⟩:=h; ⟨xs,s _ _ e,r.same s⟩
theorem gf.len {H:Hp} {a:Addr} {ps:List Pair} (h:gf H a ps):∃ xs,H a=some (.lst xs)/\xs.length=ps.length/\cL H xs ps:=let ⟨xs,e,r⟩:=h; ⟨xs,e,r.length,r⟩
end Ck
namespace L2
open PySem
end L2
set_option Elab.async false
set_option linter.all false
set_option maxRecDepth 100000
set_option maxHeartbeats 4000000
namespace Ck
open PySem L2
theorem _root_.L2.EqD.rowT {K:PySem.W.Frag} {H:Hp} {n:Nat} {ws:List Int} {j:Nat} {x y:V} (ex:(ws.map V.int)[j]? = some x) (ey:(ws.map V.int)[j]? = some y):EqD K H n x y true:=by
  rw [ex] at ey
  cases ey
  obtain ⟨c,rfl⟩:=kG ex
  have h:=EqD.flat (K:=K) (H:=H) (n:=n) (x:=.int c) (y:=.int c) rfl rfl
  rw [show mK (.int c) (.int c)=true from decide_eq_true rfl] at h
  exact h
end Ck
set_option Elab.async false
set_option linter.all false
set_option maxRecDepth 100000
set_option maxHeartbeats 4000000
namespace L2
open PySem PySem.Spec PyProof.Rows PySem.SeqAt
section
variable {X:Cx}
theorem pD {K:PySem.W.Frag} {es:List Expr} {k:Nat} {t:pX} {n:Nat} {pos:Pos} (hK:X.K=K) (hc:X.calm=true) (h:xt X es t)
    (hn:(assignEach es X.env).length=n:=by rfl) (hst:(assignEach es X.env).findIdx? (·.1)=none:=by rfl):PG X (.Tuple es k pos) (Aw K n t):=by
  subst hK
  exact tD hc h hn hst
theorem cg {K:PySem.W.Frag} {a:Addr} {xs:List V} {g:TG} {tt:TT} {te:TE} {σ0:St} {H:Hp} {D:Addr} {Q:VK} (Pv:Nat->List V->Hp->Prop) (hz:xs.length<=sizeLine)
    (h0:Pv 0 [] (upd H D (.lst []))) (hl:∀ i ys H',i<=xs.length->Pv i ys H'->aq K H' a xs/\ys.length<=i)
    (hs:∀ (i:Nat) (x:V) (ys:List V) (H':Hp) (R:VK) (R0:Hp->Prop),xs[i]? = some x->Pv i ys H'->(∀ v H3,H3 D=some (.lst ys)->Pv (i+1) (ys++[v]) (upd H3 D (.lst (ys++[v])))->R v H3)->(∀ H3,Pv (i+1) ys H3->R0 H3) ->
      g x σ0 H' fun σ2 H2=>Ext σ0 σ2/\tt σ2 H2 fun b H3=>if b=true then te σ2 H3 R else R0 H3)
    (hq:∀ ys H',Pv xs.length ys H'->Q (.ref D) H') :
    qR (ue K a) g tt te σ0 D Q H:=by
  refine ⟨fun i m ys H'=>m=xs.length - i/\i<=xs.length/\Pv i ys H',⟨xs.length,by simp,Nat.zero_le _,h0⟩,?_⟩
  rintro i m ys H' ⟨rfl,hi,p⟩
  obtain ⟨sq,ly⟩:=hl i ys H' hi p
  by_cases hlt:i < xs.length
  · refine .inr ⟨⟨xs,xs[i],sq,by simp [hlt]⟩,fun x H'' y=>?_⟩
    obtain ⟨e,y⟩:=y
    subst e
    have ex:=y xs sq
    refine hs i x ys _ _ _ ex p (fun v H3 hD p'=>⟨hD,by omega,xs.length - (i+1),by omega,rfl,hlt,p'⟩) fun H3 p'=>⟨xs.length - (i+1),by omega,rfl,hlt,p'⟩
  · have e:i=xs.length:=by omega
    subst e
    exact .inl ⟨⟨xs,sq,Nat.le_refl _⟩,hq ys H' p⟩
end
end L2
namespace Ck
open PySem L2
end Ck
namespace Ck
open PySem L2
structure bG (fs:List (Str × V)) (w:Str) (l:Int):Prop where
  word:fs.lookup ("word" : Str)=some (.str w)
  least:fs.lookup ("least" : Str)=some (.int l)
  no:∀ m:Str,m≠("word" : Str)->m≠("least" : Str)->fs.lookup m=none
theorem fT (w:Str) (l:Int):bG (fU ("least" : Str) (.int l) (fU ("word" : Str) (.str w) [])) w l :=
  ⟨by rw [eP,if_neg (by decide),eP,if_pos rfl],by rw [eP,if_pos rfl],fun m a b=>by rw [eP,if_neg b,eP,if_neg a]; rfl⟩
noncomputable def up (d:Int) (p:Pair):Pair:=(p.1+d,p.2+d)
theorem cL.app {H:Hp}:∀ {xs ys:List V} {ps qs:List Pair},cL H xs ps->cL H ys qs->cL H (xs++ys) (ps++qs)
  | _,_,_,_,.nil,h=>h
  | _,_,_,_,.cons r t,h=>.cons r (cL.app t h)
end Ck
namespace Ck
open PySem L2
theorem pW (ns:List Int):(ns.map V.int).all iq=true:=by
  rw [List.all_eq_true]
  intro x hx
  obtain ⟨n,_,rfl⟩:=List.mem_map.mp hx
  rfl
end Ck
namespace Ck
open PySem L2
end Ck
set_option Elab.async false
set_option linter.all false
set_option maxRecDepth 100000
set_option maxHeartbeats 4000000
namespace L2
open PySem PySem.Spec PyProof.Rows
theorem iM:bootBuiltins "sorted" = some (.builtin "sorted"):=by decide +kernel
theorem Bc:bootBuiltins "all" = some (.builtin "all"):=by decide +kernel
theorem jo:∀ {us:List Value} {ns:List Int},IntsAre us ns->Vals (ns.map V.int) us
  | _,_,.nil=>.nil
  | _,_,.cons n t h=>.cons ⟨t,rfl⟩ (jo h)
section
variable {X:Cx}
theorem mP:dY X (.builtin "sorted") (fun xs H Q=>∃ (p:Addr) (ns:List Int),xs=[.ref p]/\aq X.K H p (ns.map V.int)/\ns.length < 64/\∀ (q:Addr) (ms:List Int),H q=none->ms.Perm ns->ms.Pairwise (·<=·)->Q (.ref q) (upd H q (.lst (ms.map V.int)))):=by
  intro pins s σ H xs us Q I r h
  obtain ⟨p,ns,rfl,hl,h64,q⟩:=h
  obtain ⟨u,rfl,ru⟩:=vals1 r
  cases ru
  obtain ⟨its,r',pl,hz⟩:=I.list hl
  have hi:IntsAre its ns:=intsAre_of r'
  refine sorted_ints pl.isList hi (by rw [hi.length]; exact h64) fun out ms ho hp hs=>?_
  obtain ⟨e,he⟩:=sortedAll_at s.heap its out
  have lm:(ms.map V.int).length<=sizeLine:=by rw [List.length_map,hp.length_eq]; exact sz (by omega)
  exact ⟨.ref _,_,I.laid (t':=s.toks) (o:=.lst (ms.map V.int)) (fun b u e=>sortedAll_old e) (Nat.le_succ _) ⟨lm,out.toList,e,jo ho,by simpa [seqObj] using he⟩,rfl,q _ ms (I.hok.fresh (Nat.le_succ _)) hp hs⟩
theorem wX {bs:List Bool}:∀ {us:List Value},Vals (bs.map V.bl) us->us=bs.map Value.bool:=by
  induction bs with
  | nil=>intro us r; rw [List.map_nil] at r; cases r; rfl
  | cons b bs ih =>
    intro us r
    rw [List.map_cons] at r
    cases r with
    | cons h t=>rw [ih t,List.map_cons]; cases (show _=Value.bool b from h); rfl
theorem all_range (bs:List Bool):(List.range bs.length).all (fun i=>bs.getD i false)=bs.all id:=by
  induction bs with
  | nil=>rfl
  | cons b bs ih =>
    rw [List.length_cons,List.range_succ_eq_map,List.all_cons,List.all_map,List.all_cons]
    have:((fun i=>(b::bs).getD i false) ∘ Nat.succ)=fun i=>bs.getD i false:=by funext i; rfl
    rw [this,ih]
    rfl
theorem yF (hc:X.calm=true):dY X (.builtin "all") (fun xs H Q=>∃ (p:Addr) (bs:List Bool),xs=[.ref p]/\aq X.K H p (bs.map V.bl)/\Q (.bl (bs.all id)) H):=by
  intro pins s σ H xs us Q I r h
  obtain ⟨p,bs,rfl,hl,q⟩:=h
  obtain ⟨u,rfl,ru⟩:=vals1 r
  cases ru
  obtain ⟨its,r',pl,hz⟩:=I.list hl
  have ei:=wX r'
  have hlt:p < s.heap.objs.size:=by obtain ⟨_,e,_⟩:=pl.isList; exact Heap.lt_size e
  refine call_all_walk (wpAny_pyIter_list pl.isList ⟨_,_,_,_,_,_,fun i=>bs.getD i false,rfl,Walks.list (A:=X.A.in1) (I.ok.hd hc) _ p (Nat.ne_of_lt hlt) its.toArray,⟨⟨_,Heap.get?_push_size _ rfl,rfl,rfl⟩,pl.isList.push _⟩,?_,fun h' tk hk=>⟨.bl _,H,I.kept (old_kept hk),rfl,?_⟩⟩)
  · intro i v s' Q' E' hP hQ
    have hb:bs[i]? = some (bs.getD i false)/\v = .bool (bs.getD i false):=by
      have hP':its[i]? = some v:=by simpa using hP
      rw [ei,List.getElem?_map] at hP'
      cases hb:bs[i]? with
      | none=>rw [hb] at hP'; cases hP'
      | some b =>
        rw [hb] at hP'
        have e1:bs.getD i false=b:=by rw [List.getD_eq_getElem?_getD,hb]; rfl
        rw [e1]
        exact ⟨rfl,(Option.some.inj hP').symm⟩
    rw [hb.2]
    exact wpAny_truthy_bool hQ
  · have e1:its.toArray.size=bs.length:=by rw [ei]; simp
    rw [e1,all_range]
    exact q
end
end L2
namespace Ck
open PySem L2
end Ck
set_option Elab.async false
set_option linter.all false
set_option maxRecDepth 100000
set_option maxHeartbeats 4000000
namespace L2
open PySem PySem.Spec PyProof.Rows PySem.W
noncomputable def pw {α:Type} (n:Nat) (lt:Nat->Nat->Bool):KasT α->(α->Prop)->Prop
  | .ret a,Q=>Q a
  | .ask i j k,Q=>i < n/\j < n/\pw n lt (k (lt i j)) Q
theorem iA {α β:Type} {n:Nat} {lt:Nat->Nat->Bool} {f:α->KasT β} {Q:β->Prop}:∀ {t:KasT α},pw n lt t (fun a=>pw n lt (f a) Q)->pw n lt (t.bind f) Q
  | .ret _,h=>h
  | .ask _ _ _,h=>⟨h.1,h.2.1,iA h.2.2⟩
theorem gL {α:Type} {n:Nat} {lt:Nat->Nat->Bool} {Q Q':α->Prop} (m:∀ a,Q a->Q' a):∀ {t:KasT α},pw n lt t Q->pw n lt t Q'
  | .ret a,h=>m a h
  | .ask _ _ _,h=>⟨h.1,h.2.1,gL m h.2.2⟩
theorem zE {α:Type} {n:Nat} {lt:Nat->Nat->Bool} {Q:α->Prop} {s:Shared} {cmp:Nat->Nat->(Bool->Shared->Prop)->Shared->Prop}
    (hc:∀ (i j:Nat) (C:Bool->Shared->Prop),i < n->j < n->C (lt i j) s->cmp i j C s):∀ {t:KasT α},pw n lt t Q->t.kasWp cmp (fun a s'=>s'=s/\Q a) s
  | .ret _,h=>⟨rfl,h⟩
  | .ask i j k,h=>hc i j (fun b s'=>(k b).kasWp cmp (fun a s'=>s'=s/\Q a) s') h.1 h.2.1 (zE hc h.2.2)
structure jt (lt:Nat->Nat->Bool):Prop where
  asym:∀ a b,lt a b=true->lt b a=false
  ntr:∀ a b c,lt b a=false->lt c b=false->lt c a=false
noncomputable abbrev gA (p:Array Nat) (k:Nat):Nat:=p.getD k 0
def fE (n:Nat) (p:Array Nat):Prop:=p.toList.Perm (List.range n)
theorem fE.size {n:Nat} {p:Array Nat} (h:fE n p):p.size=n:=by
  have:=h.length_eq
  rw [List.length_range] at this
  simpa using this
theorem fE.lt {n:Nat} {p:Array Nat} (h:fE n p) (hn:0 < n) (k:Nat):gA p k < n:=by
  unfold gA
  by_cases hk:k < p.size
  · have e:p.getD k 0=p[k]:=by simp [hk]
    rw [e]
    exact List.mem_range.mp (h.mem_iff.mp (Array.getElem_mem_toList hk))
  · have e:p.getD k 0=0:=by simp [hk]
    rw [e]; exact hn
theorem j7 {p:Array Nat} {i j:Nat} (hj:j<=p.size) (k:Nat):gA (kas_rev p i j) k=if i<=k/\k < j then gA p (i+j - 1 - k) else gA p k:=by
  unfold gA kas_rev
  rw [Array.getD_eq_getD_getElem?,getElem?_mirror_all hj k]
  split
  · rw [<- Array.getD_eq_getD_getElem?]
  · rw [<- Array.getD_eq_getD_getElem?]
theorem Az {p:Array Nat} {src d:Nat} (hs:src < p.size) (hd:d<=src) (k:Nat):gA (bubble p src d) k=if k=src - d then gA p src else if src - d < k/\k<=src then gA p (k - 1) else gA p k:=by
  unfold gA
  rw [Array.getD_eq_getD_getElem?,getElem?_bubble hs d hd k]
  split
  · simp [hs]
  · split
    · rw [<- Array.getD_eq_getD_getElem?]
    · rw [<- Array.getD_eq_getD_getElem?]
theorem fE.rev {n:Nat} {p:Array Nat} (h:fE n p) (i j:Nat):fE n (kas_rev p i j):=(Array.perm_iff_toList_perm.mp (mirror_perm p i j _)).trans h
theorem fE.bub {n:Nat} {p:Array Nat} (h:fE n p) (i j:Nat):fE n (bubble p i j):=(Array.perm_iff_toList_perm.mp (bubble_perm p i j)).trans h
section
variable {n:Nat} {lt:Nat->Nat->Bool} (O:jt lt)
def ig (lt:Nat->Nat->Bool) (p:Array Nat) (k:Nat):Prop:=∀ i j,i<=j->j < k->lt (gA p j) (gA p i)=false
def jg (lt:Nat->Nat->Bool) (p:Array Nat) (k:Nat):Prop:=∀ i j,i<=j->j < k->lt (gA p i) (gA p j)=false
def oC (lt:Nat->Nat->Bool) (a b:Nat):Prop:=lt a b=false/\lt b a=false
include O
theorem jt.irr (a:Nat):lt a a=false:=by
  cases h:lt a a with
  | false=>rfl
  | true=>exact h.symm.trans (O.asym a a h)
theorem jt.alk (a:Nat):oC lt a a:=⟨O.irr a,O.irr a⟩
theorem jt.alkT {a b c:Nat} (x:oC lt a b) (y:oC lt b c):oC lt a c:=⟨O.ntr c b a y.1 x.1,O.ntr a b c x.2 y.2⟩
theorem jt.up {a b c:Nat} (x:lt a b=true) (y:lt c b=false):lt a c=true:=by
  cases h:lt a c with
  | true=>rfl
  | false=>exact (x.symm.trans (O.ntr b c a y h)).symm▸rfl
theorem ig.one (p:Array Nat):ig lt p 1:=fun i j h1 h2=>by
  have e:i=j:=by omega
  subst e
  exact O.irr _
theorem jg.one (p:Array Nat):jg lt p 1:=fun i j h1 h2=>by
  have e:i=j:=by omega
  subst e
  exact O.irr _
theorem ig.snoc {p:Array Nat} {m:Nat} (h1:1<=m) (h:ig lt p m) (c:lt (gA p m) (gA p (m - 1))=false):ig lt p (m+1):=fun i j ij jm=>by
  by_cases hj:j < m
  · exact h i j ij hj
  · have e:j=m:=by omega
    subst e
    by_cases hi:i=j
    · subst hi; exact O.irr _
    · exact O.ntr _ _ _ (h i (j - 1) (by omega) (by omega)) c
theorem jg.snoc {p:Array Nat} {m:Nat} (h1:1<=m) (h:jg lt p m) (c:lt (gA p (m - 1)) (gA p m)=false):jg lt p (m+1):=fun i j ij jm=>by
  by_cases hj:j < m
  · exact h i j ij hj
  · have e:j=m:=by omega
    subst e
    by_cases hi:i=j
    · subst hi; exact O.irr _
    · exact O.ntr _ _ _ c (h i (j - 1) (by omega) (by omega))
theorem jg.alk {p p':Array Nat} {m:Nat} (h:jg lt p m) (e:∀ k,k < m->oC lt (gA p' k) (gA p k)):jg lt p' m:=fun i j ij jm =>
  O.ntr _ _ _ (e j jm).2 (O.ntr _ _ _ (h i j ij jm) (e i (by omega)).1)
theorem r9 {p:Array Nat} (hp:fE n p) {N:Nat} (hN:N<=n):∀ (f m:Nat),1<=m->m+f=N->ig lt p m->pw n lt (kas_asc p f m) (fun r=>m<=r/\r<=N/\ig lt p r/\(r < N->lt (gA p r) (gA p (r - 1))=true))
  | 0,m,h1,h2,h=>⟨Nat.le_refl _,by omega,h,fun z=>absurd z (by omega)⟩
  | f+1,m,h1,h2,h=>by
    refine ⟨hp.lt (by omega) _,hp.lt (by omega) _,?_⟩
    show pw n lt (if lt (gA p m) (gA p (m - 1))=true then _ else _) _
    cases c:lt (gA p m) (gA p (m - 1)) with
    | true =>
      rw [if_pos rfl]
      exact ⟨Nat.le_refl _,by omega,h,fun _=>c⟩
    | false =>
      rw [if_neg (by decide)]
      exact gL (fun r hr=>⟨by omega,hr.2⟩) (r9 hp hN f (m+1) (by omega) (by omega) (h.snoc O h1 c))
theorem kP {N:Nat} (hN:N<=n):∀ (f:Nat) (p:Array Nat) (m q:Nat),fE n p->q+1<=m->m+f=N->jg lt p m->(∀ i,m - 1 - q<=i->i < m->oC lt (gA p i) (gA p (m - 1))) ->
    pw n lt (kas_desc f p m q) (fun r=>fE n r.1/\r.2.2+1<=r.2.1/\r.2.1<=N/\jg lt r.1 r.2.1/\∀ i,r.2.1 - 1 - r.2.2<=i->i < r.2.1->oC lt (gA r.1 i) (gA r.1 (r.2.1 - 1)))
  | 0,p,m,q,hp,hq,h2,h,al=>⟨hp,hq,by show m<=N; omega,h,al⟩
  | f+1,p,m,q,hp,hq,h2,h,al=>by
    have hs:=hp.size
    refine ⟨hp.lt (by omega) _,hp.lt (by omega) _,?_⟩
    show pw n lt (if lt (gA p m) (gA p (m - 1))=true then _ else _) _
    cases c:lt (gA p m) (gA p (m - 1)) with
    | true =>
      rw [if_pos rfl]
      by_cases q0:q > 0
      · rw [if_pos q0]
        have e:∀ k,gA (kas_rev p (m - (q+1)) m) k=if m - (q+1)<=k/\k < m then gA p (m - (q+1)+m - 1 - k) else gA p k:=fun k=>j7 (by omega) k
        have ek:∀ k,k < m->oC lt (gA (kas_rev p (m - (q+1)) m) k) (gA p k):=fun k hk=>by
          rw [e k]
          split
          · have z1:=al (m - (q+1)+m - 1 - k) (by omega) (by omega)
            have z2:=al k (by omega) hk
            exact O.alkT z1 ⟨z2.2,z2.1⟩
          · exact O.alk _
        have em:gA (kas_rev p (m - (q+1)) m) m=gA p m:=by rw [e m,if_neg (by omega)]
        refine kP hN f _ (m+1) 0 (hp.rev _ _) (by omega) (by omega) ((h.alk O ek).snoc O (by omega) ?_) (fun i i1 i2=>?_)
        · rw [em]
          have:=(ek (m - 1) (by omega)).1
          exact O.ntr _ _ _ (O.asym _ _ c) this
        · have:i=m:=by omega
          subst this
          exact O.alk _
      · rw [if_neg q0]
        refine kP hN f p (m+1) 0 hp (by omega) (by omega) (h.snoc O (by omega) (O.asym _ _ c)) (fun i i1 i2=>?_)
        have:i=m:=by omega
        subst this
        exact O.alk _
    | false =>
      rw [if_neg (by decide)]
      refine ⟨hp.lt (by omega) _,hp.lt (by omega) _,?_⟩
      show pw n lt (if lt (gA p (m - 1)) (gA p m)=true then _ else _) _
      cases d:lt (gA p (m - 1)) (gA p m) with
      | true =>
        rw [if_pos rfl]
        exact ⟨hp,hq,by show m<=N; omega,h,al⟩
      | false =>
        rw [if_neg (by decide)]
        refine kP hN f p (m+1) (q+1) hp (by omega) (by omega) (h.snoc O (by omega) d) (fun i i1 i2=>?_)
        by_cases hi:i < m
        · exact O.alkT (al i (by omega) hi) ⟨d,c⟩
        · have:i=m:=by omega
          subst this
          exact O.alk _
def BL (n:Nat) (lt:Nat->Nat->Bool) (N:Nat) (r:Nat × Array Nat):Prop:=fE n r.2/\ig lt r.2 r.1/\1<=r.1/\r.1<=N
theorem rV {N:Nat} (hN:N<=n) {p:Array Nat} {m:Nat} (hp:fE n p) (h1:1<=m) (hm:m<=N) (h:jg lt p m):pw n lt (kas_tail3 m N p) (BL n lt N):=by
  have hs:=hp.size
  have e:∀ k,k < m->gA (kas_rev p 0 m) k=gA p (m - 1 - k):=fun k hk=>by
    rw [j7 (by omega),if_pos (by omega),Nat.zero_add]
  refine iA (gL (fun r hr=>?_) (r9 O (hp.rev 0 m) hN (N - m) m h1 (by omega) (fun i j ij jm=>?_)))
  · exact ⟨hp.rev 0 m,hr.2.2.1,by show 1<=r; omega,hr.2.1⟩
  · rw [e i (by omega),e j jm]
    exact h _ _ (by omega) (by omega)
theorem mL {N:Nat} (hN:N<=n) {p:Array Nat} {m:Nat} (hp:fE n p) (h1:1<=m) (hm:m+1<=N) (h:jg lt p m) (c:lt (gA p m) (gA p (m - 1))=true):pw n lt (kas_descPart m N p) (BL n lt N):=by
  refine iA (gL (fun r hr=>?_) (kP O hN (N - (m+1)) p (m+1) 0 hp (by omega) (by omega) (h.snoc O h1 (O.asym _ _ c)) (fun i i1 i2=>?_)))
  · obtain ⟨p',m',q'⟩:=r
    obtain ⟨ok,hq,hl,fa,al⟩:=hr
    have hs:=ok.size
    dsimp only at hs hq hl fa al |-
    by_cases q0:q' > 0
    · rw [if_pos q0]
      refine rV O hN (ok.rev _ _) (by omega) hl (fa.alk O fun k hk=>?_)
      rw [j7 (by omega)]
      split
      · have z1:=al (m' - (q'+1)+m' - 1 - k) (by omega) (by omega)
        have z2:=al k (by omega) hk
        exact O.alkT z1 ⟨z2.2,z2.1⟩
      · exact O.alk _
    · rw [if_neg q0]
      exact rV O hN ok (by omega) hl fa
  · have:i=m:=by omega
    subst this
    exact O.alk _
theorem yO {N:Nat} (hN:N<=n) (hN1:1<=N) {p:Array Nat} (hp:fE n p):pw n lt (kas_count N p) (BL n lt N):=by
  have hs:=hp.size
  refine iA (gL (fun m hm=>?_) (r9 O hp hN (N - 1) 1 (Nat.le_refl _) (by omega) (ig.one O p)))
  obtain ⟨m1,mN,ri,st⟩:=hm
  by_cases e:m=N
  · subst e
    rw [if_pos (by simp)]
    exact ⟨hp,ri,m1,Nat.le_refl _⟩
  · rw [if_neg (by simpa using e)]
    have c:=st (by omega)
    by_cases m2:m > 1
    · rw [if_pos m2]
      refine ⟨hp.lt (by omega) _,hp.lt (by omega) _,?_⟩
      show pw n lt (if lt (gA p 0) (gA p (m - 1))=true then _ else _) _
      cases d:lt (gA p 0) (gA p (m - 1)) with
      | true =>
        rw [if_pos rfl]
        exact ⟨hp,ri,m1,mN⟩
      | false =>
        rw [if_neg (by decide)]
        have al:∀ i,i < m->oC lt (gA p i) (gA p 0):=fun i hi=>⟨ri 0 i (by omega) hi,O.ntr _ _ _ (ri i (m - 1) (by omega) (by omega)) d⟩
        have e:∀ k,k < m->gA (kas_rev p 0 m) k=gA p (m - 1 - k):=fun k hk=>by
          rw [j7 (by omega),if_pos (by omega),Nat.zero_add]
        refine mL O hN (hp.rev _ _) m1 (by omega) (fun i j ij jm=>?_) ?_
        · rw [e i (by omega),e j jm]
          have z1:=al (m - 1 - i) (by omega)
          have z2:=al (m - 1 - j) (by omega)
          exact (O.alkT z1 ⟨z2.2,z2.1⟩).1
        · rw [j7 (by omega),if_neg (by omega),e (m - 1) (by omega),show m - 1 - (m - 1)=0 by omega]
          exact O.up c d
    · rw [if_neg m2]
      have em:m=1:=by omega
      subst em
      exact mL O hN hp (Nat.le_refl _) (by omega) (jg.one O p) c
theorem mV {p:Array Nat} (hp:fE n p) {k:Nat} (hk:k < n) (h:ig lt p k):∀ (f l r:Nat),l<=r->r<=k->r - l<=f->(∀ i,i < l->lt (gA p k) (gA p i)=false)->(∀ i,r<=i->i < k->lt (gA p k) (gA p i)=true) ->
    pw n lt (kas_place p k f l r) (fun l'=>l'<=k/\(∀ i,i < l'->lt (gA p k) (gA p i)=false)/\∀ i,l'<=i->i < k->lt (gA p k) (gA p i)=true)
  | 0,l,r,h1,h2,h3,a,b=>⟨by omega,a,fun i i1 i2=>b i (by omega) i2⟩
  | f+1,l,r,h1,h2,h3,a,b=>by
    show pw n lt (if l ≥ r then _ else _) _
    by_cases e:l ≥ r
    · rw [if_pos e]
      exact ⟨by omega,a,fun i i1 i2=>b i (by omega) i2⟩
    · rw [if_neg e]
      refine ⟨hp.lt (by omega) _,hp.lt (by omega) _,?_⟩
      show pw n lt (if lt (gA p k) (gA p ((l+r) / 2))=true then _ else _) _
      cases c:lt (gA p k) (gA p ((l+r) / 2)) with
      | true =>
        rw [if_pos rfl]
        exact mV hp hk h f l ((l+r) / 2) (by omega) (by omega) (by omega) a fun i i1 i2=>O.up c (h _ i i1 i2)
      | false =>
        rw [if_neg (by decide)]
        exact mV hp hk h f ((l+r) / 2+1) r (by omega) h2 (by omega) (fun i hi=>O.ntr _ _ _ (h i ((l+r) / 2) (by omega) (by omega)) c) b
theorem xB:∀ (f:Nat) (p:Array Nat) (k:Nat),fE n p->k+f=n->ig lt p k->pw n lt (kas_bin f p k) (fun p'=>fE n p'/\ig lt p' n)
  | 0,p,k,hp,hk,h=>by
    have:k=n:=by omega
    subst this
    exact ⟨hp,h⟩
  | f+1,p,k,hp,hk,h=>by
    have hs:=hp.size
    refine iA (gL (fun l hl=>?_) (mV O hp (by omega) h k 0 k (by omega) (Nat.le_refl _) (by omega) (fun i hi=>absurd hi (by omega)) (fun i i1 i2=>absurd i1 (by omega))))
    obtain ⟨lk,lo,hi⟩:=hl
    refine xB f _ (k+1) (hp.bub _ _) (by omega) (fun i j ij jk=>?_)
    have e:=fun x=>Az (p:=p) (src:=k) (d:=k - l) (by omega) (by omega) x
    rw [e i,e j,show k - (k - l)=l by omega]
    by_cases j1:j=l
    · subst j1
      rw [if_pos rfl]
      by_cases i1:i=j
      · rw [if_pos i1]; exact O.irr _
      · rw [if_neg i1,if_neg (by omega)]
        exact lo i (by omega)
    · rw [if_neg j1]
      by_cases j2:l < j/\j<=k
      · rw [if_pos j2]
        by_cases i1:i=l
        · rw [if_pos i1]
          exact O.asym _ _ (hi (j - 1) (by omega) (by omega))
        · rw [if_neg i1]
          by_cases i2:l < i/\i<=k
          · rw [if_pos i2]
            exact h _ _ (by omega) (by omega)
          · rw [if_neg i2]
            exact h _ _ (by omega) (by omega)
      · rw [if_neg j2,if_neg (by omega),if_neg (by omega)]
        exact h _ _ ij (by omega)
theorem zY (h2:1<=n):pw n lt (kas_sort n) (fun p=>fE n p/\ig lt p n):=by
  refine iA (gL (fun r hr=>?_) (yO O (Nat.le_refl n) h2 (p:=List.toArray (List.range n)) (by unfold fE; simp)))
  obtain ⟨m,p⟩:=r
  obtain ⟨ok,ri,m1,mn⟩:=hr
  dsimp only at ok ri m1 mn |-
  by_cases e:m < n
  · rw [if_pos e,Nat.max_eq_left m1]
    exact xB O (n - m) p m ok (by omega) ri
  · rw [if_neg e]
    have:m=n:=by omega
    subst this
    exact ⟨ok,ri⟩
end
end L2
set_option Elab.async false
set_option linter.all false
set_option maxRecDepth 100000
set_option maxHeartbeats 4000000
namespace L2
open PySem PySem.Spec PyProof.Rows PySem.W Ck
section
variable {prog:Program} {w:World} {A:Around} {E:Value->Shared->Prop} {s:Shared}
def vc (prog:Program) (w:World) (A:Around) (vs:List Value) (lt:Nat->Nat->Bool) (s1:Shared):Prop :=
  ∀ (Q:SortKind->Shared->Prop),(∀ κ,(∀ (i j:Nat) (C:Bool->Shared->Prop),i < vs.length->j < vs.length->C (lt i j) s1->kas_ask prog w A κ vs i j C s1)->Q κ s1)->wpAny (model prog w) A (keyKind' vs.toArray) Q (fun _ _=>False) s1
noncomputable def g5 (vs:List Value) (p:Array Nat):List Value:=p.toList.map fun i=>vs.getD i Value.none
theorem xg (vs:List Value):g5 vs (List.toArray (List.range vs.length))=vs:=by
  unfold g5
  refine List.ext_getElem (by simp) fun i h1 h2=>?_
  simp [h2]
theorem Al (vs:List Value):(vs.toArray.zip vs.toArray).map (·.2)=vs.toArray:=by
  refine Array.ext (by simp) fun i h1 h2=>?_
  simp
theorem yz {a:Addr} {vs:List Value} {n:Nat} {P:PySem.Fin->Shared->Prop} {lt:Nat->Nat->Bool} (O:jt lt) (ho:s.heap.get? a=some (seqObj "list" vs.toArray n)) (h64:vs.length < 64)
    (hk:∀ h6:Heap,(∀ b o,b≠a->s.heap.get? b=some o->h6.get? b=some o)->2<=vs.length->vc prog w A vs lt { s with heap:=h6 })
    (fin:∀ p:Array Nat,fE vs.length p->ig lt p vs.length->P (.done (.ret .none)) { s with heap:=sortedHeap s.heap a vs (g5 vs p).toArray }):wpAny (model prog w) A (Builtin.«list.sort» ⟨[.ref a],[]⟩) P E s:=by
  have ha:a < s.heap.objs.size:=Heap.lt_size ho
  have hz:vs.length<=sizeLine:=by rw [sizeLine_eq]; omega
  obtain ⟨e1,ho1⟩:∃ e,(s.heap.update a (Obj.mapSeq fun _=>(#[]:Array Value))).get? a=some (seqObj "list" #[] e):=⟨_,get?_update_seq ho _⟩
  have keep:∀ b o,(s.heap.update a (Obj.mapSeq fun _=>(#[]:Array Value))).get? b=some o->(((s.heap.update a (Obj.mapSeq fun _=>(#[]:Array Value))).push (seqObj "tuple" vs.toArray 0)).push (seqObj "list" #[] 0)).get? b=some o:=fun b o e=>Heap.get?_push_of_some _ (Heap.get?_push_of_some _ e)
  have old:∀ b o,b≠a->s.heap.get? b=some o->(((s.heap.update a (Obj.mapSeq fun _=>(#[]:Array Value))).push (seqObj "tuple" vs.toArray 0)).push (seqObj "list" #[] 0)).get? b=some o:=fun b o hb e=>keep b o (by rw [Heap.get?_update_ne _ _ _ _ hb]; exact e)
  have ho6:=keep _ _ ho1
  rw [list_sort_plain]
  refine wpAny_bind (listItems_at ho rfl (wpAny_bind (listUpdate_at ho rfl (wpAny_bind (seqEpoch_at ho1 rfl (wpAny_bind (wpAny_newTuple (wpAny_bind (wpAny_newList (wpAny_holding ?_) (Nat.zero_le _))) hz)))) (by rw [List.size_toArray]; exact hz) (Nat.zero_le _))))
  show wpAny (model prog w) A _ P E { s with heap:=((s.heap.update a (Obj.mapSeq fun _=>(#[]:Array Value))).push (seqObj "tuple" vs.toArray 0)).push (seqObj "list" #[] 0) }
  dsimp only
  by_cases h2:vs.toArray.size < 2
  · rw [if_pos h2,if_pos h2]
    refine wpAny_bind (wpAny_pure ?_)
    rw [StateT.run_pure]
    refine wpAny_bind (wpAny_pure ?_)
    dsimp only
    have ez:(arrOf (SortSt.mk' general' (vs.toArray.zip vs.toArray) #[] 7 none)).map (·.2)=vs.toArray:=Al vs
    rw [ez]
    refine wpAny_bind (seqEpoch_at ho6 rfl (wpAny_bind (listUpdate_at ho6 rfl ?_ (Nat.zero_le _) (by rw [List.size_toArray]; omega))))
    simp only [bne_self_eq_false,Bool.false_eq_true,if_false]
    have f:=fin (List.toArray (List.range vs.length)) (by unfold fE; simp) (fun i j ij jl=>by
      rw [List.size_toArray] at h2
      have e:i=j:=by omega
      subst e
      exact O.irr _)
    rw [xg] at f
    exact wpAny_pure f
  · rw [if_neg h2,if_neg h2]
    rw [List.size_toArray] at h2
    refine wpAny_bind (wpAny_mono (hk _ old (by omega) _ fun κ ask=>?_) (fun _ _ q=>q) fun _ _ x=>x.elim)
    refine wpAny_bind (wpAny_mono (kat_run (ks:=vs) (Q:=fun st' s'=>∃ p:Array Nat,p.size=vs.length/\arrOf st'=p.map (kas_item (vs.toArray.zip vs.toArray))/\failedOf st'=none/\s'=_/\fE vs.length p/\ig lt p vs.length) rfl (by omega) h64
      (fun p' st' s' a1 a2 a3 a4=>⟨p',a1,a2,a3,a4⟩) (zE ask (zY O (by omega)))) ?_ fun _ _ e=>e)
    rintro ⟨⟨⟩,st'⟩ s' ⟨p,hp,har,hf,rfl,ok,ri⟩
    dsimp only
    rw [kat_snds rfl har]
    refine wpAny_bind (seqEpoch_at ho6 rfl (wpAny_bind (listUpdate_at ho6 rfl ?_ (Nat.zero_le _) (by rw [List.size_toArray,List.length_map,Array.length_toList,hp]; omega))))
    rw [hf]
    simp only [bne_self_eq_false,Bool.false_eq_true,if_false]
    exact wpAny_pure (fin p ok ri)
theorem nU {l:Addr} {vs:List Value} {Q:Value->Shared->Prop} {lt:Nat->Nat->Bool} (O:jt lt) (hl:s.heap.IsList l vs.toArray) (h64:vs.length < 64)
    (hk:∀ h6:Heap,(∀ b o,s.heap.get? b=some o->h6.get? b=some o)->2<=vs.length->vc prog w A.in1.in1 vs lt { s with heap:=h6 })
    (fin:∀ p:Array Nat,fE vs.length p->ig lt p vs.length->Q (.ref (s.heap.objs.size+1)) { s with heap:=sortedAll s.heap vs (g5 vs p).toArray }):wpAny (model prog w) A (call (.builtin "sorted") [.ref l]) Q E s:=by
  have hz:vs.length<=sizeLine:=by rw [sizeLine_eq]; omega
  have hsz:((s.heap.push (seqObj "list" #[] 0)).update s.heap.objs.size (Obj.mapSeq (·++vs.toArray))).objs.size=s.heap.objs.size+1:=by rw [Heap.size_update,size_push']
  have hoL:(((s.heap.push (seqObj "list" #[] 0)).update s.heap.objs.size (Obj.mapSeq (·++vs.toArray))).push (seqObj "list" vs.toArray 0)).get? (s.heap.objs.size+1)=some (seqObj "list" vs.toArray 0):=by rw [<- hsz]; exact Heap.get?_push_size _ rfl
  have keep:∀ b o,s.heap.get? b=some o->(((s.heap.push (seqObj "list" #[] 0)).update s.heap.objs.size (Obj.mapSeq (·++vs.toArray))).push (seqObj "list" vs.toArray 0)).get? b=some o:=fun b o q=>by
    have hlt:b < s.heap.objs.size:=Heap.lt_size q
    refine Heap.get?_push_of_some _ ?_
    rw [Heap.get?_update_ne _ _ _ _ (Nat.ne_of_lt hlt)]
    exact Heap.get?_push_of_some _ q
  refine Calls.call_function_entry kind_sorted plain_sorted entry_sorted (args_sorted1 _) ?_
  unfold Builtin.«sorted»
  refine wpAny_bind (m:=checkCount "sorted" 1 1 _) (wpAny_pure (wpAny_bind (collect_list hl (wpAny_bind (wpAny_newList ?_ hz)) hz)))
  show wpAny _ _ _ _ _ { s with heap:=((s.heap.push (seqObj "list" #[] 0)).update s.heap.objs.size (Obj.mapSeq (·++vs.toArray))).push (seqObj "list" vs.toArray 0) }
  rw [hsz]
  refine wpAny_bind (wpAny_holding (wpAny_call_entry slot_list_sort ⟨_,hoL,rfl⟩ entry_list_sort (yz (s:={ s with heap:=((s.heap.push (seqObj "list" #[] 0)).update s.heap.objs.size (Obj.mapSeq (·++vs.toArray))).push (seqObj "list" vs.toArray 0) }) O hoL h64 (fun h6 old=>hk h6 fun b o q=>old b o (Nat.ne_of_lt (Nat.lt_succ_of_lt (Heap.lt_size q))) (keep b o q)) fun p ok ri=>⟨_,rfl,?_⟩) (args_list_sort _)))
  exact wpAny_pure ⟨_,rfl,fin p ok ri⟩
noncomputable def tp (p q:Pair):Bool:=decide (p.1 < q.1) || (decide (p.1=q.1)&&decide (p.2 < q.2))
def gI (p q:Pair):Prop:=p.1 < q.1\/(p.1=q.1/\p.2<=q.2)
theorem nP {p q:Pair}:tp q p=false↔gI p q:=by
  unfold tp gI
  simp only [Bool.or_eq_false_iff,Bool.and_eq_false_iff,decide_eq_false_iff_not]
  omega
theorem Ak {p q:Pair}:tp p q=true↔¬ gI q p:=by
  rw [<- nP]
  simp
theorem DN (ps:List Pair):jt fun i j=>tp (ps.getD i (0,0)) (ps.getD j (0,0)) where
  asym a b h:=by
    rw [Ak] at h
    rw [nP]
    unfold gI at h |-
    omega
  ntr a b c h1 h2:=by
    rw [nP] at h1 h2 |-
    unfold gI at h1 h2 |-
    omega
def jG (h:Heap) (vs:List Value) (ps:List Pair):Prop:=Paired (fun (v:Value) (p:Pair)=>∃ a t u,v = .ref a/\IsTup h a #[.int p.1 t,.int p.2 u]) vs ps
theorem jG.get {h:Heap}:∀ {vs:List Value} {ps:List Pair},jG h vs ps->∀ {i:Nat},i < vs.length->∃ a t u,vs.getD i Value.none = .ref a/\IsTup h a #[.int (ps.getD i (0,0)).1 t,.int (ps.getD i (0,0)).2 u]
  | _,_,.nil,i,e=>absurd e (by simp)
  | _,_,.cons r t,0,e=>r
  | _,_,.cons r t,i+1,e=>by
    have:=jG.get t (i:=i) (by simpa using e)
    simpa using this
theorem jG.tups {h:Heap}:∀ {vs:List Value} {ps:List Pair},jG h vs ps->∃ fs:List Value,KatTups h vs fs/\fs.length=vs.length/\∀ v∈fs,∃ i t,v = .int i t
  | _,_,.nil=>⟨[],.nil,rfl,fun v hv=>by cases hv⟩
  | _,_,.cons (b:=p) r t=>by
    obtain ⟨fs,k,l,al⟩:=jG.tups t
    obtain ⟨a,t',u,rfl,o,ho,hc,n,hd⟩:=r
    refine ⟨.int p.1 t'::fs,.cons ho hc hd rfl k,by simp [l],fun v hv=>?_⟩
    rcases List.mem_cons.mp hv with rfl | hv
    · exact ⟨_,_,rfl⟩
    · exact al v hv
theorem CZ {vs:List Value} {ps:List Pair} {s1:Shared} (r:jG s1.heap vs ps) (h2:2<=vs.length):vc prog w A vs (fun i j=>tp (ps.getD i (0,0)) (ps.getD j (0,0))) s1:=by
  intro Q q
  obtain ⟨fs,k,l,al⟩:=r.tups
  refine kat_kind (T:=.type "int") k (by omega) (fun v hv=>?_) (by decide) (q _ fun i j C hi hj hc=>?_)
  · obtain ⟨i,t,rfl⟩:=al v hv
    exact Looks.of_pure rfl
  · obtain ⟨a,t,u,e1,o1,g1,c1,n1,d1⟩:=r.get hi
    obtain ⟨b,t',u',e2,o2,g2,c2,n2,d2⟩:=r.get hj
    unfold kas_ask
    rw [e1,e2]
    have hc:C (tp (ps.getD i (0,0)) (ps.getD j (0,0))) s1:=hc
    generalize ps.getD i (0,0)=p at hc d1
    generalize ps.getD j (0,0)=q' at hc d2
    obtain ⟨x1,y1⟩:=p
    obtain ⟨x2,y2⟩:=q'
    unfold tp at hc
    dsimp only at hc d1 d2
    refine kat_lt g1 d1 g2 d2 (kat_cons (wpAny_eqBool_int ?_))
    by_cases ex:x1=x2
    · subst ex
      rw [show (x1 == x1)=true from by simp]
      refine kat_yes (kat_cons (wpAny_eqBool_int ?_))
      by_cases ey:y1=y2
      · subst ey
        rw [show (y1 == y1)=true from by simp]
        refine kat_yes (kat_nil ?_)
        have e:(decide (x1 < x1) || decide (x1=x1)&&decide (y1 < y1))=false:=by simp
        rw [e] at hc
        exact hc
      · rw [show (y1 == y2)=false from by simpa using ey]
        refine kat_no (kat_one _ _ (wpAny_lt_int ?_))
        have e:(decide (x1 < x1) || decide (x1=x1)&&decide (y1 < y2))=decide (y1 < y2):=by simp
        rw [e] at hc
        exact hc
    · rw [show (x1 == x2)=false from by simpa using ex]
      refine kat_no (oneLt_int ?_)
      have e:(decide (x1 < x2) || decide (x1=x2)&&decide (y1 < y2))=decide (x1 < x2):=by simp [ex]
      rw [e] at hc
      exact hc
end
section
variable {X:Cx}
theorem yc {pins:List (Addr × Obj)} {σ:St} {H:Hp} {s:Shared} (I:Inv X pins σ H s):∀ {us:List V} {ps:List Pair} {vs:List Value},cL H us ps->Vals us vs->jG s.heap vs ps
  | _,_,_,.nil,.nil=>.nil
  | _,_,_,.cons r t,.cons rv tv=>by
    obtain ⟨a,rfl,ha⟩:=r
    cases rv
    obtain ⟨its,r',tu,_⟩:=I.tuple (eE.of ha)
    refine .cons ⟨a,?_⟩ (yc I t tv)
    cases r' with
    | cons x1 r2 =>
      cases r2 with
      | cons x2 r3 =>
        cases r3
        obtain ⟨t1,rfl⟩:=x1
        obtain ⟨t2,rfl⟩:=x2
        exact ⟨t1,t2,rfl,tu⟩
theorem jG.mono {h h':Heap} (k:∀ b o,h.get? b=some o->h'.get? b=some o):∀ {vs:List Value} {ps:List Pair},jG h vs ps->jG h' vs ps
  | _,_,.nil=>.nil
  | _,_,.cons r t=>by
    obtain ⟨a,t1,t2,e,o,ho,hc,n,hd⟩:=r
    exact .cons ⟨a,t1,t2,e,o,k _ _ ho,hc,n,hd⟩ (jG.mono k t)
theorem gG {α β:Type} {R:α->β->Prop} {as:List α} {bs:List β} (h:Paired R as bs) (da:α) (db:β):∀ is:List Nat,(∀ i∈is,i < as.length)->Paired R (is.map fun i=>as.getD i da) (is.map fun i=>bs.getD i db)
  | [],_=>.nil
  | i::is,hi=>by
    refine .cons ?_ (gG h da db is fun j hj=>hi j (List.mem_cons_of_mem _ hj))
    have hl:=hi i (List.mem_cons_self ..)
    have go:∀ {as:List α} {bs:List β},Paired R as bs->∀ i,i < as.length->R (as.getD i da) (bs.getD i db):=by
      intro as bs h
      induction h with
      | nil=>intro i hi; simp at hi
      | cons r t ih =>
        intro i hi
        cases i with
        | zero=>simpa using r
        | succ i=>simpa using ih i (by simpa using hi)
    exact go h i hl
theorem jS {α:Type} (d:α) (l:List α) {is:List Nat} (h:is.Perm (List.range l.length)):(is.map fun i=>l.getD i d).Perm l:=by
  refine (h.map _).trans ?_
  have e:(List.range l.length).map (fun i=>l.getD i d)=l:=List.ext_getElem (by simp) fun i h1 h2=>by simp [h2]
  rw [e]
theorem se:dY X (.builtin "sorted") (fun xs H Q=>∃ (p:Addr) (ps:List Pair),xs=[.ref p]/\gf H p ps/\ps.length < 64/\∀ (q:Addr) (qs:List Pair) (H':Hp),af H H'->H q=none->gf H' q qs->qs.Perm ps->qs.Pairwise gI->Q (.ref q) H'):=by
  intro pins s σ H xs us Q I r h
  obtain ⟨p,ps,rfl,⟨ws,hl,pr⟩,h64,q⟩:=h
  obtain ⟨u,rfl,ru⟩:=vals1 r
  cases ru
  obtain ⟨its,r',pl,hz⟩:=I.list (aq.of hl)
  have lw:=pr.length
  have li:ws.length=its.length:=r'.length
  have pv:=yc I pr r'
  refine nU (DN ps) pl.isList (by omega) (fun h6 old h2=>CZ (s1:={ s with heap:=h6 }) (pv.mono old) h2) fun g ok ri=>?_
  obtain ⟨e,he⟩:=sortedAll_at s.heap its (g5 its g).toArray
  have hb:∀ i∈g.toList,i < its.length:=fun i hi=>List.mem_range.mp (ok.mem_iff.mp hi)
  have lg:g.toList.length=its.length:=by rw [ok.length_eq,List.length_range]
  have hz2:(g.toList.map fun i=>ws.getD i V.non).length<=sizeLine:=by rw [List.length_map,lg]; exact sz (by omega)
  have vs2:Vals (g.toList.map fun i=>ws.getD i V.non) (g5 its g):=gG r' V.non Value.none g.toList (fun i hi=>by rw [li]; exact hb i hi)
  have pr2:cL H (g.toList.map fun i=>ws.getD i V.non) (g.toList.map fun i=>ps.getD i (0,0)):=gG pr V.non (0,0) g.toList (fun i hi=>by rw [li]; exact hb i hi)
  have fr:H (s.heap.objs.size+1)=none:=I.hok.fresh (Nat.le_succ _)
  refine ⟨.ref _,_,I.laid (t':=s.toks) (o:=.lst (g.toList.map fun i=>ws.getD i V.non)) (fun b u e=>sortedAll_old e) (Nat.le_succ _) ⟨hz2,g5 its g,e,vs2,by simpa [seqObj] using he⟩,rfl,?_⟩
  refine q _ _ _ (af.new (af.refl H) fr _) fr ⟨_,ae,pr2.updN fr _⟩ (jS (0,0) ps (by rw [<- lw,li]; exact ok)) ?_
  rw [List.pairwise_map]
  have gs:g.size=its.length:=by rw [<- lg]; simp
  refine List.pairwise_iff_getElem.mpr fun i j hi hj hij=>?_
  have:=ri i j (by omega) (by rw [<- gs]; simpa using hj)
  rw [nP] at this
  unfold gA at this
  simpa [show i < g.size by simpa using hi,show j < g.size by simpa using hj] using this
end
end L2
set_option Elab.async false
set_option linter.all false
set_option maxRecDepth 100000
set_option maxHeartbeats 4000000
namespace L2
open PySem PySem.Spec PyProof.Rows PySem.W
section
variable {prog:Program} {w:World} {A:Around} {E:Value->Shared->Prop} {s:Shared} {R:Result->Shared->Prop} {d:Value} {it:Addr} {fp wr:List Addr} {n:Nat} {P:Nat->Value->Prop} {St:Nat->Heap->Prop}
noncomputable abbrev xm (d:Value):List (Str × Value):=[(Str.ofString "default",d)]
theorem mG:(toString "max"++toString ".loop" : String) = "max.loop":=by decide
theorem vY (W:Walks prog w A.in1 it fp wr n P St) (bt:Nat->Nat->Bool) (cmp:CmpOf prog w A.in1 .Gt P bt) (B:Addr) (nB:B∉fp):∀ (k j:Nat) (s:Shared) (x:Value) (c:Nat),n - (j+1)=k->j+1<=n->St (j+1) s.heap->P (argBest bt j) x ->
    s.heap.get? B=some { cls:=.type "list",dict:=none,data:=.seq #[x,x] c,slots:=#[] } ->
    (∀ v h' tk,P (argBest bt (n - 1)) v->(∀ b o,b∉wr->b≠B->s.heap.get? b=some o->h'.get? b=some o)->R (.ok (.ret v)) { s with heap:=h',toks:=tk }) ->
    codeAny (model prog w) A (.builtin "max.loop" ⟨[.ref it,.none,.ref B],xm d⟩) R s
  | 0,j,s,x,c,hk,hj,st,px,hB,q=>by
    have nW:B∉wr:=fun z=>nB (W.sub _ z)
    have en:j+1=n:=by omega
    refine codeAny_builtin F.entry_max_loop ?_
    rw [Around.under_plainId F.plain_max_loop _]
    show wpAny _ A.in1 (seqItems? (.ref B) >>= _) _ _ s
    refine wpAny_bind (wpAny_seqItems hB rfl ?_)
    show wpAny _ A.in1 (tryCatch (pyNext (.ref it)) _ >>= _) _ _ s
    refine wpAny_bind (wpAny_tryCatch (W.done s _ _ (en▸st) fun h' tk kp=>?_))
    show wpAny _ A.in1 (updateSeq B (fun _=>#[]) >>= _) _ _ _
    refine wpAny_bind (wpAny_updateSeq (kp B _ nW hB) rfl (wpAny_bind (wpAny_letGo (wpAny_pure ?_))))
    exact q x _ tk (by rw [<- en]; exact px) fun b o b1 b2 e=>(Heap.get?_update_other _ _ (Ne.symm b2)).trans (kp b o b1 e)
  | k+1,j,s,x,c,hk,hj,st,px,hB,q=>by
    have nW:B∉wr:=fun z=>nB (W.sub _ z)
    have lt:j+1 < n:=by omega
    refine codeAny_builtin F.entry_max_loop ?_
    rw [Around.under_plainId F.plain_max_loop _]
    show wpAny _ A.in1 (seqItems? (.ref B) >>= _) _ _ s
    refine wpAny_bind (wpAny_seqItems hB rfl ?_)
    show wpAny _ A.in1 (tryCatch (pyNext (.ref it)) _ >>= _) _ _ s
    refine wpAny_bind (wpAny_tryCatch (W.item (j+1) s _ _ lt st fun v h' tk pv st' kp=>?_))
    have hB':=kp B _ nW hB
    show wpAny _ A.in1 (tryCatch (holding [v,v] (richCompare .Gt v x >>= _)) _ >>= _) _ _ _
    refine wpAny_bind (wpAny_tryCatch (wpAny_holding (wpAny_bind (cmp (j+1) (argBest bt j) v x _ _ _ pv px (wpAny_bind (wpAny_holding (wpAny_truthy_bool (wpAny_bind (wpAny_letGo (wpAny_pure ?_))))))))))
    by_cases hb:bt (j+1) (argBest bt j)=true
    · rw [hb]
      simp only [if_true]
      refine wpAny_bind (wpAny_updateSeq hB' rfl (wpAny_bind (wpAny_letGo ?_)))
      rw [mG]
      refine wpAny_pure ⟨plainId_quiet F.plain_max_loop _,vY W bt cmp B nB k (j+1) _ v _ (by omega) lt (W.frame _ _ _ st' fun b bf o e=>?_) (by unfold argBest; rw [if_pos hb]; exact pv) (Heap.get?_update_self _ hB' rfl) fun v' h2 tk2 pv' kp2=>?_⟩
      · exact (Heap.get?_update_other _ _ (fun z:B=b=>nB (by rw [z]; exact bf))).trans e
      · exact q v' h2 tk2 pv' fun b o b1 b2 e=>kp2 b o b1 b2 ((Heap.get?_update_other _ _ (Ne.symm b2)).trans (kp b o b1 e))
    · rw [show bt (j+1) (argBest bt j)=false by simpa using hb]
      simp only [Bool.false_eq_true,if_false]
      refine wpAny_bind (wpAny_letGo ?_)
      rw [mG]
      refine wpAny_pure ⟨plainId_quiet F.plain_max_loop _,vY W bt cmp B nB k (j+1) _ x c (by omega) lt st' (by unfold argBest; rw [if_neg hb]; exact px) hB' fun v' h2 tk2 pv' kp2=>?_⟩
      exact q v' h2 tk2 pv' fun b o b1 b2 e=>kp2 b o b1 b2 (kp b o b1 e)
theorem xX (a d:Value):argsOk "max" ⟨[a],xm d⟩:=by unfold argsOk; kernel_rfl
theorem yN {l:Addr} {xs:Array (Int × Tok)} {Q:Value->Shared->Prop} (hh:A.handled=none) (hl:s.heap.IsList l (intItems xs))
    (h0:xs.size=0->∀ h' tk,(∀ b o,s.heap.get? b=some o->h'.get? b=some o)->Q d { s with heap:=h',toks:=tk })
    (h1:0 < xs.size->∀ v h' tk,(intItems xs)[argBest (fun i j=>decide (numAt xs i > numAt xs j)) (xs.size - 1)]? = some v->(∀ b o,s.heap.get? b=some o->h'.get? b=some o)->Q v { s with heap:=h',toks:=tk }) :
    wpAny (model prog w) A (call (.builtin "max") [.ref l] (xm d)) Q E s:=by
  refine kmb_tree F.kind_max F.plain_max F.entry_max (xX _ _) ?_
  show wpAny _ A.in1 (Builtin.Builtins.bindParams "max" ["key","default"] 0 ⟨[],xm d⟩ >>= _) _ _ s
  refine wpAny_bind (wpAny_of_eq (show Builtin.Builtins.bindParams "max" ["key","default"] 0 ⟨[],xm d⟩=pure [none,some d] from rfl) (wpAny_bind (wpAny_pure (wpAny_bind (iter_intList hl fun s2 e st hfp hlI=>?_)))))
  subst e
  have W:=Walks.list (prog:=prog) (w:=w) (A:=A.in1) hh s.heap.objs.size l hlI (intItems xs)
  have nf:(s.heap.push { cls:=.type "list_iterator",data:=.fields #[.ref l,.int 0 0] }).objs.size∉[s.heap.objs.size,l]:=fun z=>Nat.lt_irrefl _ (hfp _ z)
  refine wpAny_bind (wpAny_newObj_type ?_)
  rw [mG]
  refine wpAny_pure ⟨plainId_quiet F.plain_max_loop _,?_⟩
  have st2:=W.frame _ _ _ st fun b _ o e=>Heap.get?_push_of_some { cls:=.type "list",data:=.seq #[] } e
  have hB:((s.heap.push { cls:=.type "list_iterator",data:=.fields #[.ref l,.int 0 0] }).push { cls:=.type "list",data:=.seq #[] }).get? (s.heap.push { cls:=.type "list_iterator",data:=.fields #[.ref l,.int 0 0] }).objs.size=some { cls:=.type "list",dict:=none,data:=.seq #[] 0,slots:=#[] }:=Heap.get?_push_size _ rfl
  have nW:(s.heap.push { cls:=.type "list_iterator",data:=.fields #[.ref l,.int 0 0] }).objs.size∉[s.heap.objs.size]:=fun z=>nf (List.mem_cons.mpr (.inl (by simpa using z)))
  have back:∀ h':Heap,(∀ b o,b∉[s.heap.objs.size]->b≠(s.heap.push { cls:=.type "list_iterator",data:=.fields #[.ref l,.int 0 0] }).objs.size->((s.heap.push { cls:=.type "list_iterator",data:=.fields #[.ref l,.int 0 0] }).push { cls:=.type "list",data:=.seq #[] }).get? b=some o->h'.get? b=some o)->∀ b o,s.heap.get? b=some o->h'.get? b=some o:=fun h' kp b o e=>by
    have lb:=Heap.lt_size e
    refine kp b o (fun z=>Nat.lt_irrefl _ ((List.mem_singleton.mp z)▸lb)) (fun z=>?_) (Heap.get?_push_of_some _ (Heap.get?_push_of_some _ e))
    have sp:(s.heap.push { cls:=.type "list_iterator",data:=.fields #[.ref l,.int 0 0] }).objs.size=s.heap.objs.size+1:=Heap.size_push ..
    exact Nat.lt_irrefl _ (Nat.lt_of_lt_of_le (Nat.lt_of_le_of_lt (Nat.le_of_eq z.symm) lb) (Nat.le_of_lt (Nat.lt_of_lt_of_eq (Nat.lt_succ_self _) sp.symm)))
  refine codeAny_builtin F.entry_max_loop ?_
  rw [Around.under_plainId F.plain_max_loop _]
  show wpAny _ A.in1 (seqItems? (.ref _) >>= _) _ _ _
  refine wpAny_bind (wpAny_seqItems hB rfl ?_)
  show wpAny _ A.in1 (tryCatch (pyNext (.ref s.heap.objs.size)) _ >>= _) _ _ _
  by_cases z:xs.size=0
  · have e0:(intItems xs).size=0:=by simpa [intItems] using z
    refine wpAny_bind (wpAny_tryCatch (W.done _ _ _ (e0▸st2) fun h' tk kp=>?_))
    show wpAny _ A.in1 (rule _ >>= _) _ _ _
    refine wpAny_bind (wpAny_rule (wpAny_pure ?_))
    exact h0 z h' tk (back h' fun b o b1 _ e=>kp b o b1 e)
  · have n0:0 < (intItems xs).size:=by
      have:0 < xs.size:=by omega
      simpa [intItems] using this
    refine wpAny_bind (wpAny_tryCatch (W.item 0 _ _ _ n0 st2 fun v h' tk pv st' kp=>?_))
    have hB':=kp _ _ nW hB
    show wpAny _ A.in1 (updateSeq _ (fun _=>#[v,v]) >>= _) _ _ _
    refine wpAny_bind (wpAny_updateSeq hB' rfl ?_)
    rw [mG]
    refine wpAny_pure ⟨plainId_quiet F.plain_max_loop _,vY W _ (CmpOf.ints_gt (numAt xs) (fun _ _=>intItems_at)) _ nf _ 0 _ v _ rfl n0 (W.frame _ _ _ st' fun b bf o e=>?_) pv (Heap.get?_update_self _ hB' rfl) fun v' h2 tk2 pv' kp2=>?_⟩
    · exact (Heap.get?_update_other _ _ (fun z:_=b=>nf (by rw [z]; exact bf))).trans e
    · refine h1 (by omega) v' h2 tk2 (by simpa [intItems] using pv') (back h2 fun b o b1 b2 e=>kp2 b o b1 b2 ((Heap.get?_update_other _ _ (Ne.symm b2)).trans (kp b o b1 e)))
end
section
variable {X:Cx} {e:Expr} {es:List Expr} {kws:List Keyword} {p pos:Pos} {t tk:TA} {x:Str} {id:String} {ks:List Str} {r:List V->List V->Hp->VK->Prop}
def yh (X:Cx) (f:Value) (ks:List Str) (r:List V->List V->Hp->VK->Prop):Prop :=
  ∀ (pins:List (Addr × Obj)) (s:Shared) (σ:St) (H:Hp) (xs zs:List V) (us ws:List Value) (Q:VK),Inv X pins σ H s->Vals xs us->Vals zs ws->r xs zs H Q->wpAny (model X.prog X.w) X.A (call f us (ks.zip ws)) (EP X pins σ Q) X.xe s
noncomputable def DR (r:List V->List V->Hp->VK->Prop) (t tk:TA):TE:=fun σ H Q=>t σ H fun vs H1=>tk σ H1 fun zs H2=>r vs zs H2 Q
theorem xP (hc:yh X (.builtin id) ks r) (hg:Gl X x) (hm:X.mg x=none) (hv:bootBuiltins x=some (.builtin id)) (ha:PA X (e::es) t) (hkw:PK X kws tk) (hn:x≠"__name__":=by decide) (hdb:(x == ("__debug__" : Str))=false:=by decide)
    (hs:backTo pos (starEach (e::es) X.env)=(false,eval e X.env)::backTo pos (starEach es X.env):=by rfl) (hpl:(backTo pos (starEach (e::es) X.env)).any (·.1)=false:=by rfl)
    (hal:(backToKw pos (keywordEach kws X.env)).all (·.1.isSome)=true:=by rfl) (hkn:(backToKw pos (keywordEach kws X.env)).any (·.1.isNone)=false:=by rfl)
    (hks:(backToKw pos (keywordEach kws X.env)).filterMap (·.1)=ks:=by rfl):PE X (.Call (.Name x p) (e::es) kws pos) (DR r t tk):=by
  intro pins s σ H Q I h
  refine wpAny_Call_Name_kw (gB I hg hm hv (callWith_kw (env:=X.env) (aF (ha pos pins s σ H _ I h) fun us s1 ⟨vs,H1,I1,r1,q⟩=>aF (hkw pos pins s1 σ H1 _ I1 q) fun ws s2 ⟨zs,H2,I2,r2,q2⟩=>?_) hs hpl hal hkn) hn hdb)
  rw [hks]
  exact hc pins s2 σ H2 vs zs us ws Q I2 r1 r2 q2
theorem yg (hc:X.calm=true):yh X (.builtin "max") [Str.ofString "default"] (fun xs zs H Q=>∃ (a:Addr) (ns:List Int) (u:V),xs=[.ref a]/\zs=[u]/\aq X.K H a (ns.map V.int)/\(ns=[]->Q u H)/\(ns≠[]->∀ M,M∈ns->(∀ y∈ns,y<=M)->Q (.int M) H)):=by
  intro pins s σ H xs zs us ws Q I r rz h
  obtain ⟨a,ns,u,rfl,rfl,hl,q0,qn⟩:=h
  obtain ⟨u1,rfl,ru⟩:=vals1 r
  obtain ⟨u2,rfl,ru2⟩:=vals1 rz
  cases ru
  obtain ⟨its,r',pl,hz⟩:=I.list hl
  have hi:IntsAre its ns:=intsAre_of r'
  obtain ⟨ys,e⟩:=hi.allInts.items
  have hns:ns=ys.toList.map (·.1):=by rw [<- hi.numsOf,<- nums_intItems,<- e]
  have ln:ns.length=ys.size:=by rw [hns,List.length_map,Array.length_toList]
  refine yN (d:=u2) (I.ok.hd hc) (e▸pl.isList:s.heap.IsList a (intItems ys)) (fun z h' tk hk=>?_) (fun z v h' tk hv hk=>?_)
  · exact ⟨u,H,I.kept hk,ru2,q0 (List.length_eq_zero_iff.mp (by omega))⟩
  · obtain ⟨t,rfl⟩:=intItems_at hv
    obtain ⟨a1,a2⟩:=argBest_gt (numAt ys) (ys.size - 1)
    refine ⟨.int _,H,I.kept hk,⟨t,rfl⟩,qn (fun z'=>by rw [z'] at ln; simp at ln; omega) _ ?_ fun y hy=>?_⟩
    · rw [hns,numAt_eq]; exact getD_mem (by rw [List.length_map,Array.length_toList]; omega)
    · rw [hns] at hy
      obtain ⟨j,hj,rfl⟩:=mem_getD hy
      rw [List.length_map,Array.length_toList] at hj
      rw [<- numAt_eq]; exact a2 j (by omega)
end
end L2
set_option Elab.async false
set_option linter.all false
set_option maxRecDepth 100000
set_option maxHeartbeats 4000000
namespace L2
open PySem PySem.Spec PyProof.Rows
section
variable {X:Cx}
end
theorem EqD.two {K:PySem.W.Frag} {H:Hp} {n:Nat} {a b:Addr} {x1 y1 x2 y2:Int} (ne:a≠b) (ha:H a=some (.tup [.int x1,.int y1])) (hb:H b=some (.tup [.int x2,.int y2])):EqD K H (n+1) (.ref a) (.ref b) (decide (x1=x2)&&decide (y1=y2)):=by
  have h:=EqD.tup (n:=n) (e:=fun j=>if j=0 then decide (x1=x2) else decide (y1=y2)) ne (eE.of (K:=K) ha) (eE.of (K:=K) hb) (fun j x y ex ey=>by
    match j,ex,ey with
    | 0,ex,ey =>
      have e1:V.int x1=x:=by simpa using ex
      have e2:V.int x2=y:=by simpa using ey
      rw [<- e1,<- e2,if_pos rfl]
      have z:=EqD.flat (K:=K) (H:=H) (n:=n) (x:=V.int x1) (y:=V.int x2) rfl rfl
      exact z
    | 1,ex,ey =>
      have e1:V.int y1=x:=by simpa using ex
      have e2:V.int y2=y:=by simpa using ey
      rw [<- e1,<- e2,if_neg (by decide)]
      have z:=EqD.flat (K:=K) (H:=H) (n:=n) (x:=V.int y1) (y:=V.int y2) rfl rfl
      exact z
    | j+2,ex,ey=>simp at ex)
  have e:((List.range (min [V.int x1,V.int y1].length [V.int x2,V.int y2].length)).all (fun j=>if j=0 then decide (x1=x2) else decide (y1=y2))&&decide ([V.int x1,V.int y1].length=[V.int x2,V.int y2].length))=(decide (x1=x2)&&decide (y1=y2)):=by
    simp [List.range_succ]
  first
    | (rw [e] at h; exact h)
    | (simp [List.range_succ] at h; exact h)
end L2
namespace Ck
open PySem L2
def Cut (n:Nat) (p:Pair):Prop:=0<=p.1/\p.1+1 < p.2/\p.2<=(n:Int)+1/\¬ (p.1=0/\p.2=(n:Int)+1)
structure DC (n:Nat) (ps:List Pair):Prop where
  cut:∀ p∈ps,Cut n p
  ris:ps.Pairwise gI
  len:ps.length<=n
noncomputable def Dt (i j:Nat):List Pair:=(if i=0 then [] else [(0,(i:Int)+1)])++(if j=0 then [] else [((i:Int)+1,(i:Int)+(j:Int)+2)])
noncomputable def Dh (i j:Nat) (ps qs:List Pair):List Pair:=ps++Dt i j++qs.map (up ((i:Int)+1))
section
variable {i j:Nat} {ps qs:List Pair} (hp:DC i ps) (hq:DC j qs)
include hp hq
variable {cs:List Pair} (hc:cs.Perm (Dh i j ps qs)) (hs:cs.Pairwise gI)
include hc hs
end
theorem Ej {a b:Int} (h:a≠b):¬ V.int a=V.int b:=fun z=>h (by injection z)
end Ck
set_option Elab.async false
set_option linter.all false
set_option maxRecDepth 100000
set_option maxHeartbeats 4000000
namespace Ck
open PySem L2
end Ck
set_option Elab.async false
set_option linter.all false
set_option maxRecDepth 100000
set_option maxHeartbeats 4000000
namespace Ck
open PySem L2
end Ck
namespace Ck
open PySem L2
noncomputable def steps (ws:List Int):List Int:=(List.range (ws.length - 1)).map fun (i:Nat)=>(ws.getD (i+1) 0 - ws.getD i 0) % ((ws.length:Int)+1)
end Ck
set_option Elab.async false
set_option linter.all false
set_option maxRecDepth 100000
set_option maxHeartbeats 4000000
namespace L2
open PySem PySem.W
end L2
namespace Ck
open PySem L2
theorem ne_int {a b:Int} (h:a≠b):¬ V.int a=V.int b:=fun z=>h (by injection z)
end Ck
namespace Ck
end Ck
set_option Elab.async false
set_option linter.all false
set_option maxRecDepth 100000
set_option maxHeartbeats 4000000
namespace Ck
open PySem L2
noncomputable def inR (es:List Int):Bool:=es.all fun e=>decide (0<=e)&&decide (e<=(es.length:Int))
end Ck
namespace Ck
open PySem L2
theorem oK (a b:Int):decide (V.int a=V.int b)=decide (a=b):=by
  by_cases h:a=b
  · rw [decide_eq_true h,decide_eq_true (by rw [h])]
  · rw [decide_eq_false h,decide_eq_false (ne_int h)]
end Ck
namespace Ck
end Ck
namespace Ck
open PySem L2
end Ck
set_option Elab.async false
set_option linter.all false
set_option maxRecDepth 100000
set_option maxHeartbeats 4000000
namespace L2
open PySem PySem.Spec PyProof.Rows
theorem sP:∀ {xs:List V} {us:List Value},us.length=xs.length->(∀ (j:Nat) v,us[j]? = some v->∃ x,xs[j]? = some x/\RelV x v)->Vals xs us
  | [],us,hl,_=>by
    have:us=[]:=List.eq_nil_of_length_eq_zero hl
    subst this
    exact .nil
  | x::xs,[],hl,_=>by simp at hl
  | x::xs,u::us,hl,k=>by
    obtain ⟨y,e1,r⟩:=k 0 u rfl
    have:x=y:=by simpa using e1
    subst this
    exact .cons r (sP (by simpa using hl) fun j w e=>by
      obtain ⟨y,f1,f2⟩:=k (j+1) w (by simpa using e)
      exact ⟨y,by simpa using f1,f2⟩)
noncomputable def gM (i:Int) (n:Nat):List V:=((List.range n).map fun (k:Nat)=>i+(k:Int)).map V.int
section
variable {X:Cx}
theorem list_range {pins:List (Addr × Obj)} {σ:St} {H:Hp} {s:Shared} {Q:VK} {lo hi:Int} {t u v:Tok} {tk:Nat} (hc:X.calm=true) (I:Inv X pins σ H s) (h1 : -(2 ^ 62)<=lo) (h2:lo < 2 ^ 62) (h3 : -(2 ^ 62)<=hi) (h4:hi < 2 ^ 62) (hz:(hi - lo).toNat<=1000000)
    (q:∀ l,H l=none->Q (.ref l) (upd H l (.lst (gM lo (hi - lo).toNat)))):wpAny (model X.prog X.w) X.A (call (.type "list") [.ref s.heap.objs.size]) (EP X pins σ Q) X.xe { s with heap:=s.heap.push { cls:=.type "range",data:=.fields #[.int lo t,.int hi u,.int 1 v] },toks:=tk }:=by
  have I1:Inv X pins σ H { s with heap:=s.heap.push { cls:=.type "range",data:=.fields #[.int lo t,.int hi u,.int 1 v] },toks:=tk }:=I.kept fun b o e=>Heap.get?_push_of_some _ e
  refine call_list_range (n:=(hi - lo).toNat) (I.ok.hd hc) (IsRange.new ..) (small_one h1 h2 h3 h4) (by rw [rangeSize_one]; split<;>omega) (by omega) fun h' tk' acc' c' hk he hacc=>?_
  have hl:acc'.toList.length=(gM lo (hi - lo).toNat).length:=by unfold gM; simpa using hacc.1
  refine ⟨.ref _,_,I1.laid (t':=tk') (o:=.lst (gM lo (hi - lo).toNat)) hk (Nat.le_refl _) ⟨?_,acc'.toList,c',sP hl fun j w e=>?_,he⟩,rfl,q _ (I1.hok.fresh (Nat.le_refl _))⟩
  · unfold gM
    rw [List.length_map,List.length_map,List.length_range]
    exact sz (by omega)
  · obtain ⟨t',e2⟩:=hacc.2 j w (by simpa using e)
    have hj:j < (hi - lo).toNat:=by
      have:=(List.getElem?_eq_some_iff.mp e).1
      rw [hl] at this
      unfold gM at this
      simpa using this
    refine ⟨.int (lo+(j:Int)),?_,t',by rw [e2,Int.mul_one]⟩
    unfold gM
    rw [List.getElem?_map,List.getElem?_map,List.getElem?_range hj]
    rfl
noncomputable def D3 (ta:TA):TE:=fun σ H Q=>ta σ H fun vs H1=>∃ j:Int,vs=[.int j]/\-(2 ^ 62)<=j/\j < 2 ^ 62/\j.toNat<=1000000/\∀ l,H1 l=none->Q (.ref l) (upd H1 l (.lst (gM 0 j.toNat)))
theorem Cs {a:Expr} {ta:TA} {p p2 pos pos2:Pos} (hc:X.calm=true) (hgl:Gl X "list") (hml:X.mg "list" = none) (hg:Gl X "range") (hm:X.mg "range" = none) (ha:PA X [a] ta) (hs:starEach [a] X.env=[(false,eval a X.env)]:=by rfl)
    (he:starEach [.Call (.Name "range" p) [a] [] pos] X.env=[(false,eval (.Call (.Name "range" p) [a] [] pos) X.env)]:=by rfl) :
    PE X (.Call (.Name "list" p2) [.Call (.Name "range" p) [a] [] pos] [] pos2) (D3 ta):=by
  intro pins s σ H Q I h
  refine wpAny_Call_Name_kw (gB I hgl hml i0 ?_ (by decide) (by decide))
  refine PyProof.Rows.callWith_type1 ?_ he rfl
  rw [he]
  show wpAny _ _ (spliced ((false,eval (.Call (.Name "range" p) [a] [] pos) X.env)::backTo pos2 [])) _ _ s
  refine Calls.spliced_cons (Call_ (gB I hg hm boot_range (PyProof.Rows.callWith_type1 (aF (ha pos pins s σ H _ I h) fun us s1 ⟨vs,H1,I1,r1,q1⟩=>?_) hs rfl)))
  obtain ⟨j,e,b1,b2,b3,q⟩:=q1
  subst e
  cases r1 with
  | cons r rr =>
    cases rr
    obtain ⟨t,rfl⟩:=r
    exact call_range_1 (Calls.spliced_nil (list_range hc I1 (by omega) (by omega) b1 b2 (by simpa using b3) (by simpa using q)))
end
end L2
namespace L2
open PySem PySem.Spec PyProof.Rows
end L2
namespace L2
open PySem PySem.Spec PyProof.Rows
theorem qj {X:Cx} {K:PySem.W.Frag} (hK:X.K=K):dY X (.builtin "len") (fun xs H Q=>∃ a ys,xs=[.ref a]/\(aq K H a ys\/eE K H a ys)/\Q (.int ys.length) H):=by
  subst hK
  exact aJ
end L2
set_option Elab.async false
set_option linter.all false
set_option maxRecDepth 100000
set_option maxHeartbeats 4000000
namespace Ck
open PySem L2
noncomputable def gw (n:Nat):List Int:=(List.range n).map fun (k:Nat)=>(k:Int)
theorem r6 (n:Nat):gw (n+1)=gw n++[(n:Int)]:=by unfold gw; rw [List.range_succ,List.map_append]; rfl
theorem zW (n:Nat):(gw n).length=n:=by unfold gw; simp
theorem xT (n:Nat):(gw n).Pairwise (· < ·):=by
  unfold gw
  rw [List.pairwise_map]
  exact List.pairwise_lt_range.imp fun h=>by omega
noncomputable def dX (ns:List Int):Bool:=ns.isPerm (gw ns.length)
theorem gh (ns:List Int):dX ns=true↔ns.Perm (gw ns.length):=List.isPerm_iff
theorem uc {ns ms:List Int} (hp:ms.Perm ns) (hs:ms.Pairwise (·<=·)):dX ns=decide (ms=gw ns.length):=by
  rw [Bool.eq_iff_iff,gh,decide_eq_true_iff]
  constructor
  · intro h
    exact List.Perm.eq_of_pairwise (le:=(·<=·)) (fun a b _ _ h1 h2=>Int.le_antisymm h1 h2) hs ((xT _).imp Int.le_of_lt) (hp.trans h)
  · intro h
    rw [<- h]
    exact hp.symm
noncomputable def stk (row:List Int) (k p:Nat):List Int:=(gw p).filter fun m=>!decide (m∈row.take k)
end Ck
namespace Ck
open PySem L2
theorem tK:∀ as bs:List Int,mS (as.map V.int) (bs.map V.int)=decide (as=bs)
  | [],[]=>rfl
  | [],b::bs=>rfl
  | a::as,[]=>rfl
  | a::as,b::bs=>by
    rw [List.map_cons,List.map_cons]
    show (mK (.int a) (.int b)&&mS (as.map V.int) (bs.map V.int))=_
    rw [tK as bs]
    have e:mK (.int a) (.int b)=decide (a=b):=by
      show (a == b)=_
      by_cases h:a=b
      · subst h; simp
      · simp [h]
    rw [e]
    by_cases h1:a=b<;>by_cases h2:as=bs<;>simp [h1,h2]
theorem qf (n:Nat):gM 0 n=(gw n).map V.int:=by
  unfold gM gw
  refine congrArg (List.map V.int) (List.map_congr_left fun k _=>?_)
  show (0:Int)+(k:Int)=(k:Int)
  omega
end Ck
set_option Elab.async false
set_option linter.all false
set_option maxRecDepth 100000
set_option maxHeartbeats 4000000
namespace Ck
open PySem L2
noncomputable def El (n:Nat):List Int:=(List.range n).map fun (k:Nat)=>1+(k:Int)
end Ck
namespace Ck
end Ck
namespace Ck
end Ck
set_option Elab.async false
set_option linter.all false
set_option maxRecDepth 100000
set_option maxHeartbeats 4000000
namespace L2
open PySem PySem.Spec PyProof.Rows PySem.SeqAt
section
variable {X:Cx}
theorem y8 {K:PySem.W.Frag} (hK:X.K=K):Bi X (Cj K):=by
  subst hK
  exact uQ
end
end L2
namespace Ck
open PySem L2
end Ck
namespace L2
open PySem
theorem jO {A:Around} {k:Nat} (hr:bF k A):A.units+1 < cLine:=Nat.lt_of_le_of_lt (by omega) hr.un
end L2
namespace Ck
open PySem L2
end Ck
set_option Elab.async false
set_option linter.all false
set_option maxRecDepth 100000
set_option maxHeartbeats 4000000
namespace L2
open PySem PySem.Spec PyProof.Rows
section
variable {X:Cx}
noncomputable def D4 (t1 t2:TE):TE:=fun σ H Q=>t1 σ H Q\/t2 σ H Q
theorem kB {e:Expr} {t1 t2:TE} (h1:PE X e t1) (h2:PE X e t2):PE X e (D4 t1 t2):=fun pins s σ H Q I h=>h.elim (h1 pins s σ H Q I) (h2 pins s σ H Q I)
end
end L2
namespace Ck
open PySem L2
end Ck
namespace L2
open PySem PySem.Spec PyProof.Rows PyProof
end L2
set_option Elab.async false
set_option linter.all false
set_option maxRecDepth 100000
set_option maxHeartbeats 4000000
namespace Ck
open PySem L2
inductive St:List Int->Int->Prop
  | nil:St [] 0
  | snoc {rs:List Int} {a n:Int}:St rs a->a<=n->n<=(rs.length:Int)->St (rs++[n]) n
end Ck
set_option Elab.async false
set_option linter.all false
set_option maxRecDepth 100000
set_option maxHeartbeats 4000000
namespace Ck
open PySem L2
end Ck
namespace Ck
open PySem L2
end Ck
set_option Elab.async false
set_option linter.all false
set_option maxRecDepth 100000
set_option maxHeartbeats 4000000
namespace Ck
open PySem L2
inductive Bt where
  | leaf
  | node (l r:Bt)
noncomputable def Bt.size:Bt->Nat
  | .leaf=>0
  | .node l r=>l.size+r.size+1
noncomputable def brk:Bt->List Nat
  | .leaf=>[]
  | .node l r=>40::(brk l++41::brk r)
noncomputable def pre (n j:Nat):Int:=((List.range j).map fun i=>sh i*sh (n - 1 - i)).sum
end Ck
set_option Elab.async false
set_option linter.all false
set_option maxRecDepth 100000
set_option maxHeartbeats 4000000
namespace L2
open PySem PySem.Spec PyProof.Rows
theorem vL (l b:Addr) (us vs:Array Value) (n m:Nat) (d:Option Addr) (sl:Array (Option Value)) (h0:¬(!us.isEmpty&&Builtin.List.listTooLong (us.size+vs.size))=true) (h1:us.size<=sizeLine) (h2:us.size+vs.size<=sizeLine+1) :
    Meets (Builtin.«list.extend» ⟨[.ref l,.ref b],[]⟩) (fun _ R s=>s.heap.get? l=some { cls:=.type "list",dict:=none,data:=.seq us n,slots:=#[] } /\
      s.heap.get? b=some { cls:=.type "tuple",dict:=d,data:=.seq vs m,slots:=sl } /\
      R (.ok (.ret Value.none)) { s with heap:=s.heap.update l (Obj.mapSeq fun x=>x++vs),toks:=s.toks }) :=
  .of_wp fun prog w A R s h=>by
    obtain ⟨hp,g,dr,tk,os⟩:=s
    obtain ⟨hl,hb,h⟩:=h
    have f2:=AutoSeq1.sub_tuple_tuple
    have f3:=AutoSeq1.sub_list_list
    have f4:=AutoSeq1.sub_tuple_list
    have f5:=AutoSeq1.sub_list_tuple
    have h2':(us++vs).size<=sizeLine+1:=by rw [Array.size_append]; exact h2
    wp_walk using (wpAny_updateSeq hl rfl (hz:=h1) (_hz':=h2')),AutoSeq1.wpAny_loadPart' hl,AutoSeq1.wpAny_loadPart' hb
    exact ⟨_,rfl,h⟩
section
variable {X:Cx}
noncomputable def zA (K:PySem.W.Frag):V->List V->Hp->VK->Prop:=fun x vs H Q=>∃ l b xs zs,x = .ref l/\vs=[.ref b]/\H l=some (.lst xs)/\eE K H b zs/\xs.length+zs.length<=sizeLine/\Q .non (upd H l (.lst (xs++zs)))
theorem An:x9 X "list.extend" (zA X.K):=by
  intro pins s σ H x vs v us Q I rx rv h
  obtain ⟨l,b,xs,zs,rfl,rfl,hH,hB,hz,q⟩:=h
  cases rx
  obtain ⟨u,rfl,ru⟩:=rv.one
  cases ru
  obtain ⟨z,its,n,r,hl,e⟩:=I.lstM hH
  obtain ⟨its2,r2,⟨⟨oc,od,dt,os⟩,e2,c2,m2,d2⟩,z2⟩:=I.tuple hB
  dsimp only at c2 d2
  subst c2 d2
  have l1:=r.length
  have l2:=r2.length
  have hsz:its.toArray.size+its2.toArray.size<=sizeLine:=by rw [List.size_toArray,List.size_toArray]; omega
  have hlong:¬ (!its.toArray.isEmpty&&Builtin.List.listTooLong (its.toArray.size+its2.toArray.size))=true:=by
    rw [tE hsz,Bool.and_false]
    exact Bool.false_ne_true
  refine call_meets F.slot_list_extend ⟨_,e,rfl⟩ F.entry_list_extend (F.args_list_extend_2 _ _) (vL l b its.toArray its2.toArray n m2 od os hlong (by rw [List.size_toArray]; omega) (by omega)) ⟨e,e2,?_⟩
  refine ⟨.non,_,I.lset (its':=its++its2) hH e (by simp) (r.append r2) ?_,rfl,q⟩
  rw [List.length_append]
  omega
variable {X:Cx} {o e:Expr} {es:List Expr} {to:TE} {t:TA} {name:Str} {apos cpos:Pos} {T id:String} {r:V->List V->Hp->VK->Prop}
end
section
variable {X:Cx}
end
theorem uo {lo:Int} {n:Nat} {g:TG} {tt:TT} {te:TE} {σ0:St} {H:Hp} {D:Addr} {Q:VK} (Pv:Nat->List V->Hp->Prop) (hz:n<=sizeLine)
    (h0:Pv 0 [] (upd H D (.lst []))) (hl:∀ i ys H',i<=n->Pv i ys H'->ys.length<=i)
    (hs:∀ (i:Nat) (ys:List V) (H':Hp) (R:VK) (R0:Hp->Prop),i < n->Pv i ys H'->(∀ v H3,H3 D=some (.lst ys)->Pv (i+1) (ys++[v]) (upd H3 D (.lst (ys++[v])))->R v H3)->(∀ H3,Pv (i+1) ys H3->R0 H3) ->
      g (.int (lo+i)) σ0 H' fun σ2 H2=>Ext σ0 σ2/\tt σ2 H2 fun b H3=>if b=true then te σ2 H3 R else R0 H3)
    (hq:∀ ys H',Pv n ys H'->Q (.ref D) H') :
    qR (rL lo n) g tt te σ0 D Q H:=by
  refine ⟨fun i m ys H'=>m=n - i/\i<=n/\Pv i ys H',⟨n,by simp,Nat.zero_le _,h0⟩,?_⟩
  rintro i m ys H' ⟨rfl,hi,p⟩
  have ly:=hl i ys H' hi p
  by_cases hlt:i < n
  · refine .inr ⟨hlt,fun x H'' y=>?_⟩
    obtain ⟨e,y⟩:=y
    subst e y
    refine hs i ys _ _ _ hlt p (fun v H3 hD p'=>⟨hD,by omega,n - (i+1),by omega,rfl,hlt,p'⟩) fun H3 p'=>⟨n - (i+1),by omega,rfl,hlt,p'⟩
  · have e:i=n:=by omega
    subst e
    exact .inl ⟨Nat.le_refl _,hq ys H' p⟩
end L2
namespace Ck
open PySem L2
theorem eqT {b:Bool} {A B:Prop} (h:b=true) (x:A):if (if false=true then !b else b)=true then A else B:=by subst h; exact x
theorem DG {b:Bool} {A B:Prop} (h:b=false) (x:B):if (if false=true then !b else b)=true then A else B:=by subst h; exact x
theorem EqD.void {K:PySem.W.Frag} {H:Hp} {n:Nat} {a b:Addr} {xs:List V} (ne:a≠b) (ha:aq K H a xs) (hb:aq K H b []):EqD K H (n+1) (.ref a) (.ref b) (decide (xs=[])):=by
  cases xs with
  | nil=>exact EqD.lstT ne ha hb rfl (fun j x y hx _=>by cases hx)
  | cons x xs=>exact EqD.lstN ne ha hb (by simp)
noncomputable def Em (ts:List Bt):Nat:=(ts.map Bt.size).sum
end Ck
set_option Elab.async false
set_option linter.all false
set_option maxRecDepth 100000
set_option maxHeartbeats 4000000
namespace Lg
open PySem PyProof.Rows
noncomputable def uI:Bool->Keyed->Array Keyed->Nat->Nat->Nat->StateT SortSt Sem (Option Nat):=sortPriv% PySem.Builtin.gallop
noncomputable def o9 (left:Bool) (key:Keyed) (arr:Array Keyed) (base i:Nat):StateT SortSt Sem (Option Bool):=elem' arr (base+i) >>= fun x=>if left then lt' x key else lt' key x >>= fun r=>pure (r.map (!·))
noncomputable def bR (left:Bool) (k a:Int):Bool:=if left then decide (a < k) else !decide (k < a)
section
variable {prog:Program} {w:World} {A:Around} {E:Value->Shared->Prop} {s:Shared}
theorem IntKeys.at {xs:Array Keyed} (h:IntKeys xs) {i:Nat} (hi:i < xs.size):∃ t q,xs[i]? = some (.int (K xs i) t,q):=by
  have hm:xs[i]∈xs.toList:=by simp
  obtain ⟨n,t,hn⟩:=h _ hm
  refine ⟨t,xs[i].2,?_⟩
  have e:xs[i]? = some xs[i]:=getElem?_pos _ i hi
  have e2:xs[i]=(.int n t,xs[i].2):=Prod.ext hn rfl
  unfold K
  rw [e,e2]
  rfl
theorem oz {st:SortSt} {a b:Int} {t u:Tok} {p q:Value} {Q:Option Bool->SortSt->Prop} (hk:kindOf st=oneType') (h:Q (some (decide (a < b))) st):wpS (model prog w) A E s (lt' (.int a t,p) (.int b u,q)) Q st:=by
  rw [lt'_eq]
  refine wpS_bind (wpS_get ?_)
  rw [hk,keyLt'_oneType]
  refine wpS_bind (wpS_lift (wpAny_attempt (oneLt_int ⟨rfl,?_⟩)))
  exact wpS_pure h
theorem ay {st:SortSt} {xs:Array Keyed} {i:Nat} {p:Keyed} {Q:Keyed->SortSt->Prop} (e:xs[i]? = some p) (h:Q p st):wpS (model prog w) A E s (elem' xs i) Q st:=by
  rw [elem'_eq,e]
  exact wpS_pure h
theorem iu {st:SortSt} {left:Bool} {k:Int} {t:Tok} {p:Value} {arr:Array Keyed} {base i:Nat} {Q:Option Bool->SortSt->Prop} (hk:kindOf st=oneType') (hI:IntKeys arr) (hi:base+i < arr.size)
    (h:Q (some (bR left k (K arr (base+i)))) st):wpS (model prog w) A E s (o9 left (.int k t,p) arr base i) Q st:=by
  obtain ⟨t',q',e⟩:=IntKeys.at hI hi
  unfold o9
  refine wpS_bind (ay e ?_)
  cases left with
  | true=>exact oz hk h
  | false=>exact wpS_bind (oz hk (wpS_pure h))
theorem y9 {left:Bool} {k a b:Int} (h:a<=b) (hb:bR left k b=true):bR left k a=true:=by
  cases left with
  | true=>have hb:=of_decide_eq_true hb; exact decide_eq_true (Int.lt_of_le_of_lt h hb)
  | false =>
    have hb:(!decide (k < b))=true:=hb
    show (!decide (k < a))=true
    simp at hb |-
    omega
theorem bD {st:SortSt} {left:Bool} {k:Int} {t:Tok} {p:Value} {arr:Array Keyed} {base n hint:Nat} {Q:Option Nat->SortSt->Prop} (hk:kindOf st=oneType') (hI:IntKeys arr) (hz:base+n<=arr.size) (hh:hint < n)
    (hs:∀ i j,i<=j->j < n->K arr (base+i)<=K arr (base+j))
    (h:∀ m,m<=n->(∀ i,i < m->bR left k (K arr (base+i))=true)->(∀ i,m<=i->i < n->bR left k (K arr (base+i))=false)->Q (some m) st) :
    wpS (model prog w) A E s (uI left (.int k t,p) arr base n hint) Q st:=by
  have dn:∀ i j,i<=j->j < n->bR left k (K arr (base+j))=true->bR left k (K arr (base+i))=true:=fun i j h1 h2 h3=>y9 (hs i j h1 h2) h3
  have up:∀ i j,i<=j->j < n->bR left k (K arr (base+i))=false->bR left k (K arr (base+j))=false:=fun i j h1 h2 h3=>by
    cases e:bR left k (K arr (base+j)) with
    | false=>rfl
    | true=>rw [dn i j h1 h2 e] at h3; cases h3
  have fin:∀ lo hi:Nat,lo<=hi->hi<=n->(∀ i,i < lo->bR left k (K arr (base+i))=true)->(∀ i,hi<=i->i < n->bR left k (K arr (base+i))=false) ->
      ∀ (f:(Option (Option Nat) × Nat × Nat)->StateT SortSt Sem (Option Nat)),(∀ m,f (none,m,m)=pure (some m)) ->
      wpS (model prog w) A E s (forIn [0:n] ((none,lo,hi):Option (Option Nat) × Nat × Nat) (fun _ c=>do
        if c.2.1 ≥ c.2.2 then pure (ForInStep.done (none,c.2.1,c.2.2)) else do
          let x <- o9 left (.int k t,p) arr base (c.2.1+(c.2.2 - c.2.1) / 2)
          match x with
          | some more=>if more=true then pure (ForInStep.yield (none,c.2.1+(c.2.2 - c.2.1) / 2+1,c.2.2)) else pure (ForInStep.yield (none,c.2.1,c.2.1+(c.2.2 - c.2.1) / 2))
          | _=>pure (ForInStep.done (some none,c.2.1,c.2.2))) >>= f) Q st:=by
    intro lo hi hlh hhn hlo hhi f hf
    refine wpS_bind (wpS_mono (wpS_forRange (I:=fun x c st'=>st'=st/\∃ l r,c=(none,l,r)/\l<=r/\r<=n/\r - l<=n - x/\(∀ i,i < l->bR left k (K arr (base+i))=true)/\(∀ i,r<=i->i < n->bR left k (K arr (base+i))=false))
      (Q:=fun c st'=>st'=st/\∃ m,c=(none,m,m)/\m<=n/\(∀ i,i < m->bR left k (K arr (base+i))=true)/\(∀ i,m<=i->i < n->bR left k (K arr (base+i))=false)) ?step ?fin ⟨rfl,lo,hi,rfl,hlh,hhn,by omega,hlo,hhi⟩) ?post)
    case post =>
      rintro c st' ⟨rfl,m,rfl,hm,a1,a2⟩
      rw [hf]
      exact wpS_pure (h m hm a1 a2)
    case fin =>
      rintro c st' ⟨rfl,l,r,rfl,h1,h2,h3,a1,a2⟩
      have:l=r:=by omega
      subst this
      exact ⟨rfl,l,rfl,h2,a1,a2⟩
    case step =>
      rintro x c st' _ hx ⟨rfl,l,r,rfl,h1,h2,h3,a1,a2⟩
      dsimp only
      by_cases hge:l ≥ r
      · rw [if_pos hge]
        have:l=r:=by omega
        subst this
        exact wpS_pure ⟨rfl,l,rfl,h2,a1,a2⟩
      · rw [if_neg hge]
        refine wpS_bind (iu hk hI (by omega) ?_)
        cases e:bR left k (K arr (base+(l+(r - l) / 2))) with
        | true =>
          dsimp only
          rw [if_pos rfl]
          exact wpS_pure ⟨rfl,_,_,rfl,by omega,h2,by omega,fun i hi=>dn i _ (by omega) (by omega) e,a2⟩
        | false =>
          dsimp only
          rw [if_neg (by decide)]
          exact wpS_pure ⟨rfl,_,_,rfl,by omega,by omega,by omega,a1,fun i h4 h5=>up _ i h4 h5 e⟩
  unfold uI
  change wpS _ _ _ _ (bind _ _) _ _
  dsimp only
  refine wpS_bind (iu hk hI (by omega) ?_)
  cases e:bR left k (K arr (base+hint)) with
  | true =>
    dsimp only
    rw [if_pos rfl]
    refine wpS_bind (wpS_mono (wpS_forRange (I:=fun x c st'=>st'=st/\∃ l o,c=(none,l,o)/\l < o/\l < n - hint/\x+1<=o/\bR left k (K arr (base+(hint+l)))=true)
      (Q:=fun c st'=>st'=st/\∃ l o,c=(none,l,o)/\l < o/\l < n - hint/\bR left k (K arr (base+(hint+l)))=true/\(n - hint<=o\/(o < n - hint/\bR left k (K arr (base+(hint+o)))=false))) ?step1 ?fin1 ⟨rfl,0,1,rfl,by omega,by omega,by omega,e⟩) ?post1)
    case post1 =>
      rintro c st' ⟨rfl,l,o,rfl,h1,h2,h3,h4⟩
      dsimp only
      refine fin (hint+l+1) (hint+min o (n - hint)) (by omega) (by omega) (fun i hi=>dn i (hint+l) (by omega) (by omega) h3) (fun i h5 h6=>?_) _ (fun m=>rfl)
      rcases h4 with h4 | ⟨h4,h7⟩
      · omega
      · exact up (hint+o) i (by omega) h6 h7
    case fin1 =>
      rintro c st' ⟨rfl,l,o,rfl,h1,h2,h3,h4⟩
      exact ⟨rfl,l,o,rfl,h1,h2,h4,.inl (by omega)⟩
    case step1 =>
      rintro x c st' _ hx ⟨rfl,l,o,rfl,h1,h2,h3,h4⟩
      dsimp only
      by_cases hge:o ≥ n - hint
      · rw [if_pos hge]
        exact wpS_pure ⟨rfl,l,o,rfl,h1,h2,h4,.inl hge⟩
      · rw [if_neg hge]
        refine wpS_bind (iu hk hI (by omega) ?_)
        cases e2:bR left k (K arr (base+(hint+o))) with
        | true =>
          dsimp only
          rw [if_neg (by decide)]
          exact wpS_pure ⟨rfl,o,2*o+1,rfl,by omega,by omega,by omega,e2⟩
        | false =>
          dsimp only
          rw [if_pos (by decide)]
          exact wpS_pure ⟨rfl,l,o,rfl,h1,h2,h4,.inr ⟨by omega,e2⟩⟩
  | false =>
    dsimp only
    rw [if_neg (by decide)]
    refine wpS_bind (wpS_mono (wpS_forRange (I:=fun x c st'=>st'=st/\∃ l o,c=(none,l,o)/\l < o/\l<=hint/\x+1<=o/\bR left k (K arr (base+(hint - l)))=false)
      (Q:=fun c st'=>st'=st/\∃ l o,c=(none,l,o)/\l < o/\l<=hint/\bR left k (K arr (base+(hint - l)))=false/\(hint+1<=o\/(o<=hint/\bR left k (K arr (base+(hint - o)))=true))) ?step2 ?fin2 ⟨rfl,0,1,rfl,by omega,by omega,by omega,e⟩) ?post2)
    case post2 =>
      rintro c st' ⟨rfl,l,o,rfl,h1,h2,h3,h4⟩
      dsimp only
      refine fin (hint+1 - min o (hint+1)) (hint - l) (by omega) (by omega) (fun i hi=>?_) (fun i h5 h6=>up (hint - l) i h5 h6 h3) _ (fun m=>rfl)
      rcases h4 with h4 | ⟨h4,h7⟩
      · omega
      · exact dn i (hint - o) (by omega) (by omega) h7
    case fin2 =>
      rintro c st' ⟨rfl,l,o,rfl,h1,h2,h3,h4⟩
      exact ⟨rfl,l,o,rfl,h1,h2,h4,.inl (by omega)⟩
    case step2 =>
      rintro x c st' _ hx ⟨rfl,l,o,rfl,h1,h2,h3,h4⟩
      dsimp only
      by_cases hge:o ≥ hint+1
      · rw [if_pos hge]
        exact wpS_pure ⟨rfl,l,o,rfl,h1,h2,h4,.inl hge⟩
      · rw [if_neg hge]
        refine wpS_bind (iu hk hI (by omega) ?_)
        cases e2:bR left k (K arr (base+(hint - o))) with
        | true =>
          dsimp only
          rw [if_pos rfl]
          exact wpS_pure ⟨rfl,l,o,rfl,h1,h2,h4,.inr ⟨by omega,e2⟩⟩
        | false =>
          dsimp only
          rw [if_neg (by decide)]
          exact wpS_pure ⟨rfl,o,2*o+1,rfl,by omega,by omega,by omega,e2⟩
end
noncomputable abbrev key (p:Keyed):Int:=numOf p.1
theorem j6 {xs:Array Keyed} {i:Nat} {p:Keyed} (h:xs[i]? = some p):K xs i=key p:=by unfold K; rw [h]
def cz (xs:Array Keyed):Prop:=∀ i j,i<=j->j < xs.size->K xs i<=K xs j
structure Mg (a b out:Array Keyed) (ia ib:Nat):Prop where
  ha:ia<=a.size
  hb:ib<=b.size
  perm:(out.toList++(a.toList.drop ia++b.toList.drop ib)).Perm (a.toList++b.toList)
  srt:(out.toList.map key).Pairwise (·<=·)
  lea:∀ x∈out.toList,∀ i,ia<=i->i < a.size->key x<=K a i
  leb:∀ x∈out.toList,∀ j,ib<=j->j < b.size->key x<=K b j
def Fin (a b R:Array Keyed):Prop:=R.toList.Perm (a.toList++b.toList)/\(R.toList.map key).Pairwise (·<=·)
variable {a b out:Array Keyed} {ia ib:Nat}
theorem uH {xs:Array Keyed} {i:Nat} {p:Keyed} (h:xs[i]? = some p):xs.toList.drop i=p::xs.toList.drop (i+1):=by
  have hi:i < xs.size:=by
    rcases Nat.lt_or_ge i xs.size with z | z
    · exact z
    · rw [Array.getElem?_eq_none z] at h; cases h
  have hi':i < xs.toList.length:=by simpa using hi
  rw [List.drop_eq_getElem_cons hi']
  congr 1
  rw [Array.getElem?_eq_getElem hi] at h
  simpa using h
theorem Mg.pushA (m:Mg a b out ia ib) (sa:cz a) (sb:cz b) {p:Keyed} (e:a[ia]? = some p) (hi:ia < a.size) (le:ib < b.size->K a ia<=K b ib):Mg a b (out.push p) (ia+1) ib:=by
  have kp:=j6 e
  refine ⟨hi,m.hb,?_,?_,?_,?_⟩
  · have h:=m.perm
    rw [uH e] at h
    rw [Array.toList_push,List.append_assoc]
    exact h
  · rw [Array.toList_push,List.map_append,List.pairwise_append]
    refine ⟨m.srt,List.pairwise_singleton _ _,fun x hx y hy=>?_⟩
    obtain ⟨z,hz,rfl⟩:=List.mem_map.mp hx
    have hy:y=key p:=by simpa using hy
    rw [hy,<- kp]
    exact m.lea z hz ia (Nat.le_refl _) hi
  · intro x hx i h1 h2
    rw [Array.toList_push,List.mem_append] at hx
    rcases hx with hx | hx
    · exact m.lea x hx i (by omega) h2
    · have:x=p:=by simpa using hx
      rw [this,<- kp]
      exact sa ia i (by omega) h2
  · intro x hx j h1 h2
    rw [Array.toList_push,List.mem_append] at hx
    rcases hx with hx | hx
    · exact m.leb x hx j h1 h2
    · have:x=p:=by simpa using hx
      rw [this,<- kp]
      exact Int.le_trans (le (by omega)) (sb ib j h1 h2)
theorem xO (o:List Keyed) (x:Keyed) (r u:List Keyed):(o++[x]++(r++u)).Perm (o++(r++x::u)):=by
  rw [List.append_assoc]
  refine List.Perm.append_left o ?_
  show (x::(r++u)).Perm (r++x::u)
  exact List.perm_middle.symm
theorem Mg.pushB (m:Mg a b out ia ib) (sa:cz a) (sb:cz b) {p:Keyed} (e:b[ib]? = some p) (hi:ib < b.size) (le:ia < a.size->K b ib<=K a ia):Mg a b (out.push p) ia (ib+1):=by
  have kp:=j6 e
  refine ⟨m.ha,hi,?_,?_,?_,?_⟩
  · have h:=m.perm
    rw [uH e] at h
    rw [Array.toList_push]
    exact (xO _ _ _ _).trans h
  · rw [Array.toList_push,List.map_append,List.pairwise_append]
    refine ⟨m.srt,List.pairwise_singleton _ _,fun x hx y hy=>?_⟩
    obtain ⟨z,hz,rfl⟩:=List.mem_map.mp hx
    have hy:y=key p:=by simpa using hy
    rw [hy,<- kp]
    exact m.leb z hz ib (Nat.le_refl _) hi
  · intro x hx i h1 h2
    rw [Array.toList_push,List.mem_append] at hx
    rcases hx with hx | hx
    · exact m.lea x hx i h1 h2
    · have:x=p:=by simpa using hx
      rw [this,<- kp]
      exact Int.le_trans (le (by omega)) (sa ia i h1 h2)
  · intro x hx j h1 h2
    rw [Array.toList_push,List.mem_append] at hx
    rcases hx with hx | hx
    · exact m.leb x hx j (by omega) h2
    · have:x=p:=by simpa using hx
      rw [this,<- kp]
      exact sb ib j (by omega) h2
theorem tT {xs:Array Keyed} {i k:Nat} {p:Keyed} (e:xs[i+k]? = some p):xs.extract i (i+k+1)=(xs.extract i (i+k)).push p:=by
  have hi:i+k < xs.size:=by
    rcases Nat.lt_or_ge (i+k) xs.size with z | z
    · exact z
    · rw [Array.getElem?_eq_none z] at e; cases e
  rw [Array.getElem?_eq_getElem hi] at e
  apply Array.ext'
  rw [Array.toList_push,Array.toList_extract,Array.toList_extract]
  simp only [List.extract_eq_take_drop]
  rw [show i+k+1 - i=k+1 by omega,show i+k - i=k by omega]
  have hl:k < (xs.toList.drop i).length:=by simp; omega
  rw [List.take_succ_eq_append_getElem hl]
  congr 2
  simp
  simpa using e
theorem Mg.takeA (m:Mg a b out ia ib) (sa:cz a) (sb:cz b):∀ k,ia+k<=a.size->(∀ i,i < k->ib < b.size->K a (ia+i)<=K b ib)->Mg a b (out++a.extract ia (ia+k)) (ia+k) ib
  | 0,_,_=>by
    have e:a.extract ia (ia+0) = #[]:=by simp; omega
    rw [e,Array.append_empty]
    exact m
  | k+1,h1,h2=>by
    have ih:=Mg.takeA m sa sb k (by omega) (fun i hi=>h2 i (by omega))
    have e:a[ia+k]? = some a[ia+k]:=Array.getElem?_eq_getElem (by omega)
    have e2:=tT e
    rw [show ia+(k+1)=ia+k+1 by omega,e2,Array.append_push]
    exact ih.pushA sa sb e (by omega) (h2 k (by omega))
theorem Mg.takeB (m:Mg a b out ia ib) (sa:cz a) (sb:cz b):∀ k,ib+k<=b.size->(∀ i,i < k->ia < a.size->K b (ib+i)<=K a ia)->Mg a b (out++b.extract ib (ib+k)) ia (ib+k)
  | 0,_,_=>by
    have e:b.extract ib (ib+0) = #[]:=by simp; omega
    rw [e,Array.append_empty]
    exact m
  | k+1,h1,h2=>by
    have ih:=Mg.takeB m sa sb k (by omega) (fun i hi=>h2 i (by omega))
    have e:b[ib+k]? = some b[ib+k]:=Array.getElem?_eq_getElem (by omega)
    have e2:=tT e
    rw [show ib+(k+1)=ib+k+1 by omega,e2,Array.append_push]
    exact ih.pushB sa sb e (by omega) (h2 k (by omega))
theorem Mg.fin (m:Mg a b out a.size b.size):Fin a b out:=by
  refine ⟨?_,m.srt⟩
  have h:=m.perm
  rw [List.drop_eq_nil_of_le (by simp),List.drop_eq_nil_of_le (by simp),List.append_nil,List.append_nil] at h
  exact h
theorem Mg.doneB (m:Mg a b out ia ib) (sa:cz a) (sb:cz b) (h:ib=b.size):Fin a b (out++a.extract ia a.size++b.extract ib b.size):=by
  subst h
  have h1:=m.takeA sa sb (a.size - ia) (by have:=m.ha; omega) (fun i _ z=>by omega)
  rw [show ia+(a.size - ia)=a.size by have:=m.ha; omega] at h1
  have e:b.extract b.size b.size = #[]:=by simp
  rw [e,Array.append_empty]
  exact h1.fin
theorem Mg.doneA (m:Mg a b out ia ib) (sa:cz a) (sb:cz b) (h:ia=a.size):Fin a b (out++a.extract ia a.size++b.extract ib b.size):=by
  subst h
  have e:a.extract a.size a.size = #[]:=by simp
  rw [e,Array.append_empty]
  have h1:=m.takeB sa sb (b.size - ib) (by have:=m.hb; omega) (fun i _ z=>by omega)
  rw [show ib+(b.size - ib)=b.size by have:=m.hb; omega] at h1
  exact h1.fin
theorem Mg.last (m:Mg a b out ia ib) (sa:cz a) (sb:cz b) (h:ia+1=a.size) (top:∀ j,j < b.size->K b j<=K a ia):Fin a b (out++b.extract ib b.size++a.extract ia a.size):=by
  have h1:=m.takeB sa sb (b.size - ib) (by have:=m.hb; omega) (fun i _ z=>top _ (by omega))
  rw [show ib+(b.size - ib)=b.size by have:=m.hb; omega] at h1
  have h2:=h1.takeA sa sb (a.size - ia) (by omega) (fun i _ z=>by omega)
  rw [show ia+(a.size - ia)=a.size by omega] at h2
  exact h2.fin
section
variable {prog:Program} {w:World} {A:Around} {E:Value->Shared->Prop} {s:Shared}
noncomputable def setG (st:SortSt) (g:Nat):SortSt:=SortSt.mk' (kindOf st) (arrOf st) (pendingOf st) g (failedOf st)
noncomputable def jI:Nat->StateT SortSt Sem Unit:=sortPriv% PySem.Builtin.setMinGallop
theorem nq (g:Nat):jI g=modify fun s=>setG s g:=rfl
noncomputable def sA:Array Keyed->Array Keyed->StateT SortSt Sem (Array Keyed):=sortPriv% PySem.Builtin.mergeLo
theorem gQ {st:SortSt} {g:Nat} {Q:Unit->SortSt->Prop} (h:Q () (setG st g)):wpS (model prog w) A E s (jI g) Q st:=by
  rw [nq]
  exact wpS_modify h
theorem uw {st:SortSt} {a b:Array Keyed} {Q:Array Keyed->SortSt->Prop} (hk:kindOf st=oneType') (hA:IntKeys a) (hB:IntKeys b) (sa:cz a) (sb:cz b) (na:1<=a.size) (nb:1<=b.size) (first:K b 0<=K a 0) (top:∀ j,j < b.size->K b j<=K a (a.size - 1))
    (h:∀ R g,Fin a b R->Q R (setG st g)):wpS (model prog w) A E s (sA a b) Q st:=by
  have top':∀ i,i+1=a.size->∀ j,j < b.size->K b j<=K a i:=fun i hi j hj=>by
    have:=top j hj
    rw [show a.size - 1=i by omega] at this
    exact this
  have m0:Mg a b #[] 0 0:=⟨Nat.zero_le _,Nat.zero_le _,List.Perm.refl _,.nil,(fun x hx=>by simp at hx),(fun x hx=>by simp at hx)⟩
  obtain ⟨t0,q0,e0⟩:=IntKeys.at hB (show 0 < b.size by omega)
  have m1:=m0.pushB sa sb e0 (by omega) (fun _=>first)
  unfold sA
  change wpS _ _ _ _ (bind _ _) _ _
  dsimp only
  refine wpS_bind (wpS_lift (wpAny_rule ⟨rfl,?_⟩))
  refine wpS_bind (ay e0 ?_)
  by_cases hb1:1=b.size
  · rw [if_pos (by simpa using hb1)]
    exact wpS_pure (h _ (gallopOf st) (m1.doneB sa sb hb1))
  rw [if_neg (by simpa using hb1)]
  by_cases ha1:0+1=a.size
  · rw [if_pos (by simpa using ha1)]
    exact wpS_pure (h _ (gallopOf st) (m1.last sa sb ha1 (top' _ ha1)))
  rw [if_neg (by simpa using ha1)]
  refine wpS_bind (wpS_get ?_)
  refine wpS_bind (wpS_mono (wpS_forRange (I:=fun x c st'=>∃ g out ia ib mg,st'=setG st g/\c=(none,out,ia,ib,mg)/\Mg a b out ia ib/\ia+1 < a.size/\ib < b.size/\x+1<=ia+ib)
    (Q:=fun c st'=>∃ R g r,c=(some R,r)/\st'=setG st g/\Fin a b R) ?step ?fin ⟨gallopOf st,_,0,1,_,rfl,rfl,m1,by omega,by omega,by omega⟩) ?post)
  case post =>
    rintro c st' ⟨R,g,r,rfl,rfl,f⟩
    exact wpS_pure (h R g f)
  case fin =>
    rintro c st' ⟨g,out,ia,ib,mg,rfl,rfl,m,h1,h2,h3⟩
    omega
  case step =>
    rintro x c st' _ hx ⟨g,out,ia,ib,mg,rfl,rfl,m,h1,h2,h3⟩
    dsimp only
    refine wpS_bind (wpS_mono (wpS_forRange (I:=fun y c st'=>st'=setG st g/\∃ out ia ib ac bc,c=(none,out,ia,ib,ac,bc)/\Mg a b out ia ib/\ia+1 < a.size/\ib < b.size/\x+1+y<=ia+ib)
      (Q:=fun c st'=>st'=setG st g/\((∃ R r,c=(some R,r)/\Fin a b R)\/∃ out ia ib ac bc,c=(none,out,ia,ib,ac,bc)/\Mg a b out ia ib/\ia+1 < a.size/\ib < b.size/\x+2<=ia+ib)) ?st1 ?fin1 ⟨rfl,out,ia,ib,0,0,rfl,m,h1,h2,by omega⟩) ?post1)
    case fin1 =>
      rintro c st' ⟨rfl,out,ia,ib,ac,bc,rfl,m,h1,h2,h3⟩
      exact ⟨rfl,.inr ⟨out,ia,ib,ac,bc,rfl,m,h1,h2,by omega⟩⟩
    case st1 =>
      rintro y c st' _ hy ⟨rfl,out,ia,ib,ac,bc,rfl,m,h1,h2,h3⟩
      dsimp only
      obtain ⟨tb,qb,eb⟩:=IntKeys.at hB h2
      obtain ⟨ta,qa,ea⟩:=IntKeys.at hA (show ia < a.size by omega)
      refine wpS_bind (ay eb ?_)
      refine wpS_bind (ay ea ?_)
      refine wpS_bind (oz (st:=setG st g) hk ?_)
      by_cases hw:K b ib < K a ia
      · simp only [hw,decide_true,if_true]
        have m2:=m.pushB sa sb eb h2 (fun _=>Int.le_of_lt hw)
        refine wpS_bind (ay eb ?_)
        by_cases h4:ib+1=b.size
        · rw [if_pos (by simpa using h4)]
          exact wpS_pure ⟨rfl,.inl ⟨_,_,rfl,m2.doneB sa sb h4⟩⟩
        · rw [if_neg (by simpa using h4)]
          split
          · exact wpS_pure ⟨rfl,.inr ⟨_,_,_,_,_,rfl,m2,by omega,by omega,by omega⟩⟩
          · exact wpS_pure ⟨rfl,_,_,_,_,_,rfl,m2,by omega,by omega,by omega⟩
      · simp only [hw,decide_false,Bool.false_eq_true,if_false]
        have m2:=m.pushA sa sb ea (by omega) (fun _=>Int.not_lt.mp hw)
        refine wpS_bind (ay ea ?_)
        by_cases h4:ia+1+1=a.size
        · rw [if_pos (by simpa using h4)]
          exact wpS_pure ⟨rfl,.inl ⟨_,_,rfl,m2.last sa sb h4 (top' _ h4)⟩⟩
        · rw [if_neg (by simpa using h4)]
          split
          · exact wpS_pure ⟨rfl,.inr ⟨_,_,_,_,_,rfl,m2,by omega,by omega,by omega⟩⟩
          · exact wpS_pure ⟨rfl,_,_,_,_,_,rfl,m2,by omega,by omega,by omega⟩
    case post1 =>
      rintro c st' ⟨rfl,⟨R,r,rfl,f⟩ | ⟨out,ia,ib,ac,bc,rfl,m,h1,h2,h3⟩⟩
      · exact wpS_pure ⟨R,g,_,rfl,rfl,f⟩
      dsimp only
      refine wpS_bind (wpS_lift (wpAny_rule ⟨rfl,?_⟩))
      refine wpS_bind (wpS_mono (wpS_forRange (I:=fun y c st'=>∃ g out ia ib mg ac bc,st'=setG st g/\c=(none,out,ia,ib,mg,ac,bc)/\Mg a b out ia ib/\ia+1 < a.size/\ib < b.size/\x+2<=ia+ib)
        (Q:=fun c st'=>(∃ R g r,c=(some R,r)/\st'=setG st g/\Fin a b R)\/∃ g out ia ib mg ac bc,st'=setG st g/\c=(none,out,ia,ib,mg,ac,bc)/\Mg a b out ia ib/\ia+1 < a.size/\ib < b.size/\x+2<=ia+ib) ?st2 ?fin2 ⟨g,out,ia,ib,_,ac,bc,rfl,rfl,m,h1,h2,h3⟩) ?post2)
      case fin2 =>
        rintro c st' ⟨g,out,ia,ib,mg,ac,bc,rfl,rfl,m,h1,h2,h3⟩
        exact .inr ⟨g,out,ia,ib,mg,ac,bc,rfl,rfl,m,h1,h2,h3⟩
      case post2 =>
        rintro c st' (⟨R,g,r,rfl,rfl,f⟩ | ⟨g,out,ia,ib,mg,ac,bc,rfl,rfl,m,h1,h2,h3⟩)
        · exact wpS_pure ⟨R,g,_,rfl,rfl,f⟩
        · dsimp only
          refine wpS_bind (gQ ?_)
          exact wpS_pure ⟨mg+1,out,ia,ib,mg+1,rfl,rfl,m,h1,h2,by omega⟩
      case st2 =>
        rintro y c st' _ hy ⟨g,out,ia,ib,mg,ac,bc,rfl,rfl,m,h1,hib,h3⟩
        dsimp only
        by_cases hmg:mg > 1
        · rw [if_pos hmg]
          obtain ⟨tb,qb,eb⟩:=IntKeys.at hB hib
          refine wpS_bind (gQ ?_)
          show wpS _ _ _ _ _ _ (setG st (mg - 1))
          obtain ⟨gg,egg⟩:∃ gg,(mg - 1)=gg:=⟨_,rfl⟩
          rw [egg]
          refine wpS_bind (ay eb ?_)
          refine wpS_bind (bD (st:=setG st gg) hk hA (by omega) (by omega) (fun i j h6 h7=>sa _ _ (by omega) (by omega)) fun k kn low high=>?_)
          dsimp only
          by_cases hk1:k > 0
          · rw [if_pos hk1]
            have m1:=m.takeA sa sb k (by omega) (fun i hi _=>by have:=low i hi; unfold bR at this; simp at this; omega)
            by_cases h2:ia+k+1=a.size
            · rw [if_pos (by simpa using h2)]
              exact wpS_pure (.inl ⟨_,_,_,rfl,rfl,m1.last sa sb h2 (top' _ h2)⟩)
            · rw [if_neg (by simpa using h2)]
              by_cases h3:ia+k=a.size
              · rw [if_pos (by simpa using h3)]
                exact wpS_pure (.inl ⟨_,_,_,rfl,rfl,m1.doneA sa sb h3⟩)
              · rw [if_neg (by simpa using h3)]
                have leb:ia+k < a.size->K b ib<=K a (ia+k):=fun z=>by have:=high k (Nat.le_refl _) (by omega); unfold bR at this; simp at this; omega
                have m2:=m1.pushB sa sb eb hib leb
                obtain ⟨ta,qa,ea2⟩:=IntKeys.at hA (show ia+k < a.size by omega)
                refine wpS_bind (ay eb ?_)
                by_cases h4:ib+1=b.size
                · rw [if_pos (by simpa using h4)]
                  exact wpS_pure (.inl ⟨_,_,_,rfl,rfl,m2.doneB sa sb h4⟩)
                · rw [if_neg (by simpa using h4)]
                  refine wpS_bind (ay ea2 ?_)
                  refine wpS_bind (bD (st:=setG st gg) hk hB (by omega) (by omega) (fun i j h6 h7=>sb _ _ (by omega) (by omega)) fun k2 k2n low2 high2=>?_)
                  dsimp only
                  by_cases hk2:k2 > 0
                  · rw [if_pos hk2]
                    have m2':=m2.takeB sa sb k2 (by omega) (fun i hi _=>Int.le_of_lt (of_decide_eq_true (low2 i hi)))
                    by_cases h8:ib+1+k2=b.size
                    · rw [if_pos (by simpa using h8)]
                      exact wpS_pure (.inl ⟨_,_,_,rfl,rfl,m2'.doneB sa sb h8⟩)
                    · rw [if_neg (by simpa using h8)]
                      have le3:ib+1+k2 < b.size->K a (ia+k)<=K b (ib+1+k2):=fun z=>Int.not_lt.mp (of_decide_eq_false (high2 k2 (Nat.le_refl _) (by omega)))
                      have m3:=m2'.pushA sa sb ea2 (by omega) le3
                      refine wpS_bind (ay ea2 ?_)
                      by_cases h5:ia+k+1+1=a.size
                      · rw [if_pos (by simpa using h5)]
                        exact wpS_pure (.inl ⟨_,_,_,rfl,rfl,m3.last sa sb h5 (top' _ h5)⟩)
                      · rw [if_neg (by simpa using h5)]
                        split
                        · exact wpS_pure (.inr ⟨_,_,_,_,_,_,_,rfl,rfl,m3,by omega,by omega,by omega⟩)
                        · exact wpS_pure ⟨_,_,_,_,_,_,_,rfl,rfl,m3,by omega,by omega,by omega⟩
                  · rw [if_neg hk2]
                    have k20:k2=0:=by omega
                    subst k20
                    have le3:ib+1 < b.size->K a (ia+k)<=K b (ib+1):=fun z=>Int.not_lt.mp (of_decide_eq_false (high2 0 (Nat.le_refl _) (by omega)))
                    have m3:=m2.pushA sa sb ea2 (by omega) le3
                    refine wpS_bind (ay ea2 ?_)
                    by_cases h5:ia+k+1+1=a.size
                    · rw [if_pos (by simpa using h5)]
                      exact wpS_pure (.inl ⟨_,_,_,rfl,rfl,m3.last sa sb h5 (top' _ h5)⟩)
                    · rw [if_neg (by simpa using h5)]
                      split
                      · exact wpS_pure (.inr ⟨_,_,_,_,_,_,_,rfl,rfl,m3,by omega,by omega,by omega⟩)
                      · exact wpS_pure ⟨_,_,_,_,_,_,_,rfl,rfl,m3,by omega,by omega,by omega⟩
          · rw [if_neg hk1]
            have k0:k=0:=by omega
            subst k0
            have leb:ia < a.size->K b ib<=K a (ia):=fun z=>by have:=high 0 (Nat.le_refl _) (by omega); unfold bR at this; simp at this; omega
            have m2:=m.pushB sa sb eb hib leb
            obtain ⟨ta,qa,ea2⟩:=IntKeys.at hA (show ia < a.size by omega)
            refine wpS_bind (ay eb ?_)
            by_cases h4:ib+1=b.size
            · rw [if_pos (by simpa using h4)]
              exact wpS_pure (.inl ⟨_,_,_,rfl,rfl,m2.doneB sa sb h4⟩)
            · rw [if_neg (by simpa using h4)]
              refine wpS_bind (ay ea2 ?_)
              refine wpS_bind (bD (st:=setG st gg) hk hB (by omega) (by omega) (fun i j h6 h7=>sb _ _ (by omega) (by omega)) fun k2 k2n low2 high2=>?_)
              dsimp only
              by_cases hk2:k2 > 0
              · rw [if_pos hk2]
                have m2':=m2.takeB sa sb k2 (by omega) (fun i hi _=>Int.le_of_lt (of_decide_eq_true (low2 i hi)))
                by_cases h8:ib+1+k2=b.size
                · rw [if_pos (by simpa using h8)]
                  exact wpS_pure (.inl ⟨_,_,_,rfl,rfl,m2'.doneB sa sb h8⟩)
                · rw [if_neg (by simpa using h8)]
                  have le3:ib+1+k2 < b.size->K a ia<=K b (ib+1+k2):=fun z=>Int.not_lt.mp (of_decide_eq_false (high2 k2 (Nat.le_refl _) (by omega)))
                  have m3:=m2'.pushA sa sb ea2 (by omega) le3
                  refine wpS_bind (ay ea2 ?_)
                  by_cases h5:ia+1+1=a.size
                  · rw [if_pos (by simpa using h5)]
                    exact wpS_pure (.inl ⟨_,_,_,rfl,rfl,m3.last sa sb h5 (top' _ h5)⟩)
                  · rw [if_neg (by simpa using h5)]
                    split
                    · exact wpS_pure (.inr ⟨_,_,_,_,_,_,_,rfl,rfl,m3,by omega,by omega,by omega⟩)
                    · exact wpS_pure ⟨_,_,_,_,_,_,_,rfl,rfl,m3,by omega,by omega,by omega⟩
              · rw [if_neg hk2]
                have k20:k2=0:=by omega
                subst k20
                have le3:ib+1 < b.size->K a ia<=K b (ib+1):=fun z=>Int.not_lt.mp (of_decide_eq_false (high2 0 (Nat.le_refl _) (by omega)))
                have m3:=m2.pushA sa sb ea2 (by omega) le3
                refine wpS_bind (ay ea2 ?_)
                by_cases h5:ia+1+1=a.size
                · rw [if_pos (by simpa using h5)]
                  exact wpS_pure (.inl ⟨_,_,_,rfl,rfl,m3.last sa sb h5 (top' _ h5)⟩)
                · rw [if_neg (by simpa using h5)]
                  split
                  · exact wpS_pure (.inr ⟨_,_,_,_,_,_,_,rfl,rfl,m3,by omega,by omega,by omega⟩)
                  · exact wpS_pure ⟨_,_,_,_,_,_,_,rfl,rfl,m3,by omega,by omega,by omega⟩
        · rw [if_neg hmg]
          obtain ⟨tb,qb,eb⟩:=IntKeys.at hB hib
          refine wpS_bind (gQ ?_)
          show wpS _ _ _ _ _ _ (setG st mg)
          obtain ⟨gg,egg⟩:∃ gg,mg=gg:=⟨_,rfl⟩
          rw [egg]
          refine wpS_bind (ay eb ?_)
          refine wpS_bind (bD (st:=setG st gg) hk hA (by omega) (by omega) (fun i j h6 h7=>sa _ _ (by omega) (by omega)) fun k kn low high=>?_)
          dsimp only
          by_cases hk1:k > 0
          · rw [if_pos hk1]
            have m1:=m.takeA sa sb k (by omega) (fun i hi _=>by have:=low i hi; unfold bR at this; simp at this; omega)
            by_cases h2:ia+k+1=a.size
            · rw [if_pos (by simpa using h2)]
              exact wpS_pure (.inl ⟨_,_,_,rfl,rfl,m1.last sa sb h2 (top' _ h2)⟩)
            · rw [if_neg (by simpa using h2)]
              by_cases h3:ia+k=a.size
              · rw [if_pos (by simpa using h3)]
                exact wpS_pure (.inl ⟨_,_,_,rfl,rfl,m1.doneA sa sb h3⟩)
              · rw [if_neg (by simpa using h3)]
                have leb:ia+k < a.size->K b ib<=K a (ia+k):=fun z=>by have:=high k (Nat.le_refl _) (by omega); unfold bR at this; simp at this; omega
                have m2:=m1.pushB sa sb eb hib leb
                obtain ⟨ta,qa,ea2⟩:=IntKeys.at hA (show ia+k < a.size by omega)
                refine wpS_bind (ay eb ?_)
                by_cases h4:ib+1=b.size
                · rw [if_pos (by simpa using h4)]
                  exact wpS_pure (.inl ⟨_,_,_,rfl,rfl,m2.doneB sa sb h4⟩)
                · rw [if_neg (by simpa using h4)]
                  refine wpS_bind (ay ea2 ?_)
                  refine wpS_bind (bD (st:=setG st gg) hk hB (by omega) (by omega) (fun i j h6 h7=>sb _ _ (by omega) (by omega)) fun k2 k2n low2 high2=>?_)
                  dsimp only
                  by_cases hk2:k2 > 0
                  · rw [if_pos hk2]
                    have m2':=m2.takeB sa sb k2 (by omega) (fun i hi _=>Int.le_of_lt (of_decide_eq_true (low2 i hi)))
                    by_cases h8:ib+1+k2=b.size
                    · rw [if_pos (by simpa using h8)]
                      exact wpS_pure (.inl ⟨_,_,_,rfl,rfl,m2'.doneB sa sb h8⟩)
                    · rw [if_neg (by simpa using h8)]
                      have le3:ib+1+k2 < b.size->K a (ia+k)<=K b (ib+1+k2):=fun z=>Int.not_lt.mp (of_decide_eq_false (high2 k2 (Nat.le_refl _) (by omega)))
                      have m3:=m2'.pushA sa sb ea2 (by omega) le3
                      refine wpS_bind (ay ea2 ?_)
                      by_cases h5:ia+k+1+1=a.size
                      · rw [if_pos (by simpa using h5)]
                        exact wpS_pure (.inl ⟨_,_,_,rfl,rfl,m3.last sa sb h5 (top' _ h5)⟩)
                      · rw [if_neg (by simpa using h5)]
                        split
                        · exact wpS_pure (.inr ⟨_,_,_,_,_,_,_,rfl,rfl,m3,by omega,by omega,by omega⟩)
                        · exact wpS_pure ⟨_,_,_,_,_,_,_,rfl,rfl,m3,by omega,by omega,by omega⟩
                  · rw [if_neg hk2]
                    have k20:k2=0:=by omega
                    subst k20
                    have le3:ib+1 < b.size->K a (ia+k)<=K b (ib+1):=fun z=>Int.not_lt.mp (of_decide_eq_false (high2 0 (Nat.le_refl _) (by omega)))
                    have m3:=m2.pushA sa sb ea2 (by omega) le3
                    refine wpS_bind (ay ea2 ?_)
                    by_cases h5:ia+k+1+1=a.size
                    · rw [if_pos (by simpa using h5)]
                      exact wpS_pure (.inl ⟨_,_,_,rfl,rfl,m3.last sa sb h5 (top' _ h5)⟩)
                    · rw [if_neg (by simpa using h5)]
                      split
                      · exact wpS_pure (.inr ⟨_,_,_,_,_,_,_,rfl,rfl,m3,by omega,by omega,by omega⟩)
                      · exact wpS_pure ⟨_,_,_,_,_,_,_,rfl,rfl,m3,by omega,by omega,by omega⟩
          · rw [if_neg hk1]
            have k0:k=0:=by omega
            subst k0
            have leb:ia < a.size->K b ib<=K a (ia):=fun z=>by have:=high 0 (Nat.le_refl _) (by omega); unfold bR at this; simp at this; omega
            have m2:=m.pushB sa sb eb hib leb
            obtain ⟨ta,qa,ea2⟩:=IntKeys.at hA (show ia < a.size by omega)
            refine wpS_bind (ay eb ?_)
            by_cases h4:ib+1=b.size
            · rw [if_pos (by simpa using h4)]
              exact wpS_pure (.inl ⟨_,_,_,rfl,rfl,m2.doneB sa sb h4⟩)
            · rw [if_neg (by simpa using h4)]
              refine wpS_bind (ay ea2 ?_)
              refine wpS_bind (bD (st:=setG st gg) hk hB (by omega) (by omega) (fun i j h6 h7=>sb _ _ (by omega) (by omega)) fun k2 k2n low2 high2=>?_)
              dsimp only
              by_cases hk2:k2 > 0
              · rw [if_pos hk2]
                have m2':=m2.takeB sa sb k2 (by omega) (fun i hi _=>Int.le_of_lt (of_decide_eq_true (low2 i hi)))
                by_cases h8:ib+1+k2=b.size
                · rw [if_pos (by simpa using h8)]
                  exact wpS_pure (.inl ⟨_,_,_,rfl,rfl,m2'.doneB sa sb h8⟩)
                · rw [if_neg (by simpa using h8)]
                  have le3:ib+1+k2 < b.size->K a ia<=K b (ib+1+k2):=fun z=>Int.not_lt.mp (of_decide_eq_false (high2 k2 (Nat.le_refl _) (by omega)))
                  have m3:=m2'.pushA sa sb ea2 (by omega) le3
                  refine wpS_bind (ay ea2 ?_)
                  by_cases h5:ia+1+1=a.size
                  · rw [if_pos (by simpa using h5)]
                    exact wpS_pure (.inl ⟨_,_,_,rfl,rfl,m3.last sa sb h5 (top' _ h5)⟩)
                  · rw [if_neg (by simpa using h5)]
                    split
                    · exact wpS_pure (.inr ⟨_,_,_,_,_,_,_,rfl,rfl,m3,by omega,by omega,by omega⟩)
                    · exact wpS_pure ⟨_,_,_,_,_,_,_,rfl,rfl,m3,by omega,by omega,by omega⟩
              · rw [if_neg hk2]
                have k20:k2=0:=by omega
                subst k20
                have le3:ib+1 < b.size->K a ia<=K b (ib+1):=fun z=>Int.not_lt.mp (of_decide_eq_false (high2 0 (Nat.le_refl _) (by omega)))
                have m3:=m2.pushA sa sb ea2 (by omega) le3
                refine wpS_bind (ay ea2 ?_)
                by_cases h5:ia+1+1=a.size
                · rw [if_pos (by simpa using h5)]
                  exact wpS_pure (.inl ⟨_,_,_,rfl,rfl,m3.last sa sb h5 (top' _ h5)⟩)
                · rw [if_neg (by simpa using h5)]
                  split
                  · exact wpS_pure (.inr ⟨_,_,_,_,_,_,_,rfl,rfl,m3,by omega,by omega,by omega⟩)
                  · exact wpS_pure ⟨_,_,_,_,_,_,_,rfl,rfl,m3,by omega,by omega,by omega⟩
end
structure Mh (a b out:Array Keyed) (na nb:Nat):Prop where
  ha:na<=a.size
  hb:nb<=b.size
  perm:(a.toList.take na++(b.toList.take nb++out.toList.reverse)).Perm (a.toList++b.toList)
  srt:(out.toList.map key).Pairwise (fun x y=>y<=x)
  lea:∀ x∈out.toList,∀ i,i < na->K a i<=key x
  leb:∀ x∈out.toList,∀ j,j < nb->K b j<=key x
theorem uX {xs:Array Keyed} {n:Nat} {p:Keyed} (h:xs[n]? = some p):xs.toList.take (n+1)=xs.toList.take n++[p]:=by
  have hi:n < xs.size:=by
    rcases Nat.lt_or_ge n xs.size with z | z
    · exact z
    · rw [Array.getElem?_eq_none z] at h; cases h
  have hi':n < xs.toList.length:=by simpa using hi
  rw [List.take_succ_eq_append_getElem hi']
  congr 2
  rw [Array.getElem?_eq_getElem hi] at h
  simpa using h
variable {na nb:Nat}
theorem Mh.pushA (m:Mh a b out (na+1) nb) (sa:cz a) (sb:cz b) {p:Keyed} (e:a[na]? = some p) (le:0 < nb->K b (nb - 1)<=K a na):Mh a b (out.push p) na nb:=by
  have kp:=j6 e
  have ha:=m.ha
  refine ⟨by omega,m.hb,?_,?_,?_,?_⟩
  · have h:=m.perm
    rw [uX e] at h
    rw [Array.toList_push,List.reverse_append]
    refine List.Perm.trans ?_ h
    rw [List.append_assoc]
    refine List.Perm.append_left _ ?_
    show (b.toList.take nb++p::out.toList.reverse).Perm (p::(b.toList.take nb++out.toList.reverse))
    exact List.perm_middle
  · rw [Array.toList_push,List.map_append,List.pairwise_append]
    refine ⟨m.srt,List.pairwise_singleton _ _,fun x hx y hy=>?_⟩
    obtain ⟨z,hz,rfl⟩:=List.mem_map.mp hx
    have hy:y=key p:=by simpa using hy
    rw [hy,<- kp]
    exact m.lea z hz na (by omega)
  · intro x hx i h1
    rw [Array.toList_push,List.mem_append] at hx
    rcases hx with hx | hx
    · exact m.lea x hx i (by omega)
    · have:x=p:=by simpa using hx
      rw [this,<- kp]
      exact sa i na (by omega) (by omega)
  · intro x hx j h1
    rw [Array.toList_push,List.mem_append] at hx
    rcases hx with hx | hx
    · exact m.leb x hx j h1
    · have:x=p:=by simpa using hx
      rw [this,<- kp]
      exact Int.le_trans (sb j (nb - 1) (by omega) (by have:=m.hb; omega)) (le (by omega))
theorem Mh.pushB (m:Mh a b out na (nb+1)) (sa:cz a) (sb:cz b) {p:Keyed} (e:b[nb]? = some p) (le:0 < na->K a (na - 1)<=K b nb):Mh a b (out.push p) na nb:=by
  have kp:=j6 e
  have hb:=m.hb
  refine ⟨m.ha,by omega,?_,?_,?_,?_⟩
  · have h:=m.perm
    rw [uX e] at h
    rw [Array.toList_push,List.reverse_append]
    refine List.Perm.trans ?_ h
    rw [List.append_assoc]
    exact List.Perm.refl _
  · rw [Array.toList_push,List.map_append,List.pairwise_append]
    refine ⟨m.srt,List.pairwise_singleton _ _,fun x hx y hy=>?_⟩
    obtain ⟨z,hz,rfl⟩:=List.mem_map.mp hx
    have hy:y=key p:=by simpa using hy
    rw [hy,<- kp]
    exact m.leb z hz nb (by omega)
  · intro x hx i h1
    rw [Array.toList_push,List.mem_append] at hx
    rcases hx with hx | hx
    · exact m.lea x hx i h1
    · have:x=p:=by simpa using hx
      rw [this,<- kp]
      exact Int.le_trans (sa i (na - 1) (by omega) (by have:=m.ha; omega)) (le (by omega))
  · intro x hx j h1
    rw [Array.toList_push,List.mem_append] at hx
    rcases hx with hx | hx
    · exact m.leb x hx j (by omega)
    · have:x=p:=by simpa using hx
      rw [this,<- kp]
      exact sb j nb (by omega) (by omega)
theorem rR {xs:Array Keyed} {i n:Nat} {p:Keyed} (hi:i<=n) (e:xs[i]? = some p) (hn:n<=xs.size) (hlt:i < n):(xs.extract i n).reverse=(xs.extract (i+1) n).reverse.push p:=by
  have hz:i < xs.size:=by omega
  rw [Array.getElem?_eq_getElem hz] at e
  apply Array.ext'
  rw [Array.toList_push,Array.toList_reverse,Array.toList_reverse,Array.toList_extract,Array.toList_extract]
  simp only [List.extract_eq_take_drop]
  have hl:i < xs.toList.length:=by simpa using hz
  rw [List.drop_eq_getElem_cons hl,show n - i=(n - (i+1))+1 by omega,List.take_succ_cons,List.reverse_cons]
  congr 2
  simpa using e
theorem Mh.takeA (sa:cz a) (sb:cz b):∀ (k:Nat) {na:Nat} {out:Array Keyed},Mh a b out na nb->∀ lo,lo+k=na->(∀ i,lo<=i->i < na->0 < nb->K b (nb - 1)<=K a i)->Mh a b (out++(a.extract lo na).reverse) lo nb
  | 0,na,out,m,lo,h,_=>by
    have:lo=na:=by omega
    subst this
    have e:a.extract lo lo = #[]:=by simp; omega
    rw [e]
    simpa using m
  | k+1,na,out,m,lo,h,h2=>by
    have ih:=Mh.takeA sa sb k m (lo+1) (by omega) (fun i hi=>h2 i (by omega))
    have ha:=m.ha
    have e:a[lo]? = some a[lo]:=Array.getElem?_eq_getElem (by omega)
    rw [rR (by omega) e ha (by omega),Array.append_push]
    exact ih.pushA sa sb e (h2 lo (Nat.le_refl _) (by omega))
theorem Mh.takeB (sa:cz a) (sb:cz b):∀ (k:Nat) {nb:Nat} {out:Array Keyed},Mh a b out na nb->∀ lo,lo+k=nb->(∀ i,lo<=i->i < nb->0 < na->K a (na - 1)<=K b i)->Mh a b (out++(b.extract lo nb).reverse) na lo
  | 0,nb,out,m,lo,h,_=>by
    have:lo=nb:=by omega
    subst this
    have e:b.extract lo lo = #[]:=by simp; omega
    rw [e]
    simpa using m
  | k+1,nb,out,m,lo,h,h2=>by
    have ih:=Mh.takeB sa sb k m (lo+1) (by omega) (fun i hi=>h2 i (by omega))
    have hb:=m.hb
    have e:b[lo]? = some b[lo]:=Array.getElem?_eq_getElem (by omega)
    rw [rR (by omega) e hb (by omega),Array.append_push]
    exact ih.pushB sa sb e (h2 lo (Nat.le_refl _) (by omega))
theorem Mh.fin (m:Mh a b out 0 0):Fin a b out.reverse:=by
  have h:=m.perm
  refine ⟨?_,?_⟩
  · rw [Array.toList_reverse]; exact h
  · rw [Array.toList_reverse,List.map_reverse,List.pairwise_reverse]
    exact m.srt
theorem Mh.doneA (m:Mh a b out na nb) (sa:cz a) (sb:cz b) (h:na=0):Fin a b (a.extract 0 na++b.extract 0 nb++out.reverse):=by
  subst h
  have h1:=Mh.takeB sa sb nb m 0 (by omega) (fun i _ _ z=>by omega)
  have h2:=h1.fin
  have e:a.extract 0 0 = #[]:=by simp
  rw [e]
  simpa using h2
theorem Mh.doneB (m:Mh a b out na nb) (sa:cz a) (sb:cz b) (h:nb=0):Fin a b (a.extract 0 na++b.extract 0 nb++out.reverse):=by
  subst h
  have h1:=Mh.takeA sa sb na m 0 (by omega) (fun i _ _ z=>by omega)
  have h2:=h1.fin
  have e:b.extract 0 0 = #[]:=by simp
  rw [e]
  simpa using h2
theorem Mh.firstB (m:Mh a b out na nb) (sa:cz a) (sb:cz b) (h:nb=1) (first:∀ i,i < a.size->K b 0<=K a i):Fin a b (b.extract 0 nb++a.extract 0 na++out.reverse):=by
  subst h
  have h1:=Mh.takeA sa sb na m 0 (by omega) (fun i _ z _=>first i (by have:=m.ha; omega))
  have h2:=Mh.takeB sa sb 1 h1 0 rfl (fun i _ _ z=>by omega)
  have h3:=h2.fin
  simpa using h3
section
variable {prog:Program} {w:World} {A:Around} {E:Value->Shared->Prop} {s:Shared}
noncomputable def sI:Array Keyed->Array Keyed->StateT SortSt Sem (Array Keyed):=sortPriv% PySem.Builtin.mergeHi
theorem uj {st:SortSt} {a b:Array Keyed} {Q:Array Keyed->SortSt->Prop} (hk:kindOf st=oneType') (hA:IntKeys a) (hB:IntKeys b) (sa:cz a) (sb:cz b) (na0:1<=a.size) (nb0:1<=b.size) (first:K b 0<=K a 0) (top:∀ j,j < b.size->K b j<=K a (a.size - 1))
    (h:∀ R g,Fin a b R->Q R (setG st g)):wpS (model prog w) A E s (sI a b) Q st:=by
  have first':∀ i,i < a.size->K b 0<=K a i:=fun i hi=>Int.le_trans first (sa 0 i (Nat.zero_le _) hi)
  have m0:Mh a b #[] (a.size - 1+1) b.size:=⟨by omega,Nat.le_refl _,by rw [List.take_of_length_le (by simp; omega),List.take_of_length_le (by simp)]; simp,.nil,(fun x hx=>by simp at hx),(fun x hx=>by simp at hx)⟩
  obtain ⟨t0,q0,e0⟩:=IntKeys.at hA (show a.size - 1 < a.size by omega)
  have m1:=m0.pushA sa sb e0 (fun _=>top _ (by omega))
  unfold sI
  change wpS _ _ _ _ (bind _ _) _ _
  dsimp only
  refine wpS_bind (wpS_lift (wpAny_rule ⟨rfl,?_⟩))
  refine wpS_bind (ay e0 ?_)
  by_cases ha1:a.size - 1=0
  · rw [if_pos (by simpa using ha1)]
    exact wpS_pure (h _ (gallopOf st) (m1.doneA sa sb ha1))
  rw [if_neg (by simpa using ha1)]
  by_cases hb1:b.size=1
  · rw [if_pos (by simpa using hb1)]
    exact wpS_pure (h _ (gallopOf st) (m1.firstB sa sb hb1 first'))
  rw [if_neg (by simpa using hb1)]
  refine wpS_bind (wpS_get ?_)
  refine wpS_bind (wpS_mono (wpS_forRange (I:=fun x c st'=>∃ g na nb out mg,st'=setG st g/\c=(none,na,nb,out,mg)/\Mh a b out na nb/\1<=na/\2<=nb/\x+1+na+nb<=a.size+b.size)
    (Q:=fun c st'=>∃ R g r,c=(some R,r)/\st'=setG st g/\Fin a b R) ?step ?fin ⟨gallopOf st,a.size - 1,b.size,_,_,rfl,rfl,m1,by omega,by omega,by omega⟩) ?post)
  case post =>
    rintro c st' ⟨R,g,r,rfl,rfl,f⟩
    exact wpS_pure (h R g f)
  case fin =>
    rintro c st' ⟨g,na,nb,out,mg,rfl,rfl,m,h1,h2,h3⟩
    omega
  case step =>
    rintro x c st' _ hx ⟨g,na,nb,out,mg,rfl,rfl,m,h1,h2,h3⟩
    dsimp only
    refine wpS_bind (wpS_mono (wpS_forRange (I:=fun y c st'=>st'=setG st g/\∃ na nb out ac bc,c=(none,na,nb,out,ac,bc)/\Mh a b out na nb/\1<=na/\2<=nb/\x+1+y+na+nb<=a.size+b.size)
      (Q:=fun c st'=>st'=setG st g/\((∃ R r,c=(some R,r)/\Fin a b R)\/∃ na nb out ac bc,c=(none,na,nb,out,ac,bc)/\Mh a b out na nb/\1<=na/\2<=nb/\x+2+na+nb<=a.size+b.size)) ?st1 ?fin1 ⟨rfl,na,nb,out,0,0,rfl,m,h1,h2,by omega⟩) ?post1)
    case fin1 =>
      rintro c st' ⟨rfl,na,nb,out,ac,bc,rfl,m,h1,h2,h3⟩
      exact ⟨rfl,.inr ⟨na,nb,out,ac,bc,rfl,m,h1,h2,by omega⟩⟩
    case st1 =>
      rintro y c st' _ hy ⟨rfl,na,nb,out,ac,bc,rfl,m,h1,h2,h3⟩
      dsimp only
      have haz:=m.ha
      have hbz:=m.hb
      obtain ⟨tb,qb,eb⟩:=IntKeys.at hB (show nb - 1 < b.size by omega)
      obtain ⟨ta,qa,ea⟩:=IntKeys.at hA (show na - 1 < a.size by omega)
      refine wpS_bind (ay eb ?_)
      refine wpS_bind (ay ea ?_)
      refine wpS_bind (oz (st:=setG st g) hk ?_)
      by_cases hw:K b (nb - 1) < K a (na - 1)
      · simp only [hw,decide_true,if_true]
        have m2:Mh a b _ (na - 1) nb:=Mh.pushA (na:=na - 1) (by rw [show na - 1+1=na by omega]; exact m) sa sb ea (fun _=>Int.le_of_lt hw)
        refine wpS_bind (ay ea ?_)
        by_cases h4:na - 1=0
        · rw [if_pos (by simpa using h4)]
          exact wpS_pure ⟨rfl,.inl ⟨_,_,rfl,m2.doneA sa sb h4⟩⟩
        · rw [if_neg (by simpa using h4)]
          split
          · exact wpS_pure ⟨rfl,.inr ⟨_,_,_,_,_,rfl,m2,by omega,by omega,by omega⟩⟩
          · exact wpS_pure ⟨rfl,_,_,_,_,_,rfl,m2,by omega,by omega,by omega⟩
      · simp only [hw,decide_false,Bool.false_eq_true,if_false]
        have m2:Mh a b _ na (nb - 1):=Mh.pushB (nb:=nb - 1) (by rw [show nb - 1+1=nb by omega]; exact m) sa sb eb (fun _=>Int.not_lt.mp hw)
        refine wpS_bind (ay eb ?_)
        by_cases h4:nb - 1=1
        · rw [if_pos (by simpa using h4)]
          exact wpS_pure ⟨rfl,.inl ⟨_,_,rfl,m2.firstB sa sb h4 first'⟩⟩
        · rw [if_neg (by simpa using h4)]
          split
          · exact wpS_pure ⟨rfl,.inr ⟨_,_,_,_,_,rfl,m2,by omega,by omega,by omega⟩⟩
          · exact wpS_pure ⟨rfl,_,_,_,_,_,rfl,m2,by omega,by omega,by omega⟩
    case post1 =>
      rintro c st' ⟨rfl,⟨R,r,rfl,f⟩ | ⟨na,nb,out,ac,bc,rfl,m,h1,h2,h3⟩⟩
      · exact wpS_pure ⟨R,g,_,rfl,rfl,f⟩
      dsimp only
      refine wpS_bind (wpS_lift (wpAny_rule ⟨rfl,?_⟩))
      refine wpS_bind (wpS_mono (wpS_forRange (I:=fun y c st'=>∃ g na nb out mg ac bc,st'=setG st g/\c=(none,na,nb,out,mg,ac,bc)/\Mh a b out na nb/\1<=na/\2<=nb/\x+2+na+nb<=a.size+b.size)
        (Q:=fun c st'=>(∃ R g r,c=(some R,r)/\st'=setG st g/\Fin a b R)\/∃ g na nb out mg ac bc,st'=setG st g/\c=(none,na,nb,out,mg,ac,bc)/\Mh a b out na nb/\1<=na/\2<=nb/\x+2+na+nb<=a.size+b.size) ?st2 ?fin2 ⟨g,na,nb,out,_,ac,bc,rfl,rfl,m,h1,h2,h3⟩) ?post2)
      case fin2 =>
        rintro c st' ⟨g,na,nb,out,mg,ac,bc,rfl,rfl,m,h1,h2,h3⟩
        exact .inr ⟨g,na,nb,out,mg,ac,bc,rfl,rfl,m,h1,h2,h3⟩
      case post2 =>
        rintro c st' (⟨R,g,r,rfl,rfl,f⟩ | ⟨g,na,nb,out,mg,ac,bc,rfl,rfl,m,h1,h2,h3⟩)
        · exact wpS_pure ⟨R,g,_,rfl,rfl,f⟩
        · dsimp only
          refine wpS_bind (gQ ?_)
          exact wpS_pure ⟨mg+1,na,nb,out,mg+1,rfl,rfl,m,h1,h2,by omega⟩
      case st2 =>
        rintro y c st' _ hy ⟨g,na,nb,out,mg,ac,bc,rfl,rfl,m,h1,hib,h3⟩
        dsimp only
        by_cases hmg:mg > 1
        · rw [if_pos hmg]
          have hbz:nb<=b.size:=m.hb
          have haz:na<=a.size:=m.ha
          obtain ⟨tb,qb,eb⟩:=IntKeys.at hB (show nb - 1 < b.size by omega)
          refine wpS_bind (gQ ?_)
          show wpS _ _ _ _ _ _ (setG st (mg - 1))
          obtain ⟨gg,egg⟩:∃ gg,(mg - 1)=gg:=⟨_,rfl⟩
          rw [egg]
          refine wpS_bind (ay eb ?_)
          refine wpS_bind (bD (st:=setG st gg) hk hA (by omega) (by omega) (fun i j h6 h7=>sa _ _ (by omega) (by omega)) fun k kn low high=>?_)
          simp only [Nat.zero_add] at low high
          dsimp only
          by_cases hk1:na - k > 0
          · rw [if_pos hk1]
            have m1:=Mh.takeA sa sb (na - k) m k (by omega) (fun i hi hj _=>by have:=high i hi hj; unfold bR at this; simp at this; omega)
            by_cases h2:k=0
            · rw [if_pos (by simpa using h2)]
              exact wpS_pure (.inl ⟨_,_,_,rfl,rfl,m1.doneA sa sb h2⟩)
            · rw [if_neg (by simpa using h2)]
              have m2:Mh a b _ (k) (nb - 1):=Mh.pushB (nb:=nb - 1) (by rw [show nb - 1+1=nb by omega]; exact m1) sa sb eb (fun z=>by have:=low (k - 1) (by omega); unfold bR at this; simp at this; omega)
              have la:k<=a.size:=m2.ha
              obtain ⟨ta,qa,ea2⟩:=IntKeys.at hA (show k - 1 < a.size by omega)
              refine wpS_bind (ay eb ?_)
              by_cases h4:nb - 1=1
              · rw [if_pos (by simpa using h4)]
                exact wpS_pure (.inl ⟨_,_,_,rfl,rfl,m2.firstB sa sb h4 first'⟩)
              · rw [if_neg (by simpa using h4)]
                refine wpS_bind (ay ea2 ?_)
                refine wpS_bind (bD (st:=setG st gg) hk hB (by omega) (by omega) (fun i j h6 h7=>sb _ _ (by omega) (by omega)) fun k2 k2n low2 high2=>?_)
                simp only [Nat.zero_add] at low2 high2
                dsimp only
                by_cases hk2:nb - 1 - k2 > 0
                · rw [if_pos hk2]
                  have m2':=Mh.takeB sa sb (nb - 1 - k2) m2 k2 (by omega) (fun i hi hj _=>Int.not_lt.mp (of_decide_eq_false (high2 i hi hj)))
                  by_cases h8:k2=1
                  · rw [if_pos (by simpa using h8)]
                    exact wpS_pure (.inl ⟨_,_,_,rfl,rfl,m2'.firstB sa sb h8 first'⟩)
                  · rw [if_neg (by simpa using h8)]
                    by_cases h9:k2=0
                    · rw [if_pos (by simpa using h9)]
                      exact wpS_pure (.inl ⟨_,_,_,rfl,rfl,m2'.doneB sa sb h9⟩)
                    · rw [if_neg (by simpa using h9)]
                      have m3:Mh a b _ (k - 1) (k2):=Mh.pushA (na:=k - 1) (by rw [show k - 1+1=k by omega]; exact m2') sa sb ea2 (fun z=>Int.le_of_lt (of_decide_eq_true (low2 (k2 - 1) (by omega))))
                      refine wpS_bind (ay ea2 ?_)
                      by_cases h5:k - 1=0
                      · rw [if_pos (by simpa using h5)]
                        exact wpS_pure (.inl ⟨_,_,_,rfl,rfl,m3.doneA sa sb h5⟩)
                      · rw [if_neg (by simpa using h5)]
                        split
                        · exact wpS_pure (.inr ⟨_,_,_,_,_,_,_,rfl,rfl,m3,by omega,by omega,by omega⟩)
                        · exact wpS_pure ⟨_,_,_,_,_,_,_,rfl,rfl,m3,by omega,by omega,by omega⟩
                · rw [if_neg hk2]
                  have m3:Mh a b _ (k - 1) (nb - 1):=Mh.pushA (na:=k - 1) (by rw [show k - 1+1=k by omega]; exact m2) sa sb ea2 (fun z=>Int.le_of_lt (of_decide_eq_true (low2 (nb - 1 - 1) (by omega))))
                  refine wpS_bind (ay ea2 ?_)
                  by_cases h5:k - 1=0
                  · rw [if_pos (by simpa using h5)]
                    exact wpS_pure (.inl ⟨_,_,_,rfl,rfl,m3.doneA sa sb h5⟩)
                  · rw [if_neg (by simpa using h5)]
                    split
                    · exact wpS_pure (.inr ⟨_,_,_,_,_,_,_,rfl,rfl,m3,by omega,by omega,by omega⟩)
                    · exact wpS_pure ⟨_,_,_,_,_,_,_,rfl,rfl,m3,by omega,by omega,by omega⟩
          · rw [if_neg hk1]
            have m2:Mh a b _ (na) (nb - 1):=Mh.pushB (nb:=nb - 1) (by rw [show nb - 1+1=nb by omega]; exact m) sa sb eb (fun z=>by have:=low (na - 1) (by omega); unfold bR at this; simp at this; omega)
            have la:na<=a.size:=m2.ha
            obtain ⟨ta,qa,ea2⟩:=IntKeys.at hA (show na - 1 < a.size by omega)
            refine wpS_bind (ay eb ?_)
            by_cases h4:nb - 1=1
            · rw [if_pos (by simpa using h4)]
              exact wpS_pure (.inl ⟨_,_,_,rfl,rfl,m2.firstB sa sb h4 first'⟩)
            · rw [if_neg (by simpa using h4)]
              refine wpS_bind (ay ea2 ?_)
              refine wpS_bind (bD (st:=setG st gg) hk hB (by omega) (by omega) (fun i j h6 h7=>sb _ _ (by omega) (by omega)) fun k2 k2n low2 high2=>?_)
              simp only [Nat.zero_add] at low2 high2
              dsimp only
              by_cases hk2:nb - 1 - k2 > 0
              · rw [if_pos hk2]
                have m2':=Mh.takeB sa sb (nb - 1 - k2) m2 k2 (by omega) (fun i hi hj _=>Int.not_lt.mp (of_decide_eq_false (high2 i hi hj)))
                by_cases h8:k2=1
                · rw [if_pos (by simpa using h8)]
                  exact wpS_pure (.inl ⟨_,_,_,rfl,rfl,m2'.firstB sa sb h8 first'⟩)
                · rw [if_neg (by simpa using h8)]
                  by_cases h9:k2=0
                  · rw [if_pos (by simpa using h9)]
                    exact wpS_pure (.inl ⟨_,_,_,rfl,rfl,m2'.doneB sa sb h9⟩)
                  · rw [if_neg (by simpa using h9)]
                    have m3:Mh a b _ (na - 1) (k2):=Mh.pushA (na:=na - 1) (by rw [show na - 1+1=na by omega]; exact m2') sa sb ea2 (fun z=>Int.le_of_lt (of_decide_eq_true (low2 (k2 - 1) (by omega))))
                    refine wpS_bind (ay ea2 ?_)
                    by_cases h5:na - 1=0
                    · rw [if_pos (by simpa using h5)]
                      exact wpS_pure (.inl ⟨_,_,_,rfl,rfl,m3.doneA sa sb h5⟩)
                    · rw [if_neg (by simpa using h5)]
                      split
                      · exact wpS_pure (.inr ⟨_,_,_,_,_,_,_,rfl,rfl,m3,by omega,by omega,by omega⟩)
                      · exact wpS_pure ⟨_,_,_,_,_,_,_,rfl,rfl,m3,by omega,by omega,by omega⟩
              · rw [if_neg hk2]
                have m3:Mh a b _ (na - 1) (nb - 1):=Mh.pushA (na:=na - 1) (by rw [show na - 1+1=na by omega]; exact m2) sa sb ea2 (fun z=>Int.le_of_lt (of_decide_eq_true (low2 (nb - 1 - 1) (by omega))))
                refine wpS_bind (ay ea2 ?_)
                by_cases h5:na - 1=0
                · rw [if_pos (by simpa using h5)]
                  exact wpS_pure (.inl ⟨_,_,_,rfl,rfl,m3.doneA sa sb h5⟩)
                · rw [if_neg (by simpa using h5)]
                  split
                  · exact wpS_pure (.inr ⟨_,_,_,_,_,_,_,rfl,rfl,m3,by omega,by omega,by omega⟩)
                  · exact wpS_pure ⟨_,_,_,_,_,_,_,rfl,rfl,m3,by omega,by omega,by omega⟩
        · rw [if_neg hmg]
          have hbz:nb<=b.size:=m.hb
          have haz:na<=a.size:=m.ha
          obtain ⟨tb,qb,eb⟩:=IntKeys.at hB (show nb - 1 < b.size by omega)
          refine wpS_bind (gQ ?_)
          show wpS _ _ _ _ _ _ (setG st mg)
          obtain ⟨gg,egg⟩:∃ gg,mg=gg:=⟨_,rfl⟩
          rw [egg]
          refine wpS_bind (ay eb ?_)
          refine wpS_bind (bD (st:=setG st gg) hk hA (by omega) (by omega) (fun i j h6 h7=>sa _ _ (by omega) (by omega)) fun k kn low high=>?_)
          simp only [Nat.zero_add] at low high
          dsimp only
          by_cases hk1:na - k > 0
          · rw [if_pos hk1]
            have m1:=Mh.takeA sa sb (na - k) m k (by omega) (fun i hi hj _=>by have:=high i hi hj; unfold bR at this; simp at this; omega)
            by_cases h2:k=0
            · rw [if_pos (by simpa using h2)]
              exact wpS_pure (.inl ⟨_,_,_,rfl,rfl,m1.doneA sa sb h2⟩)
            · rw [if_neg (by simpa using h2)]
              have m2:Mh a b _ (k) (nb - 1):=Mh.pushB (nb:=nb - 1) (by rw [show nb - 1+1=nb by omega]; exact m1) sa sb eb (fun z=>by have:=low (k - 1) (by omega); unfold bR at this; simp at this; omega)
              have la:k<=a.size:=m2.ha
              obtain ⟨ta,qa,ea2⟩:=IntKeys.at hA (show k - 1 < a.size by omega)
              refine wpS_bind (ay eb ?_)
              by_cases h4:nb - 1=1
              · rw [if_pos (by simpa using h4)]
                exact wpS_pure (.inl ⟨_,_,_,rfl,rfl,m2.firstB sa sb h4 first'⟩)
              · rw [if_neg (by simpa using h4)]
                refine wpS_bind (ay ea2 ?_)
                refine wpS_bind (bD (st:=setG st gg) hk hB (by omega) (by omega) (fun i j h6 h7=>sb _ _ (by omega) (by omega)) fun k2 k2n low2 high2=>?_)
                simp only [Nat.zero_add] at low2 high2
                dsimp only
                by_cases hk2:nb - 1 - k2 > 0
                · rw [if_pos hk2]
                  have m2':=Mh.takeB sa sb (nb - 1 - k2) m2 k2 (by omega) (fun i hi hj _=>Int.not_lt.mp (of_decide_eq_false (high2 i hi hj)))
                  by_cases h8:k2=1
                  · rw [if_pos (by simpa using h8)]
                    exact wpS_pure (.inl ⟨_,_,_,rfl,rfl,m2'.firstB sa sb h8 first'⟩)
                  · rw [if_neg (by simpa using h8)]
                    by_cases h9:k2=0
                    · rw [if_pos (by simpa using h9)]
                      exact wpS_pure (.inl ⟨_,_,_,rfl,rfl,m2'.doneB sa sb h9⟩)
                    · rw [if_neg (by simpa using h9)]
                      have m3:Mh a b _ (k - 1) (k2):=Mh.pushA (na:=k - 1) (by rw [show k - 1+1=k by omega]; exact m2') sa sb ea2 (fun z=>Int.le_of_lt (of_decide_eq_true (low2 (k2 - 1) (by omega))))
                      refine wpS_bind (ay ea2 ?_)
                      by_cases h5:k - 1=0
                      · rw [if_pos (by simpa using h5)]
                        exact wpS_pure (.inl ⟨_,_,_,rfl,rfl,m3.doneA sa sb h5⟩)
                      · rw [if_neg (by simpa using h5)]
                        split
                        · exact wpS_pure (.inr ⟨_,_,_,_,_,_,_,rfl,rfl,m3,by omega,by omega,by omega⟩)
                        · exact wpS_pure ⟨_,_,_,_,_,_,_,rfl,rfl,m3,by omega,by omega,by omega⟩
                · rw [if_neg hk2]
                  have m3:Mh a b _ (k - 1) (nb - 1):=Mh.pushA (na:=k - 1) (by rw [show k - 1+1=k by omega]; exact m2) sa sb ea2 (fun z=>Int.le_of_lt (of_decide_eq_true (low2 (nb - 1 - 1) (by omega))))
                  refine wpS_bind (ay ea2 ?_)
                  by_cases h5:k - 1=0
                  · rw [if_pos (by simpa using h5)]
                    exact wpS_pure (.inl ⟨_,_,_,rfl,rfl,m3.doneA sa sb h5⟩)
                  · rw [if_neg (by simpa using h5)]
                    split
                    · exact wpS_pure (.inr ⟨_,_,_,_,_,_,_,rfl,rfl,m3,by omega,by omega,by omega⟩)
                    · exact wpS_pure ⟨_,_,_,_,_,_,_,rfl,rfl,m3,by omega,by omega,by omega⟩
          · rw [if_neg hk1]
            have m2:Mh a b _ (na) (nb - 1):=Mh.pushB (nb:=nb - 1) (by rw [show nb - 1+1=nb by omega]; exact m) sa sb eb (fun z=>by have:=low (na - 1) (by omega); unfold bR at this; simp at this; omega)
            have la:na<=a.size:=m2.ha
            obtain ⟨ta,qa,ea2⟩:=IntKeys.at hA (show na - 1 < a.size by omega)
            refine wpS_bind (ay eb ?_)
            by_cases h4:nb - 1=1
            · rw [if_pos (by simpa using h4)]
              exact wpS_pure (.inl ⟨_,_,_,rfl,rfl,m2.firstB sa sb h4 first'⟩)
            · rw [if_neg (by simpa using h4)]
              refine wpS_bind (ay ea2 ?_)
              refine wpS_bind (bD (st:=setG st gg) hk hB (by omega) (by omega) (fun i j h6 h7=>sb _ _ (by omega) (by omega)) fun k2 k2n low2 high2=>?_)
              simp only [Nat.zero_add] at low2 high2
              dsimp only
              by_cases hk2:nb - 1 - k2 > 0
              · rw [if_pos hk2]
                have m2':=Mh.takeB sa sb (nb - 1 - k2) m2 k2 (by omega) (fun i hi hj _=>Int.not_lt.mp (of_decide_eq_false (high2 i hi hj)))
                by_cases h8:k2=1
                · rw [if_pos (by simpa using h8)]
                  exact wpS_pure (.inl ⟨_,_,_,rfl,rfl,m2'.firstB sa sb h8 first'⟩)
                · rw [if_neg (by simpa using h8)]
                  by_cases h9:k2=0
                  · rw [if_pos (by simpa using h9)]
                    exact wpS_pure (.inl ⟨_,_,_,rfl,rfl,m2'.doneB sa sb h9⟩)
                  · rw [if_neg (by simpa using h9)]
                    have m3:Mh a b _ (na - 1) (k2):=Mh.pushA (na:=na - 1) (by rw [show na - 1+1=na by omega]; exact m2') sa sb ea2 (fun z=>Int.le_of_lt (of_decide_eq_true (low2 (k2 - 1) (by omega))))
                    refine wpS_bind (ay ea2 ?_)
                    by_cases h5:na - 1=0
                    · rw [if_pos (by simpa using h5)]
                      exact wpS_pure (.inl ⟨_,_,_,rfl,rfl,m3.doneA sa sb h5⟩)
                    · rw [if_neg (by simpa using h5)]
                      split
                      · exact wpS_pure (.inr ⟨_,_,_,_,_,_,_,rfl,rfl,m3,by omega,by omega,by omega⟩)
                      · exact wpS_pure ⟨_,_,_,_,_,_,_,rfl,rfl,m3,by omega,by omega,by omega⟩
              · rw [if_neg hk2]
                have m3:Mh a b _ (na - 1) (nb - 1):=Mh.pushA (na:=na - 1) (by rw [show na - 1+1=na by omega]; exact m2) sa sb ea2 (fun z=>Int.le_of_lt (of_decide_eq_true (low2 (nb - 1 - 1) (by omega))))
                refine wpS_bind (ay ea2 ?_)
                by_cases h5:na - 1=0
                · rw [if_pos (by simpa using h5)]
                  exact wpS_pure (.inl ⟨_,_,_,rfl,rfl,m3.doneA sa sb h5⟩)
                · rw [if_neg (by simpa using h5)]
                  split
                  · exact wpS_pure (.inr ⟨_,_,_,_,_,_,_,rfl,rfl,m3,by omega,by omega,by omega⟩)
                  · exact wpS_pure ⟨_,_,_,_,_,_,_,rfl,rfl,m3,by omega,by omega,by omega⟩
end
theorem rj:∀ (l:List Keyed) (n:Nat) (xs:Array Keyed) (pos:Nat),pos+n+l.length<=xs.size->((l.zipIdx n).foldl (fun a x=>a.setIfInBounds (pos+x.2) x.1) xs).toList=xs.toList.take (pos+n)++(l++xs.toList.drop (pos+n+l.length))
  | [],n,xs,pos,h=>by simp
  | p::l,n,xs,pos,h=>by
    have hl:(p::l).length=l.length+1:=rfl
    rw [hl] at h |-
    rw [List.zipIdx_cons,List.foldl_cons]
    have ih:=rj l (n+1) (xs.setIfInBounds (pos+n) p) pos (by rw [Array.size_setIfInBounds]; omega)
    rw [ih,Array.toList_setIfInBounds]
    have hlen:xs.toList.length=xs.size:=by simp
    rw [show pos+(n+1)=pos+n+1 by omega,List.take_set,List.drop_set_of_lt (by omega)]
    rw [List.take_succ_eq_append_getElem (by omega),List.set_append_right _ _ (by rw [List.length_take]; omega)]
    rw [show pos+n - (xs.toList.take (pos+n)).length=0 by rw [List.length_take]; omega]
    show (xs.toList.take (pos+n)++[p])++(l++_)=_
    rw [List.append_assoc,show pos+n+1+l.length=pos+n+(l.length+1) by omega]
    rfl
theorem jv {xs:Array Keyed} {lo m:Nat} {z:Keyed} (h:z∈(xs.toList.drop lo).take m):∃ i,lo<=i/\i < lo+m/\i < xs.size/\key z=K xs i:=by
  obtain ⟨j,hj⟩:=List.getElem?_of_mem h
  have hjl:=(List.getElem?_eq_some_iff.mp hj).1
  rw [List.length_take,List.length_drop] at hjl
  have hlen:xs.toList.length=xs.size:=by simp
  rw [List.getElem?_take_of_lt (by omega),List.getElem?_drop] at hj
  refine ⟨lo+j,by omega,by omega,by omega,?_⟩
  rw [j6 (p:=z) (by rw [<- Array.getElem?_toList]; exact hj)]
theorem uR {xs:Array Keyed} {lo m:Nat} (h:∀ i j,lo<=i->i<=j->j < lo+m->j < xs.size->K xs i<=K xs j):(((xs.toList.drop lo).take m).map key).Pairwise (·<=·):=by
  rw [List.pairwise_iff_getElem]
  intro p q hp hq hpq
  have hlen:xs.toList.length=xs.size:=by simp
  have hq':=hq
  rw [List.length_map,List.length_take,List.length_drop] at hq'
  have e:∀ r (hr:r < (((xs.toList.drop lo).take m).map key).length),(((xs.toList.drop lo).take m).map key)[r]=K xs (lo+r):=by
    intro r hr
    have hr':=hr
    rw [List.length_map,List.length_take,List.length_drop] at hr'
    rw [List.getElem_map,List.getElem_take,List.getElem_drop]
    have hz:lo+r < xs.size:=by omega
    rw [j6 (p:=xs[lo+r]) (Array.getElem?_eq_getElem hz)]
    rfl
  rw [e p hp,e q hq]
  exact h _ _ (by omega) (by omega) (by omega) (by omega)
theorem AM {xs:Array Keyed} (h:(xs.toList.map key).Pairwise (·<=·)):cz xs:=by
  intro i j hij hj
  by_cases e:i=j
  · subst e; exact Int.le_refl _
  · rw [List.pairwise_iff_getElem] at h
    have hj':j < (xs.toList.map key).length:=by simpa using hj
    have h3:=h i j (by omega) hj' (by omega)
    rw [List.getElem_map,List.getElem_map] at h3
    rw [j6 (p:=xs[i]'(by omega)) (Array.getElem?_eq_getElem _),j6 (p:=xs[j]) (Array.getElem?_eq_getElem _)]
    simpa using h3
theorem nG (xs:Array Keyed) (lo hi:Nat):(xs.extract lo hi).toList=(xs.toList.drop lo).take (hi - lo):=by
  rw [Array.toList_extract,List.extract_eq_take_drop]
theorem zB {xs:Array Keyed} {lo hi i:Nat} (h:lo+i < hi) (hz:hi<=xs.size):K (xs.extract lo hi) i=K xs (lo+i):=by
  refine K_congr ?_
  rw [Array.getElem?_extract_of_lt (by omega)]
  exact (Array.getElem?_eq_getElem (by omega)).symm
theorem sF {xs:Array Keyed} (h:IntKeys xs) (lo hi:Nat):IntKeys (xs.extract lo hi):=fun p hp=>by
  rw [nG] at hp
  exact h p (List.mem_of_mem_drop (List.mem_of_mem_take hp))
section
variable {prog:Program} {w:World} {A:Around} {E:Value->Shared->Prop} {s:Shared}
theorem Ab {σ:Type} {M:Model} {st st':σ} {Q:PUnit->σ->Prop} (h:Q ⟨⟩ st'):wpS M A E s (set st':StateT σ Sem PUnit) Q st:=by
  unfold wpS; rw [StateT.run_set]; exact wpAny_pure ⟨rfl,h⟩
theorem uq {st:SortSt} {Q:Bool->SortSt->Prop} {n1 n2 pw:Nat} (hk:kindOf st=oneType') (hI:IntKeys (arrOf st)) (hf:failedOf st=none) (hp:pendingOf st = #[(0,n1,pw),(n1,n2,0)]) (hz:(arrOf st).size=n1+n2) (h1:1<=n1) (h2:1<=n2)
    (s1:∀ i j,i<=j->j < n1->K (arrOf st) i<=K (arrOf st) j) (s2:∀ i j,n1<=i->i<=j->j < n1+n2->K (arrOf st) i<=K (arrOf st) j)
    (h:∀ st',failedOf st'=none->pendingOf st' = #[(0,n1+n2,pw)]->(arrOf st').Perm (arrOf st)->cz (arrOf st')->Q true st'):wpS (model prog w) A E s (mergeAt' 0) Q st:=by
  have both:∀ c:Nat,c < n1->(∀ i,i < n1->K (arrOf st) i<=K (arrOf st) n1)->cz (arrOf st):=fun c _ hc i j hij hj=>by
    rw [hz] at hj
    by_cases z1:j < n1
    · exact s1 i j hij z1
    · by_cases z2:n1<=i
      · exact s2 i j z2 hij hj
      · exact Int.le_trans (hc i (by omega)) (s2 n1 j (Nat.le_refl _) (by omega) hj)
  unfold mergeAt'
  change wpS _ _ _ _ (bind _ _) _ _
  refine wpS_bind (wpS_get ?_)
  dsimp only
  have hp':(sortPriv% PySem.Builtin.SortState.pending) st = #[(0,n1,pw),(n1,n2,0)]:=hp
  rw [hp']
  have ha':∀ z:SortSt,(sortPriv% PySem.Builtin.SortState.a) z=arrOf z:=fun _=>rfl
  simp only [ha']
  have ep:((#[(0,n1,pw),(n1,n2,0)]:Array (Nat × Nat × Nat)).setIfInBounds 0 (0,n1+n2,pw)).eraseIdxIfInBounds (0+1) = #[(0,n1+n2,pw)]:=by simp [Array.eraseIdxIfInBounds]
  show wpS _ _ _ _ (do
    set (setPending st (((#[(0,n1,pw),(n1,n2,0)]:Array (Nat × Nat × Nat)).setIfInBounds 0 (0,n1+n2,pw)).eraseIdxIfInBounds (0+1)))
    _) _ _
  rw [ep]
  refine wpS_bind (Ab ?_)
  obtain ⟨tb,qb,eb⟩:=IntKeys.at hI (show n1 < (arrOf st).size by omega)
  refine wpS_bind (ay eb ?_)
  refine wpS_bind (bD (st:=setPending st #[(0,n1+n2,pw)]) hk hI (by omega) (by omega) (fun i j h6 h7=>by rw [Nat.zero_add,Nat.zero_add]; exact s1 _ _ h6 h7) fun k kn low high=>?_)
  simp only [Nat.zero_add] at low high
  dsimp only
  have lowK:∀ i,i < k->K (arrOf st) i<=K (arrOf st) n1:=fun i hi=>by have:=low i hi; unfold bR at this; simp at this; omega
  by_cases hk0:n1 - k=0
  · rw [if_pos (by simpa using hk0)]
    exact wpS_pure (h _ hf rfl (Array.Perm.refl _) (both 0 (by omega) fun i hi=>lowK i (by omega)))
  rw [if_neg (by simpa using hk0)]
  have highK:K (arrOf st) n1 < K (arrOf st) k:=by have:=high k (Nat.le_refl _) (by omega); unfold bR at this; simp at this; omega
  obtain ⟨ta,qa,ea⟩:=IntKeys.at hI (show n1 - 1 < (arrOf st).size by omega)
  rw [show 0+k+(n1 - k) - 1=n1 - 1 by omega]
  refine wpS_bind (ay ea ?_)
  refine wpS_bind (bD (st:=setPending st #[(0,n1+n2,pw)]) hk hI (by omega) (by omega) (fun i j h6 h7=>s2 _ _ (by omega) (by omega) (by omega)) fun nb nbn low2 high2=>?_)
  dsimp only
  by_cases hb0:nb=0
  · rw [if_pos (by simpa using hb0)]
    subst hb0
    have hh:K (arrOf st) (n1 - 1)<=K (arrOf st) n1:=Int.not_lt.mp (of_decide_eq_false (high2 0 (Nat.le_refl _) (by omega)))
    exact wpS_pure (h _ hf rfl (Array.Perm.refl _) (both 0 (by omega) fun i hi=>Int.le_trans (s1 i (n1 - 1) (by omega) (by omega)) hh))
  rw [if_neg (by simpa using hb0)]
  have lowB:∀ j,j < nb->K (arrOf st) (n1+j) < K (arrOf st) (n1 - 1):=fun j hj=>of_decide_eq_true (low2 j hj)
  have hX:=sF hI (0+k) n1
  have hY:=sF hI n1 (n1+nb)
  have zx:((arrOf st).extract (0+k) n1).size=n1 - k:=by rw [Array.size_extract]; omega
  have zy:((arrOf st).extract n1 (n1+nb)).size=nb:=by rw [Array.size_extract]; omega
  have kx:∀ i,i < n1 - k->K ((arrOf st).extract (0+k) n1) i=K (arrOf st) (k+i):=fun i hi=>by rw [zB (by omega) (by omega),Nat.zero_add]
  have ky:∀ j,j < nb->K ((arrOf st).extract n1 (n1+nb)) j=K (arrOf st) (n1+j):=fun j hj=>zB (by omega) (by omega)
  have sx:cz ((arrOf st).extract (0+k) n1):=fun i j hij hj=>by
    rw [zx] at hj
    rw [kx i (by omega),kx j hj]
    exact s1 _ _ (by omega) (by omega)
  have sy:cz ((arrOf st).extract n1 (n1+nb)):=fun i j hij hj=>by
    rw [zy] at hj
    rw [ky i (by omega),ky j hj]
    exact s2 _ _ (by omega) (by omega) (by omega)
  have fst':K ((arrOf st).extract n1 (n1+nb)) 0<=K ((arrOf st).extract (0+k) n1) 0:=by
    rw [ky 0 (by omega),kx 0 (by omega)]
    exact Int.le_of_lt highK
  have top':∀ j,j < ((arrOf st).extract n1 (n1+nb)).size->K ((arrOf st).extract n1 (n1+nb)) j<=K ((arrOf st).extract (0+k) n1) (((arrOf st).extract (0+k) n1).size - 1):=fun j hj=>by
    rw [zy] at hj
    rw [zx,ky j hj,kx _ (by omega),show k+(n1 - k - 1)=n1 - 1 by omega]
    exact Int.le_of_lt (lowB j hj)
  have done:∀ R g,Fin ((arrOf st).extract (0+k) n1) ((arrOf st).extract n1 (n1+nb)) R->Q true (setArr (setG (setPending st #[(0,n1+n2,pw)]) g) (R.toList.zipIdx.foldl (fun a x=>a.setIfInBounds (0+k+x.2) x.1) (arrOf st))):=by
    intro R g f
    have lx:((arrOf st).extract (0+k) n1).toList.length=n1 - k:=by rw [Array.length_toList]; exact zx
    have lyy:((arrOf st).extract n1 (n1+nb)).toList.length=nb:=by rw [Array.length_toList]; exact zy
    have lR:R.toList.length=n1 - k+nb:=by rw [f.1.length_eq,List.length_append,lx,lyy]
    have e1:=rj R.toList 0 (arrOf st) (0+k) (by rw [lR]; omega)
    rw [lR,show 0+k+0=k by omega,show k+(n1 - k+nb)=n1+nb by omega] at e1
    have ex:=nG (arrOf st) (0+k) n1
    have ey:=nG (arrOf st) n1 (n1+nb)
    rw [show n1+nb - n1=nb by omega] at ey
    rw [Nat.zero_add] at ex
    have e2:(arrOf st).toList=(arrOf st).toList.take k++((((arrOf st).toList.drop k).take (n1 - k)++((arrOf st).toList.drop n1).take nb)++(arrOf st).toList.drop (n1+nb)):=by
      rw [List.append_assoc]
      conv=>lhs; rw [<- List.take_append_drop k (arrOf st).toList]
      congr 1
      conv=>lhs; rw [<- List.take_append_drop (n1 - k) ((arrOf st).toList.drop k)]
      rw [List.drop_drop,show k+(n1 - k)=n1 by omega]
      congr 1
      conv=>lhs; rw [<- List.take_append_drop nb ((arrOf st).toList.drop n1)]
      rw [List.drop_drop]
    have fp:=f.1
    rw [Nat.zero_add,ex,ey] at fp
    refine h _ hf rfl ?_ (AM ?_)
    · refine Array.perm_iff_toList_perm.mpr ?_
      show (R.toList.zipIdx.foldl (fun a x=>a.setIfInBounds (0+k+x.2) x.1) (arrOf st)).toList.Perm _
      rw [e1]
      conv=>rhs; rw [e2]
      exact List.Perm.append_left _ (List.Perm.append_right _ fp)
    · show ((R.toList.zipIdx.foldl (fun a x=>a.setIfInBounds (0+k+x.2) x.1) (arrOf st)).toList.map key).Pairwise _
      rw [e1,List.map_append,List.map_append,List.pairwise_append,List.pairwise_append]
      have pP:(((arrOf st).toList.take k).map key).Pairwise (·<=·):=by
        have:=uR (xs:=arrOf st) (lo:=0) (m:=k) (fun i j _ hij hj _=>s1 i j hij (by omega))
        rw [List.drop_zero] at this
        exact this
      have hlen:(arrOf st).toList.length=n1+n2:=by simpa using hz
      have eS:(arrOf st).toList.drop (n1+nb)=((arrOf st).toList.drop (n1+nb)).take (n1+n2):=by rw [List.take_of_length_le (by rw [List.length_drop]; omega)]
      have pS:(((arrOf st).toList.drop (n1+nb)).map key).Pairwise (·<=·):=by
        rw [eS]
        exact uR (fun i j hi hij _ hj=>s2 i j (by omega) hij (by omega))
      have inR:∀ z∈R.toList,(∃ i,k<=i/\i < n1/\key z=K (arrOf st) i)\/∃ j,n1<=j/\j < n1+nb/\key z=K (arrOf st) j:=fun z hz'=>by
        have:=fp.mem_iff.mp hz'
        rw [List.mem_append] at this
        rcases this with this | this
        · obtain ⟨i,a1,a2,_,a4⟩:=jv this
          exact .inl ⟨i,a1,by omega,a4⟩
        · obtain ⟨i,a1,a2,_,a4⟩:=jv this
          exact .inr ⟨i,a1,a2,a4⟩
      have inP:∀ z∈(arrOf st).toList.take k,∃ i,i < k/\key z=K (arrOf st) i:=fun z hz'=>by
        obtain ⟨i,_,a2,_,a4⟩:=jv (lo:=0) (m:=k) (by rw [List.drop_zero]; exact hz')
        exact ⟨i,by omega,a4⟩
      have inS:∀ z∈(arrOf st).toList.drop (n1+nb),∃ i,n1+nb<=i/\i < n1+n2/\key z=K (arrOf st) i:=fun z hz'=>by
        rw [eS] at hz'
        obtain ⟨i,a1,_,a3,a4⟩:=jv hz'
        exact ⟨i,a1,by omega,a4⟩
      have RS:∀ x∈R.toList.map key,∀ y∈((arrOf st).toList.drop (n1+nb)).map key,x<=y:=by
        intro x hx y hy
        obtain ⟨p,hp',rfl⟩:=List.mem_map.mp hx
        obtain ⟨q,hq',rfl⟩:=List.mem_map.mp hy
        obtain ⟨j,j1,j2,ej⟩:=inS q hq'
        rw [ej]
        have hh:K (arrOf st) (n1 - 1)<=K (arrOf st) (n1+nb):=by
          exact Int.not_lt.mp (of_decide_eq_false (high2 nb (Nat.le_refl _) (by omega)))
        rcases inR p hp' with ⟨i,i1,i2,ei⟩ | ⟨i,i1,i2,ei⟩
        · rw [ei]
          exact Int.le_trans (s1 i (n1 - 1) (by omega) (by omega)) (Int.le_trans hh (s2 _ _ (by omega) j1 j2))
        · rw [ei]
          exact s2 _ _ i1 (by omega) j2
      refine ⟨pP,⟨f.2,pS,RS⟩,fun x hx y hy=>?_⟩
      obtain ⟨p,hp',rfl⟩:=List.mem_map.mp hx
      obtain ⟨i,i1,ei⟩:=inP p hp'
      rw [ei]
      rw [List.mem_append] at hy
      rcases hy with hy | hy
      · obtain ⟨q,hq',rfl⟩:=List.mem_map.mp hy
        rcases inR q hq' with ⟨j,j1,j2,ej⟩ | ⟨j,j1,j2,ej⟩
        · rw [ej]; exact s1 _ _ (by omega) j2
        · rw [ej]; exact Int.le_trans (lowK i i1) (s2 _ _ (Nat.le_refl _) j1 (by omega))
      · obtain ⟨q,hq',rfl⟩:=List.mem_map.mp hy
        obtain ⟨j,j1,j2,ej⟩:=inS q hq'
        rw [ej]
        exact Int.le_trans (lowK i i1) (s2 _ _ (Nat.le_refl _) (by omega) j2)
  by_cases hle:n1 - k<=nb
  · rw [if_pos hle]
    refine wpS_bind (uw (st:=setPending st #[(0,n1+n2,pw)]) hk hX hY sx sy (by omega) (by omega) fst' top' fun R g f=>?_)
    refine wpS_bind (wpS_modify ?_)
    refine wpS_bind (wpS_get ?_)
    refine wpS_pure ?_
    have ef:(failedOf (setArr (setG (setPending st #[(0,n1+n2,pw)]) g) (R.toList.zipIdx.foldl (fun a x=>a.setIfInBounds (0+k+x.2) x.1) (arrOf st)))).isNone=true:=by
      show (failedOf st).isNone=true
      rw [hf]; rfl
    show Q (failedOf (setArr (setG (setPending st #[(0,n1+n2,pw)]) g) (R.toList.zipIdx.foldl (fun a x=>a.setIfInBounds (0+k+x.2) x.1) (arrOf st)))).isNone _
    rw [ef]
    exact done R g f
  · rw [if_neg hle]
    refine wpS_bind (uj (st:=setPending st #[(0,n1+n2,pw)]) hk hX hY sx sy (by omega) (by omega) fst' top' fun R g f=>?_)
    refine wpS_bind (wpS_modify ?_)
    refine wpS_bind (wpS_get ?_)
    refine wpS_pure ?_
    have ef:(failedOf (setArr (setG (setPending st #[(0,n1+n2,pw)]) g) (R.toList.zipIdx.foldl (fun a x=>a.setIfInBounds (0+k+x.2) x.1) (arrOf st)))).isNone=true:=by
      show (failedOf st).isNone=true
      rw [hf]; rfl
    show Q (failedOf (setArr (setG (setPending st #[(0,n1+n2,pw)]) g) (R.toList.zipIdx.foldl (fun a x=>a.setIfInBounds (0+k+x.2) x.1) (arrOf st)))).isNone _
    rw [ef]
    exact done R g f
end
structure SB (a₀:Array Keyed) (P:Array (Nat × Nat × Nat)) (st:SortSt):Prop where
  perm:(arrOf st).Perm a₀
  kind:kindOf st=oneType'
  failed:failedOf st=none
  pend:pendingOf st=P
theorem SB.size {a₀:Array Keyed} {P:Array (Nat × Nat × Nat)} {st:SortSt} (h:SB a₀ P st):(arrOf st).size=a₀.size:=h.perm.size_eq
theorem SB.keys {a₀:Array Keyed} {P:Array (Nat × Nat × Nat)} {st:SortSt} (h:SB a₀ P st) (h0:IntKeys a₀):IntKeys (arrOf st):=fun p hp=>h0 p ((Array.perm_iff_toList_perm.mp h.perm).mem_iff.mp hp)
theorem SB.put {a₀:Array Keyed} {P:Array (Nat × Nat × Nat)} {st:SortSt} (h:SB a₀ P st) {xs:Array Keyed} (hp:xs.Perm (arrOf st)):SB a₀ P (setArr st xs):=⟨hp.trans h.perm,h.kind,h.failed,h.pend⟩
def SF (xs:Array Keyed) (lo k:Nat):Prop:=∀ i j,lo<=i->i<=j->j < lo+k->K xs i<=K xs j
section
variable {prog:Program} {w:World} {A:Around} {E:Value->Shared->Prop} {s:Shared} {a₀:Array Keyed} {P:Array (Nat × Nat × Nat)}
theorem fg {st:SortSt} {i j:Nat} {Q:Option Bool->SortSt->Prop} (hB:SB a₀ P st) (h0:IntKeys a₀) (hi:i < a₀.size) (hj:j < a₀.size)
    (h:Q (some (decide (K (arrOf st) i < K (arrOf st) j))) st):wpS (model prog w) A E s (ltAt' i j) Q st:=by
  have hz:=hB.size
  obtain ⟨t,p,e1⟩:=IntKeys.at (hB.keys h0) (show i < (arrOf st).size by omega)
  obtain ⟨u,q,e2⟩:=IntKeys.at (hB.keys h0) (show j < (arrOf st).size by omega)
  exact wpS_ltAt hB.kind e1 e2 h
theorem rD {st:SortSt} {lo n ok:Nat} {Q:Bool->SortSt->Prop} (h0:IntKeys a₀) (hn:lo+n<=a₀.size) (hok:ok<=n) (hB:SB a₀ P st) (hs:SF (arrOf st) lo ok)
    (h:∀ st',SB a₀ P st'->SF (arrOf st') lo n->(∀ i,i < lo->K (arrOf st') i=K (arrOf st) i)->Q true st'):wpS (model prog w) A E s (binarySort' lo n ok) Q st:=by
  rw [binarySort'_eq]
  refine wpS_bind (wpS_mono (wpS_forRange (I:=fun k c st'=>c=(none,())/\SB a₀ P st'/\SF (arrOf st') lo (min k n)/\∀ i,i < lo->K (arrOf st') i=K (arrOf st) i)
    (Q:=fun c st'=>c=(none,())/\SB a₀ P st'/\SF (arrOf st') lo n/\∀ i,i < lo->K (arrOf st') i=K (arrOf st) i) ?step ?fin ?init) ?post)
  case post =>
    rintro c st' ⟨rfl,b1,b2,b3⟩
    exact wpS_pure (h st' b1 b2 b3)
  case init =>
    refine ⟨rfl,hB,fun i j hi hij hj=>?_,fun _ _=>rfl⟩
    by_cases h1:ok=0
    · have:i=j:=by omega
      subst this; exact Int.le_refl _
    · exact hs i j hi hij (by omega)
  case fin =>
    rintro c st' ⟨b0,b1,b2,b3⟩
    refine ⟨b0,b1,?_,b3⟩
    rwa [show min (max (max ok 1) n) n=n by omega] at b2
  case step =>
    rintro k c st' hak hkn ⟨rfl,b1,b2,b3⟩
    rw [show min k n=k by omega] at b2
    refine wpS_bind (wpS_mono (wpS_forRange (I:=fun x c st''=>st''=st'/\∃ l r,c=(none,l,r)/\l<=r/\r<=k/\r - l<=k - x /\
        (∀ i,i < l->K (arrOf st') (lo+i)<=K (arrOf st') (lo+k))/\(∀ i,r<=i->i < k->K (arrOf st') (lo+k) < K (arrOf st') (lo+i)))
      (Q:=fun c st''=>st''=st'/\∃ l r,c=(none,l,r)/\l<=k /\
        (∀ i,i < l->K (arrOf st') (lo+i)<=K (arrOf st') (lo+k))/\(∀ i,l<=i->i < k->K (arrOf st') (lo+k) < K (arrOf st') (lo+i))) ?istep ?ifin ?iinit) ?ipost)
    case iinit=>exact ⟨rfl,0,k,rfl,by omega,by omega,by omega,fun i hi=>by omega,fun i h1 h2=>by omega⟩
    case ifin =>
      rintro c st'' ⟨rfl,l,r,rfl,h1,h2,h3,h4,h5⟩
      have:l=r:=by omega
      subst this
      exact ⟨rfl,l,l,rfl,h2,h4,h5⟩
    case istep =>
      rintro x c st'' _ hxk ⟨rfl,l,r,rfl,h1,h2,h3,h4,h5⟩
      dsimp only
      by_cases hge:l ≥ r
      · rw [if_pos hge]
        have:l=r:=by omega
        subst this
        exact wpS_pure ⟨rfl,l,l,rfl,h2,h4,h5⟩
      · rw [if_neg hge]
        refine wpS_bind (fg b1 h0 (by omega) (by omega) ?_)
        by_cases hl:K (arrOf st'') (lo+k) < K (arrOf st'') (lo+(l+r) / 2)
        · simp only [hl,decide_true,if_true]
          refine wpS_pure ⟨rfl,l,(l+r) / 2,rfl,by omega,by omega,by omega,h4,fun i h6 h7=>?_⟩
          exact Int.lt_of_lt_of_le hl (b2 _ _ (by omega) (by omega) (by omega))
        · simp only [hl,decide_false,Bool.false_eq_true,if_false]
          refine wpS_pure ⟨rfl,(l+r) / 2+1,r,rfl,by omega,by omega,by omega,fun i h6=>?_,h5⟩
          exact Int.le_trans (b2 (lo+i) (lo+(l+r) / 2) (by omega) (by omega) (by omega)) (Int.not_lt.mp hl)
    case ipost =>
      rintro c st'' ⟨rfl,l,r,rfl,hlk,h4,h5⟩
      show wpS _ _ _ _ (do moveDown' (lo+k) (lo+l); pure (ForInStep.yield (none,()))) _ _
      rw [moveDown'_eq]
      have hks:lo+k < (arrOf st'').size:=by rw [b1.size]; omega
      have kb:∀ i,K (bubble (arrOf st'') (lo+k) (lo+k - (lo+l))) i=if i=lo+l then K (arrOf st'') (lo+k) else if lo+l < i/\i<=lo+k then K (arrOf st'') (i - 1) else K (arrOf st'') i:=fun i=>by
        rw [K_bubble hks (by omega),show lo+k - (lo+k - (lo+l))=lo+l by omega]
      refine wpS_bind (wpS_modify (wpS_pure ⟨rfl,b1.put (bubble_perm _ _ _),?_,fun i hi=>?_⟩))
      · rw [show min (k+1) n=k+1 by omega]
        intro i j hi hij hj
        show K (bubble (arrOf st'') (lo+k) (lo+k - (lo+l))) i<=K (bubble (arrOf st'') (lo+k) (lo+k - (lo+l))) j
        have h4':∀ i,lo<=i->i < lo+l->K (arrOf st'') i<=K (arrOf st'') (lo+k):=fun i z1 z2=>by
          have:=h4 (i - lo) (by omega)
          rwa [show lo+(i - lo)=i by omega] at this
        have h5':∀ i,lo+l<=i->i < lo+k->K (arrOf st'') (lo+k) < K (arrOf st'') i:=fun i z1 z2=>by
          have:=h5 (i - lo) (by omega) (by omega)
          rwa [show lo+(i - lo)=i by omega] at this
        rw [kb,kb]
        repeat' split
        all_goals first
          | (exfalso; omega)
          | exact Int.le_refl _
          | exact h4' _ (by omega) (by omega)
          | exact Int.le_of_lt (h5' _ (by omega) (by omega))
          | exact b2 _ _ (by omega) (by omega) (by omega)
      · show K (bubble (arrOf st'') (lo+k) (lo+k - (lo+l))) i=_
        rw [kb,if_neg (by omega),if_neg (by omega)]
        exact b3 i hi
end
def ND (xs:Array Keyed) (lo k:Nat):Prop:=∀ i j,lo<=i->i<=j->j < lo+k->K xs j<=K xs i
theorem SF.more {xs:Array Keyed} {lo k:Nat} (h:SF xs lo k) (hk:1<=k) (e:K xs (lo+k - 1)<=K xs (lo+k)):SF xs lo (k+1):=fun i j hi hij hj=>by
  by_cases z:j < lo+k
  · exact h i j hi hij z
  · have:j=lo+k:=by omega
    subst this
    by_cases z2:i=lo+k
    · subst z2; exact Int.le_refl _
    · exact Int.le_trans (h i (lo+k - 1) hi (by omega) (by omega)) e
theorem ND.more {xs:Array Keyed} {lo k:Nat} (h:ND xs lo k) (hk:1<=k) (e:K xs (lo+k)<=K xs (lo+k - 1)):ND xs lo (k+1):=fun i j hi hij hj=>by
  by_cases z:j < lo+k
  · exact h i j hi hij z
  · have:j=lo+k:=by omega
    subst this
    by_cases z2:i=lo+k
    · subst z2; exact Int.le_refl _
    · exact Int.le_trans e (h i (lo+k - 1) hi (by omega) (by omega))
section
variable {prog:Program} {w:World} {A:Around} {E:Value->Shared->Prop} {s:Shared} {a₀:Array Keyed} {P:Array (Nat × Nat × Nat)}
theorem rH {st:SortSt} {lo nrem:Nat} {Q:Option Nat->SortSt->Prop} (h0:IntKeys a₀) (hn:lo+nrem<=a₀.size) (h1:1<=nrem) (hB:SB a₀ P st)
    (h:∀ m st',SB a₀ P st'->1<=m->m<=nrem->SF (arrOf st') lo m->(∀ i,i < lo->K (arrOf st') i=K (arrOf st) i)->Q (some m) st'):wpS (model prog w) A E s (countRun' lo nrem) Q st:=by
  have one:SF (arrOf st) lo 1:=fun i j hi hij hj=>by
    have:i=j:=by omega
    subst this; exact Int.le_refl _
  rw [countRun'_eq]
  dsimp only
  refine wpS_bind (wpS_mono (wpS_forRange (I:=fun x c st'=>st=st'/\c=(none,x)/\SF (arrOf st) lo x)
    (Q:=fun c st'=>st=st'/\∃ mm,c=(none,mm)/\1<=mm/\mm<=nrem/\SF (arrOf st) lo mm/\(mm=nrem\/K (arrOf st) (lo+mm) < K (arrOf st) (lo+mm - 1))) ?_ ?_ ⟨rfl,rfl,one⟩) ?_)
  · rintro x c st9 hax hxn ⟨rfl,rfl,hs⟩
    dsimp only
    refine wpS_bind (fg hB h0 (by omega) (by omega) ?_)
    by_cases hl:K (arrOf st) (lo+x) < K (arrOf st) (lo+x - 1)
    · simp only [hl,decide_true,if_true]
      exact wpS_pure ⟨rfl,x,rfl,hax,by omega,hs,.inr hl⟩
    · simp only [hl,decide_false,Bool.false_eq_true,if_false]
      exact wpS_pure ⟨rfl,rfl,SF.more hs (by omega) (Int.not_lt.mp hl)⟩
  · rintro c st9 ⟨rfl,rfl,hs⟩
    rw [show max 1 nrem=nrem by omega] at hs |-
    exact ⟨rfl,nrem,rfl,by omega,Nat.le_refl _,hs,.inl rfl⟩
  rintro c st7 ⟨rfl,n,rfl,n1,n2,sn,hor⟩
  dsimp only
  by_cases hnn:n=nrem
  · rw [if_pos (by simpa using hnn)]
    exact wpS_pure (h n _ hB n1 n2 sn fun _ _=>rfl)
  rw [if_neg (by simpa using hnn)]
  have hlt:K (arrOf st) (lo+n) < K (arrOf st) (lo+n - 1):=hor.resolve_left hnn
  by_cases hgt:n > 1
  · rw [if_pos hgt]
    refine wpS_bind (fg hB h0 (by omega) (by omega) ?_)
    by_cases hr:K (arrOf st) lo < K (arrOf st) (lo+n - 1)
    · simp only [hr,decide_true,if_true]
      exact wpS_pure (h n _ hB n1 n2 sn fun _ _=>rfl)
    · simp only [hr,decide_false,Bool.false_eq_true,if_false]
      have hsz:lo+n<=(arrOf st).size:=by rw [hB.size]; omega
      have hall:∀ k,lo<=k->k < lo+n->K (arrOf st) k=K (arrOf st) (lo+n - 1):=fun k k1 k2=>by
        have a1:=sn lo k (Nat.le_refl _) k1 k2
        have a2:=sn k (lo+n - 1) k1 (by omega) (by omega)
        omega
      have ke:=K_mirror_equal (i:=lo) hsz hall
      refine wpS_bind (wpS_reverse ?_)
      have d1:SB a₀ P (setArr st (mirror (arrOf st) lo (lo+n) ((lo+n - lo) / 2))):=hB.put (mirror_perm _ _ _ _)
      have d2:ND (arrOf (setArr st (mirror (arrOf st) lo (lo+n) ((lo+n - lo) / 2)))) lo (n+1):=fun i j hi hij hj=>by
        show K (mirror (arrOf st) _ _ _) j<=K (mirror (arrOf st) _ _ _) i
        rw [ke,ke]
        by_cases hjn:j < lo+n
        · rw [hall i hi (by omega),hall j (by omega) hjn]; exact Int.le_refl _
        · have:j=lo+n:=by omega
          subst this
          by_cases z2:i=lo+n
          · subst z2; exact Int.le_refl _
          · rw [hall i hi (by omega)]; exact Int.le_of_lt hlt
      have d3:∀ i,i < lo->K (arrOf (setArr st (mirror (arrOf st) lo (lo+n) ((lo+n - lo) / 2)))) i=K (arrOf st) i:=fun i hi=>ke i
      generalize setArr st (mirror (arrOf st) lo (lo+n) ((lo+n - lo) / 2))=st3 at d1 d2 d3 |-
      refine wpS_bind (wpS_lift (wpAny_rule ⟨rfl,?_⟩))
      refine wpS_bind (wpS_mono (wpS_forRange (I:=fun x c st'=>∃ neq,c=(none,x,neq)/\SB a₀ P st'/\ND (arrOf st') lo x/\neq+1<=x/\(∀ i,lo+x - (neq+1)<=i->i < lo+x->K (arrOf st') i=K (arrOf st') (lo+x - 1))/\∀ i,i < lo->K (arrOf st') i=K (arrOf st) i)
        (Q:=fun c st'=>∃ m neq,c=(none,m,neq)/\n+1<=m/\m<=nrem/\SB a₀ P st'/\ND (arrOf st') lo m/\neq+1<=m/\(∀ i,lo+m - (neq+1)<=i->i < lo+m->K (arrOf st') i=K (arrOf st') (lo+m - 1))/\∀ i,i < lo->K (arrOf st') i=K (arrOf st) i) ?_ ?_ ⟨0,rfl,d1,d2,by omega,(fun i h1 h2=>by congr 1; omega),d3⟩) ?_)
      · rintro x c st8 hax hxn ⟨neq,rfl,c1,c2,c3,c4,c5⟩
        dsimp only
        have hsz:lo+x<=(arrOf st8).size:=by rw [c1.size]; omega
        refine wpS_bind (fg c1 h0 (by omega) (by omega) ?_)
        by_cases hl:K (arrOf st8) (lo+x) < K (arrOf st8) (lo+x - 1)
        · simp only [hl,decide_true,if_true]
          by_cases hq:neq > 0
          · rw [if_pos hq]
            have ke:=K_mirror_equal (i:=lo+x - (neq+1)) hsz c4
            refine wpS_bind (wpS_reverse (wpS_pure ⟨0,rfl,c1.put (mirror_perm _ _ _ _),?_,by omega,(fun i h1 h2=>by congr 1; omega),fun i hi=>?_⟩))
            · intro i j hi hij hj
              show K (mirror (arrOf st8) _ _ _) j<=K (mirror (arrOf st8) _ _ _) i
              rw [ke,ke]
              exact ND.more c2 (by omega) (Int.le_of_lt hl) i j hi hij hj
            · show K (mirror (arrOf st8) _ _ _) i=_
              rw [ke]
              exact c5 i hi
          · rw [if_neg hq]
            exact wpS_pure ⟨0,rfl,c1,ND.more c2 (by omega) (Int.le_of_lt hl),by omega,(fun i h1 h2=>by congr 1; omega),c5⟩
        · simp only [hl,decide_false,Bool.false_eq_true,if_false]
          refine wpS_bind (fg c1 h0 (by omega) (by omega) ?_)
          by_cases hg:K (arrOf st8) (lo+x - 1) < K (arrOf st8) (lo+x)
          · simp only [hg,decide_true,if_true]
            exact wpS_pure ⟨x,neq,rfl,hax,by omega,c1,c2,c3,c4,c5⟩
          · simp only [hg,decide_false,Bool.false_eq_true,if_false]
            have he:K (arrOf st8) (lo+x)=K (arrOf st8) (lo+x - 1):=by omega
            refine wpS_pure ⟨neq+1,rfl,c1,ND.more c2 (by omega) (Int.le_of_eq he),by omega,(fun i h1 h2=>?_),c5⟩
            rw [show lo+(x+1) - 1=lo+x by omega]
            by_cases hix:i=lo+x
            · rw [hix]
            · rw [he]; exact c4 i (by omega) (by omega)
      · rintro c st8 ⟨neq,rfl,c1,c2,c3,c4,c5⟩
        rw [show max (n+1) nrem=nrem by omega] at c2 c3 c4 |-
        exact ⟨nrem,neq,rfl,by omega,Nat.le_refl _,c1,c2,c3,c4,c5⟩
      rintro c st4 ⟨m,neq,rfl,hm1,hm2,c1,c2,c3,c4,c5⟩
      dsimp only
      by_cases hq:neq > 0
      · rw [if_pos hq]
        have hsz4:lo+m<=(arrOf st4).size:=by rw [c1.size]; omega
        have ke:=K_mirror_equal (i:=lo+m - (neq+1)) hsz4 c4
        refine wpS_bind (wpS_reverse ?_)
        have d1:SB a₀ P (setArr st4 (mirror (arrOf st4) (lo+m - (neq+1)) (lo+m) ((lo+m - (lo+m - (neq+1))) / 2))):=c1.put (mirror_perm _ _ _ _)
        have d2:ND (arrOf (setArr st4 (mirror (arrOf st4) (lo+m - (neq+1)) (lo+m) ((lo+m - (lo+m - (neq+1))) / 2)))) lo m:=fun i j hi hij hj=>by
          show K (mirror (arrOf st4) _ _ _) j<=K (mirror (arrOf st4) _ _ _) i
          rw [ke,ke]
          exact c2 i j hi hij hj
        have d3:∀ i,i < lo->K (arrOf (setArr st4 (mirror (arrOf st4) (lo+m - (neq+1)) (lo+m) ((lo+m - (lo+m - (neq+1))) / 2)))) i=K (arrOf st) i:=fun i hi=>by
          show K (mirror (arrOf st4) _ _ _) i=_
          rw [ke]
          exact c5 i hi
        generalize setArr st4 (mirror (arrOf st4) (lo+m - (neq+1)) (lo+m) ((lo+m - (lo+m - (neq+1))) / 2))=st6 at d1 d2 d3 |-
        have hsz:lo+m<=(arrOf st6).size:=by rw [d1.size]; omega
        refine wpS_bind (wpS_reverse ?_)
        have q1:SB a₀ P (setArr st6 (mirror (arrOf st6) lo (lo+m) ((lo+m - lo) / 2))):=d1.put (mirror_perm _ _ _ _)
        have q2:SF (arrOf (setArr st6 (mirror (arrOf st6) lo (lo+m) ((lo+m - lo) / 2)))) lo m:=fun i j hi hij hj=>by
          show K (mirror (arrOf st6) lo (lo+m) ((lo+m - lo) / 2)) i<=K (mirror (arrOf st6) lo (lo+m) ((lo+m - lo) / 2)) j
          rw [K_mirror hsz,K_mirror hsz,if_pos (by omega),if_pos (by omega)]
          exact d2 _ _ (by omega) (by omega) (by omega)
        have q3:∀ i,i < lo->K (arrOf (setArr st6 (mirror (arrOf st6) lo (lo+m) ((lo+m - lo) / 2)))) i=K (arrOf st) i:=fun i hi=>by
          show K (mirror (arrOf st6) lo (lo+m) ((lo+m - lo) / 2)) i=_
          rw [K_mirror hsz,if_neg (by omega)]
          exact d3 i hi
        generalize setArr st6 (mirror (arrOf st6) lo (lo+m) ((lo+m - lo) / 2))=st5 at q1 q2 q3 |-
        refine wpS_bind (wpS_mono (wpS_forRange (I:=fun x c st'=>st5=st'/\c=(none,x)/\SF (arrOf st5) lo x)
          (Q:=fun c st'=>st5=st'/\∃ mm,c=(none,mm)/\m<=mm/\mm<=nrem/\SF (arrOf st5) lo mm/\(mm=nrem\/K (arrOf st5) (lo+mm) < K (arrOf st5) (lo+mm - 1))) ?_ ?_ ⟨rfl,rfl,q2⟩) ?_)
        · rintro x c st8 hax hxn ⟨rfl,rfl,hs⟩
          dsimp only
          refine wpS_bind (fg q1 h0 (by omega) (by omega) ?_)
          by_cases hl:K (arrOf st5) (lo+x) < K (arrOf st5) (lo+x - 1)
          · simp only [hl,decide_true,if_true]
            exact wpS_pure ⟨rfl,x,rfl,hax,by omega,hs,.inr hl⟩
          · simp only [hl,decide_false,Bool.false_eq_true,if_false]
            exact wpS_pure ⟨rfl,rfl,SF.more hs (by omega) (Int.not_lt.mp hl)⟩
        · rintro c st9 ⟨rfl,rfl,hs⟩
          rw [show max m nrem=nrem by omega] at hs |-
          exact ⟨rfl,nrem,rfl,by omega,Nat.le_refl _,hs,.inl rfl⟩
        rintro c st9 ⟨rfl,m',rfl,g1,g2,g3,_⟩
        exact wpS_pure (h m' _ q1 (by omega) g2 g3 q3)
      · rw [if_neg hq]
        have hsz:lo+m<=(arrOf st4).size:=by rw [c1.size]; omega
        refine wpS_bind (wpS_reverse ?_)
        have q1:SB a₀ P (setArr st4 (mirror (arrOf st4) lo (lo+m) ((lo+m - lo) / 2))):=c1.put (mirror_perm _ _ _ _)
        have q2:SF (arrOf (setArr st4 (mirror (arrOf st4) lo (lo+m) ((lo+m - lo) / 2)))) lo m:=fun i j hi hij hj=>by
          show K (mirror (arrOf st4) lo (lo+m) ((lo+m - lo) / 2)) i<=K (mirror (arrOf st4) lo (lo+m) ((lo+m - lo) / 2)) j
          rw [K_mirror hsz,K_mirror hsz,if_pos (by omega),if_pos (by omega)]
          exact c2 _ _ (by omega) (by omega) (by omega)
        have q3:∀ i,i < lo->K (arrOf (setArr st4 (mirror (arrOf st4) lo (lo+m) ((lo+m - lo) / 2)))) i=K (arrOf st) i:=fun i hi=>by
          show K (mirror (arrOf st4) lo (lo+m) ((lo+m - lo) / 2)) i=_
          rw [K_mirror hsz,if_neg (by omega)]
          exact c5 i hi
        generalize setArr st4 (mirror (arrOf st4) lo (lo+m) ((lo+m - lo) / 2))=st5 at q1 q2 q3 |-
        refine wpS_bind (wpS_mono (wpS_forRange (I:=fun x c st'=>st5=st'/\c=(none,x)/\SF (arrOf st5) lo x)
          (Q:=fun c st'=>st5=st'/\∃ mm,c=(none,mm)/\m<=mm/\mm<=nrem/\SF (arrOf st5) lo mm/\(mm=nrem\/K (arrOf st5) (lo+mm) < K (arrOf st5) (lo+mm - 1))) ?_ ?_ ⟨rfl,rfl,q2⟩) ?_)
        · rintro x c st8 hax hxn ⟨rfl,rfl,hs⟩
          dsimp only
          refine wpS_bind (fg q1 h0 (by omega) (by omega) ?_)
          by_cases hl:K (arrOf st5) (lo+x) < K (arrOf st5) (lo+x - 1)
          · simp only [hl,decide_true,if_true]
            exact wpS_pure ⟨rfl,x,rfl,hax,by omega,hs,.inr hl⟩
          · simp only [hl,decide_false,Bool.false_eq_true,if_false]
            exact wpS_pure ⟨rfl,rfl,SF.more hs (by omega) (Int.not_lt.mp hl)⟩
        · rintro c st9 ⟨rfl,rfl,hs⟩
          rw [show max m nrem=nrem by omega] at hs |-
          exact ⟨rfl,nrem,rfl,by omega,Nat.le_refl _,hs,.inl rfl⟩
        rintro c st9 ⟨rfl,m',rfl,g1,g2,g3,_⟩
        exact wpS_pure (h m' _ q1 (by omega) g2 g3 q3)
  · rw [if_neg hgt]
    have e1:n=1:=by omega
    subst e1
    have nd1:ND (arrOf st) lo 1:=fun i j hi hij hj=>by
      have e9:i=j:=by omega
      subst e9
      exact Int.le_refl _
    have nd:ND (arrOf st) lo (1+1):=ND.more nd1 (by omega) (Int.le_of_lt hlt)
    refine wpS_bind (wpS_lift (wpAny_rule ⟨rfl,?_⟩))
    refine wpS_bind (wpS_mono (wpS_forRange (I:=fun x c st'=>∃ neq,c=(none,x,neq)/\SB a₀ P st'/\ND (arrOf st') lo x/\neq+1<=x/\(∀ i,lo+x - (neq+1)<=i->i < lo+x->K (arrOf st') i=K (arrOf st') (lo+x - 1))/\∀ i,i < lo->K (arrOf st') i=K (arrOf st) i)
      (Q:=fun c st'=>∃ m neq,c=(none,m,neq)/\1+1<=m/\m<=nrem/\SB a₀ P st'/\ND (arrOf st') lo m/\neq+1<=m/\(∀ i,lo+m - (neq+1)<=i->i < lo+m->K (arrOf st') i=K (arrOf st') (lo+m - 1))/\∀ i,i < lo->K (arrOf st') i=K (arrOf st) i) ?_ ?_ ⟨0,rfl,hB,nd,by omega,(fun i h1 h2=>by congr 1; omega),(fun _ _=>rfl)⟩) ?_)
    · rintro x c st8 hax hxn ⟨neq,rfl,c1,c2,c3,c4,c5⟩
      dsimp only
      have hsz:lo+x<=(arrOf st8).size:=by rw [c1.size]; omega
      refine wpS_bind (fg c1 h0 (by omega) (by omega) ?_)
      by_cases hl:K (arrOf st8) (lo+x) < K (arrOf st8) (lo+x - 1)
      · simp only [hl,decide_true,if_true]
        by_cases hq:neq > 0
        · rw [if_pos hq]
          have ke:=K_mirror_equal (i:=lo+x - (neq+1)) hsz c4
          refine wpS_bind (wpS_reverse (wpS_pure ⟨0,rfl,c1.put (mirror_perm _ _ _ _),?_,by omega,(fun i h1 h2=>by congr 1; omega),fun i hi=>?_⟩))
          · intro i j hi hij hj
            show K (mirror (arrOf st8) _ _ _) j<=K (mirror (arrOf st8) _ _ _) i
            rw [ke,ke]
            exact ND.more c2 (by omega) (Int.le_of_lt hl) i j hi hij hj
          · show K (mirror (arrOf st8) _ _ _) i=_
            rw [ke]
            exact c5 i hi
        · rw [if_neg hq]
          exact wpS_pure ⟨0,rfl,c1,ND.more c2 (by omega) (Int.le_of_lt hl),by omega,(fun i h1 h2=>by congr 1; omega),c5⟩
      · simp only [hl,decide_false,Bool.false_eq_true,if_false]
        refine wpS_bind (fg c1 h0 (by omega) (by omega) ?_)
        by_cases hg:K (arrOf st8) (lo+x - 1) < K (arrOf st8) (lo+x)
        · simp only [hg,decide_true,if_true]
          exact wpS_pure ⟨x,neq,rfl,hax,by omega,c1,c2,c3,c4,c5⟩
        · simp only [hg,decide_false,Bool.false_eq_true,if_false]
          have he:K (arrOf st8) (lo+x)=K (arrOf st8) (lo+x - 1):=by omega
          refine wpS_pure ⟨neq+1,rfl,c1,ND.more c2 (by omega) (Int.le_of_eq he),by omega,(fun i h1 h2=>?_),c5⟩
          rw [show lo+(x+1) - 1=lo+x by omega]
          by_cases hix:i=lo+x
          · rw [hix]
          · rw [he]; exact c4 i (by omega) (by omega)
    · rintro c st8 ⟨neq,rfl,c1,c2,c3,c4,c5⟩
      rw [show max (1+1) nrem=nrem by omega] at c2 c3 c4 |-
      exact ⟨nrem,neq,rfl,by omega,Nat.le_refl _,c1,c2,c3,c4,c5⟩
    rintro c st4 ⟨m,neq,rfl,hm1,hm2,c1,c2,c3,c4,c5⟩
    dsimp only
    by_cases hq:neq > 0
    · rw [if_pos hq]
      have hsz4:lo+m<=(arrOf st4).size:=by rw [c1.size]; omega
      have ke:=K_mirror_equal (i:=lo+m - (neq+1)) hsz4 c4
      refine wpS_bind (wpS_reverse ?_)
      have d1:SB a₀ P (setArr st4 (mirror (arrOf st4) (lo+m - (neq+1)) (lo+m) ((lo+m - (lo+m - (neq+1))) / 2))):=c1.put (mirror_perm _ _ _ _)
      have d2:ND (arrOf (setArr st4 (mirror (arrOf st4) (lo+m - (neq+1)) (lo+m) ((lo+m - (lo+m - (neq+1))) / 2)))) lo m:=fun i j hi hij hj=>by
        show K (mirror (arrOf st4) _ _ _) j<=K (mirror (arrOf st4) _ _ _) i
        rw [ke,ke]
        exact c2 i j hi hij hj
      have d3:∀ i,i < lo->K (arrOf (setArr st4 (mirror (arrOf st4) (lo+m - (neq+1)) (lo+m) ((lo+m - (lo+m - (neq+1))) / 2)))) i=K (arrOf st) i:=fun i hi=>by
        show K (mirror (arrOf st4) _ _ _) i=_
        rw [ke]
        exact c5 i hi
      generalize setArr st4 (mirror (arrOf st4) (lo+m - (neq+1)) (lo+m) ((lo+m - (lo+m - (neq+1))) / 2))=st6 at d1 d2 d3 |-
      have hsz:lo+m<=(arrOf st6).size:=by rw [d1.size]; omega
      refine wpS_bind (wpS_reverse ?_)
      have q1:SB a₀ P (setArr st6 (mirror (arrOf st6) lo (lo+m) ((lo+m - lo) / 2))):=d1.put (mirror_perm _ _ _ _)
      have q2:SF (arrOf (setArr st6 (mirror (arrOf st6) lo (lo+m) ((lo+m - lo) / 2)))) lo m:=fun i j hi hij hj=>by
        show K (mirror (arrOf st6) lo (lo+m) ((lo+m - lo) / 2)) i<=K (mirror (arrOf st6) lo (lo+m) ((lo+m - lo) / 2)) j
        rw [K_mirror hsz,K_mirror hsz,if_pos (by omega),if_pos (by omega)]
        exact d2 _ _ (by omega) (by omega) (by omega)
      have q3:∀ i,i < lo->K (arrOf (setArr st6 (mirror (arrOf st6) lo (lo+m) ((lo+m - lo) / 2)))) i=K (arrOf st) i:=fun i hi=>by
        show K (mirror (arrOf st6) lo (lo+m) ((lo+m - lo) / 2)) i=_
        rw [K_mirror hsz,if_neg (by omega)]
        exact d3 i hi
      generalize setArr st6 (mirror (arrOf st6) lo (lo+m) ((lo+m - lo) / 2))=st5 at q1 q2 q3 |-
      refine wpS_bind (wpS_mono (wpS_forRange (I:=fun x c st'=>st5=st'/\c=(none,x)/\SF (arrOf st5) lo x)
        (Q:=fun c st'=>st5=st'/\∃ mm,c=(none,mm)/\m<=mm/\mm<=nrem/\SF (arrOf st5) lo mm/\(mm=nrem\/K (arrOf st5) (lo+mm) < K (arrOf st5) (lo+mm - 1))) ?_ ?_ ⟨rfl,rfl,q2⟩) ?_)
      · rintro x c st8 hax hxn ⟨rfl,rfl,hs⟩
        dsimp only
        refine wpS_bind (fg q1 h0 (by omega) (by omega) ?_)
        by_cases hl:K (arrOf st5) (lo+x) < K (arrOf st5) (lo+x - 1)
        · simp only [hl,decide_true,if_true]
          exact wpS_pure ⟨rfl,x,rfl,hax,by omega,hs,.inr hl⟩
        · simp only [hl,decide_false,Bool.false_eq_true,if_false]
          exact wpS_pure ⟨rfl,rfl,SF.more hs (by omega) (Int.not_lt.mp hl)⟩
      · rintro c st9 ⟨rfl,rfl,hs⟩
        rw [show max m nrem=nrem by omega] at hs |-
        exact ⟨rfl,nrem,rfl,by omega,Nat.le_refl _,hs,.inl rfl⟩
      rintro c st9 ⟨rfl,m',rfl,g1,g2,g3,_⟩
      exact wpS_pure (h m' _ q1 (by omega) g2 g3 q3)
    · rw [if_neg hq]
      have hsz:lo+m<=(arrOf st4).size:=by rw [c1.size]; omega
      refine wpS_bind (wpS_reverse ?_)
      have q1:SB a₀ P (setArr st4 (mirror (arrOf st4) lo (lo+m) ((lo+m - lo) / 2))):=c1.put (mirror_perm _ _ _ _)
      have q2:SF (arrOf (setArr st4 (mirror (arrOf st4) lo (lo+m) ((lo+m - lo) / 2)))) lo m:=fun i j hi hij hj=>by
        show K (mirror (arrOf st4) lo (lo+m) ((lo+m - lo) / 2)) i<=K (mirror (arrOf st4) lo (lo+m) ((lo+m - lo) / 2)) j
        rw [K_mirror hsz,K_mirror hsz,if_pos (by omega),if_pos (by omega)]
        exact c2 _ _ (by omega) (by omega) (by omega)
      have q3:∀ i,i < lo->K (arrOf (setArr st4 (mirror (arrOf st4) lo (lo+m) ((lo+m - lo) / 2)))) i=K (arrOf st) i:=fun i hi=>by
        show K (mirror (arrOf st4) lo (lo+m) ((lo+m - lo) / 2)) i=_
        rw [K_mirror hsz,if_neg (by omega)]
        exact c5 i hi
      generalize setArr st4 (mirror (arrOf st4) lo (lo+m) ((lo+m - lo) / 2))=st5 at q1 q2 q3 |-
      refine wpS_bind (wpS_mono (wpS_forRange (I:=fun x c st'=>st5=st'/\c=(none,x)/\SF (arrOf st5) lo x)
        (Q:=fun c st'=>st5=st'/\∃ mm,c=(none,mm)/\m<=mm/\mm<=nrem/\SF (arrOf st5) lo mm/\(mm=nrem\/K (arrOf st5) (lo+mm) < K (arrOf st5) (lo+mm - 1))) ?_ ?_ ⟨rfl,rfl,q2⟩) ?_)
      · rintro x c st8 hax hxn ⟨rfl,rfl,hs⟩
        dsimp only
        refine wpS_bind (fg q1 h0 (by omega) (by omega) ?_)
        by_cases hl:K (arrOf st5) (lo+x) < K (arrOf st5) (lo+x - 1)
        · simp only [hl,decide_true,if_true]
          exact wpS_pure ⟨rfl,x,rfl,hax,by omega,hs,.inr hl⟩
        · simp only [hl,decide_false,Bool.false_eq_true,if_false]
          exact wpS_pure ⟨rfl,rfl,SF.more hs (by omega) (Int.not_lt.mp hl)⟩
      · rintro c st9 ⟨rfl,rfl,hs⟩
        rw [show max m nrem=nrem by omega] at hs |-
        exact ⟨rfl,nrem,rfl,by omega,Nat.le_refl _,hs,.inl rfl⟩
      rintro c st9 ⟨rfl,m',rfl,g1,g2,g3,_⟩
      exact wpS_pure (h m' _ q1 (by omega) g2 g3 q3)
end
section
variable {prog:Program} {w:World} {A:Around} {E:Value->Shared->Prop} {s:Shared} {a₀:Array Keyed}
theorem SB.pending {P P':Array (Nat × Nat × Nat)} {st:SortSt} (h:SB a₀ P st):SB a₀ P' (setPending st P'):=⟨h.perm,h.kind,h.failed,rfl⟩
def zo (a₀:Array Keyed) (st:SortSt):Prop:=(SB a₀ #[(0,a₀.size,0)] st/\SF (arrOf st) 0 a₀.size)\/∃ n1 n2 pw,SB a₀ #[(0,n1,pw),(n1,n2,0)] st/\n1+n2=a₀.size/\1<=n1/\1<=n2/\SF (arrOf st) 0 n1/\SF (arrOf st) n1 n2
theorem yY {st:SortSt} {Q:Unit->SortSt->Prop} (h0:IntKeys a₀) (hB:SB a₀ #[] st) (h64:64<=a₀.size) (h128:a₀.size < 128)
    (h:∀ st',(arrOf st').Perm a₀->failedOf st'=none->SortedTo (arrOf st') a₀.size->Q () st'):wpS (model prog w) A E s sortRuns' Q st:=by
  rw [sortRuns'_eq]
  refine wpS_bind (wpS_get ?_)
  dsimp only
  have hmr:minRun' a₀.size a₀.size 0=a₀.size / 2+a₀.size % 2:=by
    obtain ⟨f,hf⟩:∃ f,a₀.size=f+1+1:=⟨a₀.size - 2,by omega⟩
    have:minRun' (f+1+1) a₀.size 0=a₀.size / 2+a₀.size % 2:=by
      rw [minRun'_succ,if_neg (by omega),minRun'_succ,if_pos (by omega),Nat.max_eq_right (Nat.zero_le _)]
    rwa [<- hf] at this
  simp only [hB.size,hmr]
  refine wpS_bind (wpS_mono (wpS_forRange
    (I:=fun x c st'=>(x=0/\c=(none,0)/\SB a₀ #[] st')\/(x=1/\∃ n,c=(none,n)/\a₀.size / 2+a₀.size % 2<=n/\n < a₀.size/\SB a₀ #[(0,n,0)] st'/\SF (arrOf st') 0 n)\/(1<=x/\c=(none,a₀.size)/\zo a₀ st'))
    (Q:=fun c st'=>c=(none,a₀.size)/\zo a₀ st') ?step ?fin (.inl ⟨rfl,rfl,hB⟩)) ?post)
  case fin =>
    rintro c st' (⟨hx,_⟩ | ⟨hx,_⟩ | ⟨_,hc,hD⟩)
    · omega
    · omega
    · exact ⟨hc,hD⟩
  case step =>
    rintro x c st' _ hx (⟨rfl,rfl,b⟩ | ⟨rfl,n,rfl,n1,n2,b,sf⟩ | ⟨hx1,rfl,hD⟩)
    · dsimp only
      rw [if_neg (by omega)]
      simp only [Nat.sub_zero,Nat.zero_add]
      refine wpS_bind (rH h0 (by omega) (by omega) b fun m st2 b2 m1 m2 sf2 _=>?_)
      dsimp only
      have go:∀ (n:Nat) (st3:SortSt),a₀.size / 2+a₀.size % 2<=n->n<=a₀.size->SB a₀ #[] st3->SF (arrOf st3) 0 n ->
          ((1=0/\((none:Option Unit),n)=(none,0)/\SB a₀ #[] (setPending st3 ((pendingOf st3).push (0,n,0))))\/(True/\∃ n',((none:Option Unit),n)=(none,n')/\a₀.size / 2+a₀.size % 2<=n'/\n' < a₀.size/\SB a₀ #[(0,n',0)] (setPending st3 ((pendingOf st3).push (0,n,0)))/\SF (arrOf (setPending st3 ((pendingOf st3).push (0,n,0)))) 0 n')\/(1<=1/\((none:Option Unit),n)=(none,a₀.size)/\zo a₀ (setPending st3 ((pendingOf st3).push (0,n,0))))):=by
        intro n st3 g1 g2 g3 g4
        have ep:(pendingOf st3).push (0,n,0) = #[(0,n,0)]:=by rw [g3.pend]; rfl
        rw [ep]
        by_cases z:n=a₀.size
        · exact .inr (.inr ⟨Nat.le_refl _,by rw [z],.inl ⟨by rw [<- z]; exact g3.pending,by rw [<- z]; exact g4⟩⟩)
        · exact .inr (.inl ⟨trivial,n,rfl,g1,by omega,g3.pending,g4⟩)
      by_cases hlt:m < a₀.size / 2+a₀.size % 2
      · rw [if_pos hlt]
        refine wpS_bind (wpS_lift (wpAny_rule ⟨rfl,?_⟩))
        refine wpS_bind (rD h0 (by omega) (by omega) b2 sf2 fun st3 b3 sf3 _=>?_)
        simp only [Bool.not_true,Bool.false_eq_true,if_false]
        refine wpS_bind (wpS_get ?_)
        have hb:(pendingOf st3).back? = none:=by rw [b3.pend]; rfl
        rw [hb]
        dsimp only
        exact wpS_bind (wpS_modify (wpS_pure (go _ st3 (by omega) (by omega) b3 sf3)))
      · rw [if_neg hlt]
        refine wpS_bind (wpS_get ?_)
        have hb:(pendingOf st2).back? = none:=by rw [b2.pend]; rfl
        rw [hb]
        dsimp only
        exact wpS_bind (wpS_modify (wpS_pure (go _ st2 (by omega) m2 b2 sf2)))
    · dsimp only
      rw [if_neg (by omega)]
      refine wpS_bind (rH h0 (by omega) (by omega) b fun m st2 b2 m1 m2 sf2 pre2=>?_)
      dsimp only
      have keep:∀ st3:SortSt,(∀ i,i < n->K (arrOf st3) i=K (arrOf st') i)->SF (arrOf st3) 0 n:=fun st3 hp i j hi hij hj=>by
        rw [hp i (by omega),hp j (by omega)]
        exact sf i j hi hij hj
      by_cases hlt:m < a₀.size / 2+a₀.size % 2
      · rw [if_pos hlt]
        refine wpS_bind (wpS_lift (wpAny_rule ⟨rfl,?_⟩))
        rw [show min (a₀.size - n) (a₀.size / 2+a₀.size % 2)=a₀.size - n by omega]
        refine wpS_bind (rD h0 (by omega) (by omega) b2 sf2 fun st3 b3 sf3 pre3=>?_)
        simp only [Bool.not_true,Bool.false_eq_true,if_false]
        refine wpS_bind (wpS_get ?_)
        have hb:(pendingOf st3).back? = some (0,n,0):=by rw [b3.pend]; rfl
        rw [hb]
        dsimp only
        refine wpS_bind (wpS_mono (wpS_forRange (I:=fun _ c st''=>st3=st''/\c=(none,())) (Q:=fun c st''=>st3=st''/\c=(none,())) ?_ (fun _ _ hh=>hh) ⟨rfl,rfl⟩) ?_)
        · rintro y c st'' _ _ ⟨rfl,rfl⟩
          refine wpS_bind (wpS_get ?_)
          skip
          rw [b3.pend]
          exact wpS_pure ⟨rfl,rfl⟩
        · rintro c st'' ⟨rfl,rfl⟩
          dsimp only
          refine wpS_bind (wpS_modify ?_)
          refine wpS_bind (wpS_modify ?_)
          refine wpS_pure (.inr (.inr ⟨by omega,(by congr 1; omega),.inr ⟨n,a₀.size - n,power' a₀.size (2*0+n) (2*0+n+n+(a₀.size - n)) a₀.size,⟨b3.perm,b3.kind,b3.failed,?_⟩,by omega,by omega,by omega,keep st3 (fun i hi=>(pre3 i hi).trans (pre2 i hi)),sf3⟩⟩))
          show ((pendingOf st3).modify ((pendingOf st3).size - 1) _).push (n,_,0)=_
          rw [b3.pend]
          first | rfl | simp [Array.modify] | (apply Array.ext'; simp [Array.modify])
      · rw [if_neg hlt]
        have em:m=a₀.size - n:=by omega
        subst em
        refine wpS_bind (wpS_get ?_)
        have hb:(pendingOf st2).back? = some (0,n,0):=by rw [b2.pend]; rfl
        rw [hb]
        dsimp only
        refine wpS_bind (wpS_mono (wpS_forRange (I:=fun _ c st''=>st2=st''/\c=(none,())) (Q:=fun c st''=>st2=st''/\c=(none,())) ?_ (fun _ _ hh=>hh) ⟨rfl,rfl⟩) ?_)
        · rintro y c st'' _ _ ⟨rfl,rfl⟩
          refine wpS_bind (wpS_get ?_)
          skip
          rw [b2.pend]
          exact wpS_pure ⟨rfl,rfl⟩
        · rintro c st'' ⟨rfl,rfl⟩
          dsimp only
          refine wpS_bind (wpS_modify ?_)
          refine wpS_bind (wpS_modify ?_)
          refine wpS_pure (.inr (.inr ⟨by omega,(by congr 1; omega),.inr ⟨n,a₀.size - n,power' a₀.size (2*0+n) (2*0+n+n+(a₀.size - n)) a₀.size,⟨b2.perm,b2.kind,b2.failed,?_⟩,by omega,by omega,by omega,keep st2 pre2,sf2⟩⟩))
          show ((pendingOf st2).modify ((pendingOf st2).size - 1) _).push (n,_,0)=_
          rw [b2.pend]
          first | rfl | simp [Array.modify] | (apply Array.ext'; simp [Array.modify])
    · dsimp only
      rw [if_pos (Nat.le_refl _)]
      exact wpS_pure ⟨rfl,hD⟩
  case post =>
    rintro c st' ⟨rfl,hD⟩
    dsimp only
    refine wpS_bind (wpS_mono (wpS_forRange (I:=fun y c st''=>c=(none,())/\((y=0/\zo a₀ st'')\/((arrOf st'').Perm a₀/\failedOf st''=none/\(pendingOf st'').size<=1/\SortedTo (arrOf st'') a₀.size)))
      (Q:=fun c st''=>c=(none,())/\(arrOf st'').Perm a₀/\failedOf st''=none/\SortedTo (arrOf st'') a₀.size) ?_ ?_ ⟨rfl,.inl ⟨rfl,hD⟩⟩) ?_)
    · rintro y c st'' _ _ ⟨rfl,⟨rfl,hD⟩ | ⟨q1,q2,q3,q4⟩⟩
      · refine wpS_bind (wpS_get ?_)
        skip
        rcases hD with ⟨b,sf⟩ | ⟨n1,n2,pw,b,e,g1,g2,s1,s2⟩
        · rw [if_pos (by rw [b.pend]; exact Nat.le_refl 1)]
          exact wpS_pure ⟨rfl,b.perm,b.failed,fun i j hij hj=>sf i j (Nat.zero_le _) hij (by omega)⟩
        · rw [if_neg (by rw [b.pend]; simp)]
          rw [b.pend]
          refine wpS_bind (uq b.kind (b.keys h0) b.failed b.pend (by rw [b.size]; omega) g1 g2 (fun i j hij hj=>s1 i j (Nat.zero_le _) hij (by omega)) (fun i j hi hij hj=>s2 i j hi hij hj) fun st5 f5 p5 pm5 so5=>?_)
          refine wpS_pure ⟨rfl,.inr ⟨pm5.trans b.perm,f5,by rw [p5]; exact Nat.le_refl 1,fun i j hij hj=>so5 i j hij (by rw [pm5.size_eq,b.size]; exact hj)⟩⟩
      · refine wpS_bind (wpS_get ?_)
        skip
        rw [if_pos q3]
        exact wpS_pure ⟨rfl,q1,q2,q4⟩
    · rintro c st'' ⟨rfl,⟨hy,_⟩ | ⟨q1,q2,q3,q4⟩⟩
      · omega
      · exact ⟨rfl,q1,q2,q4⟩
    · rintro c st'' ⟨rfl,q1,q2,q4⟩
      exact wpS_pure (h _ q1 q2 q4)
end
section
variable {prog:Program} {w:World} {A:Around} {E:Value->Shared->Prop} {s:Shared}
theorem y4 {c:Addr} {us:List Value} {ks:List Int} {m:Nat} {P:PySem.Fin->Shared->Prop} (hc:s.heap.get? c=some (seqObj "list" us.toArray m)) (hu:IntsAre us ks) (l1:64<=us.length) (l2:us.length < 128)
    (q:∀ (out:Array Value) (js:List Int),IntsAre out.toList js->js.Perm ks->js.Pairwise (·<=·)->P (.done (.ret .none)) { s with heap:=sortedHeap s.heap c us out }):wpAny (model prog w) A (Builtin.«list.sort» ⟨[.ref c],[]⟩) P E s:=by
  have hlt:c < s.heap.objs.size:=Heap.lt_size hc
  have hn:us.toArray.size=us.length:=by simp
  obtain ⟨e,h1⟩:∃ e,(s.heap.update c (Obj.mapSeq fun _=>#[])).get? c=some (seqObj "list" #[] e):=⟨_,get?_update_seq hc _⟩
  have h2:(((s.heap.update c (Obj.mapSeq fun _=>#[])).push (seqObj "tuple" us.toArray 0)).push (seqObj "list" #[] 0)).get? c=some (seqObj "list" #[] e):=Heap.get?_push_of_some _ (Heap.get?_push_of_some _ h1)
  have hz1:us.length<=sizeLine:=by rw [sizeLine_eq]; omega
  rw [list_sort_plain]
  refine wpAny_bind (listItems_at hc rfl (wpAny_bind (listUpdate_at hc rfl (wpAny_bind (seqEpoch_at h1 rfl (wpAny_bind (wpAny_newTuple (wpAny_bind (wpAny_newList (wpAny_holding ?_) (Nat.zero_le _))) hz1)))) (by rw [List.size_toArray]; exact hz1) (Nat.zero_le _))))
  show wpAny (model prog w) A _ P E { s with heap:=((s.heap.update c (Obj.mapSeq fun _=>#[])).push (seqObj "tuple" us.toArray 0)).push (seqObj "list" #[] 0) }
  have b2:¬ us.toArray.size < 2:=by omega
  dsimp only
  rw [if_neg b2,if_neg b2]
  obtain ⟨u1,u2,ut,rfl⟩:∃ u1 u2 ut,us=u1::u2::ut:=by
    match us,l1 with
    | u1::u2::ut,_=>exact ⟨u1,u2,ut,rfl⟩
  rw [keyKind_ints hu]
  refine wpAny_bind (wpAny_pure (wpAny_bind (wpAny_mono (yY (a₀:=pairsOf (u1::u2::ut)) (Q:=fun _ z=>(arrOf z).Perm (pairsOf (u1::u2::ut))/\failedOf z=none/\SortedTo (arrOf z) (pairsOf (u1::u2::ut)).size)
    hu.intKeys ⟨Array.Perm.refl _,rfl,rfl,rfl⟩ (by rw [pairsOf_size]; exact l1) (by rw [pairsOf_size]; exact l2) fun z z1 z2 z3=>⟨z1,z2,z3⟩) ?_ fun _ _ x=>x)))
  rintro ⟨⟨⟩,z⟩ s' ⟨rfl,z1,z2,z3⟩
  obtain ⟨js,j1,j2,j3⟩:=sorted_out hu z1 z3
  have hz:((arrOf z).map (·.2)).size<=sizeLine+1:=by
    rw [Array.size_map,z1.size_eq,pairsOf_size,sizeLine_eq]
    omega
  dsimp only
  refine wpAny_bind (seqEpoch_at h2 rfl (wpAny_bind (listUpdate_at h2 rfl ?_ (hsz2:=hz))))
  rw [z2]
  simp only [bne_self_eq_false,Bool.false_eq_true,if_false]
  exact wpAny_pure (q _ js j1 j2 j3)
theorem sorted_far {c:Addr} {us:List Value} {ks:List Int} {Q:Value->Shared->Prop} (hc:s.heap.IsList c us.toArray) (hu:IntsAre us ks) (l1:64<=us.length) (l2:us.length < 128)
    (q:∀ (out:Array Value) (js:List Int),IntsAre out.toList js->js.Perm ks->js.Pairwise (·<=·)->Q (.ref (s.heap.objs.size+1)) { s with heap:=sortedAll s.heap us out }):wpAny (model prog w) A (call (.builtin "sorted") [.ref c]) Q E s:=by
  have hn:((s.heap.push (seqObj "list" #[] 0)).update s.heap.objs.size (Obj.mapSeq (·++us.toArray))).objs.size=s.heap.objs.size+1:=(Heap.size_update _ _ _).trans (size_push' _ _)
  have hL:=hn▸Heap.get?_push_size ((s.heap.push (seqObj "list" #[] 0)).update s.heap.objs.size (Obj.mapSeq (·++us.toArray))) (o:=seqObj "list" us.toArray 0) rfl
  refine Calls.call_function_entry kind_sorted plain_sorted entry_sorted (args_sorted1 _) ?_
  unfold Builtin.«sorted»
  have hz1:us.length<=sizeLine:=by rw [sizeLine_eq]; omega
  refine wpAny_bind (m:=checkCount "sorted" 1 1 _) (wpAny_pure (wpAny_bind (collect_list hc (wpAny_bind (wpAny_newList ?_ hz1)) hz1)))
  show wpAny _ _ _ _ _ { s with heap:=((s.heap.push (seqObj "list" #[] 0)).update s.heap.objs.size (Obj.mapSeq (·++us.toArray))).push (seqObj "list" us.toArray 0) }
  rw [hn]
  exact wpAny_bind (wpAny_holding (wpAny_call_entry slot_list_sort ⟨_,hL,rfl⟩ entry_list_sort (y4 hL hu l1 l2 fun out js a1 a2 a3=>⟨_,rfl,wpAny_pure ⟨_,rfl,q out js a1 a2 a3⟩⟩) (args_list_sort _)))
end
end Lg
namespace L2
open PySem PySem.Spec PyProof.Rows
theorem rY {X:Cx}:dY X (.builtin "sorted") (fun xs H Q=>∃ (p:Addr) (ns:List Int),xs=[.ref p]/\aq X.K H p (ns.map V.int)/\ns.length < 128/\∀ (q:Addr) (ms:List Int),H q=none->ms.Perm ns->ms.Pairwise (·<=·)->Q (.ref q) (upd H q (.lst (ms.map V.int)))):=by
  intro pins s σ H xs us Q I r h
  obtain ⟨p,ns,rfl,hl,h2,q⟩:=h
  by_cases h64:ns.length < 64
  · exact mP pins s σ H _ us Q I r ⟨p,ns,rfl,hl,h64,q⟩
  obtain ⟨u,rfl,ru⟩:=vals1 r
  cases ru
  obtain ⟨its,r',pl,hz⟩:=I.list hl
  have hi:IntsAre its ns:=intsAre_of r'
  refine Lg.sorted_far pl.isList hi (by rw [hi.length]; omega) (by rw [hi.length]; exact h2) fun out ms ho hp hs=>?_
  obtain ⟨e,he⟩:=sortedAll_at s.heap its out
  have lm:(ms.map V.int).length<=sizeLine:=by rw [List.length_map,hp.length_eq]; exact sz (by omega)
  exact ⟨.ref _,_,I.laid (t':=s.toks) (o:=.lst (ms.map V.int)) (fun b u e=>sortedAll_old e) (Nat.le_succ _) ⟨lm,out.toList,e,jo ho,by simpa [seqObj] using he⟩,rfl,q _ ms (I.hok.fresh (Nat.le_succ _)) hp hs⟩
end L2
set_option Elab.async false
set_option linter.all false
set_option maxRecDepth 100000
set_option maxHeartbeats 4000000
namespace L2
open PySem PySem.Spec PyProof.Rows
section
variable {X:Cx} {tg:Expr}
end
section
variable {X:Cx} {a b c d:Expr} {ta tb tc td:TE} {pos:Pos}
noncomputable def DW (r1 r2 r3:R2) (ta tb tc td:TE):TE:=fun σ H Q=>ta σ H fun x H1=>tb σ H1 fun y H2=>r1 x y H2 fun z H3=>∃ k,z = .bl k /\
  (if k=true then tc σ H3 fun w' H4=>r2 y w' H4 fun z' H5=>∃ k',z' = .bl k'/\(if k'=true then td σ H5 fun v' H6=>r3 w' v' H6 Q else Q (.bl false) H5) else Q (.bl false) H3)
theorem Bd {o1 o2 o3:CmpOp} {r1 r2 r3:R2} (h1:fG X (compareOp o1) r1) (h2:fG X (compareOp o2) r2) (h3:fG X (compareOp o3) r3) (ha:PE X a ta) (hb:PE X b tb) (hc:PE X c tc) (hd:PE X d td)
    (hm:lastMarks [o1,o2,o3] [b,c,d]=false:=by with_unfolding_all rfl):PT X (.Compare a [o1,o2,o3] [b,c,d] pos) (zl (DW r1 r2 r3 ta tb tc td)):=by
  intro pins s σ H Q I h
  refine isTrue_chain (aF (ha pins s σ H _ I h) fun v s1 ⟨x,H1,I1,x1,q1⟩=>test_link (aF (hb pins s1 σ H1 _ I1 q1) fun u s2 ⟨y,H2,I2,x2,q2⟩ =>
    aF (h1 pins s2 σ H2 x y v u _ I2 x1 x2 q2) fun e s3 ⟨z,H3,I3,x3,k,ek,q3⟩=>?_)) hm
  subst ek
  cases x3
  refine wpAny_truthy_bool ?_
  cases k with
  | false =>
    obtain ⟨k',e',q'⟩:=q3
    cases e'
    exact ite_ff ⟨H3,I3,q'⟩
  | true =>
    refine ite_tt (test_link (aF (hc pins s3 σ H3 _ I3 q3) fun w' s4 ⟨z',H4,I4,x4,q4⟩=>aF (h2 pins s4 σ H4 y z' u w' _ I4 x2 x4 q4) fun d' s5 ⟨z2,H5,I5,x5,k2,e2,q5⟩=>?_))
    subst e2
    cases x5
    refine wpAny_truthy_bool ?_
    cases k2 with
    | false =>
      obtain ⟨k',e',q'⟩:=q5
      cases e'
      exact ite_ff ⟨H5,I5,q'⟩
    | true =>
      refine ite_tt (test_last (aF (hd pins s5 σ H5 _ I5 q5) fun w2 s6 ⟨z3,H6,I6,x6,q6⟩=>aF (h3 pins s6 σ H6 z' z3 w' w2 _ I6 x4 x6 q6) fun d2 s7 ⟨z4,H7,I7,x7,k3,e3,q7⟩=>?_))
      subst e3
      cases x7
      exact wpAny_truthy_bool ⟨H7,I7,q7⟩
end
end L2
namespace Ck
open PySem L2
theorem EqD.prs {K:PySem.W.Frag} {H:Hp} {a b:Addr} {ps qs:List Pair} (ne:a≠b) (ha:gf H a ps) (hb:gf H b qs):EqD K H 2 (.ref a) (.ref b) (decide (ps=qs)):=by
  obtain ⟨xs,ea,lx,px⟩:=ha.len
  obtain ⟨ys,eb,ly,py⟩:=hb.len
  by_cases hl:ps.length=qs.length
  · have h:=EqD.lst (K:=K) (n:=1) (e:=fun j=>decide (ps.getD j (0,0)=qs.getD j (0,0))) ne (aq.of ea) (aq.of eb) (by omega) (fun j x y hx hy=>by
      obtain ⟨p,t,hp,rfl,ht⟩:=px.get hx
      obtain ⟨r,u,hr,rfl,hu⟩:=py.get hy
      rw [List.getD_eq_getElem?_getD,List.getD_eq_getElem?_getD,hp,hr]
      show EqD K H 1 _ _ (decide (p=r))
      by_cases e:t=u
      · subst e
        have:p=r:=by
          rw [ht] at hu
          injection hu with hu; injection hu with hu
          injection hu with h1 h2; injection h2 with h2 _
          injection h1 with h1; injection h2 with h2
          exact Prod.ext h1 h2
        rw [decide_eq_true this]
        exact EqD.same
      · have:=EqD.two (K:=K) (n:=0) e ht hu
        have e2:decide (p=r)=(decide (p.1=r.1)&&decide (p.2=r.2)):=by
          rw [Bool.eq_iff_iff,Bool.and_eq_true,decide_eq_true_iff,decide_eq_true_iff,decide_eq_true_iff]
          exact ⟨fun z=>by rw [z]; exact ⟨rfl,rfl⟩,fun z=>Prod.ext z.1 z.2⟩
        rw [e2]
        exact this)
    have e:(List.range xs.length).all (fun j=>decide (ps.getD j (0,0)=qs.getD j (0,0)))=decide (ps=qs):=by
      rw [Bool.eq_iff_iff,List.all_eq_true,decide_eq_true_iff]
      constructor
      · intro h
        refine List.ext_getElem hl fun k h1 h2=>?_
        have:=of_decide_eq_true (h k (List.mem_range.mpr (by omega)))
        rw [List.getD_eq_getElem?_getD,List.getD_eq_getElem?_getD,List.getElem?_eq_getElem h1,List.getElem?_eq_getElem h2] at this
        exact this
      · intro h k _
        rw [h]
        exact decide_eq_true rfl
    rw [e] at h
    exact h
  · have:decide (ps=qs)=false:=decide_eq_false fun z=>hl (by rw [z])
    rw [this]
    exact EqD.lstN ne (aq.of ea) (aq.of eb) (by omega)
end Ck
namespace Ck
open PySem L2
noncomputable def aX:List Pair->List Int
  | []=>[]
  | p::ps=>p.1::p.2::aX ps
theorem gy:∀ ps:List Pair,(aX ps).length=2*ps.length
  | []=>rfl
  | p::ps=>by
    show (aX ps).length+1+1=2*(ps.length+1)
    have:=gy ps
    omega
theorem ko:∀ ps qs:List Pair,aX (ps++qs)=aX ps++aX qs
  | [],qs=>rfl
  | p::ps,qs=>by
    show p.1::p.2::aX (ps++qs)=_
    rw [ko ps qs]
    rfl
theorem g9 {x:Int}:∀ {ps:List Pair},x∈aX ps↔∃ p∈ps,x=p.1\/x=p.2
  | []=>by simp [aX]
  | p::ps=>by
    show x∈p.1::p.2::aX ps↔_
    rw [List.mem_cons,List.mem_cons,g9 (ps:=ps)]
    constructor
    · rintro (h | h | ⟨r,hr,h⟩)
      · exact ⟨p,List.mem_cons_self ..,.inl h⟩
      · exact ⟨p,List.mem_cons_self ..,.inr h⟩
      · exact ⟨r,List.mem_cons_of_mem _ hr,h⟩
    · rintro ⟨r,hr,h⟩
      rcases List.mem_cons.mp hr with rfl | hr
      · rcases h with h | h
        · exact .inl h
        · exact .inr (.inl h)
      · exact .inr (.inr ⟨r,hr,h⟩)
theorem pV {a b c:Int}:∀ {ps:List Pair} {i:Nat},ps[i]? = some (a,b)->(aX (ps.set i (a,c))++[b]).Perm (aX ps++[c])
  | [],i,h=>by simp at h
  | p::ps,0,h=>by
    have e:p=(a,b):=by simpa using h
    subst e
    show (a::c::(aX ps++[b])).Perm (a::b::(aX ps++[c]))
    refine List.Perm.cons _ ?_
    have h1:(c::(aX ps++[b])).Perm (c::b::aX ps):=(List.perm_append_singleton ..).cons _
    have h2:(b::(aX ps++[c])).Perm (b::c::aX ps):=(List.perm_append_singleton ..).cons _
    exact h1.trans ((List.Perm.swap ..).trans h2.symm)
  | p::ps,i+1,h=>by
    have:=pV (c:=c) (ps:=ps) (i:=i) (by simpa using h)
    exact (this.cons _).cons _
noncomputable abbrev bb (ps:List Pair) (k:Nat):Int:=(ps.getD k (0,0)).1
noncomputable abbrev fF (ps:List Pair) (k:Nat):Int:=(ps.getD k (0,0)).2
noncomputable def xv (ps:List Pair) (k:Nat):Bool:=decide (bb ps k < fF ps k)&&(decide (k=0) || decide (bb ps (k - 1) < bb ps k))
noncomputable def iV (p r:Pair):Bool:=decide (p.1 < r.1)&&(decide (r.1 < p.2)&&decide (p.2 < r.2))
noncomputable def dH (ps:List Pair):Bool:=ps.any fun p=>ps.any (iV p)
noncomputable def dg (ps:List Pair):Bool:=(List.range ps.length).all (xv ps)&&(dX (aX ps)&&!dH ps)
theorem jc {ps:List Pair}:(List.range ps.length).all (xv ps)=true↔∀ k,k < ps.length->bb ps k < fF ps k/\(k=0\/bb ps (k - 1) < bb ps k):=by
  rw [List.all_eq_true]
  constructor
  · intro h k hk
    have:=h k (List.mem_range.mpr hk)
    unfold xv at this
    simpa using this
  · intro h k hk
    have:=h k (List.mem_range.mp hk)
    unfold xv
    simpa using this
theorem xy {ps:List Pair} (h:∀ k,k < ps.length->k=0\/bb ps (k - 1) < bb ps k):∀ (j i:Nat),i < j->j < ps.length->bb ps i < bb ps j
  | 0,i,hi,_=>absurd hi (Nat.not_lt_zero _)
  | j+1,i,hi,hj=>by
    have h1:=(h (j+1) hj).resolve_left (by omega)
    rw [Nat.add_sub_cancel] at h1
    by_cases e:i=j
    · subst e; exact h1
    · exact Int.lt_trans (xy h j i (by omega) (by omega)) h1
theorem xY {ps:List Pair} {k:Nat} (h:k < ps.length):ps.getD k (0,0)∈ps:=by
  rw [List.getD_eq_getElem?_getD,List.getElem?_eq_getElem h]
  exact List.getElem_mem h
theorem kh {ps:List Pair} {p:Pair} (h:p∈ps):∃ k,k < ps.length/\ps.getD k (0,0)=p:=by
  obtain ⟨k,hk,e⟩:=List.getElem_of_mem h
  exact ⟨k,hk,by rw [List.getD_eq_getElem?_getD,List.getElem?_eq_getElem hk]; exact e⟩
theorem jV {ps:List Pair} (h:(aX ps).Nodup):ps.Pairwise fun p q=>p.1≠q.1:=by
  induction ps with
  | nil=>exact .nil
  | cons p ps ih =>
    have h':(p.1::p.2::aX ps).Nodup:=h
    rw [List.nodup_cons,List.nodup_cons] at h'
    refine .cons (fun q hq e=>h'.1 ?_) (ih h'.2.2)
    rw [e]
    exact List.mem_cons_of_mem _ (g9.mpr ⟨q,hq,.inl rfl⟩)
theorem kA (n:Nat):(gw n).Nodup:=(xT n).imp fun h=>Int.ne_of_lt h
theorem jL {ps qs:List Pair} (hp:qs.Perm ps) (hs:qs.Pairwise gI) (hE:dX (aX ps)=true):decide (ps=qs)=true↔∀ k,k < ps.length->k=0\/bb ps (k - 1) < bb ps k:=by
  have nd:(aX ps).Nodup:=((gh _).mp hE).nodup_iff.mpr (kA _)
  have ne:=jV nd
  rw [decide_eq_true_iff]
  constructor
  · intro e k hk
    rw [<- e] at hs
    by_cases h0:k=0
    · exact .inl h0
    refine .inr ?_
    have h1:=List.pairwise_iff_getElem.mp hs (k - 1) k (by omega) hk (by omega)
    have h2:=List.pairwise_iff_getElem.mp ne (k - 1) k (by omega) hk (by omega)
    have e1:ps.getD (k - 1) (0,0)=ps[k - 1]:=by rw [List.getD_eq_getElem?_getD,List.getElem?_eq_getElem (by omega)]; rfl
    have e2:ps.getD k (0,0)=ps[k]:=by rw [List.getD_eq_getElem?_getD,List.getElem?_eq_getElem hk]; rfl
    unfold bb
    rw [e1,e2]
    unfold gI at h1
    omega
  · intro h
    refine List.Perm.eq_of_pairwise (le:=gI) (fun a b _ _ h1 h2=>?_) ?_ hs hp.symm
    · unfold gI at h1 h2
      exact Prod.ext (by omega) (by omega)
    · refine List.pairwise_iff_getElem.mpr fun i j hi hj hij=>?_
      have:=xy h j i hij hj
      unfold bb at this
      rw [List.getD_eq_getElem?_getD,List.getD_eq_getElem?_getD,List.getElem?_eq_getElem hi,List.getElem?_eq_getElem hj] at this
      exact .inl this
theorem BJ {ps:List Pair}:(ps.all fun p=>decide (p.1 < p.2))=true↔∀ k,k < ps.length->bb ps k < fF ps k:=by
  rw [List.all_eq_true]
  constructor
  · intro h k hk
    exact of_decide_eq_true (h _ (xY hk))
  · intro h p hp
    obtain ⟨k,hk,rfl⟩:=kh hp
    exact decide_eq_true (h k hk)
theorem xV {ps:List Pair} (h:dX (aX ps)=false):dg ps=false:=by unfold dg; rw [h]; simp
theorem wJ {ps qs:List Pair} (hp:qs.Perm ps) (hs:qs.Pairwise gI) (hE:dX (aX ps)=true) (h:ps≠qs):dg ps=false:=by
  cases e:dg ps with
  | false=>rfl
  | true =>
    unfold dg at e
    rw [Bool.and_eq_true] at e
    exact absurd (of_decide_eq_true ((jL hp hs hE).mpr fun k hk=>(jc.mp e.1 k hk).2)) h
theorem ur {ps qs:List Pair} (hp:qs.Perm ps) (hs:qs.Pairwise gI) (hE:dX (aX ps)=true) (h:ps=qs):dg ps=((ps.all fun p=>decide (p.1 < p.2))&&!dH ps):=by
  have a:=(jL hp hs hE).mp (decide_eq_true h)
  have b:(List.range ps.length).all (xv ps)=ps.all fun p=>decide (p.1 < p.2):=by
    rw [Bool.eq_iff_iff,jc,BJ]
    exact ⟨fun h k hk=>(h k hk).1,fun h k hk=>⟨h k hk,a k hk⟩⟩
  unfold dg
  rw [b,hE,Bool.true_and]
theorem gz {ps:List Pair}:dH ps=true↔∃ p∈ps,∃ r∈ps,p.1 < r.1/\r.1 < p.2/\p.2 < r.2:=by
  unfold dH
  rw [List.any_eq_true]
  constructor
  · rintro ⟨p,hp,h⟩
    obtain ⟨r,hr,h⟩:=List.any_eq_true.mp h
    unfold iV at h
    exact ⟨p,hp,r,hr,by simpa using h⟩
  · rintro ⟨p,hp,r,hr,h⟩
    exact ⟨p,hp,List.any_eq_true.mpr ⟨r,hr,by unfold iV; simpa using h⟩⟩
inductive jX:Nat->List Pair->List Int->Prop
  | nil:jX 0 [] []
  | push {i:Nat} {ps:List Pair} {pl:List Int} (h:jX i ps pl):jX (i+1) (ps++[((0:Int)+(i:Int),(0:Int)+(i:Int))]) (pl++[(ps.length:Int)])
  | pop {i:Nat} {ps:List Pair} {pl:List Int} {m:Int} {p:Pair} (h:jX i ps (pl++[m])) (hm:ps[m.toNat]? = some p):jX (i+1) (ps.set m.toNat (p.1,(0:Int)+(i:Int))) pl
structure jq (i:Nat) (ps:List Pair) (pl:List Int):Prop where
  ris:∀ a b:Nat,a < b->b < ps.length->bb ps a < bb ps b
  fst:∀ a:Nat,a < ps.length->0<=bb ps a/\bb ps a < (i:Int)
  opn:∀ k∈pl,0<=k/\k < (ps.length:Int)/\fF ps k.toNat=bb ps k.toNat
  ups:pl.Pairwise (· < ·)
  cls:∀ a:Nat,a < ps.length->(a:Int)∉pl->bb ps a < fF ps a/\fF ps a < (i:Int)
  str:∀ a b:Nat,a < ps.length->b < ps.length->(a:Int)∉pl->(b:Int)∈pl->¬ (bb ps a < bb ps b/\bb ps b < fF ps a)
  crs:∀ a b:Nat,a < ps.length->b < ps.length->(a:Int)∉pl->(b:Int)∉pl->¬ (bb ps a < bb ps b/\bb ps b < fF ps a/\fF ps a < fF ps b)
  prm:(aX ps).Perm (gw i++pl.map fun k=>bb ps k.toNat)
theorem w8 {ps:List Pair} {p:Pair} {k:Nat} (h:k < ps.length):(ps++[p]).getD k (0,0)=ps.getD k (0,0):=by
  rw [List.getD_eq_getElem?_getD,List.getD_eq_getElem?_getD,List.getElem?_append_left h]
theorem xG {ps:List Pair} {p:Pair}:(ps++[p]).getD ps.length (0,0)=p:=by
  rw [List.getD_eq_getElem?_getD,List.getElem?_append_right (Nat.le_refl _)]
  simp
theorem kj {ps:List Pair} {p:Pair} {k m:Nat} (h:m < ps.length):(ps.set m p).getD k (0,0)=if k=m then p else ps.getD k (0,0):=by
  rw [List.getD_eq_getElem?_getD,List.getD_eq_getElem?_getD,List.getElem?_set]
  by_cases e:m=k
  · subst e
    simp [h]
  · have:¬ k=m:=fun z=>e z.symm
    simp [e,this]
theorem jq.push {i:Nat} {ps:List Pair} {pl:List Int} (h:jq i ps pl):jq (i+1) (ps++[((0:Int)+(i:Int),(0:Int)+(i:Int))]) (pl++[(ps.length:Int)]):=by
  have len:(ps++[((0:Int)+(i:Int),(0:Int)+(i:Int))]).length=ps.length+1:=by simp
  have old:∀ k,k < ps.length->(ps++[((0:Int)+(i:Int),(0:Int)+(i:Int))]).getD k (0,0)=ps.getD k (0,0):=fun k hk=>w8 hk
  have new:(ps++[((0:Int)+(i:Int),(0:Int)+(i:Int))]).getD ps.length (0,0)=((0:Int)+(i:Int),(0:Int)+(i:Int)):=xG
  have out:∀ a:Nat,a < ps.length+1->(a:Int)∉pl++[(ps.length:Int)]->a < ps.length/\(a:Int)∉pl:=fun a ha hn=>by
    have h1:(a:Int)∉pl:=fun z=>hn (List.mem_append_left _ z)
    refine ⟨?_,h1⟩
    by_cases e:a=ps.length
    · exact absurd (by rw [e]; simp) hn
    · omega
  constructor
  · intro a b hab hb
    rw [len] at hb
    unfold bb
    by_cases e:b=ps.length
    · subst e
      rw [new,old a hab]
      have:=h.fst a hab
      show (ps.getD a (0,0)).1 < 0+(i:Int)
      unfold bb at this
      omega
    · rw [old a (by omega),old b (by omega)]
      exact h.ris a b hab (by omega)
  · intro a ha
    rw [len] at ha
    unfold bb
    by_cases e:a=ps.length
    · subst e
      rw [new]
      show 0<=(0:Int)+(i:Int)/\(0:Int)+(i:Int) < ((i+1:Nat):Int)
      omega
    · rw [old a (by omega)]
      have:=h.fst a (by omega)
      unfold bb at this
      omega
  · intro k hk
    rw [len]
    unfold bb fF
    rcases List.mem_append.mp hk with z | z
    · obtain ⟨h1,h2,h3⟩:=h.opn k z
      rw [old k.toNat (by omega)]
      exact ⟨h1,by omega,h3⟩
    · have e:k=(ps.length:Int):=by simpa using z
      subst e
      rw [show ((ps.length:Nat):Int).toNat=ps.length by omega,new]
      exact ⟨by omega,by omega,rfl⟩
  · refine List.pairwise_append.mpr ⟨h.ups,List.pairwise_singleton ..,fun x hx y hy=>?_⟩
    have e:y=(ps.length:Int):=by simpa using hy
    have:=h.opn x hx
    omega
  · intro a ha hn
    rw [len] at ha
    obtain ⟨h1,h2⟩:=out a ha hn
    unfold bb fF
    rw [old a h1]
    have:=h.cls a h1 h2
    unfold bb fF at this
    omega
  · intro a b ha hb hn hm
    rw [len] at ha hb
    obtain ⟨h1,h2⟩:=out a ha hn
    unfold bb fF
    rw [old a h1]
    by_cases e:b=ps.length
    · subst e
      rw [new]
      have:=h.cls a h1 h2
      unfold bb fF at this
      show ¬ (_/\0+(i:Int) < _)
      omega
    · have hb':b < ps.length:=by omega
      rw [old b hb']
      refine h.str a b h1 hb' h2 ?_
      rcases List.mem_append.mp hm with z | z
      · exact z
      · exact absurd (by simpa using z) (show ¬ (b:Int)=(ps.length:Int) by omega)
  · intro a b ha hb hn hm
    rw [len] at ha hb
    obtain ⟨h1,h2⟩:=out a ha hn
    obtain ⟨h3,h4⟩:=out b hb hm
    unfold bb fF
    rw [old a h1,old b h3]
    exact h.crs a b h1 h3 h2 h4
  · rw [ko,r6,List.map_append]
    have e1:(pl.map fun k=>bb (ps++[((0:Int)+(i:Int),(0:Int)+(i:Int))]) k.toNat)=pl.map fun k=>bb ps k.toNat:=List.map_congr_left fun k hk=>by
      have:=h.opn k hk
      unfold bb
      rw [old k.toNat (by omega)]
    have e2:([(ps.length:Int)].map fun k=>bb (ps++[((0:Int)+(i:Int),(0:Int)+(i:Int))]) k.toNat)=[(i:Int)]:=by
      show [((ps++[((0:Int)+(i:Int),(0:Int)+(i:Int))]).getD ((ps.length:Nat):Int).toNat (0,0)).1]=_
      rw [show ((ps.length:Nat):Int).toNat=ps.length by omega,new]
      simp
    rw [e1,e2]
    have e3:aX [((0:Int)+(i:Int),(0:Int)+(i:Int))]=[(i:Int)]++[(i:Int)]:=by simp [aX]
    rw [e3,<- List.append_assoc,<- List.append_assoc]
    refine List.Perm.append_right _ ?_
    refine (h.prm.append_right _).trans ?_
    rw [List.append_assoc,List.append_assoc]
    exact List.Perm.append_left _ List.perm_append_comm
theorem jq.pop {i:Nat} {ps:List Pair} {pl:List Int} {m:Int} {p:Pair} (h:jq i ps (pl++[m])) (hm:ps[m.toNat]? = some p):jq (i+1) (ps.set m.toNat (p.1,(0:Int)+(i:Int))) pl:=by
  obtain ⟨m0,m1,m2⟩:=h.opn m (by simp)
  have hl:m.toNat < ps.length:=by omega
  have ep:ps.getD m.toNat (0,0)=p:=by rw [List.getD_eq_getElem?_getD,hm]; rfl
  have f:∀ k,bb (ps.set m.toNat (p.1,(0:Int)+(i:Int))) k=bb ps k:=fun k=>by
    unfold bb
    rw [kj hl]
    split
    · next e=>rw [e,ep]
    · rfl
  have s:∀ k,k≠m.toNat->fF (ps.set m.toNat (p.1,(0:Int)+(i:Int))) k=fF ps k:=fun k e=>by
    unfold fF
    rw [kj hl,if_neg e]
  have sm:fF (ps.set m.toNat (p.1,(0:Int)+(i:Int))) m.toNat=(i:Int):=by
    unfold fF
    rw [kj hl,if_pos rfl]
    show 0+(i:Int)=_
    omega
  obtain ⟨u1,_,u3⟩:=List.pairwise_append.mp h.ups
  have lt:∀ k∈pl,k < m:=fun k hk=>u3 k hk m (by simp)
  have mem:∀ a:Nat,(a:Int)∈pl->a≠m.toNat:=fun a ha e=>by have:=lt _ ha; omega
  have out:∀ a:Nat,a≠m.toNat->(a:Int)∉pl->(a:Int)∉pl++[m]:=fun a e hn z=>by
    rcases List.mem_append.mp z with z | z
    · exact hn z
    · have:(a:Int)=m:=by simpa using z
      omega
  have hin:((m.toNat:Nat):Int)∈pl++[m]:=by rw [show ((m.toNat:Nat):Int)=m by omega]; simp
  have fm:=h.fst m.toNat hl
  constructor
  · intro a b hab hb
    rw [List.length_set] at hb
    rw [f,f]
    exact h.ris a b hab hb
  · intro a ha
    rw [List.length_set] at ha
    rw [f]
    have:=h.fst a ha
    omega
  · intro k hk
    obtain ⟨h1,h2,h3⟩:=h.opn k (List.mem_append_left _ hk)
    rw [List.length_set,f,s _ (by have:=lt k hk; omega)]
    exact ⟨h1,h2,h3⟩
  · exact u1
  · intro a ha hn
    rw [List.length_set] at ha
    rw [f]
    by_cases e:a=m.toNat
    · subst e
      rw [sm]
      omega
    · rw [s a e]
      have:=h.cls a ha (out a e hn)
      omega
  · intro a b ha hb hn hm'
    rw [List.length_set] at ha hb
    rw [f,f]
    by_cases e:a=m.toNat
    · subst e
      have h1:=lt _ hm'
      have:=h.ris b m.toNat (by omega) hl
      omega
    · rw [s a e]
      exact h.str a b ha hb (out a e hn) (List.mem_append_left _ hm')
  · intro a b ha hb hn hm'
    rw [List.length_set] at ha hb
    rw [f,f]
    by_cases ea:a=m.toNat
    · by_cases eb:b=m.toNat
      · subst ea; subst eb; omega
      · subst ea
        rw [sm,s b eb]
        have:=h.cls b hb (out b eb hm')
        omega
    · by_cases eb:b=m.toNat
      · subst eb
        rw [s a ea]
        have:=h.str a m.toNat ha hl (out a ea hn) hin
        omega
      · rw [s a ea,s b eb]
        exact h.crs a b ha hb (out a ea hn) (out b eb hm')
  · have e1:(pl.map fun k=>bb (ps.set m.toNat (p.1,(0:Int)+(i:Int))) k.toNat)=pl.map fun k=>bb ps k.toNat:=List.map_congr_left fun k _=>f _
    rw [e1,r6]
    have e2:p.2=p.1:=by
      unfold bb fF at m2
      rw [ep] at m2
      exact m2
    have h1:=pV (a:=p.1) (b:=p.2) (c:=(0:Int)+(i:Int)) (ps:=ps) (i:=m.toNat) hm
    have h2:=h.prm
    rw [List.map_append] at h2
    have e3:[m].map (fun k=>bb ps k.toNat)=[p.2]:=by
      show [bb ps m.toNat]=_
      unfold bb
      rw [ep,e2]
    rw [e3,<- List.append_assoc] at h2
    have h3:(aX (ps.set m.toNat (p.1,(0:Int)+(i:Int)))++[p.2]).Perm ((gw i++[(i:Int)])++pl.map (fun k=>bb ps k.toNat)++[p.2]):=by
      refine h1.trans ((h2.append_right _).trans ?_)
      rw [show (0:Int)+(i:Int)=(i:Int) by omega,List.append_assoc,List.append_assoc,List.append_assoc,List.append_assoc]
      refine List.Perm.append_left _ ?_
      rw [<- List.append_assoc]
      refine List.perm_append_comm.trans ?_
      exact List.Perm.refl _
    exact (List.perm_append_right_iff _).mp h3
theorem jX.ok {i:Nat} {ps:List Pair} {pl:List Int} (h:jX i ps pl):jq i ps pl:=by
  induction h with
  | nil=>exact ⟨fun a b _ hb=>by simp at hb,fun a ha=>by simp at ha,fun k hk=>by simp at hk,.nil,fun a ha=>by simp at ha,fun a b ha=>by simp at ha,fun a b ha=>by simp at ha,List.Perm.refl _⟩
  | push _ ih=>exact ih.push
  | pop _ hm ih=>exact ih.pop hm
theorem jX.bows {n:Nat} {ps:List Pair} (h:jX (2*n) ps []) (hl:ps.length=n):dg ps=true:=by
  have o:=h.ok
  have no:∀ a:Nat,(a:Int)∉([]:List Int):=fun a=>by simp
  unfold dg
  rw [Bool.and_eq_true,Bool.and_eq_true]
  refine ⟨jc.mpr fun k hk=>⟨(o.cls k hk (no k)).1,?_⟩,(gh _).mpr ?_,?_⟩
  · by_cases e:k=0
    · exact .inl e
    · exact .inr (o.ris (k - 1) k (by omega) hk)
  · have:=o.prm
    rw [List.map_nil,List.append_nil] at this
    rw [gy,hl]
    exact this
  · cases e:dH ps with
    | false=>rfl
    | true =>
      obtain ⟨p,hp,r,hr,h1,h2,h3⟩:=gz.mp e
      obtain ⟨a,ha,rfl⟩:=kh hp
      obtain ⟨b,hb,rfl⟩:=kh hr
      exact absurd ⟨h1,h2,h3⟩ (o.crs a b ha hb (no a) (no b))
end Ck
set_option Elab.async false
set_option linter.all false
set_option maxRecDepth 100000
set_option maxHeartbeats 4000000
namespace Ck
open PySem L2
def DI (m:Int) (p:Pair):Prop:=0<=p.1/\p.1 < p.2/\p.2 < m
def DB (p q:Pair):Prop:=p.1 < q.1/\q.1 < p.2/\p.2 < q.2
def NC (ps:List Pair):Prop:=∀ p∈ps,∀ q∈ps,¬ DB p q
theorem tJ {ps:List Pair}:dH ps=false↔NC ps:=by
  constructor
  · intro h p hp q hq c
    have:dH ps=true:=gz.mpr ⟨p,hp,q,hq,c.1,c.2.1,c.2.2⟩
    rw [h] at this
    cases this
  · intro h
    cases e:dH ps with
    | false=>rfl
    | true =>
      obtain ⟨p,hp,q,hq,c⟩:=gz.mp e
      exact absurd c (h p hp q hq)
noncomputable def nm (x y:Int):Pair:=if x < y then (x,y) else (y,x)
end Ck
set_option Elab.async false
set_option linter.all false
set_option maxRecDepth 100000
set_option maxHeartbeats 4000000
namespace Ck
open PySem L2
structure iK (ps:List Pair):Prop where
  inr:∀ p∈ps,DI (2*(ps.length:Int)) p
  flat:(aX ps).Perm (gw (2*ps.length))
  nc:NC ps
  ris:ps.Pairwise gI
theorem tF {n:Nat} {x:Int}:x∈gw n↔0<=x/\x < (n:Int):=by
  unfold gw
  rw [List.mem_map]
  constructor
  · rintro ⟨k,hk,rfl⟩
    have:=List.mem_range.mp hk
    omega
  · intro h
    exact ⟨x.toNat,List.mem_range.mpr (by omega),by omega⟩
theorem Dc {ps:List Pair} (h:dg ps=true):iK ps:=by
  unfold dg at h
  rw [Bool.and_eq_true,Bool.and_eq_true,Bool.not_eq_true'] at h
  obtain ⟨h1,h2,h3⟩:=h
  have st:=jc.mp h1
  have fl:=(gh _).mp h2
  rw [gy] at fl
  have bd:∀ p∈ps,0<=p.1/\p.2 < 2*(ps.length:Int):=fun p hp=>by
    have a:=tF.mp (fl.mem_iff.mp (g9.mpr ⟨p,hp,.inl rfl⟩))
    have b:=tF.mp (fl.mem_iff.mp (g9.mpr ⟨p,hp,.inr rfl⟩))
    omega
  have mono:∀ (j i:Nat),i < j->j < ps.length->bb ps i < bb ps j:=by
    intro j
    induction j with
    | zero=>intro i hi; omega
    | succ j ih =>
      intro i hi hj
      have:=(st (j+1) hj).2
      rw [Nat.add_sub_cancel] at this
      have z:bb ps j < bb ps (j+1):=this.resolve_left (by omega)
      by_cases e:i=j
      · rw [e]; exact z
      · have:=ih i (by omega) (by omega); omega
  refine ⟨fun p hp=>?_,fl,tJ.mp h3,?_⟩
  · obtain ⟨k,hk⟩:=List.getElem?_of_mem hp
    have lk:=(List.getElem?_eq_some_iff.mp hk).1
    have:=(st k lk).1
    have b:=bd p hp
    have e1:bb ps k=p.1:=by unfold bb; rw [List.getD_eq_getElem?_getD,hk]; rfl
    have e2:fF ps k=p.2:=by unfold fF; rw [List.getD_eq_getElem?_getD,hk]; rfl
    exact ⟨b.1,by omega,b.2⟩
  · refine List.pairwise_iff_getElem.mpr fun i j hi hj hij=>?_
    have:=mono j i hij hj
    have e1:bb ps i=ps[i].1:=by unfold bb; rw [List.getD_eq_getElem?_getD,List.getElem?_eq_getElem hi]; rfl
    have e2:bb ps j=ps[j].1:=by unfold bb; rw [List.getD_eq_getElem?_getD,List.getElem?_eq_getElem hj]; rfl
    exact .inl (by omega)
theorem iK.bows {ps:List Pair} (h:iK ps):dg ps=true:=by
  have nd:(aX ps).Nodup:=h.flat.nodup_iff.mpr (kA _)
  unfold dg
  rw [Bool.and_eq_true,Bool.and_eq_true,Bool.not_eq_true']
  refine ⟨jc.mpr fun k hk=>?_,(gh _).mpr (by rw [gy]; exact h.flat),tJ.mpr h.nc⟩
  have ek:∀ i (hi:i < ps.length),bb ps i=ps[i].1/\fF ps i=ps[i].2:=fun i hi=>by
    refine ⟨?_,?_⟩
    · unfold bb; rw [List.getD_eq_getElem?_getD,List.getElem?_eq_getElem hi]; rfl
    · unfold fF; rw [List.getD_eq_getElem?_getD,List.getElem?_eq_getElem hi]; rfl
  obtain ⟨e1,e2⟩:=ek k hk
  rw [e1,e2]
  refine ⟨(h.inr _ (List.getElem_mem hk)).2.1,?_⟩
  by_cases k0:k=0
  · exact .inl k0
  · refine .inr ?_
    have hk':k - 1 < ps.length:=by omega
    rw [(ek (k - 1) hk').1]
    have le:=List.pairwise_iff_getElem.mp h.ris (k - 1) k hk' hk (by omega)
    have ne:=jV nd
    have:=List.pairwise_iff_getElem.mp ne (k - 1) k (by simpa using hk') (by simpa using hk) (by omega)
    unfold gI at le
    simp at this
    omega
end Ck
set_option Elab.async false
set_option linter.all false
set_option maxRecDepth 100000
set_option maxHeartbeats 4000000
namespace L2
open PySem PySem.Spec PyProof.Rows
section
variable {X:Cx} {f:Addr} {fd:FuncData} {ps:List Str} {sp:Sp} {x:Str} {p pos:Pos} {a b e:Expr} {es:List Expr} {tc:TE} {t:TA} {j k:Nat}
noncomputable def AK (f:Addr) (sp:Sp) (E:XK) (tc:TE) (t:TA):TE:=fun σ H Q=>tc σ H fun v H1=>v = .ref f/\t σ H1 fun vs H2=>sp vs H2 Q E
end
end L2
namespace L2
open PySem PySem.Spec PyProof.Rows
section
variable {κ:Type} [DecidableEq κ]
noncomputable def fW (kvs:List (κ × V)) (k:κ):Option V:=(kvs.find? fun kv=>decide (kv.1=k)).map (·.2)
noncomputable def putK (kvs:List (κ × V)) (k:κ) (v:V):List (κ × V) :=
  if (kvs.any fun kv=>decide (kv.1=k))=true then kvs.map (fun kv=>if kv.1=k then (kv.1,v) else kv) else kvs++[(k,v)]
theorem iC {p:κ × V} {r:List (κ × V)} {k:κ} (e:p.1=k):fW (p::r) k=some p.2:=by simp [fW,List.find?_cons,e]
theorem iL {p:κ × V} {r:List (κ × V)} {k:κ} (e:¬ p.1=k):fW (p::r) k=fW r k:=by simp [fW,List.find?_cons,e]
theorem mZ (k:κ):∀ kvs:List (κ × V),(kvs.any fun kv=>decide (kv.1=k))=(fW kvs k).isSome
  | []=>rfl
  | p::r=>by
    rw [List.any_cons]
    by_cases e:p.1=k
    · simp only [iC e,decide_eq_true e,Bool.true_or,Option.isSome_some]
    · rw [iL e,decide_eq_false e,Bool.false_or]; exact mZ k r
theorem uu (kvs:List (κ × V)) (k:κ) (v:V):(putK kvs k v).length<=kvs.length+1:=by
  unfold putK
  split
  · rw [List.length_map]; omega
  · rw [List.length_append,List.length_cons,List.length_nil]; omega
theorem zb {kvs:List (κ × V)} {k:κ} (v:V) (h:fW kvs k=none):putK kvs k v=kvs++[(k,v)]:=by
  unfold putK
  rw [mZ,h]
  exact if_neg (by decide)
theorem KV.val {kvs:List (κ × V)} {vs:List (κ × Value)} (r:KV kvs vs) (k:κ):gD (fW kvs k) (valueAt vs k):=by
  unfold KV at r
  induction r with
  | nil=>exact True.intro
  | @cons p q ps qs h t ih =>
    obtain ⟨h1,h2⟩:=h
    by_cases e:p.1=k
    · have e':q.1=k:=h1.symm.trans e
      have b:valueAt (q::qs) k=some q.2:=by simp [valueAt,List.find?_cons,e']
      rw [iC e,b]; exact h2
    · have e':¬ q.1=k:=fun z=>e (h1.trans z)
      have b:valueAt (q::qs) k=valueAt qs k:=by simp [valueAt,List.find?_cons,e']
      rw [iL e,b]; exact ih
theorem KV.any {kvs:List (κ × V)} {vs:List (κ × Value)} (r:KV kvs vs) (k:κ):(kvs.any fun kv=>decide (kv.1=k))=vs.any fun kv=>decide (kv.1=k):=by
  unfold KV at r
  induction r with
  | nil=>rfl
  | cons h t ih=>rw [List.any_cons,List.any_cons,ih,h.1]
theorem KV.repl {kvs:List (κ × V)} {vs:List (κ × Value)} (r:KV kvs vs) (k:κ) {y:V} {u:Value} (ry:RelV y u) :
    KV (kvs.map fun kv=>if kv.1=k then (kv.1,y) else kv) (vs.map fun kv=>if kv.1=k then (kv.1,u) else kv):=by
  unfold KV at r |-
  induction r with
  | nil=>exact .nil
  | @cons p q ps qs h t ih =>
    rw [List.map_cons,List.map_cons]
    refine .cons ?_ ih
    obtain ⟨h1,h2⟩:=h
    by_cases e:p.1=k
    · rw [if_pos e,if_pos (h1.symm.trans e)]; exact ⟨h1,ry⟩
    · rw [if_neg e,if_neg (fun z=>e (h1.trans z))]; exact ⟨h1,h2⟩
theorem KV.put {kvs:List (κ × V)} {vs:List (κ × Value)} (r:KV kvs vs) (k:κ) {y:V} {u:Value} (ry:RelV y u):KV (putK kvs k y) (stored vs k u):=by
  unfold putK stored
  rw [r.any k]
  by_cases e:(vs.any fun kv=>decide (kv.1=k))=true
  · rw [if_pos e,if_pos e]; exact r.repl k ry
  · rw [if_neg e,if_neg e]; exact Paired.snoc r ⟨rfl,ry⟩
theorem KV.length {kvs:List (κ × V)} {vs:List (κ × Value)} (r:KV kvs vs):kvs.length=vs.length:=Paired.length r
end
theorem vp {P:Program} {w:World} {k:Key} {u:Value} (r:RelV (kV k) u):(cc P w).is k u=true:=by
  cases k with
  | inl i=>obtain ⟨t,e⟩:=(show ∃ t,u=Value.int i t from r); subst e; exact uB P w i t
  | inr x=>obtain ⟨t,e⟩:=(show ∃ t,u=Value.str x t from r); subst e; exact um P w x t
theorem p7 {P:Program} {w:World}:∀ {ks:List Key} {us:List Value},Vals (ks.map kV) us->ItemsAre (cc P w) ks us
  | [],_,r=>by rw [List.map_nil] at r; cases r; exact .nil
  | k::ks,_,r=>by
    rw [List.map_cons] at r
    cases r with
    | cons h t=>exact .cons (vp h) (p7 t)
noncomputable abbrev KT (H:Hp):List (List Key × V)->List (List Key × Addr × Value)->Prop:=Paired fun p q=>p.1=q.1/\H q.2.1=some (.tup (p.1.map kV))/\RelV p.2 q.2.2
theorem KT.val {H:Hp} {kvs:List (List Key × V)} {xs:List (List Key × Addr × Value)} (r:KT H kvs xs) (k:List Key):gD (fW kvs k) ((atKey xs k).map (·.2)):=by
  induction r with
  | nil=>exact True.intro
  | @cons p q ps qs h t ih =>
    obtain ⟨h1,_,h2⟩:=h
    by_cases e:p.1=k
    · have e':q.1=k:=h1.symm.trans e
      have b:atKey (q::qs) k=some q.2:=by simp [atKey,List.find?_cons,e']
      rw [iC e,b]; exact h2
    · have e':¬ q.1=k:=fun z=>e (h1.trans z)
      have b:atKey (q::qs) k=atKey qs k:=by simp [atKey,List.find?_cons,e']
      rw [iL e,b]; exact ih
section
variable {P:Program} {w:World} {H:Hp} {h:Heap} {a:Addr}
theorem zC {u:HO} (ok:dZ P w H h) (e:Rd H a u):bE P w H h a u:=e.ok ok
theorem vw {kvs:List (Key × V)} (ok:dZ P w H h) (e:Rd H a (.dK kvs)):kvs.length<=sizeLine/\(a == sysModules)=false/\∃ vs,KV kvs vs/\h.DictOf (cc P w) a vs :=
  show bE P w H h a (.dK kvs) from zC ok e
theorem zi {kvs:List (Key × V)} (ok:dZ P w H h) (e:H a=some (.dK kvs)):kvs.length<=sizeLine/\(a == sysModules)=false/\∃ vs,KV kvs vs/\h.DictOf (cc P w) a vs:=vw ok (.inl e)
theorem yj {ks:List Key} (ok:dZ P w H h) (e:H a=some (.tup (ks.map kV))):(tupleKind (cc P w)).is h ks a:=by
  obtain ⟨_,its,r,o,h1,h2,n,h3⟩:=(show bE P w H h a (.tup (ks.map kV)) from ok a _ e)
  exact ⟨o,its.toArray,n,h1,h2,h3,by simpa using p7 r⟩
theorem zm {kvs:List (List Key × V)} (ok:dZ P w H h) (e:Rd H a (.dT kvs)):kvs.length<=sizeLine/\(a == sysModules)=false /\
    ∃ xs,KT H kvs xs/\h.DictOfH (tupleKind (cc P w)) a xs:=by
  obtain ⟨z,y,xs,r,o,es,ep,h1,h2,h3,h4,h5⟩:=(show bE P w H h a (.dT kvs) from zC ok e)
  refine ⟨z,y,xs,r,o,es,ep,h1,h2,h3,h4,fun x hx=>?_,h5⟩
  have all:∀ {l:List (List Key × V)} {m:List (List Key × Addr × Value)},KT H l m->∀ x∈m,(tupleKind (cc P w)).is h x.1 x.2.1:=by
    intro l m q
    induction q with
    | nil=>intro x hx; exact nomatch hx
    | @cons p q ps qs hq t ih =>
      intro x hx
      rcases List.mem_cons.mp hx with e | hx
      · subst e
        exact yj ok (by rw [<- hq.1]; exact hq.2.1)
      · exact ih x hx
  exact all r x hx
end
def ju (H:Hp) (a:Addr) (y:V) (r:Option V):Prop :=
  (∃ kvs k,Rd H a (.dK kvs)/\y=kV k/\r=fW kvs k)\/∃ kvs k b,Rd H a (.dT kvs)/\y = .ref b/\H b=some (.tup (k.map kV))/\r=fW kvs k
theorem ju.k {H:Hp} {a:Addr} {kvs:List (Key × V)} {k:Key} (e:H a=some (.dK kvs)):ju H a (kV k) (fW kvs k):=.inl ⟨kvs,k,.inl e,rfl,rfl⟩
section
variable {X:Cx} {pins:List (Addr × Obj)} {σ:St} {H:Hp} {s:Shared} {a:Addr} {y v:V} {u r:Value} {o:Option V} {A:Around} {E:Value->Shared->Prop}
theorem Inv.big (I:Inv X pins σ H s):sysModules < s.heap.objs.size:=by
  have h:mainGlobals < s.heap.objs.size:=(I.mod.glob.keeps I.bk).lt
  exact Nat.lt_trans (by decide) h
theorem xJ {Q:Value->Shared->Prop} (hu:A.units+1 < cLine) (I:Inv X pins σ H s) (g:ju H a y (some v)) (ry:RelV y u) (h:∀ w' s',Inv X pins σ H s'->RelV v w'->Q w' s') :
    wpAny (model X.prog X.w) A (getItem (.ref a) u) Q E s:=by
  rcases g with ⟨kvs,k,e,ey,l⟩ | ⟨kvs,k,b,e,ey,eb,l⟩
  · subst ey
    obtain ⟨z,hd,vs,rel,dd⟩:=vw I.hok e
    obtain ⟨w',hw,rw'⟩:=gD.some_of (v:=v) (o:=valueAt vs k) (by rw [l]; exact rel.val k)
    exact wpAny_getItem_of (vp ry) dd.mapOf hw (h w' _ (I.tok _) rw')
  · subst ey
    cases (show u=Value.ref b from ry)
    obtain ⟨z,hd,xs,rel,dd⟩:=zm I.hok e
    obtain ⟨w',hw,rw'⟩:=gD.some_of (v:=v) (o:=(atKey xs k).map (·.2)) (by rw [l]; exact rel.val k)
    obtain ⟨p,hp,hp2⟩:=Option.map_eq_some_iff.mp hw
    refine wpAny_getItem_heap (tupleKind_room_in1 hu) (yj I.hok eb) dd hp ?_
    rw [hp2]
    exact h w' _ (I.tok _) rw'
theorem Ag {h':Heap} {t':Nat} {ob:HO} (I:Inv X pins σ H s) (mu:xx (H a)) (hs:Heap.SameBut a s.heap h') (he:∃ q,h'.get? a=some q) (new:bE X.prog X.w (upd H a ob) h' a ob) :
    Inv X pins σ (upd H a ob) { s with heap:=h',toks:=t' } :=
  I.write (x:=a) (e:=a) mu (.inl rfl) (fun b q hb z=>(hs.2 b hb).trans z) he new
theorem B6 {P:Program} {w:World} {H':Hp} {h':Heap} {kvs:List (Key × V)} {vs:List (Key × Value)} (z:kvs.length<=sizeLine) (hd:(a == sysModules)=false) (rel:KV kvs vs) (dd:h'.DictOf (cc P w) a vs) :
    bE P w H' h' a (.dK kvs):=⟨z,hd,vs,rel,dd⟩
end
section
variable {X:Cx} {pins:List (Addr × Obj)} {σ:St} {H:Hp} {s:Shared} {a:Addr} {kvs:List (Key × V)} {k:Key} {u:Value} {A:Around} {E:Value->Shared->Prop}
end
def Co (i:Expr):Prop:=∀ ov iv,subscripted i false ov iv=operate [ov,iv] (getItem ov iv)
theorem Ao {prog:Program} {w:World} {A:Around} {E:Value->Shared->Prop} {s:Shared} {env:Env} {value slice:Expr} {pos:Pos} {T id:String} {Q:Value->Shared->Prop}
    (hl:typeLookup (.type T) "__getitem__" = pure (some (.builtin id))) (hs:Co slice)
    (h:wpAny (model prog w) A (eval value env) (fun o s₁=>wpAny (model prog w) A (eval slice env) (fun i s₂=>s₂.TypeIs o T/\wpAny (model prog w) A (getItem o i) Q E s₂) E s₁) E s) :
    wpAny (model prog w) A (eval (.Subscript value slice pos) env) Q E s:=by
  refine Subscript_ (wpAny_mono h (fun o s₁ h₁=>wpAny_mono h₁ (fun i s₂ h₂=>?_) fun _ _ x=>x) fun _ _ x=>x)
  obtain ⟨hT,h₂⟩:=h₂
  unfold subscriptTail
  refine wpAny_bind ?_
  rw [getitemInPython_of_ne hT.not_modules]
  refine wpAny_bind (wpAny_specialOf hT hl ?_)
  have fin:wpAny (model prog w) A (subscripted slice false o i) (fun r s₃=>wpAny (model prog w) A (letTemporaryGo value o r >>= fun _=>pure r) Q E s₃) E s₂:=by
    rw [hs o i]
    exact wpAny_operating (wpAny_mono h₂ (fun r s₃ h₃=>wpAny_bind (wpAny_letTemporaryGo (wpAny_pure h₃))) fun _ _ x=>x)
  first
    | exact wpAny_pure (wpAny_bind fin)
    | exact wpAny_bind (wpAny_pure (wpAny_bind fin))
    | exact wpAny_bind fin
theorem uD {X:Cx} {pins:List (Addr × Obj)} {σ:St} {H:Hp} {s:Shared} {a:Addr} {y:V} {o:Option V} (I:Inv X pins σ H s) (g:ju H a y o):s.TypeIs (.ref a) "dict":=by
  rcases g with ⟨kvs,k,e,_,_⟩ | ⟨kvs,k,b,e,_,_,_⟩
  · obtain ⟨_,_,vs,_,dd⟩:=vw I.hok e
    exact dd.typeIs
  · obtain ⟨_,_,xs,_,dd⟩:=zm I.hok e
    exact dd.typeIs
noncomputable def Ds (td ty:TE):TE:=fun σ H Q=>td σ H fun x H1=>ty σ H1 fun y H2=>∃ a v,x = .ref a/\ju H2 a y (some v)/\Q v H2
section
variable {X:Cx} {o i e value:Expr} {pos pos' tpos:Pos} {td ty tv:TE}
theorem fu (hu:X.A.units+1 < cLine) (ho:PE X o td) (hi:PE X i ty) (hs:Co i):PE X (.Subscript o i pos) (Ds td ty):=by
  intro pins s σ H Q I h
  refine Ao PySem.F.slot_dict_getitem.lookup hs (aF (ho pins s σ H _ I h) fun u s1 ⟨x,H1,I1,rx,q1⟩=>aF (hi pins s1 σ H1 _ I1 q1) fun iv s2 ⟨y,H2,I2,ry,a,v,ex,g,q2⟩=>?_)
  subst ex
  obtain rfl:u=Value.ref a:=rx
  exact ⟨uD I2 g,xJ hu I2 g ry fun w' s3 I3 rw'=>⟨v,H2,I3,rw',q2⟩⟩
end
theorem yT {P:Program} {w:World} {H:Hp} (h:Heap) (hb:sysModules < h.objs.size):bE P w H (h.push { cls:=.type "dict",data:=.dict #[] }) h.objs.size (.dK []) :=
  ⟨Nat.zero_le _,beq_eq_false_iff_ne.mpr (Ne.symm (Nat.ne_of_lt hb)),[],.nil,Heap.DictOf.new h⟩
section
variable {X:Cx} {pos:Pos}
end
noncomputable def j8:List (TE × TE)->St->Hp->(List (V × V)->Hp->Prop)->Prop
  | [],_,H,Q=>Q [] H
  | (tk,tv)::r,σ,H,Q=>tk σ H fun x H1=>tv σ H1 fun y H2=>j8 r σ H2 fun ps H3=>Q ((x,y)::ps) H3
noncomputable abbrev VV:List (V × V)->List (Value × Value)->Prop:=Paired fun p q=>RelV p.1 q.1/\RelV p.2 q.2
def uZ (X:Cx) (pos:Pos) (keys:List (Option Expr)) (values:List Expr) (trs:List (TE × TE)):Prop :=
  ∀ (pins:List (Addr × Obj)) (s:Shared) (σ:St) (H:Hp) (Q:List (V × V)->Hp->Prop),Inv X pins σ H s->j8 trs σ H Q ->
    wpAny (model X.prog X.w) X.A (evalPairs (pairTrees keys values X.env pos)) (fun vs s'=>∃ ps H',Inv X pins σ H' s'/\VV ps vs/\Q ps H') X.xe s
theorem uP {X:Cx} {pos:Pos}:uZ X pos [] [] []:=fun pins s σ H Q I h=>pairTrees_nil_walk ⟨[],H,I,.nil,h⟩
theorem uh {X:Cx} {pos:Pos} {k v:Expr} {ks:List (Option Expr)} {vs:List Expr} {tk tv:TE} {trs:List (TE × TE)} (hk:PE X k tk) (hv:PE X v tv) (hr:uZ X pos ks vs trs) :
    uZ X pos (some k::ks) (v::vs) ((tk,tv)::trs):=fun pins s σ H Q I h =>
  pairTrees_cons_walk (aF (hk pins s σ H _ I h) fun u s1 ⟨x,H1,I1,rx,q1⟩=>aF (hv pins s1 σ H1 _ I1 q1) fun w2 s2 ⟨y,H2,I2,ry,q2⟩ =>
    aF (hr pins s2 σ H2 _ I2 q2) fun ws s3 ⟨ps,H3,I3,rel,q3⟩=>⟨(x,y)::ps,H3,I3,.cons ⟨rx,ry⟩ rel,q3⟩)
noncomputable def iI (kvs more:List (Key × V)):List (Key × V):=more.foldl (fun acc kv=>putK acc kv.1 kv.2) kvs
theorem KV.merge:∀ {more:List (Key × V)} {rs:List (Key × Value)} {kvs:List (Key × V)} {vs:List (Key × Value)},KV more rs->KV kvs vs->KV (iI kvs more) (merged vs rs):=by
  intro more rs kvs vs r
  unfold KV at r
  induction r generalizing kvs vs with
  | nil=>intro q; exact q
  | @cons p q ps qs h t ih =>
    intro r0
    have e:KV (putK kvs p.1 p.2) (stored vs q.1 q.2):=by
      have:=r0.put p.1 h.2
      rw [<- h.1]; exact this
    exact ih e
theorem jN:∀ (more kvs:List (Key × V)),(iI kvs more).length<=kvs.length+more.length
  | [],kvs=>by show kvs.length<=kvs.length+0; omega
  | p::r,kvs=>by
    have h1:=jN r (putK kvs p.1 p.2)
    have h2:=uu kvs p.1 p.2
    show (iI (putK kvs p.1 p.2) r).length<=_
    rw [List.length_cons]; omega
theorem oi {P:Program} {w:World}:∀ {kvs:List (Key × V)} {ws:List (Value × Value)},VV (kvs.map fun kv=>(kV kv.1,kv.2)) ws->∃ rs,Carries (cc P w) ws rs/\KV kvs rs
  | [],_,r=>by rw [List.map_nil] at r; cases r; exact ⟨[],True.intro,.nil⟩
  | p::kvs,_,r=>by
    rw [List.map_cons] at r
    cases r with
    | @cons a b as bs h t =>
      obtain ⟨rs,c,q⟩:=oi (P:=P) (w:=w) t
      obtain ⟨b1,b2⟩:=b
      exact ⟨(p.1,b2)::rs,⟨vp h.1,rfl,c⟩,.cons ⟨rfl,h.2⟩ q⟩
noncomputable def nR (trs:List (TE × TE)):TE:=fun σ H Q=>∀ p,H p=none->j8 trs σ (upd H p (.dK [])) fun ps H2=>H2 p=some (.dK [])/\∃ kvs:List (Key × V),ps=kvs.map (fun kv=>(kV kv.1,kv.2))/\kvs.length<=15/\Q (.ref p) (upd H2 p (.dK (iI [] kvs)))
theorem va {X:Cx} {pos:Pos} {keys:List (Option Expr)} {values:List Expr} {trs:List (TE × TE)} (h:uZ X pos keys values trs) (hall:keys.all (·.isSome)=true) (hl:keys.length=values.length) (h0:keys≠[])
    (h15:keys.length<=15):PE X (.Dict keys values pos) (nR trs):=by
  intro pins s σ H Q I q
  have hn:=I.hok.fresh (Nat.le_refl s.heap.objs.size)
  have I1:=I.laid (a:=s.heap.objs.size) (o:=.dK []) (h':=s.heap.push { cls:=.type "dict",data:=.dict #[] }) (t':=s.toks) (fun _ _ q=>Heap.get?_push_of_some _ q) (Nat.le_refl _) (yT s.heap I.big)
  refine wpAny_Dict_walk (knd:=cc X.prog X.w) hall hl h0 h15 (aF (h pins _ σ _ _ I1 (q _ hn)) fun ws s2 ⟨ps,H2,I2,rel,e,kvs,ep,lk,q2⟩=>?_)
  subst ep
  obtain ⟨rs,c,rk⟩:=oi (P:=X.prog) (w:=X.w) rel
  obtain ⟨z,hd,vs0,r0,dd⟩:=zi I2.hok e
  cases r0
  refine ⟨rs,c,dd,fun h' dd' hs=>⟨.ref s.heap.objs.size,_,?_,rfl,q2⟩⟩
  have hz:(iI [] kvs).length<=sizeLine:=by
    have h1:=jN kvs []
    rw [List.length_nil] at h1
    rw [sizeLine_eq]; omega
  have he:∃ q,h'.get? s.heap.objs.size=some q:=let ⟨q,_,_,hq,_⟩:=dd'; ⟨q,hq⟩
  exact Ag I2 (by rw [e]; exact True.intro) hs he (B6 hz hd (rk.merge .nil) dd')
section
variable {X:Cx} {pins:List (Addr × Obj)} {σ:St} {H:Hp} {s:Shared} {a:Addr} {y d:V} {u r:Value} {o:Option V} {A:Around} {E:Value->Shared->Prop}
end
section
variable {X:Cx} {o e f:Expr} {apos cpos:Pos} {td ty tx:TE}
end
section
variable {X:Cx} {pins:List (Addr × Obj)} {σ:St} {H:Hp} {s:Shared} {a:Addr} {kvs:List (Key × V)} {A:Around} {E:Value->Shared->Prop}
end
section
variable {X:Cx} {pins:List (Addr × Obj)} {σ:St} {H:Hp} {s:Shared} {a:Addr} {y:V} {u:Value} {A:Around} {E:Value->Shared->Prop}
end
end L2
namespace L2
open PySem PySem.Spec PyProof.Rows
section
variable {κ:Type} [DecidableEq κ]
theorem zU {kvs:List (κ × V)} {k:κ} {v:V} (h:fW kvs k=some v):k∈kvs.map (·.1):=by
  have q:(kvs.any fun kv=>decide (kv.1=k))=true:=by
    rw [mZ,h]
    all_goals rfl
  obtain ⟨p,hp,e⟩:=List.any_eq_true.mp q
  exact List.mem_map.mpr ⟨p,hp,of_decide_eq_true e⟩
end
end L2
set_option Elab.async false
set_option linter.all false
set_option maxRecDepth 100000
set_option maxHeartbeats 4000000
namespace Dk
open PySem PyProof.Rows
section
variable {prog:Program} {w:World} {K:Type} [DecidableEq K] {knd:KeyKind prog w K} {A:Around} {E:Value->Shared->Prop} {s:Shared}
theorem yk {d:Addr} {kvs:List (K × Value)} {Q:Bool->Shared->Prop} (hd:(d == sysModules)=false) (hm:s.heap.DictOf knd d kvs) (h:Q false s):wpAny (model prog w) A (Builtin.List.listLengthHint (.ref d)) Q E s:=by
  unfold Builtin.List.listLengthHint
  refine wpAny_bind (wpAny_specialOf hm.typeIs F.slot_dict_len.lookup ?_)
  generalize hid:("dict.__len__" : String)=id0
  wp_delta
  rw [show splitId id0=some ("dict","__len__") from by subst hid; decide +kernel]
  subst hid
  refine wpAny_bind (wpAny_isInstance (T:="dict") (b:=true) hm.typeIs (by rw [isSubtype_type]; kernel_rfl) ?_)
  refine wpAny_ite_split (fun hab=>absurd hab (by decide)) (fun _=>?_)
  refine wpAny_ite_split (fun _=>?_) (fun hab=>absurd (by decide +kernel) hab)
  refine wpAny_bind (wpAny_typeOf hm.typeIs (wpAny_pure ?_))
  exact h
theorem uA {R:Result->Shared->Prop} {d:Addr} {kvs:List (K × Value)} (hh:A.handled=none) (hd:(d == sysModules)=false) (hm:s.heap.DictOf knd d kvs) (hlen:kvs.length<=2 ^ 24) (S:Addr) (res:Value) (c₀:Nat) (hS:s.heap.get? S=some { cls:=.type "list",data:=.seq #[] c₀ })
    (hR:∀ h' tk acc' c',(∀ b o,b≠S->s.heap.get? b=some o->h'.get? b=some o)->h'.get? S=some { cls:=.type "list",dict:=none,data:=.seq acc' c',slots:=#[] } ->
      ItemsOf (fun i v=>∃ k x,kvs[i]? = some (k,x)/\knd.is k v=true) acc' kvs.length->R (.ok (.ret res)) { s with heap:=h',toks:=tk }) :
    wpAny (model prog w) A.in1 (Builtin.List.listExtendWith (.ref S) (.ref d) res)
      (fun fin s'=>match fin with | .done f=>R (.ok f) s' | .again c'=>c'.quiet=true/\codeAny (model prog w) A c' R s') (fun e s'=>R (.error e) s') s:=by
  obtain ⟨ep,hat⟩:=hm.dictAt
  have hT:=hm.typeIs
  have hSd:S≠d:=fun e=>by
    obtain ⟨o,es,ho,hc,hdt,_⟩:=hat
    rw [<- e,hS] at ho
    cases ho
    cases hdt
  have hdlt:d < s.heap.objs.size:=hat.lt_size
  have hSlt:S < s.heap.objs.size:=Heap.lt_size hS
  have hSI:S≠s.heap.objs.size:=Nat.ne_of_lt hSlt
  have hdI:d≠s.heap.objs.size:=Nat.ne_of_lt hdlt
  have hSf:S∉[s.heap.objs.size,d]:=fun hm=>by
    rcases List.mem_cons.mp hm with h | h
    · exact hSI h
    · exact hSd (List.mem_singleton.mp h)
  have W:=(Walks.dictKeys (knd:=knd) (prog:=prog) (w:=w) (A:=A.in1) hh s.heap.objs.size d hdI kvs ep).toS
  have key:∀ (h:Heap) (c₁ tk:Nat),h.IsKeyIter s.heap.objs.size d 0 kvs.length ep->h.DictAt knd d kvs ep->(∀ b o,b≠S->s.heap.get? b=some o->h.get? b=some o) ->
      h.get? S=some { cls:=.type "list",data:=.seq #[] c₁ }->codeAny (model prog w) A (.builtin "list.extend.loop" ⟨[.ref S,.ref s.heap.objs.size,res],[]⟩) R { s with heap:=h,toks:=tk }:=by
    intro h c₁ tk hit hda hk hS₁
    refine codeAny_extend_loopS W (by rw [sizeLine_eq]; omega) S hSf res kvs.length 0 _ #[] c₁ rfl (Nat.zero_le _) ⟨hit,hda⟩ hS₁ (ItemsOf.nil _) fun s' acc' c' hm hS' hacc=>?_
    rw [Moved.eq_with hm]
    refine hR s'.heap s'.toks acc' c' (fun b o hb e=>hm.heap b o (fun hmem=>?_) (hk b o hb e)) hS' hacc
    rcases List.mem_cons.mp hmem with e' | hmem
    · exact hb e'
    · exact absurd (Heap.lt_size e) (by rw [List.mem_singleton.mp hmem]; exact Nat.lt_irrefl _)
  unfold Builtin.List.listExtendWith
  refine wpAny_bind (wpAny_typeOf hT ?_)
  have h1:Builtin.List.listSameRef (.ref S) (.ref d)=false:=by simp [Builtin.List.listSameRef,hSd]
  have h2:(Value.type "dict" == Value.type "list")=false:=by decide
  have h3:(Value.type "dict" == Value.type "tuple")=false:=by decide
  simp only [h1,h2,h3,Bool.or_false,Bool.false_eq_true,if_false]
  refine wpAny_bind (wpAny_pyIter_dict hd hat ?_)
  have up:∀ b o,s.heap.get? b=some o->(s.heap.push { cls:=.type "dict_keyiterator",data:=.fields #[.ref d,.int 0 0,.int kvs.length 0,.int ep 0] }).get? b=some o:=fun b o e=>Heap.get?_push_of_some _ e
  refine wpAny_bind (wpAny_holding (yk (knd:=knd) (kvs:=kvs) hd (hat.keep up).dictOf ?_))
  have hit₁:(s.heap.push { cls:=.type "dict_keyiterator",data:=.fields #[.ref d,.int 0 0,.int kvs.length 0,.int ep 0] }).IsKeyIter s.heap.objs.size d 0 kvs.length ep:=⟨_,Heap.get?_push_size _ rfl,rfl,rfl⟩
  have hS₁:=up _ _ hS
  refine wpAny_ite_split (fun _=>?_) (fun _=>wpAny_pure ⟨plainId_quiet F.plain_extend_loop _,key _ c₀ _ hit₁ (hat.keep up) (fun b o _ e=>up _ _ e) hS₁⟩)
  refine wpAny_bind (wpAny_rule ?_)
  refine wpAny_bind ?_
  show wpAny _ _ (updateSeq S (·.push .none) >>= fun _=>updateSeq S (·.pop)) _ _ _
  have hS₂:=Heap.get?_update_self (Obj.mapSeq (·.push Value.none)) hS₁ rfl
  have hS₃:=Heap.get?_update_self (Obj.mapSeq (·.pop)) hS₂ rfl
  refine wpAny_bind (wpAny_updateSeq hS₁ rfl (wpAny_updateSeq hS₂ rfl (wpAny_pure ⟨plainId_quiet F.plain_extend_loop _,key _ _ _ ?_ ?_ (fun b o hb e=>?_) hS₃⟩) (by show 1<=sizeLine; rw [sizeLine_eq]; omega) (by show 0<=_; exact Nat.zero_le _)) (Nat.zero_le _) (by show 1<=_; rw [sizeLine_eq]; omega))
  · exact hit₁.at fun o e=>(Heap.get?_update_other _ _ hSI).trans ((Heap.get?_update_other _ _ hSI).trans e)
  · exact (hat.keep up).at' fun o e=>(Heap.get?_update_other _ _ hSd).trans ((Heap.get?_update_other _ _ hSd).trans e)
  · exact (Heap.get?_update_other _ _ (Ne.symm hb)).trans ((Heap.get?_update_other _ _ (Ne.symm hb)).trans (up _ _ e))
theorem list_dict {Q:Value->Shared->Prop} {d:Addr} {kvs:List (K × Value)} (hh:A.handled=none) (hd:(d == sysModules)=false) (hm:s.heap.DictOf knd d kvs) (hlen:kvs.length<=2 ^ 24)
    (q:∀ h' tk acc' c',(∀ b o,s.heap.get? b=some o->h'.get? b=some o)->h'.get? s.heap.objs.size=some { cls:=.type "list",dict:=none,data:=.seq acc' c',slots:=#[] } ->
      ItemsOf (fun i v=>∃ k x,kvs[i]? = some (k,x)/\knd.is k v=true) acc' kvs.length->Q (.ref s.heap.objs.size) { s with heap:=h',toks:=tk }) :
    wpAny (model prog w) A (call (.type "list") [.ref d]) Q E s:=by
  have far:∀ {c o},s.heap.get? c=some o->s.heap.objs.size≠c:=fun e=>Nat.ne_of_gt (Heap.lt_size e)
  refine callType_codes (Q₁:=fun T s1=>T = .ref s.heap.objs.size/\s1={ s with heap:=s.heap.push { cls:=.type "list",data:=.seq #[] } }) F.called_list (F.typeCall_list_1 _) F.entry_list_init (code_list_new _ ⟨rfl,rfl⟩) fun T s1 e1=>?_
  obtain ⟨rfl,rfl⟩:=e1
  have g0:(s.heap.push { cls:=.type "list",data:=.seq #[] }).get? s.heap.objs.size=some { cls:=.type "list",data:=.seq #[] }:=Heap.get?_push_size _ rfl
  have g1:=Heap.get?_update_self (Obj.mapSeq (fun _=>(#[]:Array Value))) g0 rfl
  have oth:∀ b o,s.heap.get? b=some o->((s.heap.push { cls:=.type "list",data:=.seq #[] }).update s.heap.objs.size (Obj.mapSeq (fun _=>(#[]:Array Value)))).get? b=some o:=fun b o e=>(Heap.get?_update_other _ _ (far e)).trans (Heap.get?_push_of_some _ e)
  refine ⟨⟨_,g0,rfl⟩,F.args_list_init_2 _ _,?_⟩
  show wpAny _ _ (do let was <- Builtin.List.listItems (.ref s.heap.objs.size); Builtin.List.listUpdate (.ref s.heap.objs.size) (fun _=>#[]); letGo was.toList.reverse; Builtin.List.listExtendWith (.ref s.heap.objs.size) (.ref d) .none) _ _ _
  refine wpAny_bind ?_
  unfold Builtin.List.listItems
  refine wpAny_bind (wpAny_seqItems g0 rfl (wpAny_pure ?_))
  show wpAny _ _ (updateSeq s.heap.objs.size (fun _=>#[]) >>= fun _=>letGo (#[]:Array Value).toList.reverse >>= fun _=>Builtin.List.listExtendWith (.ref s.heap.objs.size) (.ref d) .none) _ _ _
  refine wpAny_bind (wpAny_updateSeq g0 rfl (wpAny_bind (wpAny_letGo ?_)) (Nat.zero_le _) (Nat.zero_le _))
  obtain ⟨ep,hat⟩:=hm.dictAt
  exact uA (s:={ s with heap:=(s.heap.push { cls:=.type "list",data:=.seq #[] }).update s.heap.objs.size (Obj.mapSeq (fun _=>(#[]:Array Value))) }) (A:=A.in1) hh hd (hat.keep oth).dictOf hlen _ _ _ g1
    fun h' tk acc' c' k e1 e2=>⟨rfl,q h' tk acc' c' (fun b o e=>k b o (Ne.symm (far e)) (oth b o e)) e1 e2⟩
end
end Dk
namespace L2
open PySem PySem.Spec PyProof.Rows
theorem CO {P:Program} {w:World} {k:Key} {u:Value} (r:(cc P w).is k u=true):RelV (kV k) u:=by
  rcases bS r with ⟨i,t,rfl,rfl⟩ | ⟨x,t,rfl,rfl⟩
  · exact ⟨t,rfl⟩
  · exact ⟨t,rfl⟩
theorem p9 {P:Program} {w:World}:∀ {kvs:List (Key × V)} {vs:List (Key × Value)} {us:List Value},KV kvs vs->us.length=vs.length->(∀ (j:Nat) v,us[j]? = some v->∃ k x,vs[j]? = some (k,x)/\(cc P w).is k v=true)->Vals (kvs.map fun kv=>kV kv.1) us
  | [],_,us,.nil,hl,_=>by cases us with | nil=>exact .nil | cons _ _=>cases hl
  | p::kvs,q::vs,us,.cons h r,hl,hk=>by
    cases us with
    | nil=>cases hl
    | cons u us =>
      refine .cons ?_ (p9 r (by simpa using hl) fun j v e=>hk (j+1) v (by simpa using e))
      obtain ⟨k,x,e1,e2⟩:=hk 0 u rfl
      have:q=(k,x):=by simpa using e1
      subst this
      show RelV (kV p.1) u
      rw [h.1]
      exact CO e2
theorem vj {X:Cx} (hc:X.calm=true):dY X (.type "list") (fun xs H Q=>∃ a kvs,xs=[V.ref a]/\H a=some (.dK kvs)/\∀ l,H l=none->Q (.ref l) (upd H l (.lst (kvs.map fun kv=>kV kv.1)))):=by
  intro pins s σ H xs us Q I r h
  obtain ⟨a,kvs,rfl,e,q⟩:=h
  obtain ⟨u,rfl,rx⟩:=vals1 r
  cases rx
  obtain ⟨z,hd,vs,rel,dd⟩:=zi I.hok e
  refine Dk.list_dict (I.ok.hd hc) hd dd (by rw [<- rel.length]; rw [sizeLine_eq] at z; omega) fun h' tk acc' c' kp he hacc=>?_
  refine ⟨.ref s.heap.objs.size,_,I.laid (t':=tk) (o:=.lst (kvs.map fun kv=>kV kv.1)) kp (Nat.le_refl _) ⟨?_,acc'.toList,c',p9 (P:=X.prog) (w:=X.w) rel (by simpa using hacc.1) fun j v e=>hacc.2 j v (by simpa using e),he⟩,rfl,q _ (I.hok.fresh (Nat.le_refl _))⟩
  rw [List.length_map]; exact z
end L2
namespace L2
open PySem PySem.Spec PyProof.Rows
theorem uY (k:Str):∀ ns:List Str,ns.any (· == k)=decide (k∈ns)
  | []=>by simp
  | n::ns=>by
    rw [List.any_cons,uY k ns]
    by_cases h:n=k
    · subst h; simp
    · have h':¬ k=n:=fun z=>h z.symm
      simp [h,h']
theorem yf {X:Cx}:fG X (compareOp .NotIn) (fun x y H Q=>∃ (k:Str) (p:Addr) (ys:List Str),x = .str k/\y = .ref p/\aq X.K H p (ys.map V.str)/\Q (.bl (!decide (k∈ys))) H):=by
  intro pins s σ H x y u v Q I ru rv h
  obtain ⟨k,p,ys,rfl,rfl,hl,q⟩:=h
  obtain ⟨t,rfl⟩:=(show ∃ t,u=Value.str k t from ru)
  cases rv
  obtain ⟨its,r',pl,hz⟩:=I.list hl
  refine notin_list_strs pl.isList (wK r') ⟨.bl _,H,I,rfl,?_⟩
  rw [uY]; exact q
end L2
namespace Ck
open PySem L2
theorem iX:∀ (more kvs:List (Key × V)),((kvs++more).map (·.1)).Nodup->iI kvs more=kvs++more
  | [],kvs,_=>by rw [List.append_nil]; rfl
  | p::more,kvs,h=>by
    have hn:fW kvs p.1=none:=by
      cases e:fW kvs p.1 with
      | none=>rfl
      | some v =>
        exfalso
        have hm:=zU e
        rw [List.map_append,List.map_cons] at h
        exact (List.nodup_append.mp h).2.2 _ hm _ (List.mem_cons_self ..) rfl
    show iI (putK kvs p.1 p.2) more=_
    rw [zb _ hn,iX more _ (by rw [List.append_assoc]; exact h),List.append_assoc]
    rfl
noncomputable def gF (items:List (Str × Addr)):List (Key × V):=items.map fun it=>(.inr it.1,.ref it.2)
noncomputable def oX (r:Str × List (Str × Addr)):TE × TE:=(tC (.str r.1),nR (r.2.map fun it=>(tC (.str it.1),tC (.ref it.2))))
theorem oB (σ:L2.St):∀ (items:List (Str × Addr)) (H:Hp) (Q:List (V × V)->Hp->Prop),Q ((gF items).map fun kv=>(kV kv.1,kv.2)) H->j8 (items.map fun it=>(tC (.str it.1),tC (.ref it.2))) σ H Q
  | [],_,_,h=>h
  | it::items,H,Q,h=>oB σ items H _ h
theorem xE (items:List (Str × Addr)):(gF items).map (·.1)=(items.map (·.1)).map Sum.inr:=by
  rw [gF,List.map_map,List.map_map]; rfl
theorem pY {ys:List Str} (h:ys.Nodup):(ys.map (Sum.inr:Str->Key)).Nodup:=by
  induction ys with
  | nil=>exact .nil
  | cons y ys ih =>
    rw [List.nodup_cons] at h
    rw [List.map_cons,List.nodup_cons]
    exact ⟨fun z=>by obtain ⟨a,b,c⟩:=List.mem_map.mp z; cases c; exact h.1 b,ih h.2⟩
def qO (p:Addr) (H:Hp) (r:Str × List (Str × Addr)) (kv:Key × V):Prop:=kv.1 = .inr r.1/\∃ d,d≠p/\kv.2 = .ref d/\H d=some (.dK (gF r.2))
theorem qe (σ:L2.St) (p:Addr):∀ (rows:List (Str × List (Str × Addr))) (H:Hp) (Q:List (V × V)->Hp->Prop),(∀ r∈rows,(r.2.map (·.1)).Nodup/\r.2.length<=15)->H p=some (.dK []) ->
    (∀ (kvs:List (Key × V)) (H':Hp),af H H'->H' p=some (.dK [])->Paired (qO p H') rows kvs->Q (kvs.map fun kv=>(kV kv.1,kv.2)) H')->j8 (rows.map oX) σ H Q
  | [],H,Q,_,hp,h=>h [] H (af.refl H) hp .nil
  | r::rows,H,Q,hk,hp,h=>by
    intro d hd
    obtain ⟨nd,l15⟩:=hk r (List.mem_cons_self ..)
    refine oB σ r.2 _ _ ⟨ae,gF r.2,rfl,by rw [gF,List.length_map]; exact l15,?_⟩
    rw [iX _ _ (by rw [List.nil_append,xE]; exact pY nd),List.nil_append,eh]
    have s1:=af.new (af.refl H) hd (.dK (gF r.2))
    refine qe σ p rows _ _ (fun r hr=>hk r (List.mem_cons_of_mem _ hr)) (s1 _ _ hp) fun kvs H' s2 hp' pr=>?_
    exact h ((.inr r.1,.ref d)::kvs) H' (s1.trans s2) hp' (.cons ⟨rfl,d,(aw hp hd).symm,rfl,s2 _ _ ae⟩ pr)
def vt (H:Hp) (p:Addr) (rows:List (Str × List (Str × Addr))):Prop:=∃ kvs,H p=some (.dK kvs)/\Paired (qO p H) rows kvs
theorem Ar {H:Hp} {p:Addr} {rows:List (Str × List (Str × Addr))} {kvs:List (Key × V)} (h:Paired (qO p H) rows kvs) {w:Str} {items:List (Str × Addr)} (hf:rows.lookup w=some items):∃ d,fW kvs (.inr w)=some (.ref d)/\H d=some (.dK (gF items)):=by
  induction h with
  | nil=>cases hf
  | @cons r kv rows kvs h _ ih =>
    obtain ⟨h1,d,_,h2,h3⟩:=h
    obtain ⟨rw,ri⟩:=r
    by_cases e:w=rw
    · subst e
      rw [List.lookup_cons,beq_self_eq_true] at hf
      cases hf
      exact ⟨d,by rw [iC h1,h2],h3⟩
    · rw [List.lookup_cons,beq_eq_false_iff_ne.mpr e] at hf
      obtain ⟨d',e1,e2⟩:=ih hf
      exact ⟨d',by rw [iL (by rw [h1]; intro z; cases z; exact e rfl)]; exact e1,e2⟩
theorem u5:∀ {items:List (Str × Addr)} {n:Str} {f:Addr},items.lookup n=some f->fW (gF items) (.inr n)=some (.ref f)
  | (m,g)::items,n,f,h=>by
    by_cases e:n=m
    · subst e
      rw [List.lookup_cons,beq_self_eq_true] at h
      cases h
      exact iC rfl
    · rw [List.lookup_cons,beq_eq_false_iff_ne.mpr e] at h
      show fW ((.inr m,.ref g)::gF items) _=_
      rw [iL (by intro z; cases z; exact e rfl)]
      exact u5 h
theorem vW (items:List (Str × Addr)):((gF items).map fun kv=>kV kv.1)=(items.map (·.1)).map V.str:=by
  rw [gF,List.map_map,List.map_map]; rfl
theorem xS {σ:L2.St} {H:Hp} {Q:VK} {rows:List (Str × List (Str × Addr))} (hk:∀ r∈rows,(r.2.map (·.1)).Nodup/\r.2.length<=15) (ho:(rows.map (·.1)).Nodup) (hl:rows.length<=15)
    (h:∀ p H',af H H'->H p=none->vt H' p rows->Q (.ref p) H'):nR (rows.map oX) σ H Q:=by
  intro p hp
  refine qe σ p rows _ _ hk ae fun kvs H' s1 hp' pr=>⟨hp',kvs,rfl,by rw [<- pr.length]; exact hl,?_⟩
  have ek:kvs.map (·.1)=(rows.map (·.1)).map Sum.inr:=by
    clear hk ho hl h s1 hp' hp
    induction pr with
    | nil=>rfl
    | cons h _ ih=>rw [List.map_cons,List.map_cons,List.map_cons,h.1,ih]
  rw [iX _ _ (by rw [List.nil_append,ek]; exact pY ho),List.nil_append]
  have s0:af H H':=fun b o e=>s1 b o (by rw [ak (fun z=>by rw [z,hp] at e; cases e)]; exact e)
  refine h p _ (s0.upd hp _) hp ⟨kvs,ae,?_⟩
  have keep:∀ o:HO,Paired (qO p (upd H' p o)) rows kvs:=fun o=>by
    clear hk ho hl h s1 hp' hp ek s0
    induction pr with
    | nil=>exact .nil
    | cons h _ ih =>
      obtain ⟨h1,d,h2,h3,h4⟩:=h
      exact .cons ⟨h1,d,h2,h3,by rw [ak h2]; exact h4⟩ ih
  exact keep _
theorem vt.get {H:Hp} {p:Addr} {rows:List (Str × List (Str × Addr))} (h:vt H p rows) {w:Str} {items:List (Str × Addr)} (hf:rows.lookup w=some items):∃ d,ju H p (.str w) (some (.ref d))/\H d=some (.dK (gF items)):=by
  obtain ⟨kvs,hp,pr⟩:=h
  obtain ⟨d,e1,e2⟩:=Ar pr hf
  exact ⟨d,e1▸ju.k (k:=.inr w) hp,e2⟩
theorem iH {H:Hp} {d:Addr} {items:List (Str × Addr)} (h:H d=some (.dK (gF items))) {n:Str} {f:Addr} (hf:items.lookup n=some f):ju H d (.str n) (some (.ref f)):=u5 hf▸ju.k (k:=.inr n) h
def bU (H:Hp) (x:V) (f:Str × Addr × Int):Prop:=∃ a dx fs,x = .ref a/\H a=some (.ins f.2.1 dx fs)/\bG fs f.1 f.2.2
theorem bU.same {H H':Hp} {x:V} {f:Str × Addr × Int} (h:bU H x f) (s:af H H'):bU H' x f:=by
  obtain ⟨a,dx,fs,h1,h2,h3⟩:=h
  exact ⟨a,dx,fs,h1,s _ _ h2,h3⟩
theorem cf {H H':Hp} {xs:List V} {fm:List (Str × Addr × Int)} (h:Paired (bU H) xs fm) (s:af H H'):Paired (bU H') xs fm:=by
  induction h with
  | nil=>exact .nil
  | cons h _ ih=>exact .cons (h.same s) ih
theorem fH {H:Hp} {xs ys:List V} {fm gm:List (Str × Addr × Int)} (h:Paired (bU H) xs fm) (g:Paired (bU H) ys gm):Paired (bU H) (xs++ys) (fm++gm):=by
  induction h with
  | nil=>exact g
  | cons h _ ih=>exact .cons h ih
theorem z0 {H:Hp} {xs:List V} {fm:List (Str × Addr × Int)} (h:Paired (bU H) xs fm) {i:Nat} {x:V} (hx:xs[i]? = some x):∃ f,fm[i]? = some f/\bU H x f:=by
  induction h generalizing i with
  | nil=>cases hx
  | @cons y f ys fs h _ ih =>
    cases i with
    | zero=>simp only [List.getElem?_cons_zero,Option.some.injEq] at hx; subst hx; exact ⟨f,rfl,h⟩
    | succ i=>rw [List.getElem?_cons_succ] at hx; obtain ⟨g,g1,g2⟩:=ih hx; exact ⟨g,by rw [List.getElem?_cons_succ]; exact g1,g2⟩
end Ck
namespace L2
open PySem PySem.Spec PyProof.Rows Ck
section
variable {X:Cx}
end
end L2
namespace Ck
open PySem L2
end Ck
namespace Ck
open PySem L2
theorem g8 {o:Option Value} {a b:Addr} (h1:o=some (.ref a)) (h2:o=some (.ref b)):V.ref a=V.ref b:=by
  rw [h1] at h2
  injection h2 with h2
  injection h2 with h2
  rw [h2]
end Ck
namespace L2
open PySem PySem.Spec PyProof.Rows Ck
noncomputable def keyOf:Option Expr->Option Str
  | some (.Constant (.str x) _ _)=>some x
  | _=>none
noncomputable def nameOf:Expr->Option Str
  | .Name x _=>some x
  | _=>none
noncomputable def i3:Expr->Option (List (Option Expr) × List Expr)
  | .Dict ks vs _=>some (ks,vs)
  | _=>none
theorem jE {k:Option Expr} {x:Str} (h:keyOf k=some x):∃ j p,k=some (.Constant (.str x) j p):=by
  unfold keyOf at h
  split at h
  · cases h; exact ⟨_,_,rfl⟩
  · cases h
theorem uv {e:Expr} {x:Str} (h:nameOf e=some x):∃ p,e = .Name x p:=by
  unfold nameOf at h
  split at h
  · cases h; exact ⟨_,rfl⟩
  · cases h
theorem mR {e:Expr} {d:List (Option Expr) × List Expr} (h:i3 e=some d):∃ p,e = .Dict d.1 d.2 p:=by
  unfold i3 at h
  split at h
  · cases h; exact ⟨_,rfl⟩
  · cases h
noncomputable def lJ:List (Option Expr)->List Expr->List (Str × Str)->Bool
  | [],[],[]=>true
  | k::ks,v::vs,n::ns=>decide (keyOf k=some n.1)&&decide (nameOf v=some n.2)&&!(n.2 == ("__debug__" : Str))&&lJ ks vs ns
  | _,_,_=>false
noncomputable def ki:List (Option Expr)->List Expr->List (Str × List (Str × Str))->Bool
  | [],[],[]=>true
  | k::ks,v::vs,n::ns=>decide (keyOf k=some n.1)&&(match i3 v with | some d=>lJ d.1 d.2 n.2&&decide (n.2≠[])&&decide (n.2.length<=15) | none=>false)&&ki ks vs ns
  | _,_,_=>false
def xh (X:Cx) (n:Str × Str) (it:Str × Addr):Prop:=n.1=it.1/\Gl X n.2/\X.mg n.2=some (.ref it.2)
theorem pU:∀ {ks:List (Option Expr)} {vs:List Expr} {ns:List (Str × Str)},lJ ks vs ns=true->ks.all (·.isSome)=true/\ks.length=vs.length/\ks.length=ns.length
  | [],[],[],_=>⟨rfl,rfl,rfl⟩
  | k::ks,v::vs,n::ns,h=>by
    unfold lJ at h
    simp only [Bool.and_eq_true,decide_eq_true_iff] at h
    obtain ⟨⟨⟨h1,_⟩,_⟩,h4⟩:=h
    obtain ⟨j,p,rfl⟩:=jE h1
    obtain ⟨a,b,c⟩:=pU h4
    exact ⟨by rw [List.all_cons,a]; rfl,by simp [b],by simp [c]⟩
  | [],_::_,_,h=>by cases h
  | _::_,[],_,h=>by cases h
  | [],[],_::_,h=>by cases h
  | _::_,_::_,[],h=>by cases h
theorem uT {X:Cx} {pos:Pos}:∀ {ks:List (Option Expr)} {vs:List Expr} {ns:List (Str × Str)} {items:List (Str × Addr)},lJ ks vs ns=true->Paired (xh X) ns items->uZ X pos ks vs (items.map fun it=>(tC (.str it.1),tC (.ref it.2)))
  | [],[],[],_,_,.nil=>uP
  | k::ks,v::vs,n::ns,_,h,.cons (b:=it) hn hr=>by
    unfold lJ at h
    simp only [Bool.and_eq_true,decide_eq_true_iff,Bool.not_eq_true'] at h
    obtain ⟨⟨⟨h1,h2⟩,h3⟩,h4⟩:=h
    obtain ⟨j,p,rfl⟩:=jE h1
    obtain ⟨p',rfl⟩:=uv h2
    obtain ⟨e,g,m⟩:=hn
    rw [List.map_cons,<- e]
    exact uh bV (zP g m rfl h3) (uT h4 hr)
  | [],_::_,_,_,h,_=>by cases h
  | _::_,[],_,_,h,_=>by cases h
  | [],[],_::_,_,h,_=>by cases h
  | _::_,_::_,[],_,h,_=>by cases h
def nC (X:Cx) (n:Str × List (Str × Str)) (r:Str × List (Str × Addr)):Prop:=n.1=r.1/\Paired (xh X) n.2 r.2
theorem tZ {X:Cx} {pos:Pos}:∀ {ks:List (Option Expr)} {vs:List Expr} {ns:List (Str × List (Str × Str))} {rows:List (Str × List (Str × Addr))},ki ks vs ns=true->Paired (nC X) ns rows ->
    uZ X pos ks vs (rows.map oX)/\ks.all (·.isSome)=true/\ks.length=vs.length/\ks.length=ns.length
  | [],[],[],_,_,.nil=>⟨uP,rfl,rfl,rfl⟩
  | k::ks,v::vs,n::ns,_,h,.cons (b:=r) hn hr=>by
    unfold ki at h
    simp only [Bool.and_eq_true,decide_eq_true_iff] at h
    obtain ⟨⟨h1,h2⟩,h4⟩:=h
    obtain ⟨j,p,rfl⟩:=jE h1
    cases hd:i3 v with
    | none=>rw [hd] at h2; cases h2
    | some d =>
      rw [hd] at h2
      simp only [Bool.and_eq_true,decide_eq_true_iff] at h2
      obtain ⟨⟨k1,k2⟩,k3⟩:=h2
      obtain ⟨p',rfl⟩:=mR hd
      obtain ⟨e,pn⟩:=hn
      obtain ⟨a1,a2,a3⟩:=pU k1
      obtain ⟨b1,b2,b3,b4⟩:=tZ (pos:=pos) h4 hr
      refine ⟨?_,by rw [List.all_cons,b2]; rfl,by simp [b3],by simp [b4]⟩
      rw [List.map_cons]
      unfold oX
      rw [<- e]
      exact uh bV (va (uT k1 pn) a1 a2 (fun z=>k2 (List.eq_nil_of_length_eq_zero (by rw [<- a3,z]; rfl))) (by omega)) b1
  | [],_::_,_,_,h,_=>by cases h
  | _::_,[],_,_,h,_=>by cases h
  | [],[],_::_,_,h,_=>by cases h
  | _::_,_::_,[],_,h,_=>by cases h
theorem z9 {X:Cx} {ks:List (Option Expr)} {vs:List Expr} {pos:Pos} (ns:List (Str × List (Str × Str))) (rows:List (Str × List (Str × Addr))) (h:ki ks vs ns=true) (h0:ns≠[]) (h15:ns.length<=15) (pr:Paired (nC X) ns rows) :
    PE X (.Dict ks vs pos) (nR (rows.map oX)):=by
  obtain ⟨b1,b2,b3,b4⟩:=tZ (pos:=pos) h pr
  exact va b1 b2 b3 (fun z=>h0 (List.eq_nil_of_length_eq_zero (by rw [<- b4,z]; rfl))) (by omega)
theorem je {X:Cx} {f:Addr} {fd:FuncData} {ps:List Str} {sp:Sp} {x:Str} {p pos:Pos} {a b e:Expr} {es:List Expr} {tc:TE} {t:TA} {j k:Nat} (hc:PE X (.Subscript a b p) tc) (D:Def X.prog X.w X.K X.mg X.base x ps j sp f fd) (hr:bF k X.A) (ha:PA X (e::es) t) (hjk:j<=k:=by decide)
    (he:starEach (e::es) X.env=(false,eval e X.env)::starEach es X.env:=by rfl) (hpl:(backTo pos (starEach es X.env)).any (·.1)=false:=by rfl) :
    PE X (.Call (.Subscript a b p) (e::es) [] pos) (AK f sp E0 tc t):=by
  intro pins s σ H Q I h
  show wpAny (model X.prog X.w) X.A (eval (.Subscript a b p) X.env >>= fun fv=>callWith pos fv [] (backTo pos (starEach (e::es) X.env)) (backToKw pos (keywordEach [] X.env))) _ _ _
  refine wpAny_bind (aF (hc pins s σ H _ I h) fun u s1 ⟨v,H1,I1,rv,ev,q⟩=>?_)
  subst ev
  obtain rfl:u=Value.ref f:=rv
  refine PySem.W.callWith_K (first:=[]) (h₀:=X.base) I1.ok.mod.kin D.kp (aF (ha pos pins s1 σ H1 _ I1 q) fun us s2 ⟨vs,H2,I2,r,q2⟩=>⟨I2.kIn,?_⟩) he hpl
  have q3:sp (vs++[]) H2 Q E0:=by rw [List.append_nil]; exact q2
  exact jW D.ok (hr.mono hjk) D.b .nil lr I2 r q3
end L2
namespace L2
open PySem PySem.Spec PyProof.Rows Ck
noncomputable def qv:List Stmt->Option Expr
  | [.Return (some e) _]=>some e
  | _=>none
theorem wD {b:List Stmt} {e:Expr} (h:qv b=some e):∃ p,b=[.Return (some e) p]:=by
  unfold qv at h
  split at h
  · cases h; exact ⟨_,rfl⟩
  · cases h
noncomputable def rX (b:List Stmt) (ns:List (Str × List (Str × Str))):Bool:=match qv b with
  | some e=>(match i3 e with | some d=>ki d.1 d.2 ns | none=>false)
  | none=>false
theorem xl {X:Cx} {b:List Stmt} {ns:List (Str × List (Str × Str))} {rows:List (Str × List (Str × Addr))} (h:rX b ns=true) (h0:ns≠[]) (h15:ns.length<=15) (pr:Paired (nC X) ns rows):ik X b (Bl (nR (rows.map oX))):=by
  unfold rX at h
  cases hr:qv b with
  | none=>rw [hr] at h; cases h
  | some e =>
    rw [hr] at h
    obtain ⟨p,rfl⟩:=wD hr
    cases hd:i3 e with
    | none=>simp only [hd] at h; cases h
    | some d =>
      simp only [hd] at h
      obtain ⟨p',rfl⟩:=mR hd
      exact ao (aW (z9 ns rows h h0 h15 pr))
end L2
set_option Elab.async false
set_option linter.all false
set_option maxRecDepth 100000
set_option maxHeartbeats 4000000
namespace L2
open PySem PySem.Spec PyProof.Rows PySem.W PySem.SeqAt Ck
noncomputable def fA:List Int->List Int->Bool
  | [],[]=>false
  | [],_::_=>true
  | _::_,[]=>false
  | a::as,b::bs=>if a=b then fA as bs else decide (a < b)
theorem sO:∀ as:List Int,fA as []=false
  | []=>rfl
  | _::_=>rfl
theorem t9:∀ as bs:List Int,fA as bs=true->fA bs as=false
  | [],[],h=>rfl
  | [],_::_,_=>rfl
  | _::_,[],h=>by cases h
  | a::as,b::bs,h=>by
    unfold fA at h |-
    by_cases e:a=b
    · rw [if_pos e] at h
      rw [if_pos e.symm]
      exact t9 as bs h
    · rw [if_neg e] at h
      rw [if_neg (fun z=>e z.symm)]
      have:=of_decide_eq_true h
      exact decide_eq_false (by omega)
theorem u4:∀ as bs cs:List Int,fA bs as=false->fA cs bs=false->fA cs as=false
  | [],_,cs,_,_=>sO cs
  | _::_,[],_,h,_=>by cases h
  | _::_,_::_,[],_,h=>by cases h
  | a::as,b::bs,c::cs,h1,h2=>by
    unfold fA at h1 h2 |-
    by_cases e1:b=a
    · rw [if_pos e1] at h1
      by_cases e2:c=b
      · rw [if_pos e2] at h2
        rw [if_pos (e2.trans e1)]
        exact u4 as bs cs h1 h2
      · rw [if_neg e2] at h2
        have:=of_decide_eq_false h2
        rw [if_neg (fun z=>e2 (z.trans e1.symm))]
        exact decide_eq_false (by omega)
    · rw [if_neg e1] at h1
      have d1:=of_decide_eq_false h1
      by_cases e2:c=b
      · rw [if_pos e2] at h2
        rw [if_neg (fun z=>e1 (e2.symm.trans z))]
        exact decide_eq_false (by omega)
      · rw [if_neg e2] at h2
        have:=of_decide_eq_false h2
        rw [if_neg (by omega)]
        exact decide_eq_false (by omega)
theorem D1 (rs:List (List Int)):jt fun i j=>fA (rs.getD i []) (rs.getD j []) where
  asym a b h:=t9 _ _ h
  ntr a b c h1 h2:=u4 _ _ _ h1 h2
theorem mz {vs:List Value} {ns:List Int} (h:IntsAre vs ns):∀ {i:Nat} {n:Int},ns[i]? = some n->∃ t,vs[i]? = some (.int n t):=by
  induction h with
  | nil=>intro i n e; cases e
  | cons m t h ih =>
    intro i n e
    cases i with
    | zero=>simp at e; exact ⟨t,by rw [<- e]; rfl⟩
    | succ i=>exact ih (by simpa using e)
theorem Ac (l b:Addr) (items items2:Array Value) (ns ms:List Int) (hi:IntsAre items.toList ns) (hm:IntsAre items2.toList ms) (n n2:Nat) (dd dd2:Option Addr) (sl sl2:Array (Option Value)):∀ (k i:Nat),ns.length - i=k->i<=ns.length->i<=ms.length ->
    Meets (Builtin.«list.__eq__.loop» ⟨[.ref l,.ref b,rawInt i,rawInt 0],[]⟩) (fun A R s=>s.heap.get? l=some { cls:=.type "list",dict:=dd,data:=.seq items n,slots:=sl }/\s.heap.get? b=some { cls:=.type "list",dict:=dd2,data:=.seq items2 n2,slots:=sl2 }/\R (.ok (.ret (.bool (fA (ns.drop i) (ms.drop i))))) s):=by
  have l1:items.size=ns.length:=by have:=hi.length; simpa using this
  have l2:items2.size=ms.length:=by have:=hm.length; simpa using this
  -- one of them is at its end
  have fin:∀ i:Nat,i<=ns.length->i<=ms.length->(i=ns.length\/i=ms.length)->fA (ns.drop i) (ms.drop i)=decide (items.size < items2.size):=fun i h1 h2 h=>by
    rw [l1,l2]
    by_cases e:i=ns.length
    · rw [List.drop_eq_nil_of_le (as:=ns) (by omega)]
      by_cases e2:i=ms.length
      · rw [List.drop_eq_nil_of_le (by omega)]
        exact (decide_eq_false (by omega)).symm
      · rw [List.drop_eq_getElem_cons (show i < ms.length by omega)]
        exact (decide_eq_true (by omega)).symm
    · rw [List.drop_eq_nil_of_le (as:=ms) (by omega),sO]
      exact (decide_eq_false (by omega)).symm
  intro k
  induction k with
  | zero =>
    intro i hk hn2 hm2 prog w A R s h
    obtain ⟨hp,g,d,tk,os⟩:=s
    obtain ⟨hl,hb,h⟩:=h
    wp_walk using wpAny_loadPart' hl,wpAny_loadPart' hb
    have n1:items[((i:Nat):Int).toNat]? = none:=by simp; omega
    rw [n1]
    rw [fin i hn2 hm2 (by omega)] at h
    wp_walk using wpAny_loadPart' hl,wpAny_loadPart' hb
    exact h
  | succ k ih =>
    intro i hk hn2 hm2 prog w A R s h
    obtain ⟨hp,g,d,tk,os⟩:=s
    obtain ⟨hl,hb,h⟩:=h
    have li:i < ns.length:=by omega
    obtain ⟨t1,g1⟩:=mz hi (List.getElem?_eq_getElem li)
    have i1:items[((i:Nat):Int).toNat]? = some (.int ns[i] t1):=by simpa using g1
    wp_walk using wpAny_loadPart' hl,wpAny_loadPart' hb
    rw [i1]
    by_cases lm:i < ms.length
    · obtain ⟨t2,g2⟩:=mz hm (List.getElem?_eq_getElem lm)
      have i2:items2[((i:Nat):Int).toNat]? = some (.int ms[i] t2):=by simpa using g2
      rw [i2]
      rw [List.drop_eq_getElem_cons li,List.drop_eq_getElem_cons lm] at h
      unfold fA at h
      refine wpAny_bind (wpAny_eqBool_int ?_)
      by_cases e:ns[i]=ms[i]
      · rw [if_pos e] at h
        rw [show (ns[i] == ms[i])=true by simpa using e]
        wp_walk
        have hc:((i:Int)+1)=((i+1:Nat):Int):=by omega
        rw [hc]
        exact ⟨plainId_quiet MeetsSeq3.plain_eq_loop _,codeAny_builtin MeetsSeq3.entry_eq_loop (by
          rw [Around.under_plainId MeetsSeq3.plain_eq_loop _]
          exact ih (i+1) (by omega) (by omega) (by omega) prog w A R _ ⟨hl,hb,h⟩)⟩
      · rw [if_neg e] at h
        rw [show (ns[i] == ms[i])=false by simpa using e]
        wp_walk using wpAny_loadPart' hl,wpAny_loadPart' hb
        rw [i1,i2]
        refine wpAny_bind (wpAny_lt_int ?_)
        exact wpAny_pure h
    · have n2':items2[((i:Nat):Int).toNat]? = none:=by simp; omega
      rw [n2']
      rw [fin i hn2 hm2 (by omega)] at h
      wp_walk using wpAny_loadPart' hl,wpAny_loadPart' hb
      exact h
theorem Aj (l b:Addr) (items items2:Array Value) (ns ms:List Int) (hi:IntsAre items.toList ns) (hm:IntsAre items2.toList ms) (n n2:Nat) (dd dd2:Option Addr) (sl sl2:Array (Option Value)) :
    Meets (Builtin.«list.__lt__» ⟨[.ref l,.ref b],[]⟩) (fun A R s=>s.heap.get? l=some { cls:=.type "list",dict:=dd,data:=.seq items n,slots:=sl }/\s.heap.get? b=some { cls:=.type "list",dict:=dd2,data:=.seq items2 n2,slots:=sl2 }/\R (.ok (.ret (.bool (fA ns ms)))) s):=by
  intro prog w A R s h
  obtain ⟨hp,g,d,tk,os⟩:=s
  obtain ⟨hl,hb,h⟩:=h
  have f3:=AutoSeq1.sub_list_list
  wp_walk using wpAny_loadPart' hl,wpAny_loadPart' hb
  exact ⟨plainId_quiet MeetsSeq3.plain_eq_loop _,codeAny_builtin MeetsSeq3.entry_eq_loop (by
    rw [Around.under_plainId MeetsSeq3.plain_eq_loop _]
    exact Ac l b items items2 ns ms hi hm n n2 dd dd2 sl sl2 _ 0 rfl (Nat.zero_le _) (Nat.zero_le _) prog w A R _ ⟨hl,hb,by simpa using h⟩)⟩
section
variable {prog:Program} {w:World} {A:Around} {E:Value->Shared->Prop} {s:Shared}
theorem wu {l b:Addr} {its jts:List Value} {ns ms:List Int} {n n2:Nat} {Q:Bool->Shared->Prop} (hu:A.units < cLine) (hi:IntsAre its ns) (hm:IntsAre jts ms) (hl:s.heap.get? l=some { cls:=.type "list",data:=.seq its.toArray n }) (hb:s.heap.get? b=some { cls:=.type "list",data:=.seq jts.toArray n2 }) (h:Q (fA ns ms) s) :
    wpAny (model prog w) A (oneLt' true (.ref l) (.ref b)) Q E s:=by
  rw [oneLt'_eq]
  simp only [if_true]
  refine wpAny_bind (wpAny_cRoomFor hu (wpAny_bind (wpAny_callSpecialIfBound?_slot (T:="list") ⟨_,hl,rfl⟩ F.slot_list_lt (call_meets F.slot_list_lt ⟨_,hl,rfl⟩ F.entry_list_lt (F.args_list_lt_2 _ _) (Aj l b its.toArray jts.toArray ns ms hi hm n n2 none none #[] #[]) ⟨hl,hb,?_⟩))))
  exact wpAny_truthy_bool h
def jH (h:Heap) (vs:List Value) (rs:List (List Int)):Prop:=Paired (fun (v:Value) (r:List Int)=>∃ a its n,v = .ref a/\IntsAre its r/\h.get? a=some { cls:=.type "list",data:=.seq its.toArray n }) vs rs
theorem jH.get {h:Heap}:∀ {vs:List Value} {rs:List (List Int)},jH h vs rs->∀ {i:Nat},i < vs.length->∃ a its n,vs.getD i Value.none = .ref a/\IntsAre its (rs.getD i [])/\h.get? a=some { cls:=.type "list",data:=.seq its.toArray n }
  | _,_,.nil,i,e=>absurd e (by simp)
  | _,_,.cons r t,0,e=>r
  | _,_,.cons r t,i+1,e=>by
    have:=jH.get t (i:=i) (by simpa using e)
    simpa using this
theorem jH.mem {h:Heap}:∀ {vs:List Value} {rs:List (List Int)},jH h vs rs->∀ v∈vs,∃ a its n,v = .ref a/\h.get? a=some { cls:=.type "list",data:=.seq (List.toArray its) n }
  | _,_,.cons r t,v,hv=>by
    rcases List.mem_cons.mp hv with rfl | hv
    · obtain ⟨a,its,n,e,_,g⟩:=r
      exact ⟨a,its,n,e,g⟩
    · exact jH.mem t v hv
theorem jH.mono {h h':Heap} (k:∀ b o,h.get? b=some o->h'.get? b=some o):∀ {vs:List Value} {rs:List (List Int)},jH h vs rs->jH h' vs rs
  | _,_,.nil=>.nil
  | _,_,.cons r t=>by
    obtain ⟨a,its,n,e,hi,g⟩:=r
    exact .cons ⟨a,its,n,e,hi,k _ _ g⟩ (jH.mono k t)
theorem Dj {vs:List Value} {rs:List (List Int)} {s1:Shared} (hu:A.units < cLine) (r:jH s1.heap vs rs) (h2:2<=vs.length):vc prog w A vs (fun i j=>fA (rs.getD i []) (rs.getD j [])) s1:=by
  intro Q q
  refine kas_kind (T:=.type "list") h2 (fun v hv=>?_) (by decide) (by decide) (q _ fun i j C hi hj hc=>?_)
  · obtain ⟨a,its,n,rfl,g⟩:=r.mem v hv
    exact (Looks.ld g).andThen .now
  · obtain ⟨a,its,n,e1,i1,g1⟩:=r.get hi
    obtain ⟨b,jts,n2,e2,i2,g2⟩:=r.get hj
    unfold kas_ask
    rw [e1,e2,keyLt'_oneType]
    exact wu hu i1 i2 g1 g2 hc
end
end L2
set_option Elab.async false
set_option linter.all false
set_option maxRecDepth 100000
set_option maxHeartbeats 4000000
namespace Zp
open PySem PyProof.Rows
noncomputable abbrev iY (h:Heap) (z TI TO T:Addr) (b:Bool):Prop :=
  h.get? z=some { cls:=.type "zip",dict:=none,data:=.fields #[rawInt T,.bool b,.bool false,.ref TI,.ref TO],slots:=#[] }
section
variable {prog:Program} {w:World} {A:Around} {E:Value->Shared->Prop} {s:Shared}
theorem ux {M:Model} {a:Addr} {Q:Option Obj->Shared->Prop} (h:Q (s.heap.get? a) s):wpAny M A (loadIfAlive a) Q E s:=fun _ _ _=>h
theorem pT {z TI TO T:Addr} {b:Bool} {oT:Obj} {Q:Bool->Shared->Prop} (hz:iY s.heap z TI TO T b) (hT:s.heap.get? T=some oT)
    (q:∀ h',iY h' z TI TO T true->(∀ c o,c≠z->s.heap.get? c=some o->h'.get? c=some o)->h'.objs.size=s.heap.objs.size->Q false { s with heap:=h' }):wpAny (model prog w) A (Builtin.SmallTypes.ownedTupleIsFree (.ref z)) Q E s:=by
  unfold Builtin.SmallTypes.ownedTupleIsFree
  refine wpAny_bind (wpAny_field hz rfl (x:=rawInt T) rfl ?_)
  unfold rawInt
  refine wpAny_bind (ux ?_)
  rw [show ((T:Nat):Int).toNat=T by omega,hT]
  rw [if_neg (by simp)]
  refine wpAny_bind (wpAny_field hz rfl (x:=.bool b) rfl ?_)
  cases b with
  | true =>
    rw [if_neg (by decide)]
    exact wpAny_bind (wpAny_pure (wpAny_pure (q s.heap hz (fun c o _ e=>e) rfl)))
  | false =>
    rw [if_pos (by decide)]
    exact wpAny_bind (wpAny_setField_rec hz (by simp) fun h1 hz1 hs1=>wpAny_pure (q h1 hz1 (fun c o n e=>hs1.extBut _ _ n e) hs1.1))
theorem xF {z TI TO T i1 i2 l1 l2:Addr} {k1 k2:Nat} {xs ys:Array Value} {x y:Value} {b:Bool} {oT:Obj} {Q:Value->Shared->Prop} (D:ZipApart z TI TO i1 i2 l1 l2)
    (hz:iY s.heap z TI TO T b) (hT:s.heap.get? T=some oT) (hTI:IsPair s.heap TI (.ref i1) (.ref i2)) (h1:s.heap.IsListIter i1 l1 k1) (h2:s.heap.IsListIter i2 l2 k2) (hl1:s.heap.IsList l1 xs) (hl2:s.heap.IsList l2 ys) (hx:xs[k1]? = some x) (hy:ys[k2]? = some y)
    (hQ:∀ h',iY h' z TI TO T true->h'.IsListIter i1 l1 (k1+1)->h'.IsListIter i2 l2 (k2+1)->IsPair h' s.heap.objs.size x y->h'.objs.size=s.heap.objs.size+1 ->
      (∀ c o,c≠z->c≠i1->c≠i2->s.heap.get? c=some o->h'.get? c=some o)->Q (.ref s.heap.objs.size) { s with heap:=h' }) :
    wpAny (model prog w) A (Builtin.«zip.__next__» ⟨[.ref z],[]⟩) (fun fin s'=>∃ v,fin = .done (.ret v)/\Q v s') E s:=by
  show wpAny _ _ (field (.ref z) 2 >>= _) _ _ _
  refine wpAny_bind (wpAny_field hz rfl (x:=.bool false) rfl ?_)
  show wpAny _ _ (field (.ref z) 3 >>= _) _ _ _
  refine wpAny_bind (wpAny_field hz rfl (x:=.ref TI) rfl (wpAny_bind (wpAny_seqItems hTI rfl ?_)))
  show wpAny _ _ (Builtin.SmallTypes.ownedTupleIsFree (.ref z) >>= _) _ _ _
  refine wpAny_bind (pT hz hT fun ha hza ka sza=>?_)
  rw [if_neg (by decide)]
  simp only [List.forIn_cons,List.forIn_nil,Array.forIn_toList,<- Array.forIn_toList]
  refine wpAny_bind (wpAny_bind (wpAny_bind (wpAny_holding ?_)))
  show wpAny _ _ (Builtin.SmallTypes.nextOf (.ref i1) >>= _) _ _ _
  refine wpAny_bind (wpAny_nextOf_list_item (h1.at fun o e=>ka _ o D.i1z e) (hl1.at fun o e=>ka _ o D.l1z e) hx fun hb h1b hsb=>wpAny_pure (wpAny_pure ?_))
  refine wpAny_bind (wpAny_bind (wpAny_holding ?_))
  show wpAny _ _ (Builtin.SmallTypes.nextOf (.ref i2) >>= _) _ _ _
  refine wpAny_bind (wpAny_nextOf_list_item ((h2.at fun o e=>ka _ o D.i2z e).extBut hsb.extBut D.i12.symm) ((hl2.at fun o e=>ka _ o D.l2z e).extBut hsb.extBut D.l2i1) hy fun hc h2c hsc=>wpAny_pure (wpAny_pure (wpAny_pure ?_)))
  refine wpAny_bind (wpAny_newTuple (wpAny_pure ⟨_,rfl,?_⟩) (by show 2<=sizeLine; rw [sizeLine_eq]; omega))
  have szc:hc.objs.size=s.heap.objs.size:=by rw [hsc.1,hsb.1,sza]
  have up:∀ c o,hc.get? c=some o->(hc.push { cls:=.type "tuple",data:=.seq #[x,y] }).get? c=some o:=fun c o e=>Heap.get?_push_of_some _ e
  have hzc:iY hc z TI TO T true:=hsc.extBut _ _ D.i2z.symm (hsb.extBut _ _ D.i1z.symm hza)
  have hT8:IsPair (hc.push { cls:=.type "tuple",data:=.seq #[x,y] }) hc.objs.size x y:=Heap.get?_push_size _ rfl
  show Q (.ref hc.objs.size) { s with heap:=hc.push { cls:=.type "tuple",data:=.seq #[x,y] } }
  rw [szc] at hT8 |-
  exact hQ _ (up _ _ hzc) ((h1b.extBut hsc.extBut D.i12).at fun o e=>up _ o e) (h2c.at fun o e=>up _ o e) hT8 (by rw [Heap.size_push,szc]) fun c o c1 c2 c3 e=>up _ _ (hsc.extBut _ _ c3 (hsb.extBut _ _ c2 (ka _ _ c1 e)))
theorem yU {z TI TO T i1 i2 l1 l2:Addr} {k1 k2:Nat} {xs ys:Array Value} {b:Bool} {oT:Obj} {Q:PySem.Fin->Shared->Prop} (hh:A.handled=none) (D:ZipApart z TI TO i1 i2 l1 l2)
    (hz:iY s.heap z TI TO T b) (hT:s.heap.get? T=some oT) (hTI:IsPair s.heap TI (.ref i1) (.ref i2)) (h1:s.heap.IsListIter i1 l1 k1) (h2:s.heap.IsListIter i2 l2 k2) (hl1:s.heap.IsList l1 xs) (hl2:s.heap.IsList l2 ys) (hend:xs[k1]? = none\/ys[k2]? = none)
    (hE:∀ h' e,(∀ c o,c≠z->c≠i1->c≠i2->s.heap.get? c=some o->h'.get? c=some o)->(∃ o,h'.get? e=some o/\o.cls = .type "StopIteration")->E (.ref e) { s with heap:=h' }) :
    wpAny (model prog w) A (Builtin.«zip.__next__» ⟨[.ref z],[]⟩) Q E s:=by
  show wpAny _ _ (field (.ref z) 2 >>= _) _ _ _
  refine wpAny_bind (wpAny_field hz rfl (x:=.bool false) rfl ?_)
  show wpAny _ _ (field (.ref z) 3 >>= _) _ _ _
  refine wpAny_bind (wpAny_field hz rfl (x:=.ref TI) rfl (wpAny_bind (wpAny_seqItems hTI rfl ?_)))
  show wpAny _ _ (Builtin.SmallTypes.ownedTupleIsFree (.ref z) >>= _) _ _ _
  refine wpAny_bind (pT hz hT fun ha hza ka sza=>?_)
  rw [if_neg (by decide)]
  simp only [List.forIn_cons,List.forIn_nil,Array.forIn_toList,<- Array.forIn_toList]
  refine wpAny_bind (wpAny_bind (wpAny_bind (wpAny_holding ?_)))
  show wpAny _ _ (Builtin.SmallTypes.nextOf (.ref i1) >>= _) _ _ _
  cases hx:xs[k1]? with
  | none =>
    exact wpAny_bind (wpAny_nextOf_list_end hh (h1.at fun o e=>ka _ o D.i1z e) (hl1.at fun o e=>ka _ o D.l1z e) hx fun hb e hsb he=>hE hb e (fun c o c1 c2 _ x=>hsb _ _ c2 (ka _ _ c1 x)) he)
  | some x =>
    have hy:ys[k2]? = none:=by rcases hend with h | h; rw [hx] at h; cases h; exact h
    refine wpAny_bind (wpAny_nextOf_list_item (h1.at fun o e=>ka _ o D.i1z e) (hl1.at fun o e=>ka _ o D.l1z e) hx fun hb h1b hsb=>wpAny_pure (wpAny_pure ?_))
    refine wpAny_bind (wpAny_bind (wpAny_holding ?_))
    show wpAny _ _ (Builtin.SmallTypes.nextOf (.ref i2) >>= _) _ _ _
    exact wpAny_bind (wpAny_nextOf_list_end hh ((h2.at fun o e=>ka _ o D.i2z e).extBut hsb.extBut D.i12.symm) ((hl2.at fun o e=>ka _ o D.l2z e).extBut hsb.extBut D.l2i1) hy fun hc e hsc he=>hE hc e (fun c o c1 c2 c3 x=>hsc _ _ c3 (hsb.extBut _ _ c2 (ka _ _ c1 x))) he)
theorem xo {z TI TO T i1 i2 l1 l2:Addr} {k1 k2:Nat} {xs ys:Array Value} {x y:Value} {b:Bool} {oT:Obj} {Q:Option Value->Shared->Prop} (D:ZipApart z TI TO i1 i2 l1 l2)
    (hz:iY s.heap z TI TO T b) (hT:s.heap.get? T=some oT) (hTI:IsPair s.heap TI (.ref i1) (.ref i2)) (h1:s.heap.IsListIter i1 l1 k1) (h2:s.heap.IsListIter i2 l2 k2) (hl1:s.heap.IsList l1 xs) (hl2:s.heap.IsList l2 ys) (hx:xs[k1]? = some x) (hy:ys[k2]? = some y)
    (hQ:∀ h',iY h' z TI TO T true->h'.IsListIter i1 l1 (k1+1)->h'.IsListIter i2 l2 (k2+1)->IsPair h' s.heap.objs.size x y->h'.objs.size=s.heap.objs.size+1 ->
      (∀ c o,c≠z->c≠i1->c≠i2->s.heap.get? c=some o->h'.get? c=some o)->Q (some (.ref s.heap.objs.size)) { s with heap:=h' }) :
    wpAny (model prog w) A (pyNext (.ref z)) Q E s:=by
  have hTy:s.TypeIs (.ref z) "zip":=⟨_,hz,rfl⟩
  unfold pyNext
  exact wpAny_bind (wpAny_attempt (wpAny_callSpecial?_slot (name:=Str.ofString "__next__") hTy F.slot_zip_next (wpAny_call_entry F.slot_zip_next hTy F.entry_zip_next
    (xF D hz hT hTI h1 h2 hl1 hl2 hx hy fun h' a1 a2 a3 a4 a5 a6=>wpAny_pure (hQ h' a1 a2 a3 a4 a5 a6)) (F.args_zip_next_1 _))))
theorem yx {z TI TO T i1 i2 l1 l2:Addr} {k1 k2:Nat} {xs ys:Array Value} {b:Bool} {oT:Obj} {Q:Option Value->Shared->Prop} (hh:A.handled=none) (D:ZipApart z TI TO i1 i2 l1 l2)
    (hz:iY s.heap z TI TO T b) (hT:s.heap.get? T=some oT) (hTI:IsPair s.heap TI (.ref i1) (.ref i2)) (h1:s.heap.IsListIter i1 l1 k1) (h2:s.heap.IsListIter i2 l2 k2) (hl1:s.heap.IsList l1 xs) (hl2:s.heap.IsList l2 ys) (hend:xs[k1]? = none\/ys[k2]? = none)
    (hQ:∀ h',(∀ c o,c≠z->c≠i1->c≠i2->s.heap.get? c=some o->h'.get? c=some o)->Q none { s with heap:=h' }):wpAny (model prog w) A (pyNext (.ref z)) Q E s:=by
  have hTy:s.TypeIs (.ref z) "zip":=⟨_,hz,rfl⟩
  unfold pyNext
  refine wpAny_bind (wpAny_attempt (wpAny_callSpecial?_slot (name:=Str.ofString "__next__") hTy F.slot_zip_next (wpAny_call_entry F.slot_zip_next hTy F.entry_zip_next (yU hh D hz hT hTI h1 h2 hl1 hl2 hend fun h' e hk he=>?_) (F.args_zip_next_1 _))))
  obtain ⟨o,ho,hc⟩:=he
  exact wpAny_bind (wpAny_isInstance (T:="StopIteration") (b:=true) ⟨o,ho,hc⟩ isSubtype_stop (wpAny_pure (hQ _ hk)))
end
end Zp
namespace Zp
open PySem PyProof.Rows
def Zs (h:Heap) (z TI TO:Addr) (ts:List Addr):Prop:=(ts=[]/\IsZip h z TI TO .none/\∃ a b,IsPair h TO a b)\/∃ T b,T∈ts/\iY h z TI TO T b
structure ZSt (h:Heap) (z TI TO i1 i2 l1 l2:Addr) (xs ys:Array Value) (ts:List Addr):Prop where
  zs:Zs h z TI TO ts
  ti:IsPair h TI (.ref i1) (.ref i2)
  it1:h.IsListIter i1 l1 ts.length
  it2:h.IsListIter i2 l2 ts.length
  li1:h.IsList l1 xs
  li2:h.IsList l2 ys
  tup:∀ (j:Nat) (T:Addr),ts[j]? = some T->∃ x y,xs[j]? = some x/\ys[j]? = some y/\IsPair h T x y/\T≠z/\T≠TO/\T≠i1/\T≠i2
  nd:ts.Nodup
  tto:∃ o,h.get? TO=some o
theorem ZSt.keep {h h':Heap} {z TI TO i1 i2 l1 l2:Addr} {xs ys:Array Value} {ts:List Addr} (Z:ZSt h z TI TO i1 i2 l1 l2 xs ys ts) (k:∀ b o,h.get? b=some o->(b=z\/b=TI\/b=TO\/b=i1\/b=i2\/b=l1\/b=l2\/b∈ts)->h'.get? b=some o):ZSt h' z TI TO i1 i2 l1 l2 xs ys ts:=by
  refine ⟨?_,k _ _ Z.ti (by simp),Z.it1.at fun o e=>k _ o e (by simp),Z.it2.at fun o e=>k _ o e (by simp),Z.li1.at fun o e=>k _ o e (by simp),Z.li2.at fun o e=>k _ o e (by simp),fun j T hj=>?_,Z.nd,let ⟨o,e⟩:=Z.tto; ⟨o,k _ _ e (by simp)⟩⟩
  · rcases Z.zs with ⟨e,hz,a,b,ho⟩ | ⟨T,b,hT,hz⟩
    · exact .inl ⟨e,k _ _ hz (by simp),a,b,k _ _ ho (by simp)⟩
    · exact .inr ⟨T,b,hT,k _ _ hz (by simp)⟩
  · obtain ⟨x,y,h1,h2,h3,h4⟩:=Z.tup j T hj
    exact ⟨x,y,h1,h2,k _ _ h3 (by simp [List.mem_of_getElem? hj]),h4⟩
section
variable {prog:Program} {w:World} {A:Around} {E:Value->Shared->Prop} {s:Shared}
theorem zX {z TI TO i1 i2 l1 l2:Addr} {xs ys:Array Value} {ts:List Addr} {Q:Option Value->Shared->Prop} (D:ZipApart z TI TO i1 i2 l1 l2) (Z:ZSt s.heap z TI TO i1 i2 l1 l2 xs ys ts) (lt:ts.length < min xs.size ys.size)
    (q:∀ h',ZSt h' z TI TO i1 i2 l1 l2 xs ys (ts++[s.heap.objs.size])->(∀ c o,c≠z->c≠TO->c≠i1->c≠i2->s.heap.get? c=some o->h'.get? c=some o)->Q (some (.ref s.heap.objs.size)) { s with heap:=h' }):wpAny (model prog w) A (pyNext (.ref z)) Q E s:=by
  have lx:ts.length < xs.size:=by omega
  have ly:ts.length < ys.size:=by omega
  have sx:=Array.getElem?_eq_getElem lx
  have sy:=Array.getElem?_eq_getElem ly
  have far:∀ {c o},s.heap.get? c=some o->s.heap.objs.size≠c:=fun e=>Nat.ne_of_gt (Heap.lt_size e)
  have hzl:∃ o,s.heap.get? z=some o:=by
    rcases Z.zs with ⟨_,hz,_⟩ | ⟨T,b,_,hz⟩
    · exact ⟨_,hz⟩
    · exact ⟨_,hz⟩
  have fin:∀ h':Heap,Zs h' z TI TO (ts++[s.heap.objs.size])->h'.IsListIter i1 l1 (ts.length+1)->h'.IsListIter i2 l2 (ts.length+1)->IsPair h' s.heap.objs.size xs[ts.length] ys[ts.length]->(∀ c o,c≠z->c≠TO->c≠i1->c≠i2->s.heap.get? c=some o->h'.get? c=some o)->(∃ o,h'.get? TO=some o)->Q (some (.ref s.heap.objs.size)) { s with heap:=h' }:=fun h' a1 a2 a3 a4 a5 aTO=>by
    have nTO:s.heap.objs.size≠TO:=let ⟨_,e⟩:=Z.tto; far e
    refine q h' ⟨a1,a5 _ _ D.TIz D.TITO D.TIi1 D.TIi2 Z.ti,by rw [List.length_append]; exact a2,by rw [List.length_append]; exact a3,Z.li1.at fun o e=>a5 _ o D.l1z D.l1TO D.l1i1 D.l1i2 e,Z.li2.at fun o e=>a5 _ o D.l2z D.l2TO D.l2i1 D.l2i2 e,fun j T hj=>?_,?_,aTO⟩ a5
    · by_cases e:j < ts.length
      · rw [List.getElem?_append_left e] at hj
        obtain ⟨x,y,h1,h2,h3,n1,n2,n3,n4⟩:=Z.tup j T hj
        exact ⟨x,y,h1,h2,a5 _ _ n1 n2 n3 n4 h3,n1,n2,n3,n4⟩
      · rw [List.getElem?_append_right (by omega)] at hj
        have ej:j=ts.length:=by
          have:=(List.getElem?_eq_some_iff.mp hj).1
          simp at this
          omega
        subst ej
        have eT:s.heap.objs.size=T:=by simpa using hj
        subst eT
        obtain ⟨o,ho⟩:=hzl
        exact ⟨_,_,sx,sy,a4,far ho,nTO,(by obtain ⟨_,e,_⟩:=Z.it1; exact far e),(by obtain ⟨_,e,_⟩:=Z.it2; exact far e)⟩
    · refine List.nodup_append.mpr ⟨Z.nd,by simp,fun c hc d hd=>?_⟩
      have ed:d=s.heap.objs.size:=by simpa using hd
      obtain ⟨j,hj⟩:=List.getElem?_of_mem hc
      obtain ⟨x,y,_,_,h3,_⟩:=Z.tup j c hj
      rw [ed]
      exact (far h3).symm
  rcases Z.zs with ⟨e,hz,a,b,ho⟩ | ⟨T,b,hT,hz⟩
  · exact wpAny_pyNext_zip_item D hz Z.ti ho Z.it1 Z.it2 Z.li1 Z.li2 sx sy fun h' a1 a2 a3 a4 a5 a6 a7=>fin h' (.inr ⟨_,false,by simp,a1⟩) a3 a4 a5 a7 ⟨_,a2⟩
  · obtain ⟨j,hj⟩:=List.getElem?_of_mem hT
    obtain ⟨x,y,_,_,h3,_⟩:=Z.tup j T hj
    obtain ⟨o,eo⟩:=Z.tto
    exact xo D hz h3 Z.ti Z.it1 Z.it2 Z.li1 Z.li2 sx sy fun h' a1 a2 a3 a4 a5 a6=>fin h' (.inr ⟨T,true,by simp [hT],a1⟩) a2 a3 a4 (fun c o c1 _ c3 c4 e=>a6 c o c1 c3 c4 e) ⟨o,a6 _ _ D.TOz D.TOi1 D.TOi2 eo⟩
theorem CC {z TI TO i1 i2 l1 l2:Addr} {xs ys:Array Value} {ts:List Addr} {Q:Option Value->Shared->Prop} (hh:A.handled=none) (D:ZipApart z TI TO i1 i2 l1 l2) (Z:ZSt s.heap z TI TO i1 i2 l1 l2 xs ys ts) (le:min xs.size ys.size<=ts.length)
    (q:∀ h',(∀ c o,c≠z->c≠TO->c≠i1->c≠i2->s.heap.get? c=some o->h'.get? c=some o)->Q none { s with heap:=h' }):wpAny (model prog w) A (pyNext (.ref z)) Q E s:=by
  have hend:xs[ts.length]? = none\/ys[ts.length]? = none:=by
    by_cases h:xs.size<=ts.length
    · exact .inl (Array.getElem?_eq_none h)
    · exact .inr (Array.getElem?_eq_none (by omega))
  rcases Z.zs with ⟨e,hz,a,b,ho⟩ | ⟨T,b,hT,hz⟩
  · exact wpAny_pyNext_zip_end hh D hz Z.ti ho Z.it1 Z.it2 Z.li1 Z.li2 hend q
  · obtain ⟨j,hj⟩:=List.getElem?_of_mem hT
    obtain ⟨x,y,_,_,h3,_⟩:=Z.tup j T hj
    exact yx hh D hz h3 Z.ti Z.it1 Z.it2 Z.li1 Z.li2 hend fun h' k=>q h' fun c o c1 _ c3 c4 e=>k c o c1 c3 c4 e
end
section
variable {prog:Program} {w:World} {A:Around} {R:Result->Shared->Prop}
theorem z7 {z TI TO i1 i2 l1 l2 S:Addr} {xs ys:Array Value} {res:Value} (hh:A.handled=none) (D:ZipApart z TI TO i1 i2 l1 l2) (hS:S≠z/\S≠TI/\S≠TO/\S≠i1/\S≠i2/\S≠l1/\S≠l2) (hn:min xs.size ys.size<=1000000) :
    ∀ (k:Nat) (s:Shared) (ts:List Addr) (acc:Array Value) (c:Nat),min xs.size ys.size - ts.length=k->ts.length<=min xs.size ys.size->ZSt s.heap z TI TO i1 i2 l1 l2 xs ys ts->S∉ts->s.heap.get? S=some { cls:=.type "list",dict:=none,data:=.seq acc c,slots:=#[] }->acc.toList=ts.map Value.ref ->
    (∀ (h':Heap) (ts':List Addr) (acc':Array Value) (c':Nat),(∀ b o,b≠S->b≠z->b≠TO->b≠i1->b≠i2->s.heap.get? b=some o->h'.get? b=some o)->h'.get? S=some { cls:=.type "list",dict:=none,data:=.seq acc' c',slots:=#[] }->acc'.toList=ts'.map Value.ref->ts'.length=min xs.size ys.size->ts'.Nodup->S∉ts' ->
      (∀ (j:Nat) (T:Addr),ts'[j]? = some T->(∃ x y,xs[j]? = some x/\ys[j]? = some y/\IsPair h' T x y)/\(T∈ts\/s.heap.objs.size<=T))->R (.ok (.ret res)) { s with heap:=h' }) ->
    codeAny (model prog w) A (.builtin "list.extend.loop" ⟨[.ref S,.ref z,res],[]⟩) R s:=by
  intro k
  induction k with
  | zero =>
    intro s ts acc c hk hi Z nS hl ea q
    refine codeAny_builtin F.entry_extend_loop ?_
    rw [Around.under_plainId F.plain_extend_loop _]
    show wpAny _ A.in1 (pyNext (.ref z) >>= _) _ _ s
    refine wpAny_bind (CC (A:=A.in1) hh D Z (by omega) fun h' kk=>wpAny_pure (q h' ts acc c (fun b o _ b1 b2 b3 b4 e=>kk b o b1 b2 b3 b4 e) (kk _ _ hS.1 hS.2.2.1 hS.2.2.2.1 hS.2.2.2.2.1 hl) ea (by omega) Z.nd nS fun j T hj=>?_))
    obtain ⟨x,y,h1,h2,h3,n1,n2,n3,n4⟩:=Z.tup j T hj
    exact ⟨⟨x,y,h1,h2,kk _ _ n1 n2 n3 n4 h3⟩,.inl (List.mem_of_getElem? hj)⟩
  | succ k ih =>
    intro s ts acc c hk hi Z nS hl ea q
    have la:acc.size=ts.length:=by rw [<- Array.length_toList,ea,List.length_map]
    refine codeAny_builtin F.entry_extend_loop ?_
    rw [Around.under_plainId F.plain_extend_loop _]
    show wpAny _ A.in1 (pyNext (.ref z) >>= _) _ _ s
    refine wpAny_bind (zX (A:=A.in1) D Z (by omega) fun h' Z' kk=>?_)
    have hl':=kk _ _ hS.1 hS.2.2.1 hS.2.2.2.1 hS.2.2.2.2.1 hl
    have nS':S≠s.heap.objs.size:=Nat.ne_of_lt (Heap.lt_size hl)
    have nST:S∉ts++[s.heap.objs.size]:=by simp [nS,nS']
    show wpAny _ A.in1 (updateSeq S (·.push (.ref s.heap.objs.size)) >>= _) _ _ _
    have oth:∀ b o,b≠S->h'.get? b=some o->(h'.update S (Obj.mapSeq (·.push (.ref s.heap.objs.size)))).get? b=some o:=fun b o n e=>(Heap.get?_update_other _ _ (Ne.symm n)).trans e
    have Z2:ZSt (h'.update S (Obj.mapSeq (·.push (.ref s.heap.objs.size)))) z TI TO i1 i2 l1 l2 xs ys (ts++[s.heap.objs.size]):=Z'.keep fun b o e hb=>oth b o (fun z=>by
      subst z
      rcases hb with h | h | h | h | h | h | h | h
      · exact hS.1 h
      · exact hS.2.1 h
      · exact hS.2.2.1 h
      · exact hS.2.2.2.1 h
      · exact hS.2.2.2.2.1 h
      · exact hS.2.2.2.2.2.1 h
      · exact hS.2.2.2.2.2.2 h
      · exact nST h) e
    refine wpAny_bind (wpAny_updateSeq hl' rfl (wpAny_pure ⟨plainId_quiet F.plain_extend_loop _,ih { s with heap:=h'.update S (Obj.mapSeq (·.push (.ref s.heap.objs.size))) } (ts++[s.heap.objs.size]) (acc.push (.ref s.heap.objs.size)) _ (by rw [List.length_append]; show _ - (ts.length+1)=k; omega) (by rw [List.length_append]; show ts.length+1<=_; omega) Z2 nST (Heap.get?_update_self _ hl' rfl) (by rw [Array.toList_push,ea,List.map_append]; rfl) fun h2 ts' acc' c' kk2 hl2 ea2 lt2 nd2 nS2 tu=>?_⟩)
      (by rw [la,sizeLine_eq]; omega) (by show (acc.push (.ref s.heap.objs.size)).size<=sizeLine+1; rw [Array.size_push,la,sizeLine_eq]; omega))
    refine q h2 ts' acc' c' (fun b o b0 b1 b2 b3 b4 e=>kk2 b o b0 b1 b2 b3 b4 (oth b o b0 (kk b o b1 b2 b3 b4 e))) hl2 ea2 lt2 nd2 nS2 fun j T hj=>?_
    obtain ⟨g1,g2⟩:=tu j T hj
    refine ⟨g1,?_⟩
    rcases g2 with g | g
    · rcases List.mem_append.mp g with g | g
      · exact .inl g
      · exact .inr (by rw [show T=s.heap.objs.size by simpa using g]; exact Nat.le_refl _)
    · have hsz:s.heap.objs.size<=(h'.update S (Obj.mapSeq (·.push (.ref s.heap.objs.size)))).objs.size:=by
        rw [Heap.size_update]
        obtain ⟨x,y,_,_,h3,_⟩:=Z'.tup ts.length s.heap.objs.size (by simp)
        exact Nat.le_of_lt (Heap.lt_size h3)
      exact .inr (Nat.le_trans hsz g)
end
end Zp
namespace Zp
open PySem PyProof.Rows
theorem Ai:typeLookup (.type "zip") "__len__" = pure none:=by rw [typeLookup_type,builtinLookup_eq_fast]; kernel_rfl
theorem y6:typeLookup (.type "zip") "__length_hint__" = pure none:=by rw [typeLookup_type,builtinLookup_eq_fast]; kernel_rfl
section
variable {prog:Program} {w:World} {A:Around} {E:Value->Shared->Prop} {s:Shared}
theorem zf {z:Addr} {Q:Bool->Shared->Prop} (hT:s.TypeIs (.ref z) "zip") (q:Q true s):wpAny (model prog w) A (Builtin.List.listLengthHint (.ref z)) Q E s:=by
  unfold Builtin.List.listLengthHint
  refine wpAny_bind (wpAny_specialOf hT Ai ?_)
  dsimp only
  exact wpAny_bind (wpAny_specialOf hT y6 (wpAny_pure q))
theorem ZSt.zip {h:Heap} {z TI TO i1 i2 l1 l2:Addr} {xs ys:Array Value} (Z:ZSt h z TI TO i1 i2 l1 l2 xs ys []):IsZip h z TI TO .none:=by
  rcases Z.zs with ⟨_,hz,_⟩ | ⟨T,b,hT,_⟩
  · exact hz
  · cases hT
theorem vq {R:Result->Shared->Prop} {z TI TO i1 i2 l1 l2 S:Addr} {xs ys:Array Value} {res:Value} {c:Nat} (hh:A.handled=none) (D:ZipApart z TI TO i1 i2 l1 l2) (hS:S≠z/\S≠TI/\S≠TO/\S≠i1/\S≠i2/\S≠l1/\S≠l2) (hn:min xs.size ys.size<=1000000)
    (Z:ZSt s.heap z TI TO i1 i2 l1 l2 xs ys []) (hl:s.heap.get? S=some { cls:=.type "list",dict:=none,data:=.seq #[] c,slots:=#[] })
    (q:∀ (h':Heap) (ts:List Addr) (acc:Array Value) (c':Nat),(∀ b o,b≠S->b≠z->b≠TO->b≠i1->b≠i2->s.heap.get? b=some o->h'.get? b=some o)->h'.get? S=some { cls:=.type "list",dict:=none,data:=.seq acc c',slots:=#[] }->acc.toList=ts.map Value.ref->ts.length=min xs.size ys.size->ts.Nodup->S∉ts ->
      (∀ (j:Nat) (T:Addr),ts[j]? = some T->(∃ x y,xs[j]? = some x/\ys[j]? = some y/\IsPair h' T x y)/\s.heap.objs.size<=T)->R (.ok (.ret res)) { s with heap:=h' }) :
    wpAny (model prog w) A.in1 (Builtin.List.listExtendWith (.ref S) (.ref z) res) (fun fin s'=>match fin with | .done f=>R (.ok f) s' | .again c'=>c'.quiet=true/\codeAny (model prog w) A c' R s') (fun e s'=>R (.error e) s') s:=by
  have hz:=Z.zip
  have n1:Builtin.List.listSameRef (.ref S) (.ref z)=false:=by simp [Builtin.List.listSameRef,hS.1]
  have n2:(Value.type "zip" == Value.type "list")=false:=by decide
  have n3:(Value.type "zip" == Value.type "tuple")=false:=by decide
  unfold Builtin.List.listExtendWith
  refine wpAny_bind (wpAny_typeOf (T:="zip") ⟨_,hz,rfl⟩ ?_)
  simp only [n1,n2,n3,Bool.or_false,Bool.false_eq_true,if_false]
  refine wpAny_bind (wpAny_pyIter_zip hz (wpAny_bind (wpAny_holding (zf ⟨_,hz,rfl⟩ ?_))))
  simp only [Bool.true_or,if_true]
  refine wpAny_bind (wpAny_rule (wpAny_bind ?_))
  show wpAny _ _ (updateSeq S (·.push .none) >>= fun _=>updateSeq S (·.pop)) _ _ _
  have hl2:=Heap.get?_update_self (Obj.mapSeq (·.push Value.none)) hl rfl
  have hl3:=Heap.get?_update_self (Obj.mapSeq (·.pop)) hl2 rfl
  have oth:∀ b o,b≠S->s.heap.get? b=some o->((s.heap.update S (Obj.mapSeq (·.push Value.none))).update S (Obj.mapSeq (·.pop))).get? b=some o:=fun b o n e=>(Heap.get?_update_other _ _ (Ne.symm n)).trans ((Heap.get?_update_other _ _ (Ne.symm n)).trans e)
  refine wpAny_bind (wpAny_updateSeq hl rfl (wpAny_updateSeq hl2 rfl (wpAny_pure ⟨plainId_quiet F.plain_extend_loop _,?_⟩) (by show 1<=sizeLine; rw [sizeLine_eq]; omega) (by show 0<=_; exact Nat.zero_le _)) (Nat.zero_le _) (by show 1<=_; rw [sizeLine_eq]; omega))
  refine z7 (xs:=xs) (ys:=ys) hh D hS hn _ _ [] #[] _ rfl (Nat.zero_le _) (Z.keep fun b o e hb=>oth b o (fun x=>by
      subst x
      rcases hb with h | h | h | h | h | h | h | h
      · exact hS.1 h
      · exact hS.2.1 h
      · exact hS.2.2.1 h
      · exact hS.2.2.2.1 h
      · exact hS.2.2.2.2.1 h
      · exact hS.2.2.2.2.2.1 h
      · exact hS.2.2.2.2.2.2 h
      · cases h) e) (by simp) hl3 rfl fun h' ts acc c' k e1 e2 e3 e4 e5 e6=>q h' ts acc c' (fun b o b0 b1 b2 b3 b4 e=>k b o b0 b1 b2 b3 b4 (oth b o b0 e)) e1 e2 e3 e4 e5 fun j T hj=>?_
  obtain ⟨g1,g2⟩:=e6 j T hj
  refine ⟨g1,?_⟩
  rcases g2 with g | g
  · cases g
  · rw [Heap.size_update,Heap.size_update] at g
    exact g
theorem list_zip {Q:Value->Shared->Prop} {z TI TO i1 i2 l1 l2:Addr} {xs ys:Array Value} (hh:A.handled=none) (D:ZipApart z TI TO i1 i2 l1 l2) (hn:min xs.size ys.size<=1000000) (Z:ZSt s.heap z TI TO i1 i2 l1 l2 xs ys [])
    (q:∀ (h':Heap) (ts:List Addr) (acc:Array Value) (c':Nat),(∀ b o,b≠z->b≠TO->b≠i1->b≠i2->s.heap.get? b=some o->h'.get? b=some o)->h'.get? s.heap.objs.size=some { cls:=.type "list",dict:=none,data:=.seq acc c',slots:=#[] }->acc.toList=ts.map Value.ref->ts.length=min xs.size ys.size->ts.Nodup ->
      (∀ (j:Nat) (T:Addr),ts[j]? = some T->(∃ x y,xs[j]? = some x/\ys[j]? = some y/\IsPair h' T x y)/\s.heap.objs.size < T)->Q (.ref s.heap.objs.size) { s with heap:=h' }) :
    wpAny (model prog w) A (call (.type "list") [.ref z]) Q E s:=by
  have hz:=Z.zip
  have far:∀ {c o},s.heap.get? c=some o->s.heap.objs.size≠c:=fun e=>Nat.ne_of_gt (Heap.lt_size e)
  have hS:s.heap.objs.size≠z/\s.heap.objs.size≠TI/\s.heap.objs.size≠TO/\s.heap.objs.size≠i1/\s.heap.objs.size≠i2/\s.heap.objs.size≠l1/\s.heap.objs.size≠l2 :=
    ⟨far hz,far Z.ti,(let ⟨_,e⟩:=Z.tto; far e),(let ⟨_,e,_⟩:=Z.it1; far e),(let ⟨_,e,_⟩:=Z.it2; far e),(let ⟨_,e,_⟩:=Z.li1; far e),(let ⟨_,e,_⟩:=Z.li2; far e)⟩
  refine callType_codes (Q₁:=fun T s1=>T = .ref s.heap.objs.size/\s1={ s with heap:=s.heap.push { cls:=.type "list",data:=.seq #[] } }) F.called_list (F.typeCall_list_1 _) F.entry_list_init (code_list_new _ ⟨rfl,rfl⟩) fun T s1 e1=>?_
  obtain ⟨rfl,rfl⟩:=e1
  have g0:(s.heap.push { cls:=.type "list",data:=.seq #[] }).get? s.heap.objs.size=some { cls:=.type "list",data:=.seq #[] }:=Heap.get?_push_size _ rfl
  have g1:=Heap.get?_update_self (Obj.mapSeq (fun _=>(#[]:Array Value))) g0 rfl
  have oth:∀ b o,s.heap.get? b=some o->((s.heap.push { cls:=.type "list",data:=.seq #[] }).update s.heap.objs.size (Obj.mapSeq (fun _=>(#[]:Array Value)))).get? b=some o:=fun b o e=>(Heap.get?_update_other _ _ (far e)).trans (Heap.get?_push_of_some _ e)
  refine ⟨⟨_,g0,rfl⟩,F.args_list_init_2 _ _,?_⟩
  show wpAny _ _ (do let was <- Builtin.List.listItems (.ref s.heap.objs.size); Builtin.List.listUpdate (.ref s.heap.objs.size) (fun _=>#[]); letGo was.toList.reverse; Builtin.List.listExtendWith (.ref s.heap.objs.size) (.ref z) .none) _ _ _
  refine wpAny_bind ?_
  unfold Builtin.List.listItems
  refine wpAny_bind (wpAny_seqItems g0 rfl (wpAny_pure ?_))
  show wpAny _ _ (updateSeq s.heap.objs.size (fun _=>#[]) >>= fun _=>letGo (#[]:Array Value).toList.reverse >>= fun _=>Builtin.List.listExtendWith (.ref s.heap.objs.size) (.ref z) .none) _ _ _
  refine wpAny_bind (wpAny_updateSeq g0 rfl (wpAny_bind (wpAny_letGo ?_)) (Nat.zero_le _) (Nat.zero_le _))
  refine vq (s:={ s with heap:=(s.heap.push { cls:=.type "list",data:=.seq #[] }).update s.heap.objs.size (Obj.mapSeq (fun _=>(#[]:Array Value))) }) (A:=A.in1) hh D hS hn (Z.keep fun b o e _=>oth b o e) g1 fun h' ts acc c' k e1 e2 e3 e4 e5 e6=>⟨rfl,q h' ts acc c' (fun b o b1 b2 b3 b4 e=>k b o (Ne.symm (far e)) b1 b2 b3 b4 (oth b o e)) e1 e2 e3 e4 fun j T hj=>?_⟩
  obtain ⟨x1,x2⟩:=e6 j T hj
  rw [Heap.size_update,Heap.size_push] at x2
  exact ⟨x1,x2⟩
end
end Zp
namespace Ck
open PySem L2
theorem pN {α β:Type} {R:α->β->Prop}:∀ {as:List α} {bs:List β},as.length=bs.length->(∀ (j:Nat) a b,as[j]? = some a->bs[j]? = some b->R a b)->Paired R as bs
  | [],[],_,_=>.nil
  | a::as,b::bs,hl,h=>.cons (h 0 a b rfl rfl) (pN (by simpa using hl) fun j x y e1 e2=>h (j+1) x y (by simpa using e1) (by simpa using e2))
end Ck
namespace L2
open PySem PySem.Spec PyProof.Rows Ck
section
variable {X:Cx}
theorem uC {pins:List (Addr × Obj)} {σ:St} {s:Shared} {ts:List Addr} {ps:List Pair} (r:Paired (fun (T:Addr) (p:Pair)=>∃ t u,IsPair s.heap T (.int p.1 t) (.int p.2 u)) ts ps) :
    ∀ (H:Hp),Inv X pins σ H s->(∀ T∈ts,yV X pins H T)->ts.Nodup->∃ H',Inv X pins σ H' s/\af H H'/\cL H' (ts.map V.ref) ps/\∀ b,b∉ts->H' b=H b:=by
  induction r with
  | nil=>exact fun H I _ _=>⟨H,I,af.refl H,.nil,fun _ _=>rfl⟩
  | @cons T p ts ps h r ih =>
    intro H I o nd
    obtain ⟨t,u,h⟩:=h
    have oT:=o T (List.mem_cons_self ..)
    rw [List.nodup_cons] at nd
    have ok:bE X.prog X.w (upd H T (.tup [.int p.1,.int p.2])) s.heap T (.tup [.int p.1,.int p.2]):=⟨sz (n:=2) (by decide),[.int p.1 t,.int p.2 u],.cons ⟨_,rfl⟩ (.cons ⟨_,rfl⟩ .nil),_,h,rfl,_,rfl⟩
    have I1:=I.trackO oT ok
    obtain ⟨H',I',s',pr,k⟩:=ih _ I1 (fun U hU=>by
      have ne:U≠T:=fun z=>nd.1 (z▸hU)
      have oU:=o U (List.mem_cons_of_mem _ hU)
      exact ⟨oU.new,(ak ne).trans oU.free,oU.loc,oU.cell,oU.pin⟩) nd.2
    refine ⟨H',I',(af.new (af.refl H) oT.free _).trans s',.cons ⟨T,rfl,s' _ _ ae⟩ pr,fun b hb=>?_⟩
    rw [k b (fun z=>hb (List.mem_cons_of_mem _ z))]
    exact ak fun z=>hb (by rw [z]; exact List.mem_cons_self ..)
noncomputable def Ec (K:PySem.W.Frag) (ta:TA):TE:=fun σ H Q=>ta σ H fun vs H1=>∃ (p q:Addr) (ns ms:List Int),vs=[.ref p,.ref q]/\aq K H1 p (ns.map V.int)/\aq K H1 q (ms.map V.int)/\ns.length<=1000000/\∀ (l:Addr) (H2:Hp),af H1 H2->H1 l=none->gf H2 l (ns.zip ms)->Q (.ref l) H2
theorem Aa {K:PySem.W.Frag} {a b:Expr} {ta:TA} {p p2 pos pos2:Pos} (hK:X.K=K) (hc:X.calm=true) (hgl:Gl X "list") (hml:X.mg "list" = none) (hg:Gl X "zip") (hm:X.mg "zip" = none) (ha:PA X [a,b] ta) (hs:starEach [a,b] X.env=[(false,eval a X.env),(false,eval b X.env)]:=by rfl) (hs2:starEach [b] X.env=[(false,eval b X.env)]:=by rfl)
    (he:starEach [.Call (.Name "zip" p) [a,b] [] pos] X.env=[(false,eval (.Call (.Name "zip" p) [a,b] [] pos) X.env)]:=by rfl) :
    PE X (.Call (.Name "list" p2) [.Call (.Name "zip" p) [a,b] [] pos] [] pos2) (Ec K ta):=by
  subst hK
  intro pins s σ H Q I h
  refine wpAny_Call_Name_kw (gB I hgl hml i0 ?_ (by decide) (by decide))
  refine PyProof.Rows.callWith_type1 ?_ he rfl
  rw [he]
  show wpAny _ _ (spliced ((false,eval (.Call (.Name "zip" p) [a,b] [] pos) X.env)::backTo pos2 [])) _ _ s
  refine Calls.spliced_cons (Call_ (gB I hg hm boot_zip (PyProof.Rows.callWith_type1 (aF (ha pos pins s σ H _ I h) fun us s1 ⟨vs,H1,I1,r1,q1⟩=>?_) (by rw [hs,hs2]) (by rw [hs2]; rfl))))
  obtain ⟨p1,p2,ns,ms,e,l1,l2,z1,q⟩:=q1
  subst e
  obtain ⟨u1,u2,rfl,ru1,ru2⟩:=vals2 r1
  cases ru1
  cases ru2
  obtain ⟨its,rv,pl,hz⟩:=I1.list l1
  obtain ⟨jts,rw_,pm,hz2⟩:=I1.list l2
  have hi:=intsAre_of rv
  have hj:=intsAre_of rw_
  have li:=hi.length
  have lj:=hj.length
  have lt1:p1 < s1.heap.objs.size:=by obtain ⟨_,e,_⟩:=pl.isList; exact Heap.lt_size e
  have lt2:p2 < s1.heap.objs.size:=by obtain ⟨_,e,_⟩:=pm.isList; exact Heap.lt_size e
  refine call_zip_2 pl.isList pm.isList fun h2 hzz hTI hTO hi1 hi2 hsz hk=>Calls.spliced_nil ?_
  have D:=zipApart_new lt1 lt2
  have I2:Inv X pins σ H1 { s1 with heap:=h2 }:=I1.kept (t':=s1.toks) hk
  have Z:Zp.ZSt h2 (s1.heap.objs.size+4) (s1.heap.objs.size+2) (s1.heap.objs.size+3) s1.heap.objs.size (s1.heap.objs.size+1) p1 p2 its.toArray jts.toArray [] :=
    ⟨.inl ⟨rfl,hzz,_,_,hTO⟩,hTI,hi1,hi2,pl.isList.at fun o e=>hk _ o e,pm.isList.at fun o e=>hk _ o e,fun j T hj=>by simp at hj,List.nodup_nil,⟨_,hTO⟩⟩
  refine Zp.list_zip (s:={ s1 with heap:=h2 }) (I.ok.hd hc) D (by simp; omega) Z fun h3 ts acc c kk hl ea lts nd tu=>?_
  have k3:∀ b o,s1.heap.get? b=some o->h3.get? b=some o:=fun b o e=>by
    have lt:=Heap.lt_size e
    exact kk b o (Nat.ne_of_lt (Nat.lt_of_lt_of_le lt (Nat.le_add_right _ _))) (Nat.ne_of_lt (Nat.lt_of_lt_of_le lt (Nat.le_add_right _ _))) (Nat.ne_of_lt lt) (Nat.ne_of_lt (Nat.lt_of_lt_of_le lt (Nat.le_add_right _ _))) (hk b o e)
  have I3:Inv X pins σ H1 { s1 with heap:=h3 }:=I1.kept (t':=s1.toks) k3
  have our:∀ T,s1.heap.objs.size<=T->yV X pins H1 T:=fun T hT=>by
    have f:=I1.fpOk hT (I1.hok.fresh hT)
    exact ⟨Heap.get?_none_of_le (Nat.le_trans I1.sz hT),f.1,f.2.1,f.2.2.2.2.1,f.2.2.2.2.2⟩
  have hgt:∀ T∈ts,h2.objs.size < T:=fun T hT=>by
    obtain ⟨j,hj⟩:=List.getElem?_of_mem hT
    exact (tu j T hj).2
  have lz:(ns.zip ms).length=ts.length:=by rw [lts,List.length_zip]; simp; omega
  have prd:Paired (fun (T:Addr) (p:Pair)=>∃ t u,IsPair h3 T (.int p.1 t) (.int p.2 u)) ts (ns.zip ms):=by
    refine pN lz.symm fun j T pr e1 e2=>?_
    obtain ⟨⟨x,y,hx,hy,hp⟩,_⟩:=tu j T e1
    have hx':its[j]? = some x:=by simpa using hx
    have hy':jts[j]? = some y:=by simpa using hy
    rw [List.getElem?_zip_eq_some] at e2
    obtain ⟨t,et⟩:=mz hi e2.1
    obtain ⟨u,eu⟩:=mz hj e2.2
    rw [et] at hx'
    rw [eu] at hy'
    cases hx'
    cases hy'
    exact ⟨t,u,hp⟩
  obtain ⟨H',I',s',prs,kf⟩:=uC prd H1 I3 (fun T hT=>our T (by have:=hgt T hT; omega)) nd
  have nS:h2.objs.size∉ts:=fun z=>Nat.lt_irrefl _ (hgt _ z)
  have oS:=our h2.objs.size (by omega)
  have fS:H' h2.objs.size=none:=by rw [kf _ nS]; exact oS.free
  have vs:Vals (ts.map V.ref) acc.toList:=by
    rw [ea]
    have go:∀ ts:List Addr,Vals (ts.map V.ref) (ts.map Value.ref):=fun ts=>by
      induction ts with
      | nil=>exact .nil
      | cons T ts ih=>exact .cons rfl ih
    exact go ts
  have I4:=I'.trackO (o':=.lst (ts.map V.ref)) ⟨oS.new,fS,oS.loc,oS.cell,oS.pin⟩ ⟨by rw [List.length_map,lts]; simp; exact sz (by omega),acc.toList,c,vs,hl⟩
  exact ⟨.ref h2.objs.size,_,I4,rfl,q _ _ (s'.trans (af.new (af.refl H') fS _)) oS.free ⟨_,ae,prs.updN fS _⟩⟩
end
end L2
set_option Elab.async false
set_option linter.all false
set_option maxRecDepth 100000
set_option maxHeartbeats 4000000
namespace Ck
open PySem L2
noncomputable abbrev aQ (H0 H:Hp) (a:Addr):List Addr->List (List Int)->Prop:=Paired (fun (b:Addr) (ns:List Int)=>H b=some (.lst (ns.map V.int))/\H0 b=none/\b≠a)
def bC (H0 H:Hp) (a:Addr) (rs:List (List Int)):Prop:=∃ bs:List Addr,H a=some (.lst (bs.map V.ref))/\aQ H0 H a bs rs/\bs.Nodup
theorem bC.nil {H0 H:Hp} {a:Addr} (h:H a=some (.lst [])):bC H0 H a []:=⟨[],h,.nil,List.nodup_nil⟩
theorem bC.same {H0 H H':Hp} {a:Addr} {rs:List (List Int)} (h:bC H0 H a rs) (s:af H H'):bC H0 H' a rs :=
  let ⟨bs,e,r,n⟩:=h
  ⟨bs,s _ _ e,Paired.mapP r fun _ _ ⟨p,q⟩=>⟨s _ _ p,q⟩,n⟩
theorem bC.since {H0 H1 H:Hp} {a:Addr} {rs:List (List Int)} (h:bC H0 H a rs) (s:af H1 H0):bC H1 H a rs :=
  let ⟨bs,e,r,n⟩:=h
  ⟨bs,e,Paired.mapP r fun _ _ ⟨p,q,z⟩=>⟨p,s.free q,z⟩,n⟩
theorem bC.len {H0 H:Hp} {a:Addr} {rs:List (List Int)} (h:bC H0 H a rs):∃ xs,H a=some (.lst xs)/\xs.length=rs.length :=
  let ⟨bs,e,r,_⟩:=h
  ⟨_,e,by rw [List.length_map]; exact Paired.length r⟩
theorem aQ.get {H0 H:Hp} {a:Addr}:∀ {bs:List Addr} {rs:List (List Int)},aQ H0 H a bs rs->∀ {j:Nat} {ns:List Int},rs[j]? = some ns->∃ b,bs[j]? = some b/\H b=some (.lst (ns.map V.int))/\H0 b=none/\b≠a
  | _,_,.nil,j,ns,e=>by cases e
  | _,_,.cons r t,0,ns,e=>by
    rw [List.getElem?_cons_zero] at e
    cases e
    exact ⟨_,rfl,r⟩
  | _,_,.cons r t,j+1,ns,e=>aQ.get t (j:=j) (by simpa using e)
theorem bC.get {H0 H:Hp} {a:Addr} {rs:List (List Int)} (h:bC H0 H a rs) {xs:List V} (hx:H a=some (.lst xs)) {j:Nat} {ns:List Int} (e:rs[j]? = some ns):∃ b,xs[j]? = some (.ref b)/\H b=some (.lst (ns.map V.int))/\H0 b=none/\b≠a:=by
  obtain ⟨bs,e1,r,_⟩:=h
  rw [hx] at e1
  cases e1
  obtain ⟨b,h1,h2⟩:=r.get e
  exact ⟨b,by rw [List.getElem?_map,h1]; rfl,h2⟩
theorem aQ.updC {H0 H:Hp} {a c:Addr} {o:HO}:∀ {bs:List Addr} {rs:List (List Int)},aQ H0 H a bs rs->(∀ b∈bs,b≠c)->aQ H0 (upd H c o) a bs rs
  | _,_,.nil,_=>.nil
  | _,_,.cons ⟨p,q⟩ t,n=>.cons ⟨(ak (n _ (by simp))).trans p,q⟩ (aQ.updC t fun b hb=>n b (by simp [hb]))
theorem aQ.all {H0 H:Hp} {a:Addr}:∀ {bs:List Addr} {rs:List (List Int)},aQ H0 H a bs rs->∀ b∈bs,(∃ ns:List Int,H b=some (.lst (ns.map V.int)))/\H0 b=none/\b≠a
  | _,_,.nil,b,hb=>by cases hb
  | _,_,.cons ⟨p,q⟩ t,b,hb=>by
    rcases List.mem_cons.mp hb with rfl | z
    · exact ⟨⟨_,p⟩,q⟩
    · exact aQ.all t b z
theorem bC.updC {H0 H:Hp} {a c:Addr} {o o':HO} {rs:List (List Int)} (h:bC H0 H a rs) (hc:H0 c=some o') (ne:a≠c):bC H0 (upd H c o) a rs:=by
  obtain ⟨bs,e,r,n⟩:=h
  exact ⟨bs,(ak ne).trans e,r.updC (fun b hb z=>by have:=(r.all b hb).2.1; rw [z,hc] at this; cases this),n⟩
theorem aQ.snoc {H0 H:Hp} {a b:Addr} {ns:List Int} (hb:H b=some (.lst (ns.map V.int))) (h0:H0 b=none) (ne:b≠a):∀ {bs:List Addr} {rs:List (List Int)},aQ H0 H a bs rs->aQ H0 H a (bs++[b]) (rs++[ns])
  | _,_,.nil=>.cons ⟨hb,h0,ne⟩ .nil
  | _,_,.cons r t=>.cons r (aQ.snoc hb h0 ne t)
theorem bC.snoc {H0 H:Hp} {a b:Addr} {rs:List (List Int)} {xs:List V} (h:bC H0 H a rs) (hx:H a=some (.lst xs)) (hb:H b=none) (h0:H0 b=none) (ns:List Int) :
    bC H0 (upd (upd H b (.lst (ns.map V.int))) a (.lst (xs++[.ref b]))) a (rs++[ns]):=by
  obtain ⟨bs,e,r,n⟩:=h
  rw [hx] at e
  cases e
  have ne:b≠a:=fun z=>by rw [z,hx] at hb; cases hb
  have nb:∀ c∈bs,c≠b:=fun c hc z=>by
    obtain ⟨⟨ms,e⟩,_⟩:=r.all c hc
    rw [z,hb] at e
    cases e
  have r1:aQ H0 (upd H b (.lst (ns.map V.int))) a bs rs:=r.updC nb
  have r2:aQ H0 (upd (upd H b (.lst (ns.map V.int))) a (.lst (bs.map V.ref++[.ref b]))) a bs rs:=r1.updC fun c hc=>(r.all c hc).2.2
  refine ⟨bs++[b],by rw [ae,List.map_append]; rfl,aQ.snoc ((ak ne).trans ae) h0 ne r2,?_⟩
  refine List.nodup_append.mpr ⟨n,by simp,?_⟩
  intro c hc d hd
  have:d=b:=by simpa using hd
  rw [this]
  exact nb c hc
theorem aQ.put {H0 H:Hp} {a b:Addr} {ms:List Int}:∀ {bs:List Addr} {rs:List (List Int)} {j:Nat},aQ H0 H a bs rs->bs.Nodup->bs[j]? = some b->aQ H0 (upd H b (.lst (ms.map V.int))) a bs (rs.set j ms)
  | _,_,j,.nil,_,e=>by cases e
  | _,_,0,.cons r t,n,e=>by
    rw [List.getElem?_cons_zero] at e
    cases e
    rw [List.nodup_cons] at n
    exact .cons ⟨ae,r.2⟩ (aQ.updC t fun c hc z=>n.1 (z▸hc))
  | _,_,j+1,.cons r t,n,e=>by
    rw [List.nodup_cons] at n
    have e':=e
    rw [List.getElem?_cons_succ] at e'
    have hb:=List.mem_of_getElem? e'
    exact .cons ⟨(ak (fun z=>n.1 (by rw [z]; exact hb))).trans r.1,r.2⟩ (aQ.put t n.2 e')
theorem bC.put {H0 H:Hp} {a b:Addr} {rs:List (List Int)} {xs:List V} (h:bC H0 H a rs) (hx:H a=some (.lst xs)) {j:Nat} (e:xs[j]? = some (.ref b)) (ms:List Int):bC H0 (upd H b (.lst (ms.map V.int))) a (rs.set j ms):=by
  obtain ⟨bs,e1,r,n⟩:=h
  rw [hx] at e1
  cases e1
  have e2:bs[j]? = some b:=by
    rw [List.getElem?_map] at e
    cases hb:bs[j]? with
    | none=>rw [hb] at e; cases e
    | some c =>
      rw [hb] at e
      have:V.ref c=V.ref b:=by simpa using e
      cases this
      rfl
  exact ⟨bs,(ak (Ne.symm (r.all b (List.mem_of_getElem? e2)).2.2)).trans hx,r.put n e2,n⟩
theorem bC.eqD {K:PySem.W.Frag} {H0 H1 H:Hp} {a b:Addr} {rs:List (List Int)} (h:bC H0 H a rs) (k:bC H1 H b rs) (ne:a≠b):EqD K H 2 (.ref a) (.ref b) true:=by
  obtain ⟨xs,ex,lx⟩:=h.len
  obtain ⟨ys,ey,ly⟩:=k.len
  refine EqD.lstT ne (aq.of ex) (aq.of ey) (by omega) fun j x y e1 e2=>?_
  have hj:j < rs.length:=by rw [<- lx]; exact (List.getElem?_eq_some_iff.mp e1).1
  obtain ⟨c,f1,g1,_⟩:=h.get ex (List.getElem?_eq_getElem hj)
  obtain ⟨d,f2,g2,_⟩:=k.get ey (List.getElem?_eq_getElem hj)
  rw [f1] at e1
  rw [f2] at e2
  cases e1
  cases e2
  by_cases z:c=d
  · subst z
    exact .same
  · exact EqD.lstT z (aq.of g1) (aq.of g2) rfl fun j x y e1 e2=>EqD.rowT e1 e2
inductive gH:List (List Int)->List Nat->Nat->Prop
  | start:gH [] [] 0
  | shut {rs:List (List Int)} {p:List Nat} {m k:Nat}:gH rs (p++[m]) k->gH rs p k
  | opn {rs:List (List Int)} {p:List Nat} {k:Nat}:gH rs p k->gH (rs++[[(k:Int)]]) (p++[rs.length]) (k+1)
  | put {rs:List (List Int)} {p:List Nat} {m k:Nat} {r:List Int}:gH rs (p++[m]) k->rs[m]? = some r->gH (rs.set m (r++[(k:Int)])) (p++[m]) (k+1)
theorem gH.lens {rs:List (List Int)} {p:List Nat} {k:Nat} (h:gH rs p k):rs.length<=k/\(∀ m∈p,m < rs.length)/\p.length<=rs.length/\∀ r∈rs,r.length<=k:=by
  induction h with
  | start=>simp
  | @shut rs p m k _ ih =>
    obtain ⟨h1,h2,h3,h4⟩:=ih
    exact ⟨h1,fun x hx=>h2 x (by simp [hx]),by simp at h3; omega,h4⟩
  | @opn rs p k _ ih =>
    obtain ⟨h1,h2,h3,h4⟩:=ih
    refine ⟨by simp; omega,fun x hx=>?_,by simp; omega,fun r hr=>?_⟩
    · rcases List.mem_append.mp hx with z | z
      · have:=h2 x z; simp; omega
      · have:x=rs.length:=by simpa using z
        simp; omega
    · rcases List.mem_append.mp hr with z | z
      · have:=h4 r z; omega
      · have:r=[(k:Int)]:=by simpa using z
        rw [this]; simp
  | @put rs p m k r _ hr ih =>
    obtain ⟨h1,h2,h3,h4⟩:=ih
    refine ⟨by rw [List.length_set]; omega,fun x hx=>by rw [List.length_set]; exact h2 x hx,by rw [List.length_set]; exact h3,fun s hs=>?_⟩
    rcases List.mem_or_eq_of_mem_set hs with z | z
    · have:=h4 s z; omega
    · have:=h4 r (List.mem_of_getElem? hr)
      rw [z]; simp; omega
end Ck
namespace Ck
open PySem L2
def gK (H H':Hp):Prop:=∀ b,H' b=none->H b=none
theorem gK.refl (H:Hp):gK H H:=fun _ h=>h
theorem gK.free' {H H':Hp} {b:Addr} (s:gK H H') (h:H' b=none):H b=none:=s b h
theorem gK.upd {H H':Hp} (s:gK H H') (a:Addr) (o:HO):gK H (L2.upd H' a o):=fun b h=>s b (by
  by_cases e:b=a
  · rw [e,ae] at h; cases h
  · rw [ak e] at h; exact h)
theorem gK.new {H H':Hp} {o:HO} (s:gK H H') (a:Addr):gK H (L2.upd H' a o):=s.upd a o
end Ck
set_option Elab.async false
set_option linter.all false
set_option maxRecDepth 100000
set_option maxHeartbeats 4000000
namespace Ck
open PySem PySem.Spec PyProof.Rows L2
theorem oE {X:Cx} {pins:List (Addr × Obj)} {σ:L2.St} {H H0:Hp} {s:Shared} {a:Addr} (I:Inv X pins σ H s):∀ {bs:List Addr} {rs:List (List Int)} {vs:List Value},aQ H0 H a bs rs->Vals (bs.map V.ref) vs->jH s.heap vs rs
  | _,_,_,.nil,.nil=>.nil
  | _,_,_,.cons r t,.cons rv tv=>by
    cases rv
    obtain ⟨z,its,n,r',hl,e⟩:=I.lstM r.1
    exact .cons ⟨_,its,n,rfl,intsAre_of r',e⟩ (oE I t tv)
theorem nQ {H H' H0:Hp} {a a':Addr}:∀ {bs:List Addr} {rs:List (List Int)},aQ H0 H a bs rs->(∀ b∈bs,H' b=H b/\b≠a')->aQ H0 H' a' bs rs
  | _,_,.nil,_=>.nil
  | _,_,.cons ⟨p,q,_⟩ t,k=>.cons ⟨(k _ (by simp)).1.trans p,q,(k _ (by simp)).2⟩ (nQ t fun b hb=>k b (by simp [hb]))
end Ck
namespace L2
open PySem PySem.Spec PyProof.Rows PySem.W Ck
section
variable {X:Cx}
theorem tY (hu:X.A.units+100 < cLine):dY X (.builtin "sorted") (fun xs H Q=>∃ (p:Addr) (H0:Hp) (rs:List (List Int)),xs=[.ref p]/\bC H0 H p rs/\rs.length < 64/\∀ (q:Addr) (ss:List (List Int)) (H':Hp),af H H'->H q=none->bC H0 H' q ss->ss.Perm rs->ss.Pairwise (fun a b=>fA b a=false)->(∀ (ws zs:List V),H p=some (.lst ws)->H' q=some (.lst zs)->∀ v∈zs,v∈ws)->Q (.ref q) H'):=by
  intro pins s σ H xs us Q I r h
  obtain ⟨p,H0,rs,rfl,⟨bs,hl,ro,nd⟩,h64,q⟩:=h
  obtain ⟨u,rfl,ru⟩:=vals1 r
  cases ru
  obtain ⟨its,r',pl,hz⟩:=I.list (aq.of hl)
  have lw:bs.length=rs.length:=Paired.length ro
  have li:(bs.map V.ref).length=its.length:=r'.length
  rw [List.length_map] at li
  have lv:=oE I ro r'
  refine nU (D1 rs) pl.isList (by omega) (fun h6 old h2=>Dj (s1:={ s with heap:=h6 }) (show X.A.units+1+1 < cLine by omega) (lv.mono old) h2) fun g ok ri=>?_
  obtain ⟨e,he⟩:=sortedAll_at s.heap its (g5 its g).toArray
  have hb:∀ i∈g.toList,i < its.length:=fun i hi=>List.mem_range.mp (ok.mem_iff.mp hi)
  have lg:g.toList.length=its.length:=by rw [ok.length_eq,List.length_range]
  have em:(g.toList.map fun i=>(bs.map V.ref).getD i V.non)=(g.toList.map fun i=>bs.getD i 0).map V.ref:=by
    rw [List.map_map]
    refine List.map_congr_left fun i hi=>?_
    have:=hb i hi
    have l1:i < bs.length:=by omega
    simp [l1]
  have hz2:((g.toList.map fun i=>bs.getD i 0).map V.ref).length<=sizeLine:=by rw [List.length_map,List.length_map,lg]; exact sz (by omega)
  have vs2:Vals ((g.toList.map fun i=>bs.getD i 0).map V.ref) (g5 its g):=by
    rw [<- em]
    exact gG r' V.non Value.none g.toList (fun i hi=>by rw [List.length_map,li]; exact hb i hi)
  have ro2:aQ H0 H p (g.toList.map fun i=>bs.getD i 0) (g.toList.map fun i=>rs.getD i []):=gG ro 0 [] g.toList (fun i hi=>by rw [li]; exact hb i hi)
  have pm:(g.toList.map fun i=>bs.getD i 0).Perm bs:=jS 0 bs (by rw [li]; exact ok)
  have fr:H (s.heap.objs.size+1)=none:=I.hok.fresh (Nat.le_succ _)
  refine ⟨.ref _,_,I.laid (t':=s.toks) (o:=.lst ((g.toList.map fun i=>bs.getD i 0).map V.ref)) (fun b u e=>sortedAll_old e) (Nat.le_succ _) ⟨hz2,g5 its g,e,vs2,by simpa [seqObj] using he⟩,rfl,?_⟩
  refine q _ _ _ (af.new (af.refl H) fr _) fr ⟨_,ae,nQ ro2 (fun b hb'=>?_),pm.nodup_iff.mpr nd⟩ (jS [] rs (by rw [<- lw,li]; exact ok)) ?_ (fun ws zs ew ez v hv=>?_)
  · obtain ⟨⟨ns,hn⟩,_⟩:=ro2.all b hb'
    have:b≠s.heap.objs.size+1:=aw hn fr
    exact ⟨ak this,this⟩
  · rw [List.pairwise_map]
    have gs:g.size=its.length:=by rw [<- lg]; simp
    refine List.pairwise_iff_getElem.mpr fun i j hi hj hij=>?_
    have:=ri i j (by omega) (by rw [<- gs]; simpa using hj)
    unfold gA at this
    simpa [show i < g.size by simpa using hi,show j < g.size by simpa using hj] using this
  · rw [hl] at ew
    cases ew
    rw [ae] at ez
    cases ez
    exact (pm.map V.ref).mem_iff.mp hv
end
theorem tV:∀ as bs:List Int,fA as bs=false->fA bs as=false->as=bs
  | [],[],_,_=>rfl
  | [],_::_,h,_=>by cases h
  | _::_,[],_,h=>by cases h
  | a::as,b::bs,h1,h2=>by
    unfold fA at h1 h2
    by_cases e:a=b
    · rw [if_pos e] at h1
      rw [if_pos e.symm] at h2
      rw [e,tV as bs h1 h2]
    · rw [if_neg e] at h1
      rw [if_neg (fun z=>e z.symm)] at h2
      have:=of_decide_eq_false h1
      have:=of_decide_eq_false h2
      omega
end L2
namespace Ck
open PySem L2
noncomputable abbrev hd (r:List Int):Int:=r.getD 0 0
noncomputable def iota (k:Nat):List Int:=(List.range k).map fun (i:Nat)=>(i:Int)
structure tH (k:Nat) (rs:List (List Int)):Prop where
  ne:∀ r∈rs,r≠[]
  inc:∀ r∈rs,r.Pairwise (· < ·)
  heads:(rs.map hd).Pairwise (· < ·)
  flat:rs.flatten.Perm (iota k)
theorem ze {k:Nat} {x:Int}:x∈iota k↔0<=x/\x < (k:Int):=by
  unfold iota
  rw [List.mem_map]
  constructor
  · rintro ⟨i,hi,rfl⟩
    have:=List.mem_range.mp hi
    omega
  · rintro ⟨h1,h2⟩
    exact ⟨x.toNat,List.mem_range.mpr (by omega),by omega⟩
theorem tH.rng {k:Nat} {rs:List (List Int)} (h:tH k rs) {r:List Int} (hr:r∈rs) {x:Int} (hx:x∈r):0<=x/\x < (k:Int) :=
  ze.mp (h.flat.mem_iff.mp (List.mem_flatten.mpr ⟨r,hr,hx⟩))
theorem rN {r:List Int} (h:r≠[]):hd r∈r:=by
  cases r with
  | nil=>exact absurd rfl h
  | cons a r=>exact List.mem_cons_self ..
theorem mI (x:Int):∀ (rs:List (List Int)) (m:Nat) (r:List Int),rs[m]? = some r->(rs.set m (r++[x])).flatten.Perm (rs.flatten++[x])
  | [],m,r,h=>by cases h
  | s::rs,0,r,h=>by
    have e:s=r:=by simpa using h
    subst e
    rw [List.set_cons_zero,List.flatten_cons,List.flatten_cons,List.append_assoc,List.append_assoc]
    exact List.Perm.append_left s List.perm_append_comm
  | s::rs,m+1,r,h=>by
    rw [List.set_cons_succ,List.flatten_cons,List.flatten_cons,List.append_assoc]
    exact List.Perm.append_left s (mI x rs m r (by simpa using h))
theorem qd (k:Nat):iota (k+1)=iota k++[(k:Int)]:=by
  unfold iota
  rw [List.range_succ,List.map_append]
  rfl
theorem gH.rms {rs:List (List Int)} {p:List Nat} {k:Nat} (h:gH rs p k):tH k rs:=by
  induction h with
  | start=>exact ⟨fun r h=>(by cases h),fun r h=>(by cases h),.nil,List.Perm.refl _⟩
  | shut _ ih=>exact ih
  | @opn rs p k _ ih =>
    refine ⟨fun r hr=>?_,fun r hr=>?_,?_,?_⟩
    · rcases List.mem_append.mp hr with z | z
      · exact ih.ne r z
      · rw [List.mem_singleton.mp z]; simp
    · rcases List.mem_append.mp hr with z | z
      · exact ih.inc r z
      · rw [List.mem_singleton.mp z]; simp
    · rw [List.map_append,List.pairwise_append]
      refine ⟨ih.heads,by simp,fun x hx y hy=>?_⟩
      obtain ⟨r,hr,rfl⟩:=List.mem_map.mp hx
      have:y=(k:Int):=by simpa using hy
      have:=ih.rng hr (rN (ih.ne r hr))
      omega
    · rw [List.flatten_append,qd]
      exact List.Perm.append_right _ ih.flat
  | @put rs p m k r _ hr ih =>
    have hrm:=List.mem_of_getElem? hr
    have hl:m < rs.length:=(List.getElem?_eq_some_iff.mp hr).1
    refine ⟨fun s hs=>?_,fun s hs=>?_,?_,?_⟩
    · rcases List.mem_or_eq_of_mem_set hs with z | z
      · exact ih.ne s z
      · rw [z]; simp
    · rcases List.mem_or_eq_of_mem_set hs with z | z
      · exact ih.inc s z
      · rw [z,List.pairwise_append]
        refine ⟨ih.inc r hrm,by simp,fun x hx y hy=>?_⟩
        have:y=(k:Int):=by simpa using hy
        have:=ih.rng hrm hx
        omega
    · have e:(rs.set m (r++[(k:Int)])).map hd=rs.map hd:=by
        rw [List.map_set]
        have e1:hd (r++[(k:Int)])=hd r:=by
          cases r with
          | nil=>exact absurd rfl (ih.ne _ hrm)
          | cons a r=>rfl
        rw [e1]
        refine List.ext_getElem? fun j=>?_
        rw [List.getElem?_set]
        by_cases z:m=j
        · subst z
          rw [if_pos rfl,if_pos (by rw [List.length_map]; exact hl),List.getElem?_map,hr]
          rfl
        · rw [if_neg z]
      rw [e]
      exact ih.heads
    · rw [qd]
      exact (mI _ rs m r hr).trans (List.Perm.append_right _ ih.flat)
section
variable {i:Nat} {ls:List (List Int)} (h:tH i ls)
include h
variable {j:Nat} {rs:List (List Int)} (h':tH j rs)
include h'
end
end Ck
set_option Elab.async false
set_option linter.all false
set_option maxRecDepth 100000
set_option maxHeartbeats 4000000
namespace L2
open PySem PySem.Spec PyProof.Rows
theorem qq {X:Cx} {K:PySem.W.Frag} (hK:X.K=K):dY X (.type "list") (fun xs H Q=>∃ p ys,xs=[.ref p]/\(aq K H p ys\/eE K H p ys)/\∀ l,H l=none->Q (.ref l) (upd H l (.lst ys))):=by
  subst hK
  exact jY
end L2
namespace Ck
open PySem L2
theorem bC.at {H0 H:Hp} {a:Addr} {rs:List (List Int)} {xs:List V} (h:bC H0 H a rs) (hx:H a=some (.lst xs)) {j:Nat} {v:V} (e:xs[j]? = some v) :
    ∃ b ns,v = .ref b/\rs[j]? = some ns/\H b=some (.lst (ns.map V.int))/\H0 b=none/\b≠a:=by
  obtain ⟨ys,ey,ly⟩:=h.len
  rw [hx] at ey
  cases ey
  have hj:j < rs.length:=by rw [<- ly]; exact (List.getElem?_eq_some_iff.mp e).1
  obtain ⟨b,h1,h2,h3,h4⟩:=h.get hx (List.getElem?_eq_getElem hj)
  rw [e] at h1
  cases h1
  exact ⟨b,rs[j],rfl,List.getElem?_eq_getElem hj,h2,h3,h4⟩
theorem bC.push {H0 H H':Hp} {a b:Addr} {rs:List (List Int)} {xs:List V} {ns:List Int} (h:bC H0 H a rs) (hx:H a=some (.lst xs)) (s:af H H') (fb:H b=none) (hb:H' b=some (.lst (ns.map V.int))) (h0:H0 b=none) :
    bC H0 (upd H' a (.lst (xs++[.ref b]))) a (rs++[ns]):=by
  obtain ⟨bs,e,r,n⟩:=h
  rw [hx] at e
  cases e
  have ne:b≠a:=fun z=>by rw [z,hx] at fb; cases fb
  have nb:∀ c∈bs,c≠b:=fun c hc z=>by
    obtain ⟨⟨ms,e⟩,_⟩:=r.all c hc
    rw [z,fb] at e
    cases e
  have r1:aQ H0 H' a bs rs:=Paired.mapP r fun _ _ ⟨p,q⟩=>⟨s _ _ p,q⟩
  have r2:aQ H0 (upd H' a (.lst (bs.map V.ref++[.ref b]))) a bs rs:=r1.updC fun c hc=>(r.all c hc).2.2
  refine ⟨bs++[b],by rw [ae,List.map_append]; rfl,aQ.snoc ((ak ne).trans hb) h0 ne r2,?_⟩
  refine List.nodup_append.mpr ⟨n,by simp,?_⟩
  intro c hc d hd
  have:d=b:=by simpa using hd
  rw [this]
  exact nb c hc
def DK (H:Hp) (a c:Addr):Prop:=c≠a/\∀ xs,H a=some (.lst xs)->V.ref c∉xs
def vT (a:Addr) (H H':Hp):Prop:=∀ c,DK H a c->∀ o,H c=some o->H' c=some o
theorem iN {r:List Int} (h:r≠[]):gi (r.map V.int) (-1)=some (.int (r.getD (r.length - 1) 0)):=by
  obtain ⟨r0,m,rfl⟩:∃ r0 m,r=r0++[m]:=⟨_,_,(List.dropLast_concat_getLast h).symm⟩
  rw [List.map_append]
  refine (sV (r0.map V.int) (V.int m)).trans ?_
  simp [List.getD_eq_getElem?_getD]
theorem nM {r:List Int} (h:r≠[]):gi (r.map V.int) 0=some (.int (hd r)) :=
  ff (i:=0) (by omega) (by have:=List.length_pos_iff.mpr h; omega)
theorem rg:∀ ls:List (List Int),(∀ r∈ls,r≠[])->ls.length<=ls.flatten.length
  | [],_=>Nat.le_refl _
  | r::ls,h=>by
    have:=rg ls fun s hs=>h s (by simp [hs])
    have:=List.length_pos_iff.mpr (h r (by simp))
    rw [List.flatten_cons,List.length_append,List.length_cons]
    omega
theorem len_one:∀ (ls:List (List Int)) (r:List Int),r∈ls->r.length<=ls.flatten.length
  | [],r,h=>by cases h
  | s::ls,r,h=>by
    rw [List.flatten_cons,List.length_append]
    rcases List.mem_cons.mp h with rfl | h
    · omega
    · have:=len_one ls r h
      omega
theorem t8 (k:Nat):(iota k).length=k:=by unfold iota; simp
theorem tH.lens {i:Nat} {ls:List (List Int)} (h:tH i ls):ls.length<=i/\∀ r∈ls,r.length<=i:=by
  have e:=h.flat.length_eq
  rw [t8] at e
  have:=rg ls h.ne
  exact ⟨by omega,fun r hr=>by have:=len_one ls r hr; omega⟩
end Ck
set_option Elab.async false
set_option linter.all false
set_option maxRecDepth 100000
set_option maxHeartbeats 4000000
namespace Ck
open PySem L2
theorem mM:∀ {r s:List Int},r.map V.int=s.map V.int->r=s
  | [],[],_=>rfl
  | a::r,b::s,h=>by
    rw [List.map_cons,List.map_cons] at h
    injection h with h1 h2
    injection h1 with h1
    rw [h1,mM h2]
noncomputable def qF (o:Option HO):Bool:=match o with | some (.lst [])=>true | _=>false
theorem qc (r:List Int):qF (some (.lst (r.map V.int)))=decide (r=[]):=by
  cases r with
  | nil=>rfl
  | cons a r=>rw [decide_eq_false (by simp)]; rfl
end Ck
namespace L2
open PySem PySem.Spec PyProof.Rows Ck
theorem ug {X:Cx} {K:PySem.W.Frag} (hK:X.K=K):dY X (.builtin "sorted") (fun xs H Q=>∃ (p:Addr) (ns:List Int),xs=[.ref p]/\aq K H p (ns.map V.int)/\ns.length < 64/\∀ (q:Addr) (ms:List Int),H q=none->ms.Perm ns->ms.Pairwise (·<=·)->Q (.ref q) (upd H q (.lst (ms.map V.int)))):=by
  subst hK
  exact mP
noncomputable def DS:R2:=fun x y H Q=>∃ (a l:Addr) (H0:Hp) (rs:List (List Int)),x = .ref a/\y = .ref l/\H a=some (.lst [])/\bC H0 H l rs/\Q (.bl (rs.any fun r=>decide (r=[]))) H
theorem CI {X:Cx} (hu:X.A.units+100 < cLine):fG X (compareOp .In) DS:=by
  intro pins s σ H x y u v Q I ru rv h
  obtain ⟨a,l,H0,rs,rfl,rfl,ha,⟨bs,hl,ro,nd⟩,q⟩:=h
  cases (show u=Value.ref _ from ru)
  cases (show v=Value.ref _ from rv)
  obtain ⟨its,r',pl,hz⟩:=I.list (aq.of hl)
  have ei:its=bs.map Value.ref:=by
    have go:∀ (bs:List Addr) (us:List Value),Vals (bs.map V.ref) us->us=bs.map Value.ref:=fun bs=>by
      induction bs with
      | nil=>intro us h; rw [List.map_nil] at h; cases h; rfl
      | cons b bs ih =>
        intro us h
        rw [List.map_cons] at h
        cases h with
        | cons h t=>rw [ih _ t,List.map_cons]; cases (show _=Value.ref b from h); rfl
    exact go bs its r'
  have one:∀ (b:Addr) (r:List Int),H b=some (.lst (r.map V.int))->EqD X.K H 1 (.ref b) (.ref a) (decide (r=[])):=fun b r hb=>by
    by_cases e:b=a
    · subst e
      rw [ha] at hb
      have:r=[]:=by
        injection hb with hb; injection hb with hb
        exact List.map_eq_nil_iff.mp hb.symm
      rw [decide_eq_true this]
      exact EqD.same
    · have:=EqD.void (K:=X.K) (n:=0) e (aq.of hb) (aq.of ha)
      have e2:decide (r.map V.int=[])=decide (r=[]):=by
        cases r<;>simp
      rw [e2] at this
      exact this
  have ex:∀ (bs:List Addr) (rs:List (List Int)),aQ H0 H l bs rs->∃ e:Value->Bool,(∀ y∈bs.map Value.ref,∃ (b:Addr) (r:List Int),y = .ref b/\H b=some (.lst (r.map V.int))/\e y=decide (r=[]))/\(bs.map Value.ref).any e=rs.any fun r=>decide (r=[]):=fun bs rs ro=>by
    refine ⟨fun y=>match y with | .ref b=>qF (H b) | _=>false,?_,?_⟩
    · intro y hy
      obtain ⟨b,hb,rfl⟩:=List.mem_map.mp hy
      obtain ⟨⟨ns,e⟩,_⟩:=ro.all b hb
      refine ⟨b,ns,rfl,e,?_⟩
      show qF (H b)=_
      rw [e,qc]
    · induction ro with
      | nil=>rfl
      | cons h _ ih =>
        rw [List.map_cons,List.any_cons,List.any_cons,ih]
        congr 1
        show qF (H _)=_
        rw [h.1,qc]
  obtain ⟨e,e1,e2⟩:=ex bs rs ro
  refine SeqAt.in_listAt (items:=its.toArray) e pl.isList (fun y hy=>?_) ⟨.bl _,H,I,rfl,?_⟩
  · have hy':y∈bs.map Value.ref:=by rw [ei] at hy; simpa using hy
    obtain ⟨b,r,rfl,hb,e3⟩:=e1 y hy'
    rw [e3]
    exact (one b r hb).at_ (A:=X.A.in1) (by show X.A.units+1+1 < cLine; omega) I rfl rfl
  · rw [ei,List.any_toArray,e2]
    exact q
end L2
namespace Ck
open PySem L2
theorem EqD.ints {K:PySem.W.Frag} {H:Hp} {n:Nat} {a b:Addr} {r s:List Int} (ha:H a=some (.lst (r.map V.int))) (hb:H b=some (.lst (s.map V.int))):EqD K H (n+1) (.ref a) (.ref b) (decide (r=s)):=by
  by_cases e:a=b
  · subst e
    rw [ha] at hb
    have:r=s:=by
      injection hb with hb; injection hb with hb
      exact mM hb
    rw [decide_eq_true this]
    exact EqD.same
  by_cases hl:r.length=s.length
  · have h:=EqD.lst (K:=K) (n:=n) (e:=fun j=>decide (r.getD j 0=s.getD j 0)) e (aq.of ha) (aq.of hb) (by simp [hl]) (fun j x y hx hy=>by
      obtain ⟨c,rfl⟩:=kG hx
      obtain ⟨d,rfl⟩:=kG hy
      rw [List.getElem?_map] at hx hy
      have ec:r.getD j 0=c:=by
        rw [List.getD_eq_getElem?_getD]
        cases h:r[j]? with
        | none=>rw [h] at hx; cases hx
        | some z=>rw [h] at hx; injection hx with hx; injection hx
      have ed:s.getD j 0=d:=by
        rw [List.getD_eq_getElem?_getD]
        cases h:s[j]? with
        | none=>rw [h] at hy; cases hy
        | some z=>rw [h] at hy; injection hy with hy; injection hy
      have z:=EqD.flat (K:=K) (H:=H) (n:=n) (x:=V.int c) (y:=V.int d) rfl rfl
      rw [ec,ed]
      have e3:mK (V.int c) (V.int d)=decide (c=d):=rfl
      rw [e3] at z
      exact z)
    have e2:(List.range (r.map V.int).length).all (fun j=>decide (r.getD j 0=s.getD j 0))=decide (r=s):=by
      rw [Bool.eq_iff_iff,List.all_eq_true,decide_eq_true_iff]
      constructor
      · intro h
        refine List.ext_getElem hl fun k h1 h2=>?_
        have:=of_decide_eq_true (h k (List.mem_range.mpr (by simpa using h1)))
        rw [List.getD_eq_getElem?_getD,List.getD_eq_getElem?_getD,List.getElem?_eq_getElem h1,List.getElem?_eq_getElem h2] at this
        exact this
      · intro h k _
        rw [h]
        exact decide_eq_true rfl
    rw [e2] at h
    exact h
  · rw [decide_eq_false fun z=>hl (by rw [z])]
    exact EqD.lstN e (aq.of ha) (aq.of hb) (by simpa using hl)
theorem EqD.rooms {K:PySem.W.Frag} {H0 H1 H:Hp} {a b:Addr} {rs ss:List (List Int)} (h:bC H0 H a rs) (k:bC H1 H b ss) (ne:a≠b):EqD K H 2 (.ref a) (.ref b) (decide (rs=ss)):=by
  obtain ⟨xs,ex,lx⟩:=h.len
  obtain ⟨ys,ey,ly⟩:=k.len
  by_cases hl:rs.length=ss.length
  · have d:=EqD.lst (K:=K) (n:=1) (e:=fun j=>decide (rs.getD j []=ss.getD j [])) ne (aq.of ex) (aq.of ey) (by omega) (fun j x y e1 e2=>by
      have hj:j < rs.length:=by rw [<- lx]; exact (List.getElem?_eq_some_iff.mp e1).1
      obtain ⟨c,f1,g1,_⟩:=h.get ex (List.getElem?_eq_getElem hj)
      obtain ⟨d,f2,g2,_⟩:=k.get ey (List.getElem?_eq_getElem (show j < ss.length by omega))
      rw [f1] at e1
      rw [f2] at e2
      cases e1
      cases e2
      rw [List.getD_eq_getElem?_getD,List.getD_eq_getElem?_getD,List.getElem?_eq_getElem hj,List.getElem?_eq_getElem (show j < ss.length by omega)]
      exact EqD.ints g1 g2)
    have e:(List.range xs.length).all (fun j=>decide (rs.getD j []=ss.getD j []))=decide (rs=ss):=by
      rw [Bool.eq_iff_iff,List.all_eq_true,decide_eq_true_iff]
      constructor
      · intro h
        refine List.ext_getElem hl fun k h1 h2=>?_
        have:=of_decide_eq_true (h k (List.mem_range.mpr (by omega)))
        rw [List.getD_eq_getElem?_getD,List.getD_eq_getElem?_getD,List.getElem?_eq_getElem h1,List.getElem?_eq_getElem h2] at this
        exact this
      · intro h k _
        rw [h]
        exact decide_eq_true rfl
    rw [e] at d
    exact d
  · rw [decide_eq_false fun z=>hl (by rw [z])]
    exact EqD.lstN ne (aq.of ex) (aq.of ey) (by omega)
end Ck
namespace Ck
open PySem L2
noncomputable def fZ (rs:List (List Int)):List Pair:=(rs.map fun r=>r.zip (r.drop 1)).flatten
noncomputable def sT (rs:List (List Int)):Bool:=decide ((∀ r∈rs,r.Pairwise (· < ·))/\(rs.map hd).Pairwise (· < ·))
noncomputable def ft (rs:List (List Int)):Bool:=rs.all (fun r=>decide (r≠[]))&&(dX rs.flatten&&(sT rs&&!dH (fZ rs)))
theorem rM {rs:List (List Int)} (h:∃ r∈rs,r=[]):ft rs=false:=by
  obtain ⟨r,hr,e⟩:=h
  unfold ft
  have:rs.all (fun r=>decide (r≠[]))=false:=List.all_eq_false.mpr ⟨r,hr,by simp [e]⟩
  rw [this,Bool.false_and]
theorem yE {rs:List (List Int)} (h:dX rs.flatten=false):ft rs=false:=by
  unfold ft
  rw [h]
  simp
theorem sL {rs:List (List Int)} (hne:∀ r∈rs,r≠[]) (hE:dX rs.flatten=true):ft rs=(sT rs&&!dH (fZ rs)):=by
  unfold ft
  have:rs.all (fun r=>decide (r≠[]))=true:=List.all_eq_true.mpr fun r hr=>decide_eq_true (hne r hr)
  rw [this,hE,Bool.true_and,Bool.true_and]
theorem wB {rs:List (List Int)} (hE:dX rs.flatten=true):rs.flatten.Nodup:=((gh _).mp hE).nodup_iff.mpr (kA _)
theorem oV:∀ {rs:List (List Int)},rs.flatten.Nodup->(∀ r∈rs,r.Nodup)/\rs.Pairwise fun a b=>∀ x∈a,x∉b
  | [],_=>⟨fun r hr=>absurd hr (by simp),List.Pairwise.nil⟩
  | r::rs,h=>by
    rw [List.flatten_cons,List.nodup_append] at h
    obtain ⟨h1,h2,h3⟩:=h
    obtain ⟨i1,i2⟩:=oV h2
    refine ⟨fun q hq=>?_,.cons (fun q hq x hx hx'=>h3 x hx x (List.mem_flatten.mpr ⟨q,hq,hx'⟩) rfl) i2⟩
    rcases List.mem_cons.mp hq with z | z
    · rw [z]; exact h1
    · exact i1 q z
theorem wm {rs:List (List Int)} (h:rs.flatten.Nodup) {r:List Int} (hr:r∈rs):r.Nodup:=by
  exact (oV h).1 r hr
theorem xR {a b:List Int} (ha:a≠[]) (hb:b≠[]) (h:fA b a=false) (ne:hd a≠hd b):hd a < hd b:=by
  cases a with
  | nil=>exact absurd rfl ha
  | cons x a =>
    cases b with
    | nil=>exact absurd rfl hb
    | cons y b =>
      have ne':x≠y:=ne
      show x < y
      have h':(if y=x then fA b a else decide (y < x))=false:=h
      rw [if_neg (fun z=>ne' z.symm)] at h'
      have:=of_decide_eq_false h'
      omega
theorem rK {a b:List Int} (ha:a≠[]) (hb:b≠[]) (h:hd a < hd b):fA b a=false:=by
  cases a with
  | nil=>exact absurd rfl ha
  | cons x a =>
    cases b with
    | nil=>exact absurd rfl hb
    | cons y b =>
      have h':x < y:=h
      show (if y=x then fA b a else decide (y < x))=false
      rw [if_neg (by omega)]
      exact decide_eq_false (by omega)
theorem za {rs:List (List Int)} (hne:∀ r∈rs,r≠[]) (h:rs.flatten.Nodup):rs.Pairwise fun a b=>hd a≠hd b:=by
  exact (oV h).2.imp_of_mem fun ha hb hd' e=>by
    have h1:=rN (hne _ ha)
    have h2:=rN (hne _ hb)
    rw [<- e] at h2
    exact hd' _ h1 h2
theorem xU {r:List Int} (h:r.Pairwise (·<=·)) (nd:r.Nodup):r.Pairwise (· < ·):=by
  have:=List.Pairwise.and h nd
  exact this.imp fun ⟨h1,h2⟩=>by omega
theorem yC {rs ts ss:List (List Int)} (hts:Paired (fun (r q:List Int)=>q.Perm r/\q.Pairwise (·<=·)) rs ts) (hp:ss.Perm ts) (hs:ss.Pairwise fun a b=>fA b a=false) (hne:∀ r∈rs,r≠[]) (hE:dX rs.flatten=true):decide (rs=ss)=sT rs:=by
  have nd:=wB hE
  unfold sT
  rw [Bool.eq_iff_iff,decide_eq_true_iff,decide_eq_true_iff]
  constructor
  · intro e
    constructor
    · intro r hr
      have h1:r∈ts:=hp.mem_iff.mp (e▸hr)
      have go:∀ {rs ts:List (List Int)},Paired (fun (r q:List Int)=>q.Perm r/\q.Pairwise (·<=·)) rs ts->∀ q∈ts,q.Pairwise (·<=·):=by
        intro rs ts h
        induction h with
        | nil=>intro q hq; cases hq
        | cons x _ ih =>
          intro q hq
          rcases List.mem_cons.mp hq with z | z
          · rw [z]; exact x.2
          · exact ih q z
      exact xU (go hts r h1) (wm nd hr)
    · rw [List.pairwise_map]
      rw [<- e] at hs
      exact (hs.and (za hne nd)).imp_of_mem fun ha hb ⟨h1,h2⟩=>xR (hne _ ha) (hne _ hb) h1 h2
  · rintro ⟨h1,h2⟩
    have et:ts=rs:=by
      have go:∀ {rs ts:List (List Int)},Paired (fun (r q:List Int)=>q.Perm r/\q.Pairwise (·<=·)) rs ts->(∀ r∈rs,r.Pairwise (· < ·))->ts=rs:=by
        intro rs ts h
        induction h with
        | nil=>intro _; rfl
        | cons x _ ih =>
          intro hr
          rw [ih fun r hr'=>hr r (List.mem_cons_of_mem _ hr')]
          congr 1
          exact List.Perm.eq_of_pairwise (le:=(·<=·)) (fun a b _ _ h1 h2=>Int.le_antisymm h1 h2) x.2 ((hr _ (List.mem_cons_self ..)).imp Int.le_of_lt) x.1
      exact go hts h1
    rw [et] at hp
    rw [List.pairwise_map] at h2
    have h2':rs.Pairwise fun a b=>fA b a=false:=h2.imp_of_mem fun ha hb h=>rK (hne _ ha) (hne _ hb) h
    exact (List.Perm.eq_of_pairwise (le:=fun a b=>fA b a=false) (fun a b _ _ h1 h2=>tV a b h2 h1) hs h2' hp).symm
theorem uM {rs:List (List Int)} {p:Pair}:p∈fZ rs↔∃ r∈rs,p∈r.zip (r.drop 1):=by
  unfold fZ
  rw [List.mem_flatten]
  constructor
  · rintro ⟨l,hl,hp⟩
    obtain ⟨r,hr,rfl⟩:=List.mem_map.mp hl
    exact ⟨r,hr,hp⟩
  · rintro ⟨r,hr,hp⟩
    exact ⟨_,List.mem_map.mpr ⟨r,hr,rfl⟩,hp⟩
noncomputable abbrev lst (r:List Int):Int:=r.getD (r.length - 1) 0
theorem uL {r:List Int} (h:r≠[]):lst r∈r:=by
  have:r.length - 1 < r.length:=by
    cases r with
    | nil=>exact absurd rfl h
    | cons a r=>simp
  unfold lst
  rw [List.getD_eq_getElem?_getD,List.getElem?_eq_getElem this]
  exact List.getElem_mem this
structure Ei (rs:List (List Int)) (p:List Nat) (k:Nat):Prop where
  up:p.Pairwise fun a b=>lst (rs.getD a []) < lst (rs.getD b [])
  far:∀ q∈fZ rs,q.2 < (k:Int)
  str:∀ m∈p,∀ q∈fZ rs,¬ (q.1 < lst (rs.getD m [])/\lst (rs.getD m []) < q.2)
  no:∀ a∈fZ rs,∀ b∈fZ rs,¬ (a.1 < b.1/\b.1 < a.2/\a.2 < b.2)
theorem lst_snoc (r:List Int) (k:Int):lst (r++[k])=k:=by
  unfold lst
  rw [List.getD_eq_getElem?_getD,List.length_append,List.getElem?_append_right (by simp)]
  simp
theorem mT {r:List Int} (h:r≠[]) (k:Int):(r++[k]).zip ((r++[k]).drop 1)=r.zip (r.drop 1)++[(lst r,k)]:=by
  induction r with
  | nil=>exact absurd rfl h
  | cons a r ih =>
    cases r with
    | nil=>rfl
    | cons b r =>
      have:=ih (by simp)
      show (a,b)::((b::r)++[k]).zip (((b::r)++[k]).drop 1)=(a,b)::(b::r).zip ((b::r).drop 1)++[(lst (a::b::r),k)]
      rw [this]
      rfl
theorem nF (rs:List (List Int)) (k:Int):fZ (rs++[[k]])=fZ rs:=by
  unfold fZ
  rw [List.map_append,List.flatten_append]
  simp
theorem zH {k:Int}:∀ {rs:List (List Int)} {m:Nat} {r:List Int},rs[m]? = some r->r≠[]->∀ q:Pair,q∈fZ (rs.set m (r++[k]))↔q∈fZ rs\/q=(lst r,k):=by
  intro rs m r hm hr q
  obtain ⟨lm,em⟩:=List.getElem?_eq_some_iff.mp hm
  rw [uM,uM]
  constructor
  · rintro ⟨x,hx,hq⟩
    rcases List.mem_or_eq_of_mem_set hx with z | z
    · exact .inl ⟨x,z,hq⟩
    · rw [z,mT hr,List.mem_append] at hq
      rcases hq with z | z
      · exact .inl ⟨r,List.mem_of_getElem? hm,z⟩
      · exact .inr (by simpa using z)
  · have hin:r++[k]∈rs.set m (r++[k]):=List.mem_of_getElem? (i:=m) (by rw [List.getElem?_set_self lm])
    rintro (⟨x,hx,hq⟩ | e)
    · by_cases ex:x=r
      · exact ⟨_,hin,by rw [mT hr,List.mem_append]; exact .inl (by rw [<- ex]; exact hq)⟩
      · obtain ⟨j,lj,ej⟩:=List.getElem_of_mem hx
        have nj:m≠j:=fun z=>ex (by subst z; rw [<- ej,em])
        exact ⟨x,List.mem_of_getElem? (i:=j) (by rw [List.getElem?_set_ne nj,List.getElem?_eq_getElem lj,ej]),hq⟩
    · exact ⟨_,hin,by rw [mT hr,List.mem_append]; exact .inr (by rw [e]; simp)⟩
theorem gH.calm {rs:List (List Int)} {p:List Nat} {k:Nat} (h:gH rs p k):Ei rs p k:=by
  induction h with
  | start=>exact ⟨List.Pairwise.nil,fun q hq=>absurd hq (by simp [fZ]),fun m hm=>absurd hm (by simp),fun a ha=>absurd ha (by simp [fZ])⟩
  | @shut rs p m k h ih =>
    obtain ⟨h1,h2,h3,h4⟩:=ih
    exact ⟨(List.pairwise_append.mp h1).1,h2,fun x hx=>h3 x (by simp [hx]),h4⟩
  | @opn rs p k h ih =>
    obtain ⟨h1,h2,h3,h4⟩:=ih
    obtain ⟨l1,l2,l3,l4⟩:=h.lens
    have rm:=h.rms
    have old:∀ m∈p,(rs++[[(k:Int)]]).getD m []=rs.getD m []:=fun m hm=>by
      rw [List.getD_eq_getElem?_getD,List.getElem?_append_left (l2 m hm),List.getD_eq_getElem?_getD]
    have new:(rs++[[(k:Int)]]).getD rs.length []=[(k:Int)]:=by
      rw [List.getD_eq_getElem?_getD,List.getElem?_append_right (Nat.le_refl _)]
      simp
    have lk:∀ m∈p,lst (rs.getD m []) < (k:Int):=fun m hm=>by
      have hr:rs.getD m []∈rs:=by
        rw [List.getD_eq_getElem?_getD,List.getElem?_eq_getElem (l2 m hm)]
        exact List.getElem_mem _
      exact (rm.rng hr (uL (rm.ne _ hr))).2
    refine ⟨?_,?_,?_,?_⟩
    · refine List.pairwise_append.mpr ⟨h1.imp_of_mem fun ha hb h=>by rw [old _ ha,old _ hb]; exact h,List.pairwise_singleton ..,fun a ha b hb=>?_⟩
      have e:b=rs.length:=by simpa using hb
      subst e
      rw [old a ha,new]
      exact lk a ha
    · intro q hq
      rw [nF] at hq
      have:=h2 q hq
      omega
    · intro m hm q hq
      rw [nF] at hq
      rcases List.mem_append.mp hm with z | z
      · rw [old m z]
        exact h3 m z q hq
      · have e:m=rs.length:=by simpa using z
        subst e
        rw [new]
        have:=h2 q hq
        show ¬ (q.1 < (k:Int)/\(k:Int) < q.2)
        omega
    · rw [nF]
      exact h4
  | @put rs p m k r h hr ih =>
    obtain ⟨h1,h2,h3,h4⟩:=ih
    obtain ⟨l1,l2,l3,l4⟩:=h.lens
    have rm:=h.rms
    have lm:=l2 m (by simp)
    have rne:r≠[]:=rm.ne r (List.mem_of_getElem? hr)
    have er:rs.getD m []=r:=by rw [List.getD_eq_getElem?_getD,hr]; rfl
    have lrk:lst r < (k:Int):=(rm.rng (List.mem_of_getElem? hr) (uL rne)).2
    obtain ⟨u1,_,u3⟩:=List.pairwise_append.mp h1
    have low:∀ a∈p,lst (rs.getD a []) < lst r:=fun a ha=>by have:=u3 a ha m (by simp); rw [er] at this; exact this
    have ne:∀ a∈p,m≠a:=fun a ha e=>by
      have:=low a ha
      rw [<- e,er] at this
      omega
    have old:∀ a∈p,(rs.set m (r++[(k:Int)])).getD a []=rs.getD a []:=fun a ha=>by
      rw [List.getD_eq_getElem?_getD,List.getElem?_set_ne (ne a ha),List.getD_eq_getElem?_getD]
    have new:(rs.set m (r++[(k:Int)])).getD m []=r++[(k:Int)]:=by
      rw [List.getD_eq_getElem?_getD,List.getElem?_set_self lm]
      rfl
    have mem:=zH (k:=(k:Int)) hr rne
    refine ⟨?_,?_,?_,?_⟩
    · refine List.pairwise_append.mpr ⟨u1.imp_of_mem fun ha hb h=>by rw [old _ ha,old _ hb]; exact h,List.pairwise_singleton ..,fun a ha b hb=>?_⟩
      have e:b=m:=by simpa using hb
      subst e
      rw [old a ha,new,lst_snoc]
      have:=low a ha
      omega
    · intro q hq
      rcases (mem q).mp hq with z | z
      · have:=h2 q z; omega
      · rw [z]
        show (k:Int) < ((k+1:Nat):Int)
        omega
    · intro a ha q hq
      rcases List.mem_append.mp ha with z | z
      · rw [old a z]
        rcases (mem q).mp hq with w | w
        · exact h3 a (by simp [z]) q w
        · have:=low a z
          rw [w]
          show ¬ (lst r < _/\_)
          omega
      · have e:a=m:=by simpa using z
        subst e
        rw [new,lst_snoc]
        rcases (mem q).mp hq with w | w
        · have:=h2 q w
          omega
        · rw [w]
          show ¬ (lst r < (k:Int)/\(k:Int) < (k:Int))
          omega
    · intro a ha b hb
      rcases (mem a).mp ha with wa | wa
      · rcases (mem b).mp hb with wb | wb
        · exact h4 a wa b wb
        · have:=h3 m (by simp) a wa
          rw [er] at this
          rw [wb]
          show ¬ (a.1 < lst r/\lst r < a.2/\a.2 < (k:Int))
          omega
      · rcases (mem b).mp hb with wb | wb
        · have:=h2 b wb
          rw [wa]
          show ¬ (lst r < b.1/\b.1 < (k:Int)/\(k:Int) < b.2)
          omega
        · rw [wa,wb]
          show ¬ (lst r < lst r/\_)
          omega
theorem yw (k:Nat):iota k=gw k:=rfl
theorem gH.rooms {rs:List (List Int)} {p:List Nat} {k:Nat} (h:gH rs p k):ft rs=true:=by
  have rm:=h.rms
  have c:=h.calm
  have hE:dX rs.flatten=true:=(gh _).mpr (by
    have e:=rm.flat.length_eq
    rw [yw,zW] at e
    rw [e]
    exact rm.flat)
  rw [sL rm.ne hE,Bool.and_eq_true]
  refine ⟨decide_eq_true ⟨rm.inc,rm.heads⟩,?_⟩
  cases e:dH (fZ rs) with
  | false=>rfl
  | true =>
    obtain ⟨a,ha,b,hb,x1,x2,x3⟩:=gz.mp e
    exact absurd ⟨x1,x2,x3⟩ (c.no a ha b hb)
end Ck
namespace L2
open PySem PySem.Spec PyProof.Rows Ck
end L2
namespace Ck
open PySem L2
theorem nZ {α β:Type} {R:α->β->Prop}:∀ {as cs:List α} {bs ds:List β},Paired R as bs->Paired R cs ds->Paired R (as++cs) (bs++ds)
  | _,_,_,_,.nil,h=>h
  | _,_,_,_,.cons r t,h=>.cons r (nZ t h)
def eV (H:Hp) (bs:List Addr) (xss:List (List V)):Prop:=Paired (fun (b:Addr) (xs:List V)=>H b=some (.lst xs)) bs xss
theorem eV.same {H H':Hp} {bs:List Addr} {xss:List (List V)} (h:eV H bs xss) (s:af H H'):eV H' bs xss:=Paired.mapP h fun _ _ e=>s _ _ e
theorem eV.get {H:Hp}:∀ {bs:List Addr} {xss:List (List V)},eV H bs xss->∀ {j:Nat} {v:V},(bs.map V.ref)[j]? = some v->∃ b xs,v = .ref b/\xss[j]? = some xs/\H b=some (.lst xs)
  | _,_,.nil,j,v,e=>by simp at e
  | _,_,.cons r t,0,v,e=>⟨_,_,(by simpa using e.symm),rfl,r⟩
  | _,_,.cons r t,j+1,v,e=>by
    obtain ⟨b,xs,h1,h2,h3⟩:=eV.get t (j:=j) (by simpa using e)
    exact ⟨b,xs,h1,by simpa using h2,h3⟩
theorem bC.rws {H0 H:Hp} {a:Addr} {rs:List (List Int)} (h:bC H0 H a rs):∃ bs:List Addr,H a=some (.lst (bs.map V.ref))/\eV H bs (rs.map fun r=>r.map V.int):=by
  obtain ⟨bs,e,r,_⟩:=h
  refine ⟨bs,e,?_⟩
  have go:∀ {bs:List Addr} {rs:List (List Int)},aQ H0 H a bs rs->eV H bs (rs.map fun r=>r.map V.int):=by
    intro bs rs r
    induction r with
    | nil=>exact .nil
    | cons x _ ih=>exact .cons x.1 ih
  exact go r
theorem eV.len {H:Hp} {bs:List Addr} {xss:List (List V)} (h:eV H bs xss):bs.length=xss.length:=Paired.length h
theorem uf (rs:List (List Int)):(rs.map fun r=>r.map V.int).flatten=rs.flatten.map V.int:=by
  rw [List.map_flatten]
end Ck
namespace Ck
open PySem L2
end Ck
namespace Ck
open PySem L2
end Ck
set_option Elab.async false
set_option linter.all false
set_option maxRecDepth 100000
set_option maxHeartbeats 4000000
namespace Ck
open PySem L2
noncomputable def gc:List Int->Int
  | []=>0
  | x::xs=>if gc xs < x then x else gc xs
theorem rQ:∀ xs:List Int,0<=gc xs/\∀ x∈xs,x<=gc xs
  | []=>⟨Int.le_refl _,fun x h=>by cases h⟩
  | y::xs=>by
    obtain ⟨h0,h⟩:=rQ xs
    unfold gc
    split
    · refine ⟨by omega,fun x hx=>?_⟩
      rcases List.mem_cons.mp hx with rfl | hx
      · exact Int.le_refl _
      · have:=h x hx; omega
    · refine ⟨h0,fun x hx=>?_⟩
      rcases List.mem_cons.mp hx with rfl | hx
      · omega
      · exact h x hx
theorem xN:∀ xs:List Int,gc xs=0\/gc xs∈xs
  | []=>.inl rfl
  | y::xs=>by
    unfold gc
    split
    · exact .inr (List.mem_cons_self ..)
    · rcases xN xs with h | h
      · exact .inl h
      · exact .inr (List.mem_cons_of_mem _ h)
theorem nL {xs:List Int} {M:Int} (h:M∈(0:Int)::xs) (hm:∀ x∈(0:Int)::xs,x<=M):M=gc xs:=by
  obtain ⟨g0,g⟩:=rQ xs
  have l1:M<=gc xs:=by
    rcases List.mem_cons.mp h with rfl | h
    · exact g0
    · exact g M h
  have l2:gc xs<=M:=by
    rcases xN xs with e | e
    · rw [e]; exact hm 0 (List.mem_cons_self ..)
    · exact hm _ (List.mem_cons_of_mem _ e)
  omega
theorem Ae {xs:List Int} {M:Int} (h0:∀ x∈xs,0<=x) (h:M∈xs) (hm:∀ x∈xs,x<=M):M=gc xs:=by
  refine nL (List.mem_cons_of_mem _ h) fun x hx=>?_
  rcases List.mem_cons.mp hx with rfl | hx
  · exact h0 M h
  · exact hm x hx
noncomputable def aB (f:Nat->Bool):Nat->Nat
  | 0=>0
  | i+1=>aB f i+(if f i=true then 1 else 0)
theorem gO (f:Nat->Bool):∀ n,aB f n<=n
  | 0=>Nat.le_refl _
  | n+1=>by have:=gO f n; unfold aB; split<;>omega
noncomputable def gb (ns L:List Int) (i m:Nat):List Int:=((List.range m).filter fun j=>decide (ns.getD i 0 < ns.getD j 0)).map fun j=>L.getD j 0
theorem y3 (ns L:List Int) (i m:Nat):(gb ns L i m).length<=m:=by
  unfold gb
  rw [List.length_map]
  exact Nat.le_trans (List.length_filter_le _ _) (by rw [List.length_range]; exact Nat.le_refl _)
noncomputable def cy (ns:List Int):Nat->List Int
  | 0=>[]
  | i+1=>cy ns i++[1+gc (gb ns (cy ns i) i i)]
theorem lh (ns:List Int):∀ i,(cy ns i).length=i
  | 0=>rfl
  | i+1=>by unfold cy; rw [List.length_append,lh ns i]; rfl
theorem vb (ns:List Int):∀ i,∀ x∈cy ns i,1<=x
  | 0,x,h=>by cases h
  | i+1,x,h=>by
    unfold cy at h
    rcases List.mem_append.mp h with h | h
    · exact vb ns i x h
    · have:=(rQ (gb ns (cy ns i) i i)).1
      have e:x=1+gc (gb ns (cy ns i) i i):=by simpa using h
      omega
end Ck
set_option Elab.async false
set_option linter.all false
set_option maxRecDepth 100000
set_option maxHeartbeats 4000000
namespace Ck
open PySem L2
theorem jB {f g:Nat->Bool}:∀ {n:Nat},(∀ i,i < n->f i=g i)->aB f n=aB g n
  | 0,_=>rfl
  | n+1,h=>by
    unfold aB
    rw [jB (n:=n) fun i hi=>h i (by omega),h n (by omega)]
theorem pR {f g:Nat->Bool}:∀ {n:Nat},(∀ i,i < n->f i=true->g i=true)->aB f n<=aB g n
  | 0,_=>Nat.le_refl _
  | n+1,h=>by
    have ih:=pR (n:=n) fun i hi=>h i (by omega)
    have hn:=h n (by omega)
    unfold aB
    cases e:f n with
    | false=>rw [if_neg (by decide)]; split<;>omega
    | true=>rw [if_pos rfl,if_pos (hn e)]; omega
theorem m5 {f:Nat->Bool} {m:Nat}:∀ {n:Nat},m<=n->(∀ i,m<=i->i < n->f i=false)->aB f n=aB f m
  | 0,h,_=>by rw [show m=0 by omega]
  | n+1,h,hf=>by
    by_cases e:m=n+1
    · rw [e]
    · have e2:aB f (n+1)=aB f n+(if f n=true then 1 else 0):=rfl
      rw [e2,m5 (n:=n) (by omega) fun i h1 h2=>hf i h1 (by omega),hf n (by omega) (by omega)]
      rfl
noncomputable def a9 (ps:List Pair):List Int:=ps.map (·.2)
theorem ny (ps:List Pair):(a9 ps).length=ps.length:=by unfold a9; simp
theorem j5 (ps:List Pair) (i:Nat):(a9 ps).getD i 0=(ps.getD i (0,0)).2:=by
  unfold a9
  rw [List.getD_eq_getElem?_getD,List.getElem?_map,List.getD_eq_getElem?_getD]
  cases ps[i]?<;>rfl
noncomputable def bP (bs:List Int) (k j:Nat):Bool:=decide (bs.getD k 0 < bs.getD j 0)
noncomputable def gj (bs:List Int) (k:Nat):Nat:=aB (bP bs k) k
def BG (bs:List Int):Prop:=∀ i j k:Nat,i < j->j < k->k < bs.length->bs.getD k 0 < bs.getD i 0->bs.getD k 0 < bs.getD j 0->bs.getD j 0 < bs.getD i 0
theorem o8 {bs:List Int}:∀ (n i:Nat),i < n->(cy bs n).getD i 0=1+gc (gb bs (cy bs i) i i)
  | 0,i,h=>by omega
  | n+1,i,h=>by
    have e0:cy bs (n+1)=cy bs n++[1+gc (gb bs (cy bs n) n n)]:=rfl
    rw [e0]
    have l:=lh bs n
    by_cases e:i=n
    · subst e
      rw [List.getD_eq_getElem?_getD,List.getElem?_append_right (by omega),l,Nat.sub_self]
      rfl
    · rw [List.getD_eq_getElem?_getD,List.getElem?_append_left (by omega),<- List.getD_eq_getElem?_getD]
      exact o8 n i (by omega)
theorem Ap {bs:List Int} (h:BG bs):∀ (k:Nat),k < bs.length->1+gc (gb bs (cy bs k) k k)=1+(gj bs k:Int):=by
  intro k
  induction k using Nat.strongRecOn with
  | ind k ih =>
    intro hk
    have mem:∀ x,x∈gb bs (cy bs k) k k↔∃ j,j < k/\bs.getD k 0 < bs.getD j 0/\x=1+(gj bs j:Int):=fun x=>by
      unfold gb
      rw [List.mem_map]
      constructor
      · rintro ⟨j,hj,rfl⟩
        rw [List.mem_filter,List.mem_range,decide_eq_true_iff] at hj
        exact ⟨j,hj.1,hj.2,by rw [o8 k j hj.1,ih j hj.1 (by omega)]⟩
      · rintro ⟨j,hj,lt,rfl⟩
        exact ⟨j,List.mem_filter.mpr ⟨List.mem_range.mpr hj,decide_eq_true lt⟩,by rw [o8 k j hj,ih j hj (by omega)]⟩
    have le:∀ j,j < k->bs.getD k 0 < bs.getD j 0->gj bs j+1<=gj bs k:=fun j hj lt=>by
      have a:aB (bP bs j) j<=aB (bP bs k) j:=pR fun i hi e=>by
        unfold bP at e |-
        have:=of_decide_eq_true e
        exact decide_eq_true (by omega)
      have b:aB (bP bs k) (j+1)=aB (bP bs k) j+1:=by
        have:aB (bP bs k) (j+1)=aB (bP bs k) j+(if bP bs k j=true then 1 else 0):=rfl
        rw [this,if_pos (show bP bs k j=true from decide_eq_true lt)]
      have c:aB (bP bs k) (j+1)<=aB (bP bs k) k:=by
        have key:∀ n,j+1<=n->aB (bP bs k) (j+1)<=aB (bP bs k) n:=by
          intro n
          induction n with
          | zero=>intro z; omega
          | succ n ihn =>
            intro z
            by_cases e:j+1=n+1
            · rw [e]; exact Nat.le_refl _
            · have:=ihn (by omega)
              have e2:aB (bP bs k) (n+1)=aB (bP bs k) n+(if bP bs k n=true then 1 else 0):=rfl
              rw [e2]
              omega
        exact key k hj
      unfold gj
      omega
    have top:gj bs k≠0->∃ j,j < k/\bs.getD k 0 < bs.getD j 0/\gj bs j+1=gj bs k:=fun ne=>by
      have key:∀ n,n<=k->aB (bP bs k) n≠0->∃ j,j < n/\bP bs k j=true/\∀ i,j < i->i < n->bP bs k i=false:=by
        intro n
        induction n with
        | zero=>intro _ z; exact absurd rfl z
        | succ n ihn =>
          intro hn z
          cases e:bP bs k n with
          | true=>exact ⟨n,by omega,e,fun i h1 h2=>by omega⟩
          | false =>
            have e2:aB (bP bs k) (n+1)=aB (bP bs k) n+(if bP bs k n=true then 1 else 0):=rfl
            rw [e2,e] at z
            obtain ⟨j,hj,ej,aft⟩:=ihn (by omega) z
            refine ⟨j,by omega,ej,fun i h1 h2=>?_⟩
            by_cases ei:i=n
            · rw [ei]; exact e
            · exact aft i h1 (by omega)
      obtain ⟨j,hj,ej,aft⟩:=key k (Nat.le_refl _) ne
      have lt:=of_decide_eq_true ej
      refine ⟨j,hj,lt,?_⟩
      have a:aB (bP bs j) j=aB (bP bs k) j:=jB fun i hi=>by
        unfold bP
        by_cases z:bs.getD k 0 < bs.getD i 0
        · rw [decide_eq_true z,decide_eq_true (h i j k hi hj hk z lt)]
        · rw [decide_eq_false z,decide_eq_false (by omega)]
      have b:aB (bP bs k) k=aB (bP bs k) (j+1):=m5 (by omega) fun i h1 h2=>aft i (by omega) h2
      have c:aB (bP bs k) (j+1)=aB (bP bs k) j+(if bP bs k j=true then 1 else 0):=rfl
      rw [ej,if_pos rfl] at c
      unfold gj
      omega
    have e:gc (gb bs (cy bs k) k k)=(gj bs k:Int):=by
      refine (nL ?_ fun x hx=>?_).symm
      · by_cases z:gj bs k=0
        · rw [z]; exact List.mem_cons_self ..
        · obtain ⟨j,hj,lt,ej⟩:=top z
          exact List.mem_cons_of_mem _ ((mem _).mpr ⟨j,hj,lt,by omega⟩)
      · rcases List.mem_cons.mp hx with rfl | hx
        · omega
        · obtain ⟨j,hj,lt,rfl⟩:=(mem x).mp hx
          have:=le j hj lt
          omega
    rw [e]
theorem uK {bs:List Int} (h:BG bs):∀ n,n<=bs.length->cy bs n=(List.range n).map fun (k:Nat)=>1+(gj bs k:Int)
  | 0,_=>rfl
  | n+1,hn=>by
    have:cy bs (n+1)=cy bs n++[1+gc (gb bs (cy bs n) n n)]:=rfl
    rw [this,Ap h n (by omega),uK h n (by omega),List.range_succ,List.map_append]
    rfl
theorem ou {ps:List Pair} (h:iK ps) {i j:Nat} (hi:i < ps.length) (hj:j < ps.length):(ps[i]).1 < (ps[j]).1↔i < j:=by
  have nd:(aX ps).Nodup:=h.flat.nodup_iff.mpr (kA _)
  have ne:=List.pairwise_iff_getElem.mp (jV nd)
  have le:=List.pairwise_iff_getElem.mp h.ris
  constructor
  · intro lt
    by_cases e:i < j
    · exact e
    · by_cases e2:i=j
      · subst e2; omega
      · have:=le j i hj hi (by omega)
        unfold gI at this
        omega
  · intro lt
    have a:=le i j hi hj lt
    have b:=ne i j hi hj lt
    unfold gI at a
    omega
theorem gx {ps:List Pair} {i:Nat} (hi:i < ps.length):(a9 ps).getD i 0=(ps[i]).2:=by
  rw [j5,List.getD_eq_getElem?_getD,List.getElem?_eq_getElem hi]
  rfl
theorem iK.nst {ps:List Pair} (h:iK ps):BG (a9 ps):=by
  intro i j k hij hjk hk h1 h2
  rw [ny] at hk
  rw [gx hk,gx (show i < ps.length by omega)] at h1
  rw [gx hk,gx (show j < ps.length by omega)] at h2
  rw [gx (show i < ps.length by omega),gx (show j < ps.length by omega)]
  have a:=(ou h (show i < ps.length by omega) (show j < ps.length by omega)).mpr hij
  have b:=(ou h (show j < ps.length by omega) hk).mpr hjk
  have rk:=h.inr _ (List.getElem_mem hk)
  have n:=h.nc _ (List.getElem_mem (show i < ps.length by omega)) _ (List.getElem_mem (show j < ps.length by omega))
  have nd:(aX ps).Nodup:=h.flat.nodup_iff.mpr (kA _)
  have s2:ps[i].2≠ps[j].2:=fun e=>by
    have key:∀ {qs:List Pair},(aX qs).Nodup->qs.Pairwise fun p q=>p.2≠q.2:=by
      intro qs
      induction qs with
      | nil=>intro _; exact .nil
      | cons p qs ih =>
        intro nd
        have nd':(p.1::p.2::aX qs).Nodup:=nd
        rw [List.nodup_cons,List.nodup_cons] at nd'
        refine .cons (fun q hq e=>nd'.2.1 ?_) (ih nd'.2.2)
        exact g9.mpr ⟨q,hq,.inr e⟩
    exact List.pairwise_iff_getElem.mp (key nd) i j (by omega) (by omega) hij e
  unfold DB at n
  unfold DI at rk
  omega
noncomputable def oq (ps:List Pair) (p:Pair) (j:Nat):Bool:=decide ((ps.getD j (0,0)).1 < p.1)&&decide (p.2 < (ps.getD j (0,0)).2)
theorem zz {ps:List Pair} (h:iK ps) {k:Nat} (hk:k < ps.length):aB (oq ps ps[k]) ps.length=gj (a9 ps) k:=by
  have gt:∀ j (hj:j < ps.length),ps.getD j (0,0)=ps[j]:=fun j hj=>by rw [List.getD_eq_getElem?_getD,List.getElem?_eq_getElem hj]; rfl
  unfold gj
  rw [m5 (m:=k) (by omega) fun i h1 h2=>?_]
  · refine jB fun i hi=>?_
    unfold oq bP
    rw [gt i (by omega),gx hk,gx (show i < ps.length by omega),decide_eq_true ((ou h (show i < ps.length by omega) hk).mpr hi),Bool.true_and]
  · unfold oq
    rw [gt i h2,decide_eq_false (fun z=>by have:=(ou h h2 hk).mp z; omega),Bool.false_and]
noncomputable def iZ (ps:List Pair) (k:Nat):Bool:=decide ((ps.getD k (0,0)).2=(ps.getD k (0,0)).1+1)
noncomputable def jh (ps:List Pair) (k:Nat):Bool:=decide (gj (a9 ps) k=0)
noncomputable def iP (rs:List (List Int)) (r:List Int) (j:Nat):Bool:=decide (hd (rs.getD j []) < hd r)&&decide (lst r < lst (rs.getD j []))
noncomputable def ku (rs:List (List Int)) (k:Nat):Bool:=decide (aB (iP rs (rs.getD k [])) rs.length=0)
end Ck
set_option Elab.async false
set_option linter.all false
set_option maxRecDepth 100000
set_option maxHeartbeats 4000000
namespace L2
open PySem PySem.Spec
theorem uU {X:Cx} {K:PySem.W.Frag} (hK:X.K=K) (hu:X.A.units+100 < cLine):fG X (compareOp .Eq) (yL K false):=hK▸sR hu
end L2
namespace Ck
open PySem L2
theorem uJ (f:Nat->Bool):∀ n,((List.range n).filter f).length=aB f n
  | 0=>rfl
  | n+1=>by
    have e:aB f (n+1)=aB f n+(if f n=true then 1 else 0):=rfl
    rw [List.range_succ,List.filter_append,List.length_append,uJ f n,e]
    cases z:f n with
    | true=>rw [List.filter_cons,if_pos z]; rfl
    | false=>rw [List.filter_cons,if_neg (by rw [z]; decide)]; rfl
end Ck
set_option Elab.async false
set_option linter.all false
set_option maxRecDepth 100000
set_option maxHeartbeats 4000000
namespace L2
open PySem PySem.Spec PyProof.Rows
theorem kR {X:Cx} {K:PySem.W.Frag} (h:X.K=K):xC X (AS K):=h▸nN
section
variable {prog:Program} {w:World} {A:Around} {E:Value->Shared->Prop} {s:Shared}
end
section
variable {X:Cx}
end
end L2
set_option Elab.async false
set_option linter.all false
set_option maxRecDepth 100000
set_option maxHeartbeats 4000000
namespace L2
open PySem PySem.Spec PyProof.Rows
section
variable {X:Cx}
end
section
variable {X:Cx}
end
end L2
namespace Ck
open PySem L2
end Ck
set_option Elab.async false
set_option linter.all false
set_option maxRecDepth 100000
set_option maxHeartbeats 4000000
namespace Ck
open PySem L2
end Ck
set_option Elab.async false
set_option maxRecDepth 100000
set_option maxHeartbeats 4000000
set_option linter.all false
namespace Ck
open PySem L2
end Ck
namespace Ck
open PySem L2
end Ck
namespace Ck
open PySem L2
end Ck
set_option Elab.async false
set_option linter.all false
set_option maxRecDepth 100000
set_option maxHeartbeats 4000000
namespace Ck
open PySem L2
noncomputable def one (n k:Nat):Nat:=if 0 < k/\0 < n then 1 else 0
end Ck
set_option Elab.async false
set_option linter.all false
set_option maxRecDepth 100000
set_option maxHeartbeats 4000000
namespace Ck
open PySem L2
end Ck
set_option Elab.async false
set_option linter.all false
set_option maxRecDepth 100000
set_option maxHeartbeats 4000000
namespace L2
open PySem PySem.Spec PyProof.Rows
section
variable {X:Cx}
end
end L2
namespace Ck
open PySem L2
end Ck
set_option Elab.async false
set_option linter.all false
set_option maxRecDepth 100000
set_option maxHeartbeats 4000000
namespace Ck
open PySem L2
end Ck
namespace L2
open PySem PySem.Spec
variable {X:Cx}
noncomputable def C0 (K:PySem.W.Frag):V->List V->Hp->VK->Prop:=fun x vs H Q=>uW x vs H Q\/zA K x vs H Q
theorem zJ:x9 X "list.extend" (C0 X.K):=fun pins s σ H x vs v us Q I rx rv h =>
  h.elim (xw pins s σ H x vs v us Q I rx rv) (An pins s σ H x vs v us Q I rx rv)
end L2
set_option Elab.async false
set_option linter.all false
set_option maxRecDepth 100000
namespace Ck
open PySem PySem.W PySem.Calls PyProof.Rows
noncomputable def u9 {α:Type} (p q:Program) (loose:List Str) (Xt:Shared->Bool) (Yf:Shared->α) (h0:Heap) (s:Shared) :=
  ((staticsOk (importedModules p.main.body) h0 s.heap&&namesBound p s.heap&&gensDone s&&laidKept h0 s.heap),
    openSeen q loose (importedModules p.main.body) Xt true s,Yf s)
theorem vN {p q:Program} {loose:List Str} {Xt:Shared->Bool} {α:Type} {Yf:Shared->α} {Ya:World->α} {N M m:Nat} {H:Params->Heap} {gs:Array GenState} {dr:Drawn} {tk:Nat} {an:Option Value}
    (o:∀ w:World,(fencedOpening treeTable p w N).map (fun s=>(s.heap,s.gens,s.drawn,s.toks))=some (H w.params,gs,dr,tk))
    (z:∀ w:World,((H w.params).isNs mainGlobals&&gs.size == 0,(H w.params).objs.size,(H w.params).nsMap mainGlobals "__annotations__")=(true,m,an))
    (r:∀ (w:World) (os:OsState),∃ e,topRun treeTable p w m an M ⟨H w.params,gs,dr,tk,os⟩ (topStub p)=some e/\u9 p q loose Xt Yf (H w.params) e=(true,openGood q loose,Ya w))
    (le:M<=N):LeftO p q loose Xt Yf Ya N:=by
  intro w
  have ow:=o w
  cases hf:fencedOpening treeTable p w N with
  | none=>rw [hf] at ow; cases ow
  | some s =>
    rw [hf] at ow
    have os:=Option.some.inj ow
    have e1:s.heap=H w.params:=congrArg Prod.fst os
    have e2:s.gens=gs:=congrArg (fun x=>x.2.1) os
    have e3:s.drawn=dr:=congrArg (fun x=>x.2.2.1) os
    have e4:s.toks=tk:=congrArg (fun x=>x.2.2.2) os
    obtain ⟨e,run,look⟩:=r w s.os
    have hs:s=⟨H w.params,gs,dr,tk,s.os⟩:=by rw [<- e1,<- e2,<- e3,<- e4]
    have run':=topRun_mono (N - M) _ _ _ _ run
    rw [Nat.add_sub_cancel' le] at run'
    have zw:=z w
    have z1:=congrArg Prod.fst zw
    have z2:=congrArg (fun x=>x.2.1) zw
    have z3:=congrArg (fun x=>x.2.2) zw
    dsimp only at z1 z2 z3
    have l1:=congrArg Prod.fst look
    have l2:=congrArg Prod.snd look
    have tf:topFrom treeTable p w N s=some e:=by
      rw [hs]
      unfold topFrom
      dsimp only
      rw [z1,z2,z3,run']
      unfold u9 at l1
      dsimp only at l1
      dsimp only [Option.bind]
      rw [l1]
    unfold openEnds
    rw [hf,Option.bind_some,tf]
    exact congrArg some l2
noncomputable def alive (o:Obj):Option Obj:=match o with
  | ⟨_,_,.freed,_⟩=>none
  | o=>some o
noncomputable def g7:List Obj->List Bool->List (Option Obj)
  | _,[]=>[]
  | [],true::m=>none::g7 [] m
  | [],false::m=>g7 [] m
  | o::os,true::m=>alive o::g7 os m
  | _::os,false::m=>g7 os m
noncomputable def nr:List Bool->Nat->List Nat
  | [],_=>[]
  | true::m,i=>i::nr m (i+1)
  | false::m,i=>nr m (i+1)
theorem oM:∀ (m:List Bool) (os:List Obj) (pre:List Obj),g7 os m=(nr m pre.length).map fun a=>(pre++os)[a]?.bind alive
  | [],os,pre=>by cases os<;>rfl
  | b::m,[],pre=>by
    have k:=oM m [] (pre++[default])
    rw [List.length_append,List.length_singleton] at k
    have e:∀ i,pre.length < i->((pre++[(default:Obj)])++[])[i]?.bind alive=(pre++[])[i]?.bind alive:=fun i hi=>by
      rw [List.getElem?_eq_none (by simp; omega),List.getElem?_eq_none (by simp; omega)]
    have lt:∀ (m:List Bool) (n i:Nat),i∈nr m n->n<=i:=by
      intro m
      induction m with
      | nil=>intro n i h; cases h
      | cons b m ih=>intro n i h; cases b with
        | true =>
          rcases List.mem_cons.1 h with h | h
          · omega
          · have:=ih _ _ h; omega
        | false=>have:=ih _ _ h; omega
    have k':g7 [] m=(nr m (pre.length+1)).map fun a=>(pre++[])[a]?.bind alive:=by
      rw [k]; exact List.map_congr_left fun i hi=>e i (lt _ _ _ hi)
    cases b with
    | true=>show none::g7 [] m=_::_; rw [k']; congr 1; simp
    | false=>exact k'
  | b::m,o::os,pre=>by
    have k:=oM m os (pre++[o])
    rw [List.length_append,List.length_singleton,List.append_assoc,List.singleton_append] at k
    cases b with
    | true=>show alive o::g7 os m=_::_; rw [k]; congr 1; simp
    | false=>exact k
theorem xj (h:Heap) (a:Addr):h.get? a=h.objs.toList[a]?.bind alive:=by
  unfold Heap.get?
  rw [Array.getElem?_toList]
  cases h.objs[a]? with
  | none=>rfl
  | some o=>obtain ⟨c,d,x,s⟩:=o; cases x<;>rfl
theorem zL {m:List Bool} {as:List Addr} (e:as=nr m 0) (h:Heap):as.map h.get? = g7 h.objs.toList m:=by
  rw [oM m h.objs.toList [],e]
  exact List.map_congr_left fun a _=>xj h a
section
variable {tb:String->Option Builtin} {p:Program} {w:World} {m:Nat} {an:Option Value} {env:Env} {q:Pos}
noncomputable def oN {β:Type} (tb:String->Option Builtin) (p:Program) (w:World) (m:Nat) (an:Option Value) (q:Pos) (c:Code) (n4:Nat) (L:Shared->β) (r:Flow × SharedT × Code × Pos):Flow × Code × Option β :=
  (r.1,r.2.2.1,(topRun tb p w m an n4 r.2.1.abs ⟨doneF .next,c,r.2.2.2,[topFrame q]⟩).map L)
theorem zT {β:Type} {L:Shared->β} {b:List Stmt} {c:Code} {k n1 n2 n3 n4 n5:Nat} {S0 Sa:Shared} {Sb Sc:SharedT} {pos0 pos1 pos2:Pos} {z:β} (hc:c = .body b env)
    (h1:topGo tb p w m an n1 S0 (topStub p)=some (Sa,⟨denote tb c,c,pos0,[topFrame q]⟩))
    (h2:segRun tb p w m an 1 n2 Sa (blockOf b env c pos0 [topFrame q])=some (.next,Sb.abs,c,pos1))
    (h3:segRunT tb p w m an 1 n3 Sb (piecesOf (b.take k) env c pos1 [topFrame q])=some (.next,Sc,c,pos2))
    (h4:(segRunT tb p w m an 1 n5 Sc (piecesOf (b.drop k) env c pos2 [topFrame q])).map (oN tb p w m an q c n4 L)=some (.next,c,some z)) :
    ∃ e,topRun tb p w m an (n1+(n2+(n3+(n5+n4)))) S0 (topStub p)=some e/\L e=z:=by
  cases hr:segRunT tb p w m an 1 n5 Sc (piecesOf (b.drop k) env c pos2 [topFrame q]) with
  | none=>rw [hr] at h4; cases h4
  | some x =>
    obtain ⟨f,s,d,ps⟩:=x
    rw [hr] at h4
    have h4:=Option.some.inj h4
    unfold oN at h4
    have a1:f = .next:=congrArg Prod.fst h4
    have a2:d=c:=congrArg (fun x=>x.2.1) h4
    have a3:=congrArg (fun x=>x.2.2) h4
    dsimp only at a3
    subst a1 a2 hc
    cases ht:topRun tb p w m an n4 s.abs ⟨doneF .next,.body b env,ps,[topFrame q]⟩ with
    | none=>rw [ht] at a3; cases a3
    | some e =>
      rw [ht] at a3
      have k2:=piece_app (rest:=[]) (segRun_of hr) (piece_nil ht)
      rw [List.append_nil] at k2
      have k1:=piece_app (segRun_of h3) k2
      rw [List.take_append_drop] at k1
      exact ⟨e,go_top h1 (piece_block h2 k1),Option.some.inj a3⟩
end
end Ck
set_option maxHeartbeats 4000000
namespace Ck
open PySem L2
noncomputable def top (i:Nat):Stmt:=PySem.Challenge.pw_countkin_k49_marks_of_bows_and_rooms.main.body.getD i (.Pass ⟨0,0,0,0⟩)
structure aU where
 aM:Addr
 aG:Addr
 aC:Addr
 aH:Addr
 aP:Addr
 aL:Addr
 aZ:Addr
 aS:Addr
 aT:Addr
 bq:Addr
 ax:Addr
 az:Addr
 aY:Addr
 rb:Addr
 vv:Addr
 qx:Addr
 qB:Addr
 v3:Addr
 qw:Addr
 qz:Addr
 wG:Addr
 qC:Addr
 qE:Addr
 vi:Addr
 qu:Addr
 qZ:Addr
 vf:Addr
 qU:Addr
 qM:Addr
 vV:Addr
 qY:Addr
 qy:Addr
 v7:Addr
 qG:Addr
 qt:Addr
 wQ:Addr
 qP:Addr
 qJ:Addr
 wo:Addr
 qA:Addr
 qN:Addr
 rf:Addr
 ra:Addr
 qI:Addr
 qX:Addr
 qQ:Addr
 vS:Addr
 fq:Addr
 fM:Addr
 eJ:Addr
 fj:Addr
 eL:Addr
 e7:Addr
 eY:Addr
 eG:Addr
 fL:Addr
 eH:Addr
 fN:Addr
 cT:Addr
 ee:Addr
 eB:Addr
 dv:Addr
 fw:Addr
 fk:Addr
 eI:Addr
 fQ:Addr
 eF:Addr
 dI:Addr
 fe:Addr
 de:Addr
 cN:Addr
 dQ:Addr
structure BN (K:PySem.W.Frag) (mg:Str->Option Value) (ca:aU):Prop where
 vE:mg "Brackets" = some (.ref ca.aC)
 yB:mg "Stairs" = some (.ref ca.aH)
 zM:mg "Twins" = some (.ref ca.aP)
 CF:mg "Bows" = some (.ref ca.aM)
 zZ:mg "Rooms" = some (.ref ca.aG)
 yA:mg "Floors" = some (.ref ca.aL)
 zK:mg "Turns" = some (.ref ca.aZ)
 cX:mg "SplitFamily" = some (.ref ca.ax)
 eR:mg "Family" = some (.ref ca.az)
 zO:mg "Codes" = some (.ref ca.aS)
 zN:mg "Trees" = some (.ref ca.aT)
 Bu:mg "Cars" = some (.ref ca.bq)
 iG:mg "RingFamily" = some (.ref ca.aY)
 ji:gd K ca.aM
 iB:gd K ca.aG
 il:gd K ca.aC
 jy:gd K ca.aH
 kI:gd K ca.aP
 jD:gd K ca.aL
 ma:gd K ca.aZ
 mD:gd K ca.aS
 kQ:gd K ca.aT
 oH:gd K ca.bq
 mt_Bows_refuse_other:Meth K ca.aM "refuse_other" ca.qX
 mt_Rooms_refuse_other:Meth K ca.aG "refuse_other" ca.vS
 mt_Bows_is_one:Meth K ca.aM "is_one" ca.qI
 mt_Rooms_is_one:Meth K ca.aG "is_one" ca.qQ
 mk_Brackets:Mk K ca.aC ca.qx
 mk_Stairs:Mk K ca.aH ca.qw
 mk_Twins:Mk K ca.aP ca.qC
 mk_Bows:Mk K ca.aM ca.qu
 mk_Rooms:Mk K ca.aG ca.qU
 mk_Floors:Mk K ca.aL ca.qY
 mk_Turns:Mk K ca.aZ ca.qG
 mk_Codes:Mk K ca.aS ca.qP
 mk_Trees:Mk K ca.aT ca.qA
 mk_Cars:Mk K ca.bq ca.ra
 cm_SplitFamily___init___Brackets:eO K ca.ax "__init__" ca.vv
 cm_Family___init___Brackets:eO K ca.az "__init__" ca.rb
 cm_SplitFamily___init___Stairs:eO K ca.ax "__init__" ca.v3
 cm_Family___init___Stairs:eO K ca.az "__init__" ca.qB
 cm_SplitFamily___init___Twins:eO K ca.ax "__init__" ca.wG
 cm_Family___init___Twins:eO K ca.az "__init__" ca.qz
 cm_SplitFamily___init___Bows:eO K ca.ax "__init__" ca.vi
 cm_Family___init___Bows:eO K ca.az "__init__" ca.qE
 cm_SplitFamily___init___Rooms:eO K ca.ax "__init__" ca.vf
 cm_Family___init___Rooms:eO K ca.az "__init__" ca.qZ
 cm_SplitFamily___init___Floors:eO K ca.ax "__init__" ca.vV
 cm_Family___init___Floors:eO K ca.az "__init__" ca.qM
 cm_SplitFamily___init___Turns:eO K ca.ax "__init__" ca.v7
 cm_Family___init___Turns:eO K ca.az "__init__" ca.qy
 cm_RingFamily___init___Codes:eO K ca.aY "__init__" ca.wQ
 cm_Family___init___Codes:eO K ca.az "__init__" ca.qt
 cm_RingFamily___init___Trees:eO K ca.aY "__init__" ca.wo
 cm_Family___init___Trees:eO K ca.az "__init__" ca.qJ
 cm_RingFamily___init___Cars:eO K ca.aY "__init__" ca.rf
 cm_Family___init___Cars:eO K ca.az "__init__" ca.qN
 bJ:bp K ca.aC "word"
 cE:bp K ca.aH "word"
 cW:bp K ca.aP "word"
 dP:bp K ca.aM "word"
 cV:bp K ca.aG "word"
 cI:bp K ca.aL "word"
 cZ:bp K ca.aZ "word"
 cY:bp K ca.aS "word"
 c0:bp K ca.aT "word"
 dU:bp K ca.bq "word"
 dc:bp K ca.aC "least"
 eC:bp K ca.aH "least"
 eX:bp K ca.aP "least"
 fO:bp K ca.aM "least"
 fh:bp K ca.aG "least"
 eK:bp K ca.aL "least"
 fi:bp K ca.aZ "least"
 e8:bp K ca.aS "least"
 fc:bp K ca.aT "least"
 fP:bp K ca.bq "least"
 oW:mg "cars_rootage" = some (.ref ca.fq)
 qm:mg "cars_leaves" = some (.ref ca.fM)
 oo:mg "trees_rootage" = some (.ref ca.eJ)
 oO:mg "trees_leaves" = some (.ref ca.fj)
 ox:mg "codes_rootage" = some (.ref ca.eL)
 oQ:mg "codes_leaves" = some (.ref ca.e7)
 pI:mg "turns_height" = some (.ref ca.eY)
 nV:mg "turns_returns" = some (.ref ca.eG)
 qi:mg "turns_peaks" = some (.ref ca.fL)
 nT:mg "floor_returns" = some (.ref ca.eH)
 qr:mg "floor_peaks" = some (.ref ca.fN)
 iQ:mg "rooms_returns" = some (.ref ca.cT)
 jF:mg "rooms_peaks" = some (.ref ca.ee)
 jK:mg "bows_height" = some (.ref ca.eB)
 jb:mg "bows_returns" = some (.ref ca.dv)
 j0:mg "bows_peaks" = some (.ref ca.fw)
 o7:mg "twins_height" = some (.ref ca.fk)
 oA:mg "twins_returns" = some (.ref ca.eI)
 qp:mg "twins_peaks" = some (.ref ca.fQ)
 og:mg "stairs_height" = some (.ref ca.eF)
 nt:mg "stairs_returns" = some (.ref ca.dI)
 pM:mg "stairs_peaks" = some (.ref ca.fe)
 mH:mg "brackets_height" = some (.ref ca.de)
 jU:mg "brackets_returns" = some (.ref ca.cN)
 m7:mg "brackets_peaks" = some (.ref ca.dQ)
noncomputable abbrev lP:Stmt:=top 87
theorem gn:av ["_law_script","_law_turn","_law_many","_law_cells","_law_found","_law_left","_law_k","_law_at","_law_place","_law_number"] ["_law_script","_law_turn","_law_many"] (ab lP):=⟨rfl,rfl,rfl,by decide +kernel,rfl,by decide +kernel,by decide +kernel⟩
noncomputable abbrev kO:Stmt:=top 88
theorem iD:av ["_law_script","_law_size","_law_turn","_law_draws_here","_law_steep","_law_bows_here","_law_pile","_law_k","_law_at"] ["_law_script","_law_size","_law_turn"] (ab kO):=⟨rfl,rfl,rfl,by decide +kernel,rfl,by decide +kernel,by decide +kernel⟩
noncomputable abbrev kU:Stmt:=top 86
theorem Av:av ["_law_script","_law_k"] ["_law_script","_law_k"] (ab kU):=⟨rfl,rfl,rfl,by decide +kernel,rfl,by decide +kernel,by decide +kernel⟩
noncomputable abbrev lB:Stmt:=top 89
theorem hG:av ["_law_script","_law_size","_law_turn","_law_draws_here","_law_lean","_law_out","_law_rooms_here","_law_pile","_law_k","_law_j"] ["_law_script","_law_size","_law_turn"] (ab lB):=⟨rfl,rfl,rfl,by decide +kernel,rfl,by decide +kernel,by decide +kernel⟩
noncomputable abbrev lV:Stmt:=inClass (top 16) 0
theorem BO:av ["self","word","least"] ["self","word","least"] (ab lV):=⟨rfl,rfl,rfl,by decide +kernel,rfl,by decide +kernel,by decide +kernel⟩
noncomputable abbrev pj:Stmt:=inClass (top 17) 0
theorem C7:av ["self","word"] ["self","word"] (ab pj):=⟨rfl,rfl,rfl,by decide +kernel,rfl,by decide +kernel,by decide +kernel⟩
noncomputable abbrev ml:Stmt:=inClass (top 40) 0
theorem AF:av ["self"] ["self"] (ab ml):=⟨rfl,rfl,rfl,by decide +kernel,rfl,by decide +kernel,by decide +kernel⟩
noncomputable abbrev kM:Stmt:=inClass (top 16) 0
theorem A4:av ["self","word","least"] ["self","word","least"] (ab kM):=⟨rfl,rfl,rfl,by decide +kernel,rfl,by decide +kernel,by decide +kernel⟩
noncomputable abbrev pJ:Stmt:=inClass (top 17) 0
theorem CM:av ["self","word"] ["self","word"] (ab pJ):=⟨rfl,rfl,rfl,by decide +kernel,rfl,by decide +kernel,by decide +kernel⟩
noncomputable abbrev kN:Stmt:=inClass (top 41) 0
theorem BR:av ["self"] ["self"] (ab kN):=⟨rfl,rfl,rfl,by decide +kernel,rfl,by decide +kernel,by decide +kernel⟩
noncomputable abbrev mC:Stmt:=inClass (top 16) 0
theorem A2:av ["self","word","least"] ["self","word","least"] (ab mC):=⟨rfl,rfl,rfl,by decide +kernel,rfl,by decide +kernel,by decide +kernel⟩
noncomputable abbrev pL:Stmt:=inClass (top 17) 0
theorem CY:av ["self","word"] ["self","word"] (ab pL):=⟨rfl,rfl,rfl,by decide +kernel,rfl,by decide +kernel,by decide +kernel⟩
noncomputable abbrev lZ:Stmt:=inClass (top 43) 0
theorem BW:av ["self"] ["self"] (ab lZ):=⟨rfl,rfl,rfl,by decide +kernel,rfl,by decide +kernel,by decide +kernel⟩
noncomputable abbrev kT:Stmt:=inClass (top 16) 0
theorem B3:av ["self","word","least"] ["self","word","least"] (ab kT):=⟨rfl,rfl,rfl,by decide +kernel,rfl,by decide +kernel,by decide +kernel⟩
noncomputable abbrev o6:Stmt:=inClass (top 17) 0
theorem Dv:av ["self","word"] ["self","word"] (ab o6):=⟨rfl,rfl,rfl,by decide +kernel,rfl,by decide +kernel,by decide +kernel⟩
noncomputable abbrev mh:Stmt:=inClass (top 19) 0
theorem A5:av ["self"] ["self"] (ab mh):=⟨rfl,rfl,rfl,by decide +kernel,rfl,by decide +kernel,by decide +kernel⟩
noncomputable abbrev kJ:Stmt:=inClass (top 16) 0
theorem Ax:av ["self","word","least"] ["self","word","least"] (ab kJ):=⟨rfl,rfl,rfl,by decide +kernel,rfl,by decide +kernel,by decide +kernel⟩
noncomputable abbrev oZ:Stmt:=inClass (top 17) 0
theorem CS:av ["self","word"] ["self","word"] (ab oZ):=⟨rfl,rfl,rfl,by decide +kernel,rfl,by decide +kernel,by decide +kernel⟩
noncomputable abbrev lX:Stmt:=inClass (top 20) 0
theorem AL:av ["self"] ["self"] (ab lX):=⟨rfl,rfl,rfl,by decide +kernel,rfl,by decide +kernel,by decide +kernel⟩
noncomputable abbrev lO:Stmt:=inClass (top 16) 0
theorem A0:av ["self","word","least"] ["self","word","least"] (ab lO):=⟨rfl,rfl,rfl,by decide +kernel,rfl,by decide +kernel,by decide +kernel⟩
noncomputable abbrev pE:Stmt:=inClass (top 17) 0
theorem Di:av ["self","word"] ["self","word"] (ab pE):=⟨rfl,rfl,rfl,by decide +kernel,rfl,by decide +kernel,by decide +kernel⟩
noncomputable abbrev kX:Stmt:=inClass (top 31) 0
theorem B8:av ["self"] ["self"] (ab kX):=⟨rfl,rfl,rfl,by decide +kernel,rfl,by decide +kernel,by decide +kernel⟩
noncomputable abbrev lL:Stmt:=inClass (top 16) 0
theorem AN:av ["self","word","least"] ["self","word","least"] (ab lL):=⟨rfl,rfl,rfl,by decide +kernel,rfl,by decide +kernel,by decide +kernel⟩
noncomputable abbrev pK:Stmt:=inClass (top 17) 0
theorem C4:av ["self","word"] ["self","word"] (ab pK):=⟨rfl,rfl,rfl,by decide +kernel,rfl,by decide +kernel,by decide +kernel⟩
noncomputable abbrev mw:Stmt:=inClass (top 35) 0
theorem Bx:av ["self"] ["self"] (ab mw):=⟨rfl,rfl,rfl,by decide +kernel,rfl,by decide +kernel,by decide +kernel⟩
noncomputable abbrev lI:Stmt:=top 45
theorem Bn:av [] [] (ab lI):=⟨rfl,rfl,rfl,by decide +kernel,rfl,by decide +kernel,by decide +kernel⟩
noncomputable abbrev lN:Stmt:=inClass (top 16) 0
theorem Cw:av ["self","word","least"] ["self","word","least"] (ab lN):=⟨rfl,rfl,rfl,by decide +kernel,rfl,by decide +kernel,by decide +kernel⟩
noncomputable abbrev oP:Stmt:=inClass (top 23) 0
theorem C5:av ["self","word"] ["self","word"] (ab oP):=⟨rfl,rfl,rfl,by decide +kernel,rfl,by decide +kernel,by decide +kernel⟩
noncomputable abbrev kL:Stmt:=inClass (top 24) 0
theorem CH:av ["self"] ["self"] (ab kL):=⟨rfl,rfl,rfl,by decide +kernel,rfl,by decide +kernel,by decide +kernel⟩
noncomputable abbrev mx:Stmt:=inClass (top 16) 0
theorem A9:av ["self","word","least"] ["self","word","least"] (ab mx):=⟨rfl,rfl,rfl,by decide +kernel,rfl,by decide +kernel,by decide +kernel⟩
noncomputable abbrev oJ:Stmt:=inClass (top 23) 0
theorem Dd:av ["self","word"] ["self","word"] (ab oJ):=⟨rfl,rfl,rfl,by decide +kernel,rfl,by decide +kernel,by decide +kernel⟩
noncomputable abbrev md:Stmt:=inClass (top 28) 0
theorem Bm:av ["self"] ["self"] (ab md):=⟨rfl,rfl,rfl,by decide +kernel,rfl,by decide +kernel,by decide +kernel⟩
noncomputable abbrev mq:Stmt:=inClass (top 16) 0
theorem Cr:av ["self","word","least"] ["self","word","least"] (ab mq):=⟨rfl,rfl,rfl,by decide +kernel,rfl,by decide +kernel,by decide +kernel⟩
noncomputable abbrev lq:Stmt:=inClass (top 23) 0
theorem AH:av ["self","word"] ["self","word"] (ab lq):=⟨rfl,rfl,rfl,by decide +kernel,rfl,by decide +kernel,by decide +kernel⟩
noncomputable abbrev kS:Stmt:=inClass (top 26) 0
theorem BY:av ["self"] ["self"] (ab kS):=⟨rfl,rfl,rfl,by decide +kernel,rfl,by decide +kernel,by decide +kernel⟩
noncomputable abbrev mr:Stmt:=top 46
theorem BK:av [] [] (ab mr):=⟨rfl,rfl,rfl,by decide +kernel,rfl,by decide +kernel,by decide +kernel⟩
noncomputable abbrev lG:Stmt:=top 47
theorem yl:av ["word","family"] ["word"] (ab lG):=⟨rfl,rfl,rfl,by decide +kernel,rfl,by decide +kernel,by decide +kernel⟩
noncomputable abbrev iR:Stmt:=top 82
theorem AO:av [] [] (ab iR):=⟨rfl,rfl,rfl,by decide +kernel,rfl,by decide +kernel,by decide +kernel⟩
noncomputable abbrev l0:Stmt:=top 83
theorem xQ:av ["word","family"] ["word"] (ab l0):=⟨rfl,rfl,rfl,by decide +kernel,rfl,by decide +kernel,by decide +kernel⟩
noncomputable abbrev kY:Stmt:=top 9
theorem Bh:av ["numbers"] ["numbers"] (ab kY):=⟨rfl,rfl,rfl,by decide +kernel,rfl,by decide +kernel,by decide +kernel⟩
noncomputable abbrev mB:Stmt:=top 8
theorem t7:av ["rows","found","row"] ["rows"] (ab mB):=⟨rfl,rfl,rfl,by decide +kernel,rfl,by decide +kernel,by decide +kernel⟩
noncomputable abbrev mf:Stmt:=top 10
theorem km:av ["pairs","a","b","c","d"] ["pairs"] (ab mf):=⟨rfl,rfl,rfl,by decide +kernel,rfl,by decide +kernel,by decide +kernel⟩
noncomputable abbrev lC:Stmt:=inClass (top 19) 2
theorem BQ:av ["self","thing"] ["self","thing"] (ab lC):=⟨rfl,rfl,rfl,by decide +kernel,rfl,by decide +kernel,by decide +kernel⟩
noncomputable abbrev mE:Stmt:=inClass (top 16) 7
theorem Cc:av ["self","thing"] ["self","thing"] (ab mE):=⟨rfl,rfl,rfl,by decide +kernel,rfl,by decide +kernel,by decide +kernel⟩
noncomputable abbrev lY:Stmt:=top 21
theorem BH:av ["rooms"] ["rooms"] (ab lY):=⟨rfl,rfl,rfl,by decide +kernel,rfl,by decide +kernel,by decide +kernel⟩
noncomputable abbrev mj:Stmt:=inClass (top 20) 2
theorem Bz:av ["self","thing"] ["self","thing"] (ab mj):=⟨rfl,rfl,rfl,by decide +kernel,rfl,by decide +kernel,by decide +kernel⟩
noncomputable abbrev pB:Stmt:=inClass (top 16) 7
theorem CQ:av ["self","thing"] ["self","thing"] (ab pB):=⟨rfl,rfl,rfl,by decide +kernel,rfl,by decide +kernel,by decide +kernel⟩
noncomputable abbrev kH:Stmt:=top 64
theorem Cq:av ["thing"] ["thing"] (ab kH):=⟨rfl,rfl,rfl,by decide +kernel,rfl,by decide +kernel,by decide +kernel⟩
noncomputable abbrev mi:Stmt:=top 65
theorem CJ:av ["thing","bow"] ["thing","bow"] (ab mi):=⟨rfl,rfl,rfl,by decide +kernel,rfl,by decide +kernel,by decide +kernel⟩
noncomputable abbrev kW:Stmt:=top 66
theorem Ca:av ["thing"] ["thing"] (ab kW):=⟨rfl,rfl,rfl,by decide +kernel,rfl,by decide +kernel,by decide +kernel⟩
noncomputable abbrev me:Stmt:=top 79
theorem Cf:av ["thing"] ["thing"] (ab me):=⟨rfl,rfl,rfl,by decide +kernel,rfl,by decide +kernel,by decide +kernel⟩
noncomputable abbrev lH:Stmt:=top 67
theorem BE:av ["thing"] ["thing"] (ab lH):=⟨rfl,rfl,rfl,by decide +kernel,rfl,by decide +kernel,by decide +kernel⟩
noncomputable abbrev lS:Stmt:=top 68
theorem BV:av ["thing","room"] ["thing","room"] (ab lS):=⟨rfl,rfl,rfl,by decide +kernel,rfl,by decide +kernel,by decide +kernel⟩
noncomputable abbrev lF:Stmt:=top 69
theorem CK:av ["thing"] ["thing"] (ab lF):=⟨rfl,rfl,rfl,by decide +kernel,rfl,by decide +kernel,by decide +kernel⟩
noncomputable abbrev lD:Stmt:=top 84
theorem xI:av ["word","name","thing","family"] ["word","name","thing"] (ab lD):=⟨rfl,rfl,rfl,by decide +kernel,rfl,by decide +kernel,by decide +kernel⟩
noncomputable abbrev mF:Stmt:=top 90
theorem ot:av ["_law_word","_law_names","_law_thing","_law_due","_law_k","_law_j","_law_found"] ["_law_word","_law_names","_law_thing","_law_due"] (ab mF):=⟨rfl,rfl,rfl,by decide +kernel,rfl,by decide +kernel,by decide +kernel⟩
noncomputable abbrev lW:Stmt:=top 91
theorem hJ:av ["_law_bows_here","_law_peaks","_law_returns","_law_depths","_law_k","_law_over"] ["_law_bows_here"] (ab lW):=⟨rfl,rfl,rfl,by decide +kernel,rfl,by decide +kernel,by decide +kernel⟩
noncomputable abbrev lT:Stmt:=top 92
theorem kE:av ["_law_rooms_here","_law_returns","_law_room","_law_over"] ["_law_rooms_here"] (ab lT):=⟨rfl,rfl,rfl,by decide +kernel,rfl,by decide +kernel,by decide +kernel⟩
noncomputable abbrev ip:Stmt:=top 93
theorem n6:av ["_law_script","_law_bows_here","_law_rooms_here","_law_handed"] ["_law_script"] (ab ip):=⟨rfl,rfl,rfl,by decide +kernel,rfl,by decide +kernel,by decide +kernel⟩
noncomputable def oF (K:PySem.W.Frag) (_:aU):Sp:=fun vs H Q _=>∃ (a:Addr) (ns:List Int) (t m:Int),vs=[.ref a,.int t,.int m]/\aq K H a (ns.map V.int)/\ns.length<=63/\0<=t/\t<=1000/\0<=m/\m<=1000 /\
 ∀ (p:Addr) (xs:List Int) (H':Hp),af H H'->H p=none->H' p=some (.lst (xs.map V.int))->xs.length=m.toNat->(∀ x∈xs,0<=x/\x < 2147483587)->Q (.ref p) H'
noncomputable def rq (K:PySem.W.Frag) (_:aU):Sp:=fun vs H Q _=>∃ (a:Addr) (ns:List Int) (n:Nat) (t:Int),vs=[.ref a,.int n,.int t]/\aq K H a (ns.map V.int)/\ns.length<=63/\n<=40/\0<=t/\t<=900 /\
 ∀ (p:Addr) (ps:List Pair) (H':Hp),af H H'->H p=none->gf H' p ps->ps.length=n->dg ps=true->Q (.ref p) H'
noncomputable def sU (K:PySem.W.Frag) (_:aU):Sp:=fun vs H Q _=>∃ (a:Addr) (ns:List Int) (k:Int),vs=[.ref a,.int k]/\aq K H a (ns.map V.int)/\0<=k/\Q (.int (ns.getD k.toNat 0)) H
noncomputable def rZ (K:PySem.W.Frag) (_:aU):Sp:=fun vs H Q _=>∃ (a:Addr) (ns:List Int) (n:Nat) (t:Int),vs=[.ref a,.int n,.int t]/\aq K H a (ns.map V.int)/\ns.length<=63/\n<=40/\0<=t/\t<=900 /\
 ∀ (p:Addr) (rs:List (List Int)) (op:List Nat) (H':Hp),af H H'->H p=none->bC H H' p rs->gH rs op n->Q (.ref p) H'
noncomputable def rP (_:PySem.W.Frag) (ca:aU):Sp:=fun vs H Q _=>∃ (x dx:Addr) (w:Str) (l:Int),vs=[.ref x,.str w,.int l]/\H x=some (.ins ca.aC dx [])/\∀ (fs:List (Str × V)) (H':Hp),H'=upd H x (.ins ca.aC dx fs)->bG fs w l->Q .non H'
noncomputable def vm (_:PySem.W.Frag) (ca:aU):Sp:=fun vs H Q _=>∃ (x dx:Addr) (w:Str),vs=[.ref x,.str w]/\H x=some (.ins ca.aC dx [])/\∀ (fs:List (Str × V)) (H':Hp),H'=upd H x (.ins ca.aC dx fs)->bG fs w 0->Q .non H'
noncomputable def sH (_:PySem.W.Frag) (ca:aU):Sp:=fun vs H Q _=>∃ x dx,vs=[.ref x]/\H x=some (.ins ca.aC dx [])/\∀ (fs:List (Str × V)) (H':Hp),H'=upd H x (.ins ca.aC dx fs)->bG fs "brackets" 0->Q .non H'
noncomputable def tj (_:PySem.W.Frag) (ca:aU):Sp:=fun vs H Q _=>∃ (x dx:Addr) (w:Str) (l:Int),vs=[.ref x,.str w,.int l]/\H x=some (.ins ca.aH dx [])/\∀ (fs:List (Str × V)) (H':Hp),H'=upd H x (.ins ca.aH dx fs)->bG fs w l->Q .non H'
noncomputable def wV (_:PySem.W.Frag) (ca:aU):Sp:=fun vs H Q _=>∃ (x dx:Addr) (w:Str),vs=[.ref x,.str w]/\H x=some (.ins ca.aH dx [])/\∀ (fs:List (Str × V)) (H':Hp),H'=upd H x (.ins ca.aH dx fs)->bG fs w 0->Q .non H'
noncomputable def sv (_:PySem.W.Frag) (ca:aU):Sp:=fun vs H Q _=>∃ x dx,vs=[.ref x]/\H x=some (.ins ca.aH dx [])/\∀ (fs:List (Str × V)) (H':Hp),H'=upd H x (.ins ca.aH dx fs)->bG fs "stairs" 0->Q .non H'
noncomputable def sQ (_:PySem.W.Frag) (ca:aU):Sp:=fun vs H Q _=>∃ (x dx:Addr) (w:Str) (l:Int),vs=[.ref x,.str w,.int l]/\H x=some (.ins ca.aP dx [])/\∀ (fs:List (Str × V)) (H':Hp),H'=upd H x (.ins ca.aP dx fs)->bG fs w l->Q .non H'
noncomputable def wC (_:PySem.W.Frag) (ca:aU):Sp:=fun vs H Q _=>∃ (x dx:Addr) (w:Str),vs=[.ref x,.str w]/\H x=some (.ins ca.aP dx [])/\∀ (fs:List (Str × V)) (H':Hp),H'=upd H x (.ins ca.aP dx fs)->bG fs w 0->Q .non H'
noncomputable def rB (_:PySem.W.Frag) (ca:aU):Sp:=fun vs H Q _=>∃ x dx,vs=[.ref x]/\H x=some (.ins ca.aP dx [])/\∀ (fs:List (Str × V)) (H':Hp),H'=upd H x (.ins ca.aP dx fs)->bG fs "twins" 0->Q .non H'
noncomputable def rJ (_:PySem.W.Frag) (ca:aU):Sp:=fun vs H Q _=>∃ (x dx:Addr) (w:Str) (l:Int),vs=[.ref x,.str w,.int l]/\H x=some (.ins ca.aM dx [])/\∀ (fs:List (Str × V)) (H':Hp),H'=upd H x (.ins ca.aM dx fs)->bG fs w l->Q .non H'
noncomputable def vM (_:PySem.W.Frag) (ca:aU):Sp:=fun vs H Q _=>∃ (x dx:Addr) (w:Str),vs=[.ref x,.str w]/\H x=some (.ins ca.aM dx [])/\∀ (fs:List (Str × V)) (H':Hp),H'=upd H x (.ins ca.aM dx fs)->bG fs w 0->Q .non H'
noncomputable def si (_:PySem.W.Frag) (ca:aU):Sp:=fun vs H Q _=>∃ x dx,vs=[.ref x]/\H x=some (.ins ca.aM dx [])/\∀ (fs:List (Str × V)) (H':Hp),H'=upd H x (.ins ca.aM dx fs)->bG fs "bows" 0->Q .non H'
noncomputable def r8 (_:PySem.W.Frag) (ca:aU):Sp:=fun vs H Q _=>∃ (x dx:Addr) (w:Str) (l:Int),vs=[.ref x,.str w,.int l]/\H x=some (.ins ca.aG dx [])/\∀ (fs:List (Str × V)) (H':Hp),H'=upd H x (.ins ca.aG dx fs)->bG fs w l->Q .non H'
noncomputable def wI (_:PySem.W.Frag) (ca:aU):Sp:=fun vs H Q _=>∃ (x dx:Addr) (w:Str),vs=[.ref x,.str w]/\H x=some (.ins ca.aG dx [])/\∀ (fs:List (Str × V)) (H':Hp),H'=upd H x (.ins ca.aG dx fs)->bG fs w 0->Q .non H'
noncomputable def tR (_:PySem.W.Frag) (ca:aU):Sp:=fun vs H Q _=>∃ x dx,vs=[.ref x]/\H x=some (.ins ca.aG dx [])/\∀ (fs:List (Str × V)) (H':Hp),H'=upd H x (.ins ca.aG dx fs)->bG fs "rooms" 0->Q .non H'
noncomputable def rE (_:PySem.W.Frag) (ca:aU):Sp:=fun vs H Q _=>∃ (x dx:Addr) (w:Str) (l:Int),vs=[.ref x,.str w,.int l]/\H x=some (.ins ca.aL dx [])/\∀ (fs:List (Str × V)) (H':Hp),H'=upd H x (.ins ca.aL dx fs)->bG fs w l->Q .non H'
noncomputable def wk (_:PySem.W.Frag) (ca:aU):Sp:=fun vs H Q _=>∃ (x dx:Addr) (w:Str),vs=[.ref x,.str w]/\H x=some (.ins ca.aL dx [])/\∀ (fs:List (Str × V)) (H':Hp),H'=upd H x (.ins ca.aL dx fs)->bG fs w 0->Q .non H'
noncomputable def tO (_:PySem.W.Frag) (ca:aU):Sp:=fun vs H Q _=>∃ x dx,vs=[.ref x]/\H x=some (.ins ca.aL dx [])/\∀ (fs:List (Str × V)) (H':Hp),H'=upd H x (.ins ca.aL dx fs)->bG fs "floor" 0->Q .non H'
noncomputable def tI (_:PySem.W.Frag) (ca:aU):Sp:=fun vs H Q _=>∃ (x dx:Addr) (w:Str) (l:Int),vs=[.ref x,.str w,.int l]/\H x=some (.ins ca.aZ dx [])/\∀ (fs:List (Str × V)) (H':Hp),H'=upd H x (.ins ca.aZ dx fs)->bG fs w l->Q .non H'
noncomputable def wc (_:PySem.W.Frag) (ca:aU):Sp:=fun vs H Q _=>∃ (x dx:Addr) (w:Str),vs=[.ref x,.str w]/\H x=some (.ins ca.aZ dx [])/\∀ (fs:List (Str × V)) (H':Hp),H'=upd H x (.ins ca.aZ dx fs)->bG fs w 0->Q .non H'
noncomputable def tW (_:PySem.W.Frag) (ca:aU):Sp:=fun vs H Q _=>∃ x dx,vs=[.ref x]/\H x=some (.ins ca.aZ dx [])/\∀ (fs:List (Str × V)) (H':Hp),H'=upd H x (.ins ca.aZ dx fs)->bG fs "turns" 0->Q .non H'
noncomputable def Aq (ca:aU):List (Str × Addr × Int):=[("brackets",ca.aC,0),("stairs",ca.aH,0),("twins",ca.aP,0),("bows",ca.aM,0),("rooms",ca.aG,0),("floor",ca.aL,0),("turns",ca.aZ,0)]
noncomputable def sM (K:PySem.W.Frag) (ca:aU):Sp:=fun vs H Q _=>vs=[]/\∀ (p:Addr) (xs:List V) (H':Hp),af H H'->H p=none->H' p=some (.lst xs)->Paired (bU H') xs (Aq ca)->Q (.ref p) H'
noncomputable def sd (_:PySem.W.Frag) (ca:aU):Sp:=fun vs H Q _=>∃ (x dx:Addr) (w:Str) (l:Int),vs=[.ref x,.str w,.int l]/\H x=some (.ins ca.aS dx [])/\∀ (fs:List (Str × V)) (H':Hp),H'=upd H x (.ins ca.aS dx fs)->bG fs w l->Q .non H'
noncomputable def wU (_:PySem.W.Frag) (ca:aU):Sp:=fun vs H Q _=>∃ (x dx:Addr) (w:Str),vs=[.ref x,.str w]/\H x=some (.ins ca.aS dx [])/\∀ (fs:List (Str × V)) (H':Hp),H'=upd H x (.ins ca.aS dx fs)->bG fs w 1->Q .non H'
noncomputable def tw (_:PySem.W.Frag) (ca:aU):Sp:=fun vs H Q _=>∃ x dx,vs=[.ref x]/\H x=some (.ins ca.aS dx [])/\∀ (fs:List (Str × V)) (H':Hp),H'=upd H x (.ins ca.aS dx fs)->bG fs "codes" 1->Q .non H'
noncomputable def rn (_:PySem.W.Frag) (ca:aU):Sp:=fun vs H Q _=>∃ (x dx:Addr) (w:Str) (l:Int),vs=[.ref x,.str w,.int l]/\H x=some (.ins ca.aT dx [])/\∀ (fs:List (Str × V)) (H':Hp),H'=upd H x (.ins ca.aT dx fs)->bG fs w l->Q .non H'
noncomputable def wM (_:PySem.W.Frag) (ca:aU):Sp:=fun vs H Q _=>∃ (x dx:Addr) (w:Str),vs=[.ref x,.str w]/\H x=some (.ins ca.aT dx [])/\∀ (fs:List (Str × V)) (H':Hp),H'=upd H x (.ins ca.aT dx fs)->bG fs w 1->Q .non H'
noncomputable def tM (_:PySem.W.Frag) (ca:aU):Sp:=fun vs H Q _=>∃ x dx,vs=[.ref x]/\H x=some (.ins ca.aT dx [])/\∀ (fs:List (Str × V)) (H':Hp),H'=upd H x (.ins ca.aT dx fs)->bG fs "trees" 1->Q .non H'
noncomputable def sg (_:PySem.W.Frag) (ca:aU):Sp:=fun vs H Q _=>∃ (x dx:Addr) (w:Str) (l:Int),vs=[.ref x,.str w,.int l]/\H x=some (.ins ca.bq dx [])/\∀ (fs:List (Str × V)) (H':Hp),H'=upd H x (.ins ca.bq dx fs)->bG fs w l->Q .non H'
noncomputable def sW (_:PySem.W.Frag) (ca:aU):Sp:=fun vs H Q _=>∃ (x dx:Addr) (w:Str),vs=[.ref x,.str w]/\H x=some (.ins ca.bq dx [])/\∀ (fs:List (Str × V)) (H':Hp),H'=upd H x (.ins ca.bq dx fs)->bG fs w 1->Q .non H'
noncomputable def rW (_:PySem.W.Frag) (ca:aU):Sp:=fun vs H Q _=>∃ x dx,vs=[.ref x]/\H x=some (.ins ca.bq dx [])/\∀ (fs:List (Str × V)) (H':Hp),H'=upd H x (.ins ca.bq dx fs)->bG fs "cars" 1->Q .non H'
noncomputable def Bf (ca:aU):List (Str × Addr × Int):=[("codes",ca.aS,1),("trees",ca.aT,1),("cars",ca.bq,1)]
noncomputable def sN (K:PySem.W.Frag) (ca:aU):Sp:=fun vs H Q _=>vs=[]/\∀ (p:Addr) (xs:List V) (H':Hp),af H H'->H p=none->H' p=some (.lst xs)->Paired (bU H') xs (Bf ca)->Q (.ref p) H'
noncomputable def iU (ca:aU):List (Str × Addr × Int):=Aq ca++Bf ca
theorem vH (ca:aU):((iU ca).map (·.1)).Nodup:=by
 show [("brackets" : Str),("stairs" : Str),("twins" : Str),("bows" : Str),("rooms" : Str),("floor" : Str),("turns" : Str),("codes" : Str),("trees" : Str),("cars" : Str)].Nodup
 decide +kernel
theorem yK {ca:aU} {f g:Str × Addr × Int} (hf:f∈iU ca) (hg:g∈iU ca) (e:f.1=g.1):f=g:=by
 have key:∀ {l:List (Str × Addr × Int)},(l.map (·.1)).Nodup->f∈l->g∈l->f=g:=by
  intro l
  induction l with
  | nil=>intro _ h; cases h
  | cons a l ih =>
   intro nd h1 h2
   rw [List.map_cons,List.nodup_cons] at nd
   rcases List.mem_cons.mp h1 with h3 | h3
   ·rcases List.mem_cons.mp h2 with h4 | h4
    ·rw [h3,h4]
    ·exact absurd (List.mem_map.mpr ⟨g,h4,by rw [<- e,h3]⟩) nd.1
   ·rcases List.mem_cons.mp h2 with h4 | h4
    ·exact absurd (List.mem_map.mpr ⟨f,h3,by rw [e,h4]⟩) nd.1
    ·exact ih nd.2 h3 h4
 exact key (vH ca) hf hg
noncomputable def oj (K:PySem.W.Frag) (ca:aU):Sp:=fun vs H Q _=>∃ (f:Str × Addr × Int),vs=[.str f.1]/\f∈iU ca/\∀ (x dx:Addr) (fs:List (Str × V)) (H':Hp),af H H'->H' x=some (.ins f.2.1 dx fs)->bG fs f.1 f.2.2->Q (.ref x) H'
noncomputable def iy (ca:aU):List (Str × List (Str × Addr)):=[("brackets",[("peaks",ca.dQ),("returns",ca.cN),("height",ca.de)]),("stairs",[("peaks",ca.fe),("returns",ca.dI),("height",ca.eF)]),("twins",[("peaks",ca.fQ),("returns",ca.eI),("height",ca.fk)]),("bows",[("peaks",ca.fw),("returns",ca.dv),("height",ca.eB)]),("rooms",[("peaks",ca.ee),("returns",ca.cT)]),("floor",[("peaks",ca.fN),("returns",ca.eH)]),("turns",[("peaks",ca.fL),("returns",ca.eG),("height",ca.eY)]),("codes",[("leaves",ca.e7),("rootage",ca.eL)]),("trees",[("leaves",ca.fj),("rootage",ca.eJ)]),("cars",[("leaves",ca.fM),("rootage",ca.fq)])]
noncomputable def wY:List (Str × List Str):=[("brackets",["peaks","returns","height"]),("stairs",["peaks","returns","height"]),("twins",["peaks","returns","height"]),("bows",["peaks","returns","height"]),("rooms",["peaks","returns"]),("floor",["peaks","returns"]),("turns",["peaks","returns","height"]),("codes",["leaves","rootage"]),("trees",["leaves","rootage"]),("cars",["leaves","rootage"])]
noncomputable def zu:List (Str × List (Str × Str)):=[("brackets",[("peaks","brackets_peaks"),("returns","brackets_returns"),("height","brackets_height")]),("stairs",[("peaks","stairs_peaks"),("returns","stairs_returns"),("height","stairs_height")]),("twins",[("peaks","twins_peaks"),("returns","twins_returns"),("height","twins_height")]),("bows",[("peaks","bows_peaks"),("returns","bows_returns"),("height","bows_height")]),("rooms",[("peaks","rooms_peaks"),("returns","rooms_returns")]),("floor",[("peaks","floor_peaks"),("returns","floor_returns")]),("turns",[("peaks","turns_peaks"),("returns","turns_returns"),("height","turns_height")]),("codes",[("leaves","codes_leaves"),("rootage","codes_rootage")]),("trees",[("leaves","trees_leaves"),("rootage","trees_rootage")]),("cars",[("leaves","cars_leaves"),("rootage","cars_rootage")])]
theorem mJ (ca:aU):(iy ca).map (fun r=>(r.1,r.2.map (·.1)))=wY:=rfl
theorem sY:(∀ r∈wY,r.2.Nodup/\r.2.length<=15)/\(wY.map (·.1)).Nodup:=by decide +kernel
theorem su (ca:aU):(∀ r∈iy ca,(r.2.map (·.1)).Nodup/\r.2.length<=15)/\((iy ca).map (·.1)).Nodup:=by
 refine ⟨fun r hr=>?_,?_⟩
 ·have:=sY.1 (r.1,r.2.map (·.1)) (by rw [<- mJ ca]; exact List.mem_map.mpr ⟨r,hr,rfl⟩)
  rw [List.length_map] at this
  exact this
 ·have:=sY.2
  rw [<- mJ ca,List.map_map] at this
  exact this
noncomputable def nO (K:PySem.W.Frag) (ca:aU):Sp:=fun vs H Q _=>vs=[]/\∀ (p:Addr) (H':Hp),af H H'->H p=none->vt H' p (iy ca)->Q (.ref p) H'
noncomputable def sJ (K:PySem.W.Frag) (ca:aU):Sp:=fun vs H Q _=>∃ (f:Str × Addr × Int) (items:List (Str × Addr)),vs=[.str f.1]/\f∈iU ca/\(iy ca).lookup f.1=some items/\∀ (p:Addr) (H':Hp),af H H'->H p=none->H' p=some (.lst ((items.map (·.1)).map V.str))->Q (.ref p) H'
noncomputable def oy (K:PySem.W.Frag) (_:aU):Sp:=fun vs H Q _=>∃ (l:Addr) (ns:List Int),vs=[.ref l]/\H l=some (.lst (ns.map V.int))/\ns.length < 128/\∀ H',af H H'->Q (.bl (dX ns)) H'
noncomputable def jZ (K:PySem.W.Frag) (_:aU):Sp:=fun vs H Q _=>∃ (l:Addr),vs=[.ref l]/\((∃ (ps:List Pair),gf H l ps/\ps.length<=1000/\∀ (p:Addr) (H':Hp),af H H'->H p=none->H' p=some (.lst ((aX ps).map V.int))->Q (.ref p) H')\/(∃ (bs:List Addr) (xss:List (List V)),H l=some (.lst (bs.map V.ref))/\eV H bs xss/\xss.flatten.length<=1000/\∀ (p:Addr) (H':Hp),af H H'->H p=none->H' p=some (.lst xss.flatten)->Q (.ref p) H'))
noncomputable def oh (K:PySem.W.Frag) (_:aU):Sp:=fun vs H Q _=>∃ (l:Addr) (ps:List Pair),vs=[.ref l]/\gf H l ps/\Q (.bl (dH ps)) H
noncomputable def sZ (K:PySem.W.Frag) (_:aU):Sp:=fun vs H Q _=>∃ (x l:Addr) (ps:List Pair),vs=[.ref x,.ref l]/\gf H l ps/\ps.length<=60/\∀ H',af H H'->Q (.bl (dg ps)) H'
noncomputable def sE (K:PySem.W.Frag) (ca:aU):Sp:=fun vs H Q _=>∃ (x dx:Addr) (fs:List (Str × V)) (l:Addr) (ps:List Pair),vs=[.ref x,.ref l]/\H x=some (.ins ca.aM dx fs)/\fs.lookup ("is_one" : Str)=none/\gf H l ps/\ps.length<=60/\dg ps=true/\∀ H',af H H'->Q .non H'
noncomputable def ub (K:PySem.W.Frag) (_:aU):Sp:=fun vs H Q _=>∃ (l:Addr) (H0:Hp) (rs:List (List Int)),vs=[.ref l]/\bC H0 H l rs/\rs.length<=100/\rs.flatten.length<=1000/\∀ (p:Addr) (H':Hp),af H H'->H p=none->gf H' p (fZ rs)->Q (.ref p) H'
noncomputable def sr (K:PySem.W.Frag) (_:aU):Sp:=fun vs H Q _=>∃ (x l:Addr) (H0:Hp) (rs:List (List Int)),vs=[.ref x,.ref l]/\bC H0 H l rs/\rs.length<=60/\rs.flatten.length < 128/\(∀ r∈rs,r.length < 64)/\∀ H',af H H'->Q (.bl (ft rs)) H'
noncomputable def wF (K:PySem.W.Frag) (ca:aU):Sp:=fun vs H Q _=>∃ (x dx:Addr) (fs:List (Str × V)) (l:Addr) (H0:Hp) (rs:List (List Int)),vs=[.ref x,.ref l]/\H x=some (.ins ca.aG dx fs)/\fs.lookup ("is_one" : Str)=none/\bC H0 H l rs/\rs.length<=60/\rs.flatten.length < 128/\(∀ r∈rs,r.length < 64)/\ft rs=true/\∀ H',af H H'->Q .non H'
noncomputable def tG (K:PySem.W.Frag) (_:aU):Sp:=fun vs H Q _=>∃ (l:Addr) (ps:List Pair),vs=[.ref l]/\gf H l ps/\ps.length<=40/\iK ps/\∀ H',af H H'->Q (.int (aB (iZ ps) ps.length:Nat)) H'
noncomputable def n9 (K:PySem.W.Frag) (_:aU):Sp:=fun vs H Q _=>∃ (l t:Addr) (ps:List Pair) (p:Pair),vs=[.ref l,.ref t]/\gf H l ps/\ps.length<=40/\H t=some (.tup [.int p.1,.int p.2])/\∀ (q:Addr) (ys:List V) (H':Hp),af H H'->H q=none->H' q=some (.lst ys)->ys.length=aB (oq ps p) ps.length->Q (.ref q) H'
noncomputable def sC (K:PySem.W.Frag) (_:aU):Sp:=fun vs H Q _=>∃ (l:Addr) (ps:List Pair),vs=[.ref l]/\gf H l ps/\ps.length<=40/\iK ps/\∀ H',af H H'->Q (.int (aB (jh ps) ps.length:Nat)) H'
noncomputable def tQ (K:PySem.W.Frag) (_:aU):Sp:=fun vs H Q _=>∃ (l:Addr) (ps:List Pair),vs=[.ref l]/\gf H l ps/\ps.length<=40/\iK ps/\∀ H',af H H'->Q (.int (gc (cy (a9 ps) ps.length))) H'
noncomputable def rp (K:PySem.W.Frag) (_:aU):Sp:=fun vs H Q _=>∃ (l:Addr) (H0:Hp) (rs:List (List Int)),vs=[.ref l]/\bC H0 H l rs/\rs.length<=60/\(∀ r∈rs,r≠[])/\∀ H',af H H'->Q (.int (rs.length:Nat)) H'
noncomputable def so (K:PySem.W.Frag) (_:aU):Sp:=fun vs H Q _=>∃ (l t:Addr) (H0:Hp) (rs:List (List Int)) (r:List Int),vs=[.ref l,.ref t]/\bC H0 H l rs/\rs.length<=60/\(∀ r∈rs,r≠[])/\H t=some (.lst (r.map V.int))/\r≠[]/\∀ (q:Addr) (ys:List V) (H':Hp),af H H'->H q=none->H' q=some (.lst ys)->ys.length=aB (iP rs r) rs.length->Q (.ref q) H'
noncomputable def rS (K:PySem.W.Frag) (_:aU):Sp:=fun vs H Q _=>∃ (l:Addr) (H0:Hp) (rs:List (List Int)),vs=[.ref l]/\bC H0 H l rs/\rs.length<=60/\(∀ r∈rs,r≠[])/\∀ H',af H H'->Q (.int (aB (ku rs) rs.length:Nat)) H'
def tP (H:Hp) (w n:Str) (x:V) (v:Int):Prop :=
 (∃ (l:Addr) (ps:List Pair),x = .ref l/\gf H l ps/\ps.length<=40/\iK ps/\w = "bows"/\((n = "peaks"/\v=(aB (iZ ps) ps.length:Nat))\/(n = "returns"/\v=(aB (jh ps) ps.length:Nat))\/(n = "height"/\v=gc (cy (a9 ps) ps.length)))) \/
 (∃ (l:Addr) (H0:Hp) (rs:List (List Int)),x = .ref l/\bC H0 H l rs/\rs.length<=60/\rs.flatten.length < 128/\(∀ r∈rs,r.length < 64)/\ft rs=true/\w = "rooms"/\((n = "peaks"/\v=(rs.length:Nat))\/(n = "returns"/\v=(aB (ku rs) rs.length:Nat))))
theorem tP.same {H H':Hp} {w n:Str} {x:V} {v:Int} (h:tP H w n x v) (s:af H H'):tP H' w n x v:=by
 rcases h with ⟨l,ps,h0,h1,h2⟩ | ⟨l,H0,rs,h0,h1,h2⟩
 ·exact .inl ⟨l,ps,h0,h1.same s,h2⟩
 ·exact .inr ⟨l,H0,rs,h0,h1.same s,h2⟩
theorem rA {rs:List (List Int)} (h:ft rs=true):∀ r∈rs,r≠[]:=by
 intro r hr e
 have:=rM ⟨r,hr,e⟩
 rw [h] at this
 cases this
noncomputable def rl (K:PySem.W.Frag) (ca:aU):Sp:=fun vs H Q _=>∃ (w n:Str) (x:V) (v:Int),vs=[.str w,.str n,x]/\tP H w n x v/\∀ H',af H H'->Q (.int v) H'
noncomputable def tU (K:PySem.W.Frag) (_:aU):Sp:=fun vs H Q _=>∃ (w:Str) (a b:Addr) (x:V) (names:List Str) (due:List Int),vs=[.str w,.ref a,x,.ref b]/\H a=some (.lst (names.map V.str))/\H b=some (.lst (due.map V.int))/\names.length<=10/\names.length=due.length/\(∀ (j:Nat) (n:Str) (v:Int),names[j]? = some n->due[j]? = some v->tP H w n x v)/\∀ H',af H H'->Q (.bl true) H'
noncomputable def sG (K:PySem.W.Frag) (_:aU):Sp:=fun vs H Q _=>∃ (l:Addr) (ps:List Pair),vs=[.ref l]/\gf H l ps/\ps.length<=40/\∀ (p:Addr) (H':Hp),af H H'->H' p=some (.lst ([((aB (iZ ps) ps.length:Nat):Int),((aB (jh ps) ps.length:Nat):Int),gc (cy (a9 ps) ps.length)].map V.int))->Q (.ref p) H'
noncomputable def ua (K:PySem.W.Frag) (_:aU):Sp:=fun vs H Q _=>∃ (l:Addr) (H0:Hp) (rs:List (List Int)),vs=[.ref l]/\bC H0 H l rs/\rs.length<=60/\(∀ r∈rs,r≠[])/\∀ (p:Addr) (H':Hp),af H H'->H' p=some (.lst ([((rs.length:Nat):Int),((aB (ku rs) rs.length:Nat):Int)].map V.int))->Q (.ref p) H'
noncomputable def B2 (K:PySem.W.Frag) (_:aU):Sp:=fun vs H Q _=>∃ (a:Addr) (ns:List Int),vs=[.ref a]/\aq K H a (ns.map V.int)/\ns.length<=63/\∀ H',Q (.bl true) H'
section
variable {P:Program} {w:World} {K:PySem.W.Frag} {mg:Str->Option Value} {base:Heap} {ca:aU} (CA:BN K mg ca) {f:Addr} {fd:FuncData}
include CA
theorem Ct (F:ba K "_law_draws" "_law_draws" lP f fd) (bB:mg "range" = none) (aN:mg "len" = none):aD P w K mg base a8 1 f fd ["_law_script","_law_turn","_law_many"] (oF K ca):=by
 refine F.ok gn (fun vs H Q E h=>?_) (fun cdv A outer s H vs Q E hr h=>?_)
 ·obtain ⟨a,ns,t,m,rfl,hS,h63,t0,t1,m0,m1,q⟩:=h
  rfl
 obtain ⟨a,ns,t,m,rfl,hS,h63,t0,t1,m0,m1,q⟩:=h
 refine ⟨_,au (bg (i:=3) gn.nd rfl (Or.inl rfl) (aI oG (rT uQ (pv 0) uS (uF ar)) (br (aa (pv 1) ag))))
  (au (bg (i:=4) gn.nd rfl (Or.inl rfl) (br ag))
  (au (fX (bz iO (aI df (aI iF (aV bj (pv 3) ar (fun _ _=>rfl)) ar) ar) ar (bo _)) (au (jA (i:=5) gn.nd rfl (Or.inl rfl) rfl rfl (bH (pv 3)) rfl rfl rfl rfl (N:=["_law_cell"]) (.own .nil) (fun _ _ _ _ _ _=>(aO (i:=0) (by show List.Nodup (["_law_cell"]:List Str); decide +kernel) rfl (Or.inl rfl))) (fun _ _ _ _ _ _=>gP) (fun _ _ _ _ _ _=>(aI iF (pv 0) ar)))
  (au (fz PassesOwn.never rfl (eD rfl bB (aa (aI dE (pv 1) (pv 2)) ag)) (aO (i:=6) gn.nd rfl (Or.inl rfl)) (au (bg (i:=7) gn.nd rfl (Or.inl rfl) (aI df (pv 6) (aK aJ rfl aN bN (aa (pv 5) ag))))
  (au (fX (bz CN (pv 6) (pv 1) (bo _)) (ao (aR (iw PySem.F.plainAttrs_list PySem.F.slot_list_append PySem.F.type_list_append eN (pv 4) (aa (aI df (aV bj (pv 5) (pv 7) (fun _ _=>rfl)) ar) ag)))) eA)
  (ao (xi (aI iF (aV bj (pv 5) (pv 7) (fun _ _=>rfl)) ar) (yb (pv 5) (pv 7) set_list))))))
  (ao (aW (pv 4))))) eA)
  (au (fz PassesOwn.never rfl (eD rfl bB (aa (pv 2) ag)) (aO (i:=6) gn.nd rfl (Or.inl rfl)) (au (bg (i:=8) gn.nd rfl (Or.inl rfl) (aI dE (aI gC (aI gC (aI dE (pv 6) (pv 1)) (aI dE (pv 6) (pv 1))) ar) ar))
  (au (bg (i:=9) gn.nd rfl (Or.inl rfl) (aI df (aI gC (aI dE (aI df (aV bj (pv 3) (aI df (pv 6) (aK aJ rfl aN bN (aa (pv 3) ag))) (fun _ _=>rfl)) ar) (pv 8)) ar) ar))
  (au (bg (i:=9) gn.nd rfl (Or.inl rfl) (aI df (aI dE (aI gC (pv 9) (pv 9)) (aI gC ar (pv 6))) ar))
  (ao (aR (iw PySem.F.plainAttrs_list PySem.F.slot_list_append PySem.F.type_list_append eN (pv 4) (aa (aI df (aI gC (pv 9) (pv 9)) ar) ag))))))))
  (ao (aW (pv 4)))))),?_⟩
 have M:∀ x:Int,0<=x % 2147483587/\x % 2147483587 < 2147483587:=fun x=>⟨Int.emod_nonneg x (by decide),Int.emod_lt_of_pos x (by decide)⟩
 refine ⟨_,rfl,_,rfl,a,_,rfl,hS,fun p1 hp1=>⟨_,rfl,(by show 1<=sizeLine; decide),fun p2 hp2=>?_⟩⟩
 have n12:p1≠p2:=aw ae hp2
 have s1:=af.new (af.refl H) hp1 (.lst (ic (ns.map V.int) none (some 63)))
 have s2:=af.new s1 hp2 (.lst [.int t])
 have lc:(gX ns none (some 63)).length<=63:=Nat.le_trans (uy _ _ _) h63
 refine ⟨p1,p2,_,_,rfl,rfl,(ak n12).trans ae,ae,?_,fun pc hpc=>?_⟩
 ·rw [ng,List.length_map]; exact sz (by simp; omega)
 have s3:=af.new s2 hpc (.lst (ic (ns.map V.int) none (some 63)++[.int t]))
 have ecs:ic (ns.map V.int) none (some 63)++[.int t]=(gX ns none (some 63)++[t]).map V.int:=by rw [ng,List.map_append]; rfl
 have lcs:1<=(gX ns none (some 63)++[t]).length/\(gX ns none (some 63)++[t]).length<=64:=by rw [List.length_append]; constructor<;>simp<;>omega
 rw [ecs] at s3 |-
 generalize hH3:upd (upd (upd H p1 (.lst (ic (ns.map V.int) none (some 63)))) p2 (.lst [.int t])) pc (.lst ((gX ns none (some 63)++[t]).map V.int))=H3 at s3 |-
 have hc3:H3 pc=some (.lst ((gX ns none (some 63)++[t]).map V.int)):=by rw [<- hH3]; exact ae
 generalize gX ns none (some 63)++[t]=cs at hc3 lcs |-
 refine ⟨Nat.zero_le _,fun pf hpf=>?_⟩
 have s4:=af.new s3 hpf (.lst [])
 have fpf:H pf=none:=s3.free hpf
 have ncf:pc≠pf:=aw hc3 hpf
 have hc4:upd H3 pf (.lst []) pc=some (.lst (cs.map V.int)):=(ak ncf).trans hc3
 have hf4:upd H3 pf (.lst []) pf=some (.lst (([]:List Int).map V.int)):=ae
 generalize upd H3 pf (.lst [])=H4 at s4 hc4 hf4 |-
 have at0:=ff (ns:=cs) (i:=0) (by decide) (by omega)
 have lm:(cs.map V.int).length=cs.length:=List.length_map _
 refine ⟨_,rfl,pc,_,_,_,rfl,rfl,aq.of hc4,at0,_,_,rfl,rfl,⟨by decide,by decide +kernel⟩,_,_,rfl,rfl,pm (by decide),rfl,_,rfl,rF (fun _=>?_) (fun _=>?_)⟩
 ·refine ⟨_,rfl,pc,rfl,⟨_,aq.of hc4⟩,fun D hD=>xM (fun v=>match v with | .int c=>.int (c / 100000) | v=>v) (by rw [lm]; exact sz (by omega)) (aq.of hc4) hD (fun i x H' R R0 hx hb hR=>?_) ?_⟩
  ·obtain ⟨c,rfl⟩:=kG hx
   exact ⟨Ext.set rfl,rO (fI ⟨_,rfl,_,_,rfl,rfl,⟨by decide,by decide +kernel⟩,hR⟩)⟩
  ·have fD:H D=none:=s4.free hD
   have nfD:pf≠D:=aw hf4 hD
   have el:(cs.map V.int).map (fun v=>match v with | .int c=>V.int (c / 100000) | v=>v)=(cs.map (· / 100000)).map V.int:=by rw [List.map_map,List.map_map]; rfl
   rw [el]
   refine ⟨_,rfl,_,rfl,_,_,rfl,rfl,_,rfl,by omega,by omega,fC (lo:=0) (n:=(t+m).toNat) (fun i σ H'=>∃ (o1 o2 o3 o4:Option V) (ls fs:List Int),σ=[some (.ref a),some (.int t),some (.int m),some (.ref pc),some (.ref pf),some (.ref D),o1,o2,o3,o4]/\af H H'/\H' D=some (.lst (ls.map V.int))/\ls.length=cs.length/\H' pf=some (.lst (fs.map V.int))/\fs.length=i - t.toNat/\∀ x∈fs,0<=x/\x < 2147483587)
    ⟨_,_,_,_,_,[],rfl,af.new s4 hD _,ae,by simp,(ak nfD).trans hf4,by simp,by simp⟩ ?_ ?_⟩
   ·rintro i σ H5 hi ⟨o1,o2,o3,o4,ls,fs,rfl,sm,hl,ll,hf,lf,bf⟩
    have lml:(ls.map V.int).length=ls.length:=List.length_map _
    have pos:(0:Int) < (((ls.map V.int).length:Nat):Int):=by rw [lml]; omega
    have k0:=Int.emod_nonneg ((0:Int)+(i:Int)) (show (((ls.map V.int).length:Nat):Int)≠0 by omega)
    have k1:=Int.emod_lt_of_pos ((0:Int)+(i:Int)) pos
    refine ⟨_,rfl,_,rfl,D,_,rfl,.inl (aq.of hl),_,_,rfl,rfl,pos,?_⟩
    try dsimp only
    generalize ((0:Int)+(i:Int)) % (((ls.map V.int).length:Nat):Int)=k at k0 k1 |-
    rw [lml] at k1
    have atk:=ff (ns:=ls) (i:=k) k0 k1
    refine ⟨_,rfl,_,rfl,_,_,rfl,rfl,_,rfl,rF (fun c=>?_) (fun c=>?_)⟩
    ·have c':t<=(0:Int)+(i:Int):=of_decide_eq_true c
     refine ⟨_,rfl,.inl ⟨rfl,_,aq.of hf⟩,_,rfl,_,rfl,D,_,_,_,rfl,rfl,aq.of hl,atk,_,_,rfl,rfl,pm (by decide),pf,_,_,rfl,rfl,hf,by rw [List.length_map]; exact jJ (by omega),?_⟩
     have hl6:upd H5 pf (.lst (fs.map V.int++[.int (ls.getD k.toNat 0 % 2147483587)])) D=some (.lst (ls.map V.int)):=(ak (Ne.symm nfD)).trans hl
     refine ⟨_,rfl,_,rfl,D,_,_,_,rfl,rfl,aq.of hl6,atk,_,_,rfl,rfl,⟨by decide,by decide +kernel⟩,_,rfl,_,rfl,D,_,_,_,rfl,rfl,hl6,lK k0 (by rw [lml]; exact k1),?_⟩
     refine ⟨_,_,_,_,ls.set k.toNat (ls.getD k.toNat 0 / 2147483587),fs++[ls.getD k.toNat 0 % 2147483587],rfl,(sm.upd fpf _).upd fD _,?_,by simpa using ll,?_,by simp [lf]; omega,?_⟩
     ·rw [ae,List.map_set]
     ·rw [ak nfD,ae,List.map_append]; rfl
     ·intro x hx
      rcases List.mem_append.mp hx with z | z
      ·exact bf x z
      ·have:x=ls.getD k.toNat 0 % 2147483587:=by simpa using z
       rw [this]; exact M _
    ·have c':¬ t<=(0:Int)+(i:Int):=of_decide_eq_false (Bool.eq_false_iff.mpr c)
     refine ⟨_,rfl,_,rfl,D,_,_,_,rfl,rfl,aq.of hl,atk,_,_,rfl,rfl,⟨by decide,by decide +kernel⟩,_,rfl,_,rfl,D,_,_,_,rfl,rfl,hl,lK k0 (by rw [lml]; exact k1),?_⟩
     refine ⟨_,_,_,_,ls.set k.toNat (ls.getD k.toNat 0 / 2147483587),fs,rfl,sm.upd fD _,?_,by simpa using ll,(ak nfD).trans hf,by omega,bf⟩
     rw [ae,List.map_set]
   ·rintro σ H5 ⟨o1,o2,o3,o4,ls,fs,rfl,sm,hl,ll,hf,lf,bf⟩
    exact ⟨_,rfl,q pf fs H5 sm fpf hf (by omega) bf⟩
 ·refine ⟨_,rfl,_,rfl,by omega,by omega,fC (lo:=0) (n:=m.toNat) (fun i σ H'=>∃ (o1 o2 o3 o4 o5:Option V) (fs:List Int),σ=[some (.ref a),some (.int t),some (.int m),some (.ref pc),some (.ref pf),o1,o2,o3,o4,o5]/\af H H'/\H' pc=some (.lst (cs.map V.int))/\H' pf=some (.lst (fs.map V.int))/\fs.length=i/\∀ x∈fs,0<=x/\x < 2147483587)
   ⟨_,_,_,_,_,[],rfl,s4,hc4,hf4,rfl,by simp⟩ ?_ ?_⟩
  ·rintro i σ H5 hi ⟨o1,o2,o3,o4,o5,fs,rfl,sm,hc,hf,lf,bf⟩
   have pos:(0:Int) < (((cs.map V.int).length:Nat):Int):=by rw [lm]; omega
   have k0:=Int.emod_nonneg ((0:Int)+(i:Int)) (show (((cs.map V.int).length:Nat):Int)≠0 by omega)
   have k1:=Int.emod_lt_of_pos ((0:Int)+(i:Int)) pos
   have atk:=ff (ns:=cs) (i:=((0:Int)+(i:Int)) % (((cs.map V.int).length:Nat):Int)) k0 (by rw [<- lm]; exact k1)
   refine ⟨_,rfl,_,rfl,_,_,rfl,rfl,_,rfl,_,rfl,_,_,rfl,rfl,_,_,rfl,rfl,.inl ⟨by omega,by omega⟩,_,_,rfl,rfl,.inr ⟨by decide,by decide⟩,_,_,rfl,rfl,?_⟩
   refine ⟨_,rfl,_,rfl,_,rfl,pc,_,rfl,.inl (aq.of hc),_,_,rfl,rfl,pos,pc,_,_,_,rfl,rfl,aq.of hc,atk,_,_,rfl,rfl,pm (by decide),_,rfl,_,_,rfl,rfl,_,_,rfl,rfl,.inr ⟨by decide,by decide⟩,_,_,rfl,rfl,pm (by decide),?_⟩
   try dsimp only
   generalize hnu:(cs.getD (((0:Int)+(i:Int)) % (((cs.map V.int).length:Nat):Int)).toNat 0 % 2147483647+(((0:Int)+(i:Int)+t)*((0:Int)+(i:Int)+t)*7919+104729))*48271 % 2147483647=nu
   have b0:0<=nu:=by rw [<- hnu]; exact Int.emod_nonneg _ (by decide)
   have b1:nu < 2147483647:=by rw [<- hnu]; exact Int.emod_lt_of_pos _ (by decide)
   refine ⟨_,rfl,_,rfl,_,_,rfl,rfl,.inl ⟨by omega,by omega⟩,_,rfl,_,_,rfl,rfl,.inl ⟨by decide,by decide⟩,_,_,rfl,rfl,_,_,rfl,rfl,pm (by decide),?_⟩
   try dsimp only
   generalize hnv:(nu*nu+69621*((0:Int)+(i:Int))) % 2147483629=nv
   have d0:0<=nv:=by rw [<- hnv]; exact Int.emod_nonneg _ (by decide)
   have d1:nv < 2147483629:=by rw [<- hnv]; exact Int.emod_lt_of_pos _ (by decide)
   refine ⟨_,rfl,.inl ⟨rfl,_,aq.of hf⟩,_,rfl,_,rfl,_,_,rfl,rfl,.inl ⟨by omega,by omega⟩,_,_,rfl,rfl,pm (by decide),pf,_,_,rfl,rfl,hf,by rw [List.length_map]; exact jJ (by omega),?_⟩
   refine ⟨_,_,_,_,_,fs++[nv*nv % 2147483587],rfl,sm.upd fpf _,(ak ncf).trans hc,?_,by simp [lf],?_⟩
   ·rw [ae,List.map_append]; rfl
   ·intro y hy
    rcases List.mem_append.mp hy with z | z
    ·exact bf y z
    ·have:y=nv*nv % 2147483587:=by simpa using z
     rw [this]; exact M _
  ·rintro σ H5 ⟨o1,o2,o3,o4,o5,fs,rfl,sm,hc,hf,lf,bf⟩
   exact ⟨_,rfl,q pf fs H5 sm fpf hf lf bf⟩
theorem B9 (F:ba K "_law_bows" "_law_bows" kO f fd) {f0:Addr} {fd0:FuncData} (lA:Def P w K mg base "_law_draws" ["_law_script","_law_turn","_law_many"] 1 (oF K ca) f0 fd0) (bB:mg "range" = none) (aN:mg "len" = none):aD P w K mg base a8 2 f fd ["_law_script","_law_size","_law_turn"] (rq K ca):=by
 refine F.ok iD (fun vs H Q E h=>?_) (fun cdv A outer s H vs Q E hr h=>?_)
 ·obtain ⟨a,ns,n,t,rfl,hS,h63,hn,t0,t1,q⟩:=h
  rfl
 obtain ⟨a,ns,n,t,rfl,hS,h63,hn,t0,t1,q⟩:=h
 refine ⟨_,au (bg (i:=3) iD.nd rfl (Or.inl rfl) (bI lA hr (aa (pv 0) (aa (pv 2) (aa (aI dE (aI gC ar (pv 1)) ar) ag)))))
  (au (bg (i:=4) iD.nd rfl (Or.inl rfl) (aV bj (br (aa ar (aa ar (aa ar (aa ar (aa ar ag)))))) (aI df (aV bj (pv 3) (aI gC ar (pv 1)) (fun _ _=>rfl)) ar) (fun _ _=>rfl)))
  (au (bg (i:=5) iD.nd rfl (Or.inl rfl) (br ag))
  (au (bg (i:=6) iD.nd rfl (Or.inl rfl) (br ag))
  (au (fz PassesOwn.never rfl (eD rfl bB (aa (aI gC ar (pv 1)) ag)) (aO (i:=7) iD.nd rfl (Or.inl rfl)) (ao (fX (PW.pt (n8 (bz fY (aK aJ rfl aN bN (aa (pv 5) ag)) (pv 1) (bo _)) (my (PW.pt (lM (bz iO (aK aJ rfl aN bN (aa (pv 6) ag)) ar (bo _)) (kl (bz fY (aI df (aV bj (pv 3) (pv 7) (fun _ _=>rfl)) ar) (pv 4) (bo _)))))))) (au (aR (iw PySem.F.plainAttrs_list PySem.F.slot_list_append PySem.F.type_list_append eN (pv 6) (aa (aK aJ rfl aN bN (aa (pv 5) ag)) ag)))
  (ao (aR (iw PySem.F.plainAttrs_list PySem.F.slot_list_append PySem.F.type_list_append eN (pv 5) (aa (ud (aa (pv 7) (aa (pv 7) ag))) ag))))) (au (bg (i:=8) iD.nd rfl (Or.inl rfl) (ym PySem.F.plainAttrs_list PySem.F.slot_list_pop PySem.F.type_list_pop xK (pv 6)))
  (ao (xi (ud (aa (aV nN (aV bj (pv 5) (pv 8) (fun _ _=>rfl)) ar (fun _ _=>rfl)) (aa (pv 7) ag))) (yb (pv 5) (pv 8) set_list)))))))
  (ao (aW (pv 5))))))),?_⟩
 refine ⟨_,rfl,_,rfl,_,rfl,_,_,rfl,rfl,.inl ⟨by decide,by decide⟩,_,_,rfl,rfl,a,ns,t,_,rfl,hS,h63,t0,by omega,by omega,by omega,fun pd xs H1 sm1 fd hd lx bx=>?_⟩
 have lx':xs.length=2*n+1:=by omega
 have atz:=ff (ns:=xs) (i:=2*(n:Int)) (by omega) (by omega)
 refine ⟨sz (n:=5) (by decide),fun pk hpk=>?_⟩
 have npk:pd≠pk:=aw hd hpk
 have s1:=af.new sm1 hpk (.lst [.int 0,.int 3,.int 4,.int 5,.int 7])
 have hd2:upd H1 pk (.lst [.int 0,.int 3,.int 4,.int 5,.int 7]) pd=some (.lst (xs.map V.int)):=(ak npk).trans hd
 have e0:=Int.emod_nonneg (xs.getD (2*(n:Int)).toNat 0) (show (5:Int)≠0 by decide)
 have e1:=Int.emod_lt_of_pos (xs.getD (2*(n:Int)).toNat 0) (show (0:Int) < 5 by decide)
 refine ⟨_,rfl,_,rfl,_,_,rfl,rfl,.inl ⟨by decide,by decide⟩,pd,_,_,_,rfl,rfl,aq.of hd2,atz,_,_,rfl,rfl,pm (by decide),?_⟩
 try dsimp only
 generalize xs.getD (2*(n:Int)).toNat 0 % 5=e at e0 e1 |-
 obtain ⟨st,est⟩:∃ st:Int,gi [V.int 0,.int 3,.int 4,.int 5,.int 7] e=some (.int st):=by
  rcases (by omega:e=0\/e=1\/e=2\/e=3\/e=4) with rfl | rfl | rfl | rfl | rfl
  all_goals exact ⟨_,rfl⟩
 refine ⟨pk,_,_,_,rfl,rfl,aq.of ae,est,?_⟩
 generalize upd H1 pk (.lst [.int 0,.int 3,.int 4,.int 5,.int 7])=H2 at s1 hd2 |-
 refine ⟨Nat.zero_le _,fun pb hpb=>⟨Nat.zero_le _,fun pp hpp=>?_⟩⟩
 have s2:=af.new s1 hpb (.lst [])
 have s3:=af.new s2 hpp (.lst [])
 have fpb:H pb=none:=s1.free hpb
 have fpp:H pp=none:=s2.free hpp
 have ndb:pd≠pb:=aw hd2 hpb
 have ndp:pd≠pp:=aw ((ak ndb).trans hd2) hpp
 have nbp:pb≠pp:=aw ae hpp
 refine ⟨_,rfl,_,_,rfl,rfl,.inl ⟨by decide,by decide⟩,_,rfl,by omega,by omega,fC (lo:=0) (n:=(2*(n:Int)).toNat) (fun i σ H'=>∃ (o1 o2:Option V) (ps:List Pair) (pl:List Int) (ys:List V),σ=[some (.ref a),some (.int n),some (.int t),some (.ref pd),some (.int st),some (.ref pb),some (.ref pp),o1,o2]/\af H H'/\H' pd=some (.lst (xs.map V.int))/\H' pb=some (.lst ys)/\cL H' ys ps/\H' pp=some (.lst (pl.map V.int)) /\
   i+pl.length=2*ps.length/\ps.length<=n/\(∀ k∈pl,0<=k/\k < ps.length)/\jX i ps pl)
  ⟨_,_,[],[],[],rfl,s3,(ak ndp).trans ((ak ndb).trans hd2),(ak nbp).trans ae,.nil,ae,rfl,Nat.zero_le _,by simp,jX.nil⟩ ?_ ?_⟩
 ·rintro i σ H5 hi ⟨o1,o2,ps,pl,ys,rfl,sm,hd5,hb5,pr,hp5,hk,hle,hpl,hps⟩
  have ly:=pr.length
  have atk:=ff (ns:=xs) (i:=(0:Int)+(i:Int)) (by omega) (by omega)
  have lpm:(pl.map V.int).length=pl.length:=List.length_map _
  refine ⟨_,rfl,pb,_,rfl,.inl (aq.of hb5),_,rfl,_,_,rfl,rfl,_,rfl,?_⟩
  by_cases h1:(ys.length:Int) < (n:Int)
  ·refine gr h1 ⟨_,rfl,pp,_,rfl,.inl (aq.of hp5),rfl,_,rfl,?_⟩
   by_cases h2:pl=[]
   ·refine gr (by rw [h2]; rfl) (fI ?_)
    have h1':ps.length < n:=by omega
    refine ⟨_,rfl,.inl ⟨rfl,_,aq.of hp5⟩,_,rfl,pb,_,rfl,.inl (aq.of hb5),pp,_,_,rfl,rfl,hp5,by rw [lpm]; exact jJ (by omega),?_⟩
    have hb6:upd H5 pp (.lst (pl.map V.int++[.int (ys.length:Int)])) pb=some (.lst ys):=(ak nbp).trans hb5
    refine ⟨_,rfl,.inl ⟨rfl,_,aq.of hb6⟩,_,rfl,_,rfl,(by show 2<=sizeLine; decide),fun tt htt=>?_⟩
    have nbt:pb≠tt:=aw hb6 htt
    have npt:pp≠tt:=aw ae htt
    have ndt:pd≠tt:=aw ((ak ndp).trans hd5) htt
    have hb7:=(ak (o:=.tup [.int ((0:Int)+(i:Int)),.int ((0:Int)+(i:Int))]) nbt).trans hb6
    have pr6:=pr.updL hp5 (.lst (pl.map V.int++[.int (ys.length:Int)]))
    have pr7:=(pr6.updN htt (.tup [.int ((0:Int)+(i:Int)),.int ((0:Int)+(i:Int))])).snoc (t:=tt) (p:=((0:Int)+(i:Int),(0:Int)+(i:Int))) ae
    refine ⟨pb,_,_,rfl,rfl,hb7,jJ (by omega),?_⟩
    refine ⟨_,_,ps++[((0:Int)+(i:Int),(0:Int)+(i:Int))],pl++[(ys.length:Int)],ys++[.ref tt],rfl,(af.new (sm.upd fpp _) htt _).upd fpb _,(ak ndb).trans ((ak ndt).trans ((ak ndp).trans hd5)),ae,pr7.updL hb7 _,(ak (Ne.symm nbp)).trans ((ak npt).trans (by rw [ae,List.map_append]; rfl)),?_,?_,?_,?_⟩
    ·rw [List.length_append,List.length_append]; show i+1+(pl.length+1)=2*(ps.length+1); omega
    ·rw [List.length_append]; show ps.length+1<=n; omega
    ·intro k hk'
     rw [List.length_append]
     show 0<=k/\k < ((ps.length+1:Nat):Int)
     rcases List.mem_append.mp hk' with z | z
     ·have:=hpl k z; omega
     ·have:k=(ys.length:Int):=by simpa using z
      omega
    ·have:=hps.push; rw [<- ly] at this; exact this
   ·refine gu (fun z=>h2 (by injection z with z; exact List.eq_nil_of_length_eq_zero (by omega))) ⟨_,rfl,_,rfl,pd,_,_,_,rfl,rfl,aq.of hd5,atk,_,_,rfl,rfl,pm (by decide),_,rfl,_,_,rfl,rfl,_,rfl,rF (fun _=>?_) (fun _=>?_)⟩
    ·skip
     have h1':ps.length < n:=by omega
     refine ⟨_,rfl,.inl ⟨rfl,_,aq.of hp5⟩,_,rfl,pb,_,rfl,.inl (aq.of hb5),pp,_,_,rfl,rfl,hp5,by rw [lpm]; exact jJ (by omega),?_⟩
     have hb6:upd H5 pp (.lst (pl.map V.int++[.int (ys.length:Int)])) pb=some (.lst ys):=(ak nbp).trans hb5
     refine ⟨_,rfl,.inl ⟨rfl,_,aq.of hb6⟩,_,rfl,_,rfl,(by show 2<=sizeLine; decide),fun tt htt=>?_⟩
     have nbt:pb≠tt:=aw hb6 htt
     have npt:pp≠tt:=aw ae htt
     have ndt:pd≠tt:=aw ((ak ndp).trans hd5) htt
     have hb7:=(ak (o:=.tup [.int ((0:Int)+(i:Int)),.int ((0:Int)+(i:Int))]) nbt).trans hb6
     have pr6:=pr.updL hp5 (.lst (pl.map V.int++[.int (ys.length:Int)]))
     have pr7:=(pr6.updN htt (.tup [.int ((0:Int)+(i:Int)),.int ((0:Int)+(i:Int))])).snoc (t:=tt) (p:=((0:Int)+(i:Int),(0:Int)+(i:Int))) ae
     refine ⟨pb,_,_,rfl,rfl,hb7,jJ (by omega),?_⟩
     refine ⟨_,_,ps++[((0:Int)+(i:Int),(0:Int)+(i:Int))],pl++[(ys.length:Int)],ys++[.ref tt],rfl,(af.new (sm.upd fpp _) htt _).upd fpb _,(ak ndb).trans ((ak ndt).trans ((ak ndp).trans hd5)),ae,pr7.updL hb7 _,(ak (Ne.symm nbp)).trans ((ak npt).trans (by rw [ae,List.map_append]; rfl)),?_,?_,?_,?_⟩
     ·rw [List.length_append,List.length_append]; show i+1+(pl.length+1)=2*(ps.length+1); omega
     ·rw [List.length_append]; show ps.length+1<=n; omega
     ·intro k hk'
      rw [List.length_append]
      show 0<=k/\k < ((ps.length+1:Nat):Int)
      rcases List.mem_append.mp hk' with z | z
      ·have:=hpl k z; omega
      ·have:k=(ys.length:Int):=by simpa using z
       omega
     ·have:=hps.push; rw [<- ly] at this; exact this
    ·have hne:pl≠[]:=h2
     obtain ⟨pl0,m,rfl⟩:∃ pl0 m,pl=pl0++[m]:=⟨pl.dropLast,pl.getLast hne,(List.dropLast_concat_getLast hne).symm⟩
     have hm:=hpl m (by simp)
     have lp0:(pl0++[m]).length=pl0.length+1:=by simp
     have hm':m.toNat < ps.length:=by omega
     have hmy:m.toNat < ys.length:=by omega
     have hlast:((pl0++[m]).map V.int)[((pl0++[m]).map V.int).length - 1]? = some (.int m):=by
      rw [List.length_map,lp0,List.map_append,Nat.add_sub_cancel,List.getElem?_append_right (by simp)]
      simp
     have hdl:((pl0++[m]).map V.int).dropLast=pl0.map V.int:=by rw [List.map_append]; exact List.dropLast_concat
     refine ⟨_,rfl,.inl ⟨rfl,_,aq.of hp5⟩,pp,_,_,rfl,rfl,hp5,hlast,?_⟩
     rw [hdl]
     have hb6:upd H5 pp (.lst (pl0.map V.int)) pb=some (.lst ys):=(ak nbp).trans hb5
     have pr6:=pr.updL hp5 (.lst (pl0.map V.int))
     obtain ⟨pq,tq,hpq,hyq,htq⟩:=pr6.get (List.getElem?_eq_getElem hmy)
     have aty:gi ys m=some (.ref tq):=by
      have:=gW (xs:=ys) (j:=m.toNat) (by rw [List.getElem?_eq_getElem hmy,hyq])
      rw [show ((m.toNat:Nat):Int)=m by omega] at this
      exact this
     refine ⟨_,rfl,_,rfl,pb,_,_,_,rfl,rfl,aq.of hb6,aty,tq,_,_,_,rfl,rfl,eE.of htq,(rfl:gi [V.int pq.1,V.int pq.2] 0=some _),_,rfl,(by show 2<=sizeLine; decide),fun tt htt=>?_⟩
     have nbt:pb≠tt:=aw hb6 htt
     have npt:pp≠tt:=aw ae htt
     have ndt:pd≠tt:=aw ((ak ndp).trans hd5) htt
     have hb7:=(ak (o:=.tup [.int pq.1,.int ((0:Int)+(i:Int))]) nbt).trans hb6
     refine ⟨_,rfl,_,rfl,pb,_,_,_,rfl,rfl,hb7,lK hm.1 (by omega),?_⟩
     have pr7:=cL.set (t:=tt) (p:=(pq.1,(0:Int)+(i:Int))) ae m.toNat (pr6.updN htt (.tup [.int pq.1,.int ((0:Int)+(i:Int))]))
     refine ⟨_,_,ps.set m.toNat (pq.1,(0:Int)+(i:Int)),pl0,ys.set m.toNat (.ref tt),rfl,(af.new (sm.upd fpp _) htt _).upd fpb _,(ak ndb).trans ((ak ndt).trans ((ak ndp).trans hd5)),ae,pr7.updL hb7 _,(ak (Ne.symm nbp)).trans ((ak npt).trans ae),?_,?_,?_,?_⟩
     ·rw [List.length_set]; omega
     ·rw [List.length_set]; exact hle
     ·intro k hk'
      rw [List.length_set]
      exact hpl k (by simp [hk'])
     ·exact hps.pop hpq
  ·refine gu h1 (fJ ?_)
   have hne:pl≠[]:=by
    intro z
    subst z
    simp at hk
    omega
   obtain ⟨pl0,m,rfl⟩:∃ pl0 m,pl=pl0++[m]:=⟨pl.dropLast,pl.getLast hne,(List.dropLast_concat_getLast hne).symm⟩
   have hm:=hpl m (by simp)
   have lp0:(pl0++[m]).length=pl0.length+1:=by simp
   have hm':m.toNat < ps.length:=by omega
   have hmy:m.toNat < ys.length:=by omega
   have hlast:((pl0++[m]).map V.int)[((pl0++[m]).map V.int).length - 1]? = some (.int m):=by
    rw [List.length_map,lp0,List.map_append,Nat.add_sub_cancel,List.getElem?_append_right (by simp)]
    simp
   have hdl:((pl0++[m]).map V.int).dropLast=pl0.map V.int:=by rw [List.map_append]; exact List.dropLast_concat
   refine ⟨_,rfl,.inl ⟨rfl,_,aq.of hp5⟩,pp,_,_,rfl,rfl,hp5,hlast,?_⟩
   rw [hdl]
   have hb6:upd H5 pp (.lst (pl0.map V.int)) pb=some (.lst ys):=(ak nbp).trans hb5
   have pr6:=pr.updL hp5 (.lst (pl0.map V.int))
   obtain ⟨pq,tq,hpq,hyq,htq⟩:=pr6.get (List.getElem?_eq_getElem hmy)
   have aty:gi ys m=some (.ref tq):=by
    have:=gW (xs:=ys) (j:=m.toNat) (by rw [List.getElem?_eq_getElem hmy,hyq])
    rw [show ((m.toNat:Nat):Int)=m by omega] at this
    exact this
   refine ⟨_,rfl,_,rfl,pb,_,_,_,rfl,rfl,aq.of hb6,aty,tq,_,_,_,rfl,rfl,eE.of htq,(rfl:gi [V.int pq.1,V.int pq.2] 0=some _),_,rfl,(by show 2<=sizeLine; decide),fun tt htt=>?_⟩
   have nbt:pb≠tt:=aw hb6 htt
   have npt:pp≠tt:=aw ae htt
   have ndt:pd≠tt:=aw ((ak ndp).trans hd5) htt
   have hb7:=(ak (o:=.tup [.int pq.1,.int ((0:Int)+(i:Int))]) nbt).trans hb6
   refine ⟨_,rfl,_,rfl,pb,_,_,_,rfl,rfl,hb7,lK hm.1 (by omega),?_⟩
   have pr7:=cL.set (t:=tt) (p:=(pq.1,(0:Int)+(i:Int))) ae m.toNat (pr6.updN htt (.tup [.int pq.1,.int ((0:Int)+(i:Int))]))
   refine ⟨_,_,ps.set m.toNat (pq.1,(0:Int)+(i:Int)),pl0,ys.set m.toNat (.ref tt),rfl,(af.new (sm.upd fpp _) htt _).upd fpb _,(ak ndb).trans ((ak ndt).trans ((ak ndp).trans hd5)),ae,pr7.updL hb7 _,(ak (Ne.symm nbp)).trans ((ak npt).trans ae),?_,?_,?_,?_⟩
   ·rw [List.length_set]; omega
   ·rw [List.length_set]; exact hle
   ·intro k hk'
    rw [List.length_set]
    exact hpl k (by simp [hk'])
   ·exact hps.pop hpq
 ·rintro σ H5 ⟨o1,o2,ps,pl,ys,rfl,sm,hd5,hb5,pr,hp5,hk,hle,hpl,hps⟩
  refine ⟨_,rfl,q pb ps H5 sm fpb ⟨ys,hb5,pr⟩ (by omega) ?_⟩
  obtain rfl:pl=[]:=List.eq_nil_of_length_eq_zero (by omega)
  rw [show (2*(n:Int)).toNat=2*n by omega] at hps
  exact hps.bows (by omega)
theorem BD (F:ba K "_law_cell_at" "_law_cell_at" kU f fd) (aN:mg "len" = none):aD P w K mg base a8 1 f fd ["_law_script","_law_k"] (sU K ca):=by
 refine F.ok Av (fun vs H Q E h=>?_) (fun cdv A outer s H vs Q E hr h=>?_)
 ·obtain ⟨a,ns,k,rfl,hS,h0,q⟩:=h
  rfl
 obtain ⟨a,ns,k,rfl,hS,h0,q⟩:=h
 refine ⟨_,au (fX (bz fY (pv 1) (aK aJ rfl aN bN (aa (pv 0) ag)) (bo _)) (ao (aW (aV bj (pv 0) (pv 1) (fun _ _=>rfl)))) eA)
  (ao (aW ar)),?_⟩
 have hl:(ns.map V.int).length=ns.length:=List.length_map _
 refine ⟨_,rfl,_,rfl,a,_,rfl,.inl hS,_,_,rfl,rfl,_,rfl,rF (fun c=>?_) (fun c=>?_)⟩
 ·have c':k < (((ns.map V.int).length:Nat):Int):=of_decide_eq_true c
  rw [hl] at c'
  exact ⟨_,rfl,_,rfl,a,_,_,_,rfl,rfl,hS,ff h0 c',q⟩
 ·have c':¬ k < (((ns.map V.int).length:Nat):Int):=of_decide_eq_false (Bool.eq_false_iff.mpr c)
  rw [hl] at c'
  have e:ns.getD k.toNat 0=0:=by rw [List.getD_eq_getElem?_getD,List.getElem?_eq_none (by omega)]; rfl
  rw [e] at q
  exact q
theorem AW (F:ba K "_law_rooms" "_law_rooms" lB f fd) {f0:Addr} {fd0:FuncData} (lA:Def P w K mg base "_law_draws" ["_law_script","_law_turn","_law_many"] 1 (oF K ca) f0 fd0) (bB:mg "range" = none) (vC:mg "min" = none) (aN:mg "len" = none):aD P w K mg base a8 2 f fd ["_law_script","_law_size","_law_turn"] (rZ K ca):=by
 refine F.ok hG (fun vs H Q E h=>?_) (fun cdv A outer s H vs Q E hr h=>?_)
 ·obtain ⟨a,ns,n,t,rfl,hS,h63,hn,t0,t1,q⟩:=h
  rfl
 obtain ⟨a,ns,n,t,rfl,hS,h63,hn,t0,t1,q⟩:=h
 refine ⟨_,au (bg (i:=3) hG.nd rfl (Or.inl rfl) (bI lA hr (aa (pv 0) (aa (pv 2) (aa (aI dE (pv 1) ar) ag)))))
  (au (bg (i:=4) hG.nd rfl (Or.inl rfl) (aI BM (aI df (aV bj (pv 3) (pv 1) (fun _ _=>rfl)) ar) ar))
  (au (bg (i:=5) hG.nd rfl (Or.inl rfl) (aV bj (br (aa (br (aa ar (aa ar (aa ar (aa ar ag))))) (aa (br (aa ar (aa ar (aa ar (aa ar ag))))) (aa (br (aa ar (aa ar (aa ar (aa ar ag))))) ag)))) (aI df (aI iF (aV bj (pv 3) (pv 1) (fun _ _=>rfl)) ar) ar) (fun _ _=>rfl)))
  (au (bg (i:=6) hG.nd rfl (Or.inl rfl) (br ag))
  (au (bg (i:=7) hG.nd rfl (Or.inl rfl) (br ag))
  (au (fz PassesOwn.never rfl (eD rfl bB (aa (pv 1) ag)) (aO (i:=8) hG.nd rfl (Or.inl rfl)) (au (fz PassesOwn.never rfl (eD rfl bB (aa (aK (xn rfl) rfl vC Cm (aa (aV bj (pv 5) (aI df (aV bj (pv 3) (pv 8) (fun _ _=>rfl)) ar) (fun _ _=>rfl)) (aa (aK aJ rfl aN bN (aa (pv 7) ag)) ag))) ag)) (aO (i:=9) hG.nd rfl (Or.inl rfl)) (ao (aR (ym PySem.F.plainAttrs_list PySem.F.slot_list_pop PySem.F.type_list_pop xK (pv 7)))))
  (ao (fX (PW.pt (lM (bz iO (aK aJ rfl aN bN (aa (pv 7) ag)) ar (bo _)) (kl (bz Dg (aI df (aI iF (aV bj (pv 3) (pv 8) (fun _ _=>rfl)) ar) ar) (pv 4) (bo _))))) (au (aR (iw PySem.F.plainAttrs_list PySem.F.slot_list_append PySem.F.type_list_append eN (pv 7) (aa (aK aJ rfl aN bN (aa (pv 6) ag)) ag)))
  (ao (aR (iw PySem.F.plainAttrs_list PySem.F.slot_list_append PySem.F.type_list_append eN (pv 6) (aa (br (aa (pv 8) ag)) ag))))) (ao (aR (iw PySem.F.plainAttrs_list PySem.F.slot_list_append PySem.F.type_list_append eN (aV bj (pv 6) (aV bj (pv 7) (nY jT ar) (fun _ _=>rfl)) (fun _ _=>rfl)) (aa (pv 8) ag))))))))
  (ao (aW (pv 6)))))))),?_⟩
 refine ⟨_,rfl,_,rfl,_,rfl,_,_,rfl,rfl,a,ns,t,_,rfl,hS,h63,t0,by omega,by omega,by omega,fun pd xs H1 sm1 fd hd lx bx=>?_⟩
 have lx':xs.length=n+1:=by omega
 have atz:=ff (ns:=xs) (i:=(n:Int)) (by omega) (by omega)
 refine ⟨_,rfl,_,rfl,pd,_,_,_,rfl,rfl,aq.of hd,atz,_,_,rfl,rfl,pm (by decide),_,_,rfl,rfl,?_⟩
 try dsimp only
 generalize xs.getD (n:Int).toNat 0 % 6 - 1=le
 refine ⟨sz (n:=4) (by decide),fun q1 hq1=>⟨sz (n:=4) (by decide),fun q2 hq2=>⟨sz (n:=4) (by decide),fun q3 hq3=>⟨sz (n:=3) (by decide),fun qo hqo=>?_⟩⟩⟩⟩
 have s1:=af.new sm1 hq1 (.lst [.int 0,.int 0,.int 0,.int 0])
 have s2:=af.new s1 hq2 (.lst [.int 0,.int 0,.int 1,.int 2])
 have s3:=af.new s2 hq3 (.lst [.int 0,.int 1,.int 1,.int 3])
 have s4:=af.new s3 hqo (.lst [.ref q1,.ref q2,.ref q3])
 have k1:=af.new (af.refl _) hq2 (.lst [.int 0,.int 0,.int 1,.int 2])
 have k2:=af.new (af.refl _) hq3 (.lst [.int 0,.int 1,.int 1,.int 3])
 have k3:=af.new (af.refl _) hqo (.lst [.ref q1,.ref q2,.ref q3])
 have hd2:=(af.new (af.new (af.new (af.new (af.refl H1) hq1 (.lst [.int 0,.int 0,.int 0,.int 0])) hq2 (.lst [.int 0,.int 0,.int 1,.int 2])) hq3 (.lst [.int 0,.int 1,.int 1,.int 3])) hqo (.lst [.ref q1,.ref q2,.ref q3])) _ _ hd
 have w1:=k3 _ _ (k2 _ _ (k1 _ _ (ae (H:=H1) (a:=q1) (o:=.lst [.int 0,.int 0,.int 0,.int 0]))))
 have w2:=k3 _ _ (k2 _ _ (ae (H:=upd H1 q1 (.lst [.int 0,.int 0,.int 0,.int 0])) (a:=q2) (o:=.lst [.int 0,.int 0,.int 1,.int 2])))
 have w3:=k3 _ _ (ae (H:=upd (upd H1 q1 (.lst [.int 0,.int 0,.int 0,.int 0])) q2 (.lst [.int 0,.int 0,.int 1,.int 2])) (a:=q3) (o:=.lst [.int 0,.int 1,.int 1,.int 3]))
 have e0:=Int.emod_nonneg (xs.getD (n:Int).toNat 0 / 6) (show (3:Int)≠0 by decide)
 have e1:=Int.emod_lt_of_pos (xs.getD (n:Int).toNat 0 / 6) (show (0:Int) < 3 by decide)
 refine ⟨_,rfl,_,rfl,pd,_,_,_,rfl,rfl,aq.of hd2,atz,_,_,rfl,rfl,⟨by decide,by decide +kernel⟩,_,_,rfl,rfl,pm (by decide),?_⟩
 try dsimp only
 generalize xs.getD (n:Int).toNat 0 / 6 % 3=e at e0 e1 |-
 have hqo':upd (upd (upd (upd H1 q1 (.lst [.int 0,.int 0,.int 0,.int 0])) q2 (.lst [.int 0,.int 0,.int 1,.int 2])) q3 (.lst [.int 0,.int 1,.int 1,.int 3])) qo (.lst [.ref q1,.ref q2,.ref q3]) qo=some (.lst [.ref q1,.ref q2,.ref q3]):=ae
 generalize upd (upd (upd (upd H1 q1 (.lst [.int 0,.int 0,.int 0,.int 0])) q2 (.lst [.int 0,.int 0,.int 1,.int 2])) q3 (.lst [.int 0,.int 1,.int 1,.int 3])) qo (.lst [.ref q1,.ref q2,.ref q3])=H2 at s4 hd2 w1 w2 w3 hqo' |-
 obtain ⟨po,us,est,hpo,lu,bu⟩:∃ (po:Addr) (us:List Int),gi [V.ref q1,.ref q2,.ref q3] e=some (.ref po)/\H2 po=some (.lst (us.map V.int))/\us.length=4/\∀ x∈us,0<=x/\x<=3:=by
  rcases (by omega:e=0\/e=1\/e=2) with rfl | rfl | rfl
  ·exact ⟨q1,[0,0,0,0],rfl,w1,rfl,by decide⟩
  ·exact ⟨q2,[0,0,1,2],rfl,w2,rfl,by decide⟩
  ·exact ⟨q3,[0,1,1,3],rfl,w3,rfl,by decide⟩
 refine ⟨qo,_,_,_,rfl,rfl,aq.of hqo',est,?_⟩
 refine ⟨Nat.zero_le _,fun pr hpr=>⟨Nat.zero_le _,fun pp hpp=>?_⟩⟩
 have z1:=af.new (af.refl H2) hpr (.lst [])
 have z2:=af.new z1 hpp (.lst [])
 have fpr:H2 pr=none:=hpr
 have fpp:H2 pp=none:=z1.free hpp
 have nrp:pr≠pp:=aw ae hpp
 have hsr:upd (upd H2 pr (.lst [])) pp (.lst []) pr=some (.lst []):=(ak nrp).trans ae
 have hsp:upd (upd H2 pr (.lst [])) pp (.lst []) pp=some (.lst []):=ae
 generalize hHs:upd (upd H2 pr (.lst [])) pp (.lst [])=Hs at z2 hsr hsp |-
 refine ⟨_,rfl,_,rfl,by omega,by omega,fC (lo:=0) (n:=(n:Int).toNat) (fun i σ H'=>∃ (o1 o2:Option V) (rs:List (List Int)) (p:List Nat),σ=[some (.ref a),some (.int n),some (.int t),some (.ref pd),some (.int le),some (.ref po),some (.ref pr),some (.ref pp),o1,o2]/\af H2 H'/\bC Hs H' pr rs/\H' pp=some (.lst (p.map (fun m:Nat=>V.int m)))/\gH rs p i/\gK Hs H')
  ⟨_,_,[],[],rfl,z2,.nil hsr,hsp,.start,gK.refl Hs⟩ ?_ ?_⟩
 ·rintro i σ H5 hi ⟨o1,o2,rs,p,rfl,sm5,ll5,hp5,rom5,ss5⟩
  have hi':i < n:=by omega
  have atk:=ff (ns:=xs) (i:=(0:Int)+(i:Int)) (by omega) (by omega)
  have f0:=Int.emod_nonneg (xs.getD ((0:Int)+(i:Int)).toNat 0) (show (4:Int)≠0 by decide)
  have f1:=Int.emod_lt_of_pos (xs.getD ((0:Int)+(i:Int)).toNat 0) (show (0:Int) < 4 by decide)
  have atu:=ff (ns:=us) (i:=xs.getD ((0:Int)+(i:Int)).toNat 0 % 4) f0 (by omega)
  have bv:0<=us.getD (xs.getD ((0:Int)+(i:Int)).toNat 0 % 4).toNat 0/\us.getD (xs.getD ((0:Int)+(i:Int)).toNat 0 % 4).toNat 0<=3:=by
   have hlt:(xs.getD ((0:Int)+(i:Int)).toNat 0 % 4).toNat < us.length:=by omega
   rw [List.getD_eq_getElem?_getD,List.getElem?_eq_getElem hlt]
   exact bu _ (List.getElem_mem hlt)
  obtain ⟨c,ec,hc⟩:∃ c:Nat,(if (((p.map (fun m:Nat=>V.int m)).length:Nat):Int) < us.getD (xs.getD ((0:Int)+(i:Int)).toNat 0 % 4).toNat 0 then (((p.map (fun m:Nat=>V.int m)).length:Nat):Int) else us.getD (xs.getD ((0:Int)+(i:Int)).toNat 0 % 4).toNat 0)=(c:Int)/\c<=p.length:=by
   generalize us.getD (xs.getD ((0:Int)+(i:Int)).toNat 0 % 4).toNat 0=v at bv |-
   rw [List.length_map]
   split
   ·exact ⟨p.length,rfl,Nat.le_refl _⟩
   ·exact ⟨v.toNat,by omega,by omega⟩
  have lens5:=rom5.lens
  refine ⟨_,rfl,_,rfl,_,rfl,pd,_,_,_,rfl,rfl,aq.of (sm5 _ _ hd2),atk,_,_,rfl,rfl,pm (by decide),po,_,_,_,rfl,rfl,aq.of (sm5 _ _ hpo),atu,_,rfl,pp,_,rfl,.inl (aq.of hp5),_,_,rfl,(c:Int),congrArg (fun z=>[V.int z]) ec,by omega,by omega,fC (lo:=0) (n:=(c:Int).toNat) (fun j σ H'=>∃ (o:Option V) (p':List Nat),σ=[some (.ref a),some (.int n),some (.int t),some (.ref pd),some (.int le),some (.ref po),some (.ref pr),some (.ref pp),some (.int ((0:Int)+(i:Int))),o]/\af H2 H'/\bC Hs H' pr rs/\H' pp=some (.lst (p'.map (fun m:Nat=>V.int m)))/\gH rs p' i/\gK Hs H'/\p'.length+j=p.length)
   ⟨_,p,rfl,sm5,ll5,hp5,rom5,ss5,rfl⟩ ?_ ?_⟩
  ·rintro j σ H6 hj ⟨o,p',rfl,sm6,ll6,hp6,rom6,ss6,lp⟩
   have hne:p'≠[]:=fun z=>by rw [z] at lp; simp at lp; omega
   obtain ⟨pl0,m,rfl⟩:∃ pl0 m,p'=pl0++[m]:=⟨p'.dropLast,p'.getLast hne,(List.dropLast_concat_getLast hne).symm⟩
   have lp0:(pl0++[m]).length=pl0.length+1:=by simp
   have hlast:((pl0++[m]).map (fun m:Nat=>V.int m))[((pl0++[m]).map (fun m:Nat=>V.int m)).length - 1]? = some (.int m):=by
    rw [List.length_map,lp0,List.map_append,Nat.add_sub_cancel,List.getElem?_append_right (by simp)]
    simp
   have hdl:((pl0++[m]).map (fun m:Nat=>V.int m)).dropLast=pl0.map (fun m:Nat=>V.int m):=by rw [List.map_append]; exact List.dropLast_concat
   refine ⟨_,rfl,.inl ⟨rfl,_,aq.of hp6⟩,pp,_,_,rfl,rfl,hp6,hlast,?_⟩
   rw [hdl]
   exact ⟨_,pl0,rfl,sm6.upd fpp _,ll6.updC hsp nrp,ae,rom6.shut,ss6.upd pp _,by omega⟩
  ·rintro σ H6 ⟨o,p6,rfl,sm6,ll6,hp6,rom6,ss6,lp⟩
   obtain ⟨xs6,hx6,lx6⟩:=ll6.len
   have lens6:=rom6.lens
   refine ⟨_,rfl,pp,_,rfl,.inl (aq.of hp6),rfl,_,rfl,?_⟩
   by_cases h2:p6=[]
   ·refine gr (by rw [h2]; rfl) (fI ?_)
    refine ⟨_,rfl,.inl ⟨rfl,_,aq.of hp6⟩,_,rfl,pr,_,rfl,.inl (aq.of hx6),pp,_,_,rfl,rfl,hp6,by rw [List.length_map]; exact jJ (by omega),?_⟩
    have hx7:=(ak (o:=.lst (p6.map (fun m:Nat=>V.int m)++[.int (xs6.length:Int)])) nrp).trans hx6
    refine ⟨_,rfl,.inl ⟨rfl,_,aq.of hx7⟩,_,rfl,(by show 1<=sizeLine; decide),fun b hb=>?_⟩
    have nb:pr≠b:=aw hx7 hb
    have npb:pp≠b:=aw ae hb
    have sm7:=sm6.upd fpp (.lst (p6.map (fun m:Nat=>V.int m)++[.int (xs6.length:Int)]))
    have ll7:=ll6.updC (o:=.lst (p6.map (fun m:Nat=>V.int m)++[.int (xs6.length:Int)])) hsp nrp
    have sk7:∀ q,H6 q=none->q≠pp->upd H6 pp (.lst (p6.map (fun m:Nat=>V.int m)++[.int (xs6.length:Int)])) q=none:=fun q h n=>(ak n).trans h
    refine ⟨pr,_,_,rfl,rfl,(ak nb).trans hx7,jJ (by omega),?_⟩
    have fb:Hs b=none:=by
     have e:=hb
     rw [ak (Ne.symm npb)] at e
     exact ss6.free' e
    refine ⟨_,_,rs++[[((i:Nat):Int)]],p6++[rs.length],rfl,((af.new sm7 hb _).upd fpr _),?_,?_,rom6.opn,?_⟩
    ·have:=ll7.snoc hx7 hb fb [((i:Nat):Int)]
     rw [Int.zero_add]
     exact this
    ·rw [ak (Ne.symm nrp),ak npb,ae,List.map_append,lx6]
     rfl
    ·exact ((ss6.upd pp _).new b).upd pr _
   ·refine gu (fun z=>h2 (by injection z with z; rw [List.length_map] at z; exact List.eq_nil_of_length_eq_zero (by omega))) ⟨_,rfl,_,rfl,pd,_,_,_,rfl,rfl,aq.of (sm6 _ _ hd2),atk,_,_,rfl,rfl,⟨by decide,by decide +kernel⟩,_,_,rfl,rfl,pm (by decide),_,rfl,_,_,rfl,rfl,_,rfl,rF (fun _=>?_) (fun _=>?_)⟩
    ·skip
     refine ⟨_,rfl,.inl ⟨rfl,_,aq.of hp6⟩,_,rfl,pr,_,rfl,.inl (aq.of hx6),pp,_,_,rfl,rfl,hp6,by rw [List.length_map]; exact jJ (by omega),?_⟩
     have hx7:=(ak (o:=.lst (p6.map (fun m:Nat=>V.int m)++[.int (xs6.length:Int)])) nrp).trans hx6
     refine ⟨_,rfl,.inl ⟨rfl,_,aq.of hx7⟩,_,rfl,(by show 1<=sizeLine; decide),fun b hb=>?_⟩
     have nb:pr≠b:=aw hx7 hb
     have npb:pp≠b:=aw ae hb
     have sm7:=sm6.upd fpp (.lst (p6.map (fun m:Nat=>V.int m)++[.int (xs6.length:Int)]))
     have ll7:=ll6.updC (o:=.lst (p6.map (fun m:Nat=>V.int m)++[.int (xs6.length:Int)])) hsp nrp
     have sk7:∀ q,H6 q=none->q≠pp->upd H6 pp (.lst (p6.map (fun m:Nat=>V.int m)++[.int (xs6.length:Int)])) q=none:=fun q h n=>(ak n).trans h
     refine ⟨pr,_,_,rfl,rfl,(ak nb).trans hx7,jJ (by omega),?_⟩
     have fb:Hs b=none:=by
      have e:=hb
      rw [ak (Ne.symm npb)] at e
      exact ss6.free' e
     refine ⟨_,_,rs++[[((i:Nat):Int)]],p6++[rs.length],rfl,((af.new sm7 hb _).upd fpr _),?_,?_,rom6.opn,?_⟩
     ·have:=ll7.snoc hx7 hb fb [((i:Nat):Int)]
      rw [Int.zero_add]
      exact this
     ·rw [ak (Ne.symm nrp),ak npb,ae,List.map_append,lx6]
      rfl
     ·exact ((ss6.upd pp _).new b).upd pr _
    ·obtain ⟨pl0,m,rfl⟩:∃ pl0 m,p6=pl0++[m]:=⟨p6.dropLast,p6.getLast h2,(List.dropLast_concat_getLast h2).symm⟩
     have hm:m < rs.length:=lens6.2.1 m (by simp)
     obtain ⟨b,hb1,hb2,hb3,hb4⟩:=ll6.get hx6 (List.getElem?_eq_getElem hm)
     have atl:gi ((pl0++[m]).map (fun m:Nat=>V.int m)) (-1)=some (.int m):=by rw [List.map_append]; exact sV _ _
     have hml:=lens6.2.2.2 rs[m] (List.getElem_mem hm)
     have nbp:pp≠b:=fun z=>by rw [<- z,hsp] at hb3; cases hb3
     refine ⟨_,rfl,_,rfl,_,rfl,pp,_,_,_,rfl,rfl,aq.of hp6,atl,pr,_,_,_,rfl,rfl,aq.of hx6,gW hb1,.inl ⟨rfl,_,aq.of hb2⟩,_,rfl,b,_,_,rfl,rfl,hb2,by rw [List.length_map]; exact jJ (by omega),?_⟩
     refine ⟨_,_,rs.set m (rs[m]++[((i:Nat):Int)]),pl0++[m],rfl,sm6.upd (z2.free hb3) _,?_,(ak nbp).trans hp6,rom6.put (List.getElem?_eq_getElem hm),ss6.upd b _⟩
     have:=ll6.put hx6 hb1 (rs[m]++[((i:Nat):Int)])
     rw [List.map_append] at this
     rw [Int.zero_add]
     exact this
 ·rintro σ H5 ⟨o1,o2,rs,p,rfl,sm5,ll5,hp5,rom5,ss5⟩
  exact ⟨_,rfl,q pr rs p H5 (s4.trans sm5) (s4.free fpr) (ll5.since (s4.trans z2)) rom5⟩
theorem Ba (F:ba K "__init__" "Family.__init__" lV ca.rb fd):aD P w K mg base a8 1 ca.rb fd ["self","word","least"] (rP K ca):=by
 refine F.ok BO (fun vs H Q E h=>?_) (fun cdv A outer s H vs Q E hr h=>?_)
 ·obtain ⟨x,dx,w,l,rfl,hx,q⟩:=h
  rfl
 obtain ⟨x,dx,w,l,rfl,hx,q⟩:=h
 refine ⟨_,au (bO (pv 0) (pv 1) rfl)
  (ao (bO (pv 0) (pv 2) rfl)),?_⟩
 refine ⟨_,rfl,_,rfl,x,ca.aC,dx,_,rfl,hx,CA.il,CA.bJ,(by show 0 < 1000; decide),?_⟩
 refine ⟨_,rfl,_,rfl,x,ca.aC,dx,_,rfl,ae,CA.il,CA.dc,(by show 1 < 1000; decide),?_⟩
 exact q _ _ eh (fT w l)
theorem Df (F:ba K "__init__" "SplitFamily.__init__" pj ca.vv fd) {fd0:FuncData} (v8:aE P w K mg base ["self","word","least"] 1 (rP K ca) ca.rb fd0):aD P w K mg base a8 3 ca.vv fd ["self","word"] (vm K ca):=by
 refine F.ok C7 (fun vs H Q E h=>?_) (fun cdv A outer s H vs Q E hr h=>?_)
 ·obtain ⟨x,dx,w,rfl,hx,q⟩:=h
  rfl
 obtain ⟨x,dx,w,rfl,hx,q⟩:=h
 refine ⟨_,ao (aR (fB CA.eR CA.cm_Family___init___Brackets v8 hr (aa (pv 0) (aa (pv 1) (aa ar ag))))),?_⟩
 exact ⟨_,rfl,_,rfl,x,dx,w,0,rfl,hx,fun fs H' e f=>q fs H' e f⟩
theorem BF (F:ba K "__init__" "Brackets.__init__" ml ca.qx fd) {fd0:FuncData} (yG:aE P w K mg base ["self","word"] 3 (vm K ca) ca.vv fd0):aD P w K mg base a8 5 ca.qx fd ["self"] (sH K ca):=by
 refine F.ok AF (fun vs H Q E h=>?_) (fun cdv A outer s H vs Q E hr h=>?_)
 ·obtain ⟨x,dx,rfl,hx,q⟩:=h
  rfl
 obtain ⟨x,dx,rfl,hx,q⟩:=h
 refine ⟨_,ao (aR (fB CA.cX CA.cm_SplitFamily___init___Brackets yG hr (aa (pv 0) (aa bV ag)))),?_⟩
 exact ⟨_,rfl,x,dx,_,rfl,hx,fun fs H' e f=>q fs H' e f⟩
theorem By (F:ba K "__init__" "Family.__init__" kM ca.qB fd):aD P w K mg base a8 1 ca.qB fd ["self","word","least"] (tj K ca):=by
 refine F.ok A4 (fun vs H Q E h=>?_) (fun cdv A outer s H vs Q E hr h=>?_)
 ·obtain ⟨x,dx,w,l,rfl,hx,q⟩:=h
  rfl
 obtain ⟨x,dx,w,l,rfl,hx,q⟩:=h
 refine ⟨_,au (bO (pv 0) (pv 1) rfl)
  (ao (bO (pv 0) (pv 2) rfl)),?_⟩
 refine ⟨_,rfl,_,rfl,x,ca.aH,dx,_,rfl,hx,CA.jy,CA.cE,(by show 0 < 1000; decide),?_⟩
 refine ⟨_,rfl,_,rfl,x,ca.aH,dx,_,rfl,ae,CA.jy,CA.eC,(by show 1 < 1000; decide),?_⟩
 exact q _ _ eh (fT w l)
theorem CU (F:ba K "__init__" "SplitFamily.__init__" pJ ca.v3 fd) {fd0:FuncData} (w4:aE P w K mg base ["self","word","least"] 1 (tj K ca) ca.qB fd0):aD P w K mg base a8 3 ca.v3 fd ["self","word"] (wV K ca):=by
 refine F.ok CM (fun vs H Q E h=>?_) (fun cdv A outer s H vs Q E hr h=>?_)
 ·obtain ⟨x,dx,w,rfl,hx,q⟩:=h
  rfl
 obtain ⟨x,dx,w,rfl,hx,q⟩:=h
 refine ⟨_,ao (aR (fB CA.eR CA.cm_Family___init___Stairs w4 hr (aa (pv 0) (aa (pv 1) (aa ar ag))))),?_⟩
 exact ⟨_,rfl,_,rfl,x,dx,w,0,rfl,hx,fun fs H' e f=>q fs H' e f⟩
theorem AZ (F:ba K "__init__" "Stairs.__init__" kN ca.qw fd) {fd0:FuncData} (yW:aE P w K mg base ["self","word"] 3 (wV K ca) ca.v3 fd0):aD P w K mg base a8 5 ca.qw fd ["self"] (sv K ca):=by
 refine F.ok BR (fun vs H Q E h=>?_) (fun cdv A outer s H vs Q E hr h=>?_)
 ·obtain ⟨x,dx,rfl,hx,q⟩:=h
  rfl
 obtain ⟨x,dx,rfl,hx,q⟩:=h
 refine ⟨_,ao (aR (fB CA.cX CA.cm_SplitFamily___init___Stairs yW hr (aa (pv 0) (aa bV ag)))),?_⟩
 exact ⟨_,rfl,x,dx,_,rfl,hx,fun fs H' e f=>q fs H' e f⟩
theorem B5 (F:ba K "__init__" "Family.__init__" mC ca.qz fd):aD P w K mg base a8 1 ca.qz fd ["self","word","least"] (sQ K ca):=by
 refine F.ok A2 (fun vs H Q E h=>?_) (fun cdv A outer s H vs Q E hr h=>?_)
 ·obtain ⟨x,dx,w,l,rfl,hx,q⟩:=h
  rfl
 obtain ⟨x,dx,w,l,rfl,hx,q⟩:=h
 refine ⟨_,au (bO (pv 0) (pv 1) rfl)
  (ao (bO (pv 0) (pv 2) rfl)),?_⟩
 refine ⟨_,rfl,_,rfl,x,ca.aP,dx,_,rfl,hx,CA.kI,CA.cW,(by show 0 < 1000; decide),?_⟩
 refine ⟨_,rfl,_,rfl,x,ca.aP,dx,_,rfl,ae,CA.kI,CA.eX,(by show 1 < 1000; decide),?_⟩
 exact q _ _ eh (fT w l)
theorem C6 (F:ba K "__init__" "SplitFamily.__init__" pL ca.wG fd) {fd0:FuncData} (v9:aE P w K mg base ["self","word","least"] 1 (sQ K ca) ca.qz fd0):aD P w K mg base a8 3 ca.wG fd ["self","word"] (wC K ca):=by
 refine F.ok CY (fun vs H Q E h=>?_) (fun cdv A outer s H vs Q E hr h=>?_)
 ·obtain ⟨x,dx,w,rfl,hx,q⟩:=h
  rfl
 obtain ⟨x,dx,w,rfl,hx,q⟩:=h
 refine ⟨_,ao (aR (fB CA.eR CA.cm_Family___init___Twins v9 hr (aa (pv 0) (aa (pv 1) (aa ar ag))))),?_⟩
 exact ⟨_,rfl,_,rfl,x,dx,w,0,rfl,hx,fun fs H' e f=>q fs H' e f⟩
theorem AR (F:ba K "__init__" "Twins.__init__" lZ ca.qC fd) {fd0:FuncData} (yI:aE P w K mg base ["self","word"] 3 (wC K ca) ca.wG fd0):aD P w K mg base a8 5 ca.qC fd ["self"] (rB K ca):=by
 refine F.ok BW (fun vs H Q E h=>?_) (fun cdv A outer s H vs Q E hr h=>?_)
 ·obtain ⟨x,dx,rfl,hx,q⟩:=h
  rfl
 obtain ⟨x,dx,rfl,hx,q⟩:=h
 refine ⟨_,ao (aR (fB CA.cX CA.cm_SplitFamily___init___Twins yI hr (aa (pv 0) (aa bV ag)))),?_⟩
 exact ⟨_,rfl,x,dx,_,rfl,hx,fun fs H' e f=>q fs H' e f⟩
theorem AQ (F:ba K "__init__" "Family.__init__" kT ca.qE fd):aD P w K mg base a8 1 ca.qE fd ["self","word","least"] (rJ K ca):=by
 refine F.ok B3 (fun vs H Q E h=>?_) (fun cdv A outer s H vs Q E hr h=>?_)
 ·obtain ⟨x,dx,w,l,rfl,hx,q⟩:=h
  rfl
 obtain ⟨x,dx,w,l,rfl,hx,q⟩:=h
 refine ⟨_,au (bO (pv 0) (pv 1) rfl)
  (ao (bO (pv 0) (pv 2) rfl)),?_⟩
 refine ⟨_,rfl,_,rfl,x,ca.aM,dx,_,rfl,hx,CA.ji,CA.dP,(by show 0 < 1000; decide),?_⟩
 refine ⟨_,rfl,_,rfl,x,ca.aM,dx,_,rfl,ae,CA.ji,CA.fO,(by show 1 < 1000; decide),?_⟩
 exact q _ _ eh (fT w l)
theorem C9 (F:ba K "__init__" "SplitFamily.__init__" o6 ca.vi fd) {fd0:FuncData} (wN:aE P w K mg base ["self","word","least"] 1 (rJ K ca) ca.qE fd0):aD P w K mg base a8 3 ca.vi fd ["self","word"] (vM K ca):=by
 refine F.ok Dv (fun vs H Q E h=>?_) (fun cdv A outer s H vs Q E hr h=>?_)
 ·obtain ⟨x,dx,w,rfl,hx,q⟩:=h
  rfl
 obtain ⟨x,dx,w,rfl,hx,q⟩:=h
 refine ⟨_,ao (aR (fB CA.eR CA.cm_Family___init___Bows wN hr (aa (pv 0) (aa (pv 1) (aa ar ag))))),?_⟩
 exact ⟨_,rfl,_,rfl,x,dx,w,0,rfl,hx,fun fs H' e f=>q fs H' e f⟩
theorem Cy (F:ba K "__init__" "Bows.__init__" mh ca.qu fd) {fd0:FuncData} (yD:aE P w K mg base ["self","word"] 3 (vM K ca) ca.vi fd0):aD P w K mg base a8 5 ca.qu fd ["self"] (si K ca):=by
 refine F.ok A5 (fun vs H Q E h=>?_) (fun cdv A outer s H vs Q E hr h=>?_)
 ·obtain ⟨x,dx,rfl,hx,q⟩:=h
  rfl
 obtain ⟨x,dx,rfl,hx,q⟩:=h
 refine ⟨_,ao (aR (fB CA.cX CA.cm_SplitFamily___init___Bows yD hr (aa (pv 0) (aa bV ag)))),?_⟩
 exact ⟨_,rfl,x,dx,_,rfl,hx,fun fs H' e f=>q fs H' e f⟩
theorem A3 (F:ba K "__init__" "Family.__init__" kJ ca.qZ fd):aD P w K mg base a8 1 ca.qZ fd ["self","word","least"] (r8 K ca):=by
 refine F.ok Ax (fun vs H Q E h=>?_) (fun cdv A outer s H vs Q E hr h=>?_)
 ·obtain ⟨x,dx,w,l,rfl,hx,q⟩:=h
  rfl
 obtain ⟨x,dx,w,l,rfl,hx,q⟩:=h
 refine ⟨_,au (bO (pv 0) (pv 1) rfl)
  (ao (bO (pv 0) (pv 2) rfl)),?_⟩
 refine ⟨_,rfl,_,rfl,x,ca.aG,dx,_,rfl,hx,CA.iB,CA.cV,(by show 0 < 1000; decide),?_⟩
 refine ⟨_,rfl,_,rfl,x,ca.aG,dx,_,rfl,ae,CA.iB,CA.fh,(by show 1 < 1000; decide),?_⟩
 exact q _ _ eh (fT w l)
theorem C3 (F:ba K "__init__" "SplitFamily.__init__" oZ ca.vf fd) {fd0:FuncData} (wW:aE P w K mg base ["self","word","least"] 1 (r8 K ca) ca.qZ fd0):aD P w K mg base a8 3 ca.vf fd ["self","word"] (wI K ca):=by
 refine F.ok CS (fun vs H Q E h=>?_) (fun cdv A outer s H vs Q E hr h=>?_)
 ·obtain ⟨x,dx,w,rfl,hx,q⟩:=h
  rfl
 obtain ⟨x,dx,w,rfl,hx,q⟩:=h
 refine ⟨_,ao (aR (fB CA.eR CA.cm_Family___init___Rooms wW hr (aa (pv 0) (aa (pv 1) (aa ar ag))))),?_⟩
 exact ⟨_,rfl,_,rfl,x,dx,w,0,rfl,hx,fun fs H' e f=>q fs H' e f⟩
theorem Bj (F:ba K "__init__" "Rooms.__init__" lX ca.qU fd) {fd0:FuncData} (yH:aE P w K mg base ["self","word"] 3 (wI K ca) ca.vf fd0):aD P w K mg base a8 5 ca.qU fd ["self"] (tR K ca):=by
 refine F.ok AL (fun vs H Q E h=>?_) (fun cdv A outer s H vs Q E hr h=>?_)
 ·obtain ⟨x,dx,rfl,hx,q⟩:=h
  rfl
 obtain ⟨x,dx,rfl,hx,q⟩:=h
 refine ⟨_,ao (aR (fB CA.cX CA.cm_SplitFamily___init___Rooms yH hr (aa (pv 0) (aa bV ag)))),?_⟩
 exact ⟨_,rfl,x,dx,_,rfl,hx,fun fs H' e f=>q fs H' e f⟩
theorem AB (F:ba K "__init__" "Family.__init__" lO ca.qM fd):aD P w K mg base a8 1 ca.qM fd ["self","word","least"] (rE K ca):=by
 refine F.ok A0 (fun vs H Q E h=>?_) (fun cdv A outer s H vs Q E hr h=>?_)
 ·obtain ⟨x,dx,w,l,rfl,hx,q⟩:=h
  rfl
 obtain ⟨x,dx,w,l,rfl,hx,q⟩:=h
 refine ⟨_,au (bO (pv 0) (pv 1) rfl)
  (ao (bO (pv 0) (pv 2) rfl)),?_⟩
 refine ⟨_,rfl,_,rfl,x,ca.aL,dx,_,rfl,hx,CA.jD,CA.cI,(by show 0 < 1000; decide),?_⟩
 refine ⟨_,rfl,_,rfl,x,ca.aL,dx,_,rfl,ae,CA.jD,CA.eK,(by show 1 < 1000; decide),?_⟩
 exact q _ _ eh (fT w l)
theorem Du (F:ba K "__init__" "SplitFamily.__init__" pE ca.vV fd) {fd0:FuncData} (vo:aE P w K mg base ["self","word","least"] 1 (rE K ca) ca.qM fd0):aD P w K mg base a8 3 ca.vV fd ["self","word"] (wk K ca):=by
 refine F.ok Di (fun vs H Q E h=>?_) (fun cdv A outer s H vs Q E hr h=>?_)
 ·obtain ⟨x,dx,w,rfl,hx,q⟩:=h
  rfl
 obtain ⟨x,dx,w,rfl,hx,q⟩:=h
 refine ⟨_,ao (aR (fB CA.eR CA.cm_Family___init___Floors vo hr (aa (pv 0) (aa (pv 1) (aa ar ag))))),?_⟩
 exact ⟨_,rfl,_,rfl,x,dx,w,0,rfl,hx,fun fs H' e f=>q fs H' e f⟩
theorem Be (F:ba K "__init__" "Floors.__init__" kX ca.qY fd) {fd0:FuncData} (yP:aE P w K mg base ["self","word"] 3 (wk K ca) ca.vV fd0):aD P w K mg base a8 5 ca.qY fd ["self"] (tO K ca):=by
 refine F.ok B8 (fun vs H Q E h=>?_) (fun cdv A outer s H vs Q E hr h=>?_)
 ·obtain ⟨x,dx,rfl,hx,q⟩:=h
  rfl
 obtain ⟨x,dx,rfl,hx,q⟩:=h
 refine ⟨_,ao (aR (fB CA.cX CA.cm_SplitFamily___init___Floors yP hr (aa (pv 0) (aa bV ag)))),?_⟩
 exact ⟨_,rfl,x,dx,_,rfl,hx,fun fs H' e f=>q fs H' e f⟩
theorem Bw (F:ba K "__init__" "Family.__init__" lL ca.qy fd):aD P w K mg base a8 1 ca.qy fd ["self","word","least"] (tI K ca):=by
 refine F.ok AN (fun vs H Q E h=>?_) (fun cdv A outer s H vs Q E hr h=>?_)
 ·obtain ⟨x,dx,w,l,rfl,hx,q⟩:=h
  rfl
 obtain ⟨x,dx,w,l,rfl,hx,q⟩:=h
 refine ⟨_,au (bO (pv 0) (pv 1) rfl)
  (ao (bO (pv 0) (pv 2) rfl)),?_⟩
 refine ⟨_,rfl,_,rfl,x,ca.aZ,dx,_,rfl,hx,CA.ma,CA.cZ,(by show 0 < 1000; decide),?_⟩
 refine ⟨_,rfl,_,rfl,x,ca.aZ,dx,_,rfl,ae,CA.ma,CA.fi,(by show 1 < 1000; decide),?_⟩
 exact q _ _ eh (fT w l)
theorem CV (F:ba K "__init__" "SplitFamily.__init__" pK ca.v7 fd) {fd0:FuncData} (vR:aE P w K mg base ["self","word","least"] 1 (tI K ca) ca.qy fd0):aD P w K mg base a8 3 ca.v7 fd ["self","word"] (wc K ca):=by
 refine F.ok C4 (fun vs H Q E h=>?_) (fun cdv A outer s H vs Q E hr h=>?_)
 ·obtain ⟨x,dx,w,rfl,hx,q⟩:=h
  rfl
 obtain ⟨x,dx,w,rfl,hx,q⟩:=h
 refine ⟨_,ao (aR (fB CA.eR CA.cm_Family___init___Turns vR hr (aa (pv 0) (aa (pv 1) (aa ar ag))))),?_⟩
 exact ⟨_,rfl,_,rfl,x,dx,w,0,rfl,hx,fun fs H' e f=>q fs H' e f⟩
theorem BB (F:ba K "__init__" "Turns.__init__" mw ca.qG fd) {fd0:FuncData} (yX:aE P w K mg base ["self","word"] 3 (wc K ca) ca.v7 fd0):aD P w K mg base a8 5 ca.qG fd ["self"] (tW K ca):=by
 refine F.ok Bx (fun vs H Q E h=>?_) (fun cdv A outer s H vs Q E hr h=>?_)
 ·obtain ⟨x,dx,rfl,hx,q⟩:=h
  rfl
 obtain ⟨x,dx,rfl,hx,q⟩:=h
 refine ⟨_,ao (aR (fB CA.cX CA.cm_SplitFamily___init___Turns yX hr (aa (pv 0) (aa bV ag)))),?_⟩
 exact ⟨_,rfl,x,dx,_,rfl,hx,fun fs H' e f=>q fs H' e f⟩
theorem Bp (F:ba K "split_families" "split_families" lI f fd) {fd0:FuncData} (vk:aE P w K mg base ["self"] 5 (sH K ca) ca.qx fd0) {fd1:FuncData} (vZ:aE P w K mg base ["self"] 5 (sv K ca) ca.qw fd1) {fd2:FuncData} (vO:aE P w K mg base ["self"] 5 (rB K ca) ca.qC fd2) {fd3:FuncData} (vg:aE P w K mg base ["self"] 5 (si K ca) ca.qu fd3) {fd4:FuncData} (vJ:aE P w K mg base ["self"] 5 (tR K ca) ca.qU fd4) {fd5:FuncData} (vX:aE P w K mg base ["self"] 5 (tO K ca) ca.qY fd5) {fd6:FuncData} (vy:aE P w K mg base ["self"] 5 (tW K ca) ca.qG fd6):aD P w K mg base a8 7 f fd [] (sM K ca):=by
 refine F.ok Bn (fun vs H Q E h=>?_) (fun cdv A outer s H vs Q E hr h=>?_)
 ·obtain ⟨rfl,q⟩:=h
  rfl
 obtain ⟨rfl,q⟩:=h
 refine ⟨_,ao (aW (br (aa (gq CA.mk_Brackets CA.vE vk hr) (aa (gq CA.mk_Stairs CA.yB vZ hr) (aa (gq CA.mk_Twins CA.zM vO hr) (aa (gq CA.mk_Bows CA.CF vg hr) (aa (gq CA.mk_Rooms CA.zZ vJ hr) (aa (gq CA.mk_Floors CA.yA vX hr) (aa (gq CA.mk_Turns CA.zK vy hr) ag))))))))),?_⟩
 intro x0 dx0 nx0 ndx0 nex0
 refine ⟨x0,dx0,rfl,ae,fun fs0 H1 e0 fl0=>⟨rfl,?_⟩⟩
 have s0:af H H1:=by rw [e0]; exact ((af.new (af.refl H) ndx0 _).upd nx0 _).upd nx0 _
 have hx0:H1 x0=some (.ins ca.aC dx0 fs0):=by rw [e0]; exact ae
 clear e0
 have t0:=s0
 have pr0:Paired (bU H1) [.ref x0] [("brackets",ca.aC,0)]:=.cons ⟨x0,dx0,fs0,rfl,hx0,fl0⟩ .nil
 clear s0 hx0
 intro x1 dx1 nx1 ndx1 nex1
 refine ⟨x1,dx1,rfl,ae,fun fs1 H2 e1 fl1=>⟨rfl,?_⟩⟩
 have s1:af H1 H2:=by rw [e1]; exact ((af.new (af.refl H1) ndx1 _).upd nx1 _).upd nx1 _
 have hx1:H2 x1=some (.ins ca.aH dx1 fs1):=by rw [e1]; exact ae
 clear e1
 have t1:=t0.trans s1
 have pr1:Paired (bU H2) [.ref x0,.ref x1] [("brackets",ca.aC,0),("stairs",ca.aH,0)]:=fH (cf pr0 s1) (.cons ⟨x1,dx1,fs1,rfl,hx1,fl1⟩ .nil)
 clear pr0 s1 hx1
 intro x2 dx2 nx2 ndx2 nex2
 refine ⟨x2,dx2,rfl,ae,fun fs2 H3 e2 fl2=>⟨rfl,?_⟩⟩
 have s2:af H2 H3:=by rw [e2]; exact ((af.new (af.refl H2) ndx2 _).upd nx2 _).upd nx2 _
 have hx2:H3 x2=some (.ins ca.aP dx2 fs2):=by rw [e2]; exact ae
 clear e2
 have t2:=t1.trans s2
 have pr2:Paired (bU H3) [.ref x0,.ref x1,.ref x2] [("brackets",ca.aC,0),("stairs",ca.aH,0),("twins",ca.aP,0)]:=fH (cf pr1 s2) (.cons ⟨x2,dx2,fs2,rfl,hx2,fl2⟩ .nil)
 clear pr1 s2 hx2
 intro x3 dx3 nx3 ndx3 nex3
 refine ⟨x3,dx3,rfl,ae,fun fs3 H4 e3 fl3=>⟨rfl,?_⟩⟩
 have s3:af H3 H4:=by rw [e3]; exact ((af.new (af.refl H3) ndx3 _).upd nx3 _).upd nx3 _
 have hx3:H4 x3=some (.ins ca.aM dx3 fs3):=by rw [e3]; exact ae
 clear e3
 have t3:=t2.trans s3
 have pr3:Paired (bU H4) [.ref x0,.ref x1,.ref x2,.ref x3] [("brackets",ca.aC,0),("stairs",ca.aH,0),("twins",ca.aP,0),("bows",ca.aM,0)]:=fH (cf pr2 s3) (.cons ⟨x3,dx3,fs3,rfl,hx3,fl3⟩ .nil)
 clear pr2 s3 hx3
 intro x4 dx4 nx4 ndx4 nex4
 refine ⟨x4,dx4,rfl,ae,fun fs4 H5 e4 fl4=>⟨rfl,?_⟩⟩
 have s4:af H4 H5:=by rw [e4]; exact ((af.new (af.refl H4) ndx4 _).upd nx4 _).upd nx4 _
 have hx4:H5 x4=some (.ins ca.aG dx4 fs4):=by rw [e4]; exact ae
 clear e4
 have t4:=t3.trans s4
 have pr4:Paired (bU H5) [.ref x0,.ref x1,.ref x2,.ref x3,.ref x4] [("brackets",ca.aC,0),("stairs",ca.aH,0),("twins",ca.aP,0),("bows",ca.aM,0),("rooms",ca.aG,0)]:=fH (cf pr3 s4) (.cons ⟨x4,dx4,fs4,rfl,hx4,fl4⟩ .nil)
 clear pr3 s4 hx4
 intro x5 dx5 nx5 ndx5 nex5
 refine ⟨x5,dx5,rfl,ae,fun fs5 H6 e5 fl5=>⟨rfl,?_⟩⟩
 have s5:af H5 H6:=by rw [e5]; exact ((af.new (af.refl H5) ndx5 _).upd nx5 _).upd nx5 _
 have hx5:H6 x5=some (.ins ca.aL dx5 fs5):=by rw [e5]; exact ae
 clear e5
 have t5:=t4.trans s5
 have pr5:Paired (bU H6) [.ref x0,.ref x1,.ref x2,.ref x3,.ref x4,.ref x5] [("brackets",ca.aC,0),("stairs",ca.aH,0),("twins",ca.aP,0),("bows",ca.aM,0),("rooms",ca.aG,0),("floor",ca.aL,0)]:=fH (cf pr4 s5) (.cons ⟨x5,dx5,fs5,rfl,hx5,fl5⟩ .nil)
 clear pr4 s5 hx5
 intro x6 dx6 nx6 ndx6 nex6
 refine ⟨x6,dx6,rfl,ae,fun fs6 H7 e6 fl6=>⟨rfl,?_⟩⟩
 have s6:af H6 H7:=by rw [e6]; exact ((af.new (af.refl H6) ndx6 _).upd nx6 _).upd nx6 _
 have hx6:H7 x6=some (.ins ca.aZ dx6 fs6):=by rw [e6]; exact ae
 clear e6
 have t6:=t5.trans s6
 have pr6:Paired (bU H7) [.ref x0,.ref x1,.ref x2,.ref x3,.ref x4,.ref x5,.ref x6] [("brackets",ca.aC,0),("stairs",ca.aH,0),("twins",ca.aP,0),("bows",ca.aM,0),("rooms",ca.aG,0),("floor",ca.aL,0),("turns",ca.aZ,0)]:=fH (cf pr5 s6) (.cons ⟨x6,dx6,fs6,rfl,hx6,fl6⟩ .nil)
 clear pr5 s6 hx6
 refine ⟨(by show 7<=sizeLine; decide),fun p hp=>?_⟩
 exact q p _ _ (af.new t6 hp _) (t6.free hp) ae (cf pr6 (af.new (af.refl _) hp _))
theorem A1 (F:ba K "__init__" "Family.__init__" lN ca.qt fd):aD P w K mg base a8 1 ca.qt fd ["self","word","least"] (sd K ca):=by
 refine F.ok Cw (fun vs H Q E h=>?_) (fun cdv A outer s H vs Q E hr h=>?_)
 ·obtain ⟨x,dx,w,l,rfl,hx,q⟩:=h
  rfl
 obtain ⟨x,dx,w,l,rfl,hx,q⟩:=h
 refine ⟨_,au (bO (pv 0) (pv 1) rfl)
  (ao (bO (pv 0) (pv 2) rfl)),?_⟩
 refine ⟨_,rfl,_,rfl,x,ca.aS,dx,_,rfl,hx,CA.mD,CA.cY,(by show 0 < 1000; decide),?_⟩
 refine ⟨_,rfl,_,rfl,x,ca.aS,dx,_,rfl,ae,CA.mD,CA.e8,(by show 1 < 1000; decide),?_⟩
 exact q _ _ eh (fT w l)
theorem Dm (F:ba K "__init__" "RingFamily.__init__" oP ca.wQ fd) {fd0:FuncData} (wx:aE P w K mg base ["self","word","least"] 1 (sd K ca) ca.qt fd0):aD P w K mg base a8 3 ca.wQ fd ["self","word"] (wU K ca):=by
 refine F.ok C5 (fun vs H Q E h=>?_) (fun cdv A outer s H vs Q E hr h=>?_)
 ·obtain ⟨x,dx,w,rfl,hx,q⟩:=h
  rfl
 obtain ⟨x,dx,w,rfl,hx,q⟩:=h
 refine ⟨_,ao (aR (fB CA.eR CA.cm_Family___init___Codes wx hr (aa (pv 0) (aa (pv 1) (aa ar ag))))),?_⟩
 exact ⟨_,rfl,_,rfl,x,dx,w,1,rfl,hx,fun fs H' e f=>q fs H' e f⟩
theorem Bb (F:ba K "__init__" "Codes.__init__" kL ca.qP fd) {fd0:FuncData} (yq:aE P w K mg base ["self","word"] 3 (wU K ca) ca.wQ fd0):aD P w K mg base a8 5 ca.qP fd ["self"] (tw K ca):=by
 refine F.ok CH (fun vs H Q E h=>?_) (fun cdv A outer s H vs Q E hr h=>?_)
 ·obtain ⟨x,dx,rfl,hx,q⟩:=h
  rfl
 obtain ⟨x,dx,rfl,hx,q⟩:=h
 refine ⟨_,ao (aR (fB CA.iG CA.cm_RingFamily___init___Codes yq hr (aa (pv 0) (aa bV ag)))),?_⟩
 exact ⟨_,rfl,x,dx,_,rfl,hx,fun fs H' e f=>q fs H' e f⟩
theorem Cd (F:ba K "__init__" "Family.__init__" mx ca.qJ fd):aD P w K mg base a8 1 ca.qJ fd ["self","word","least"] (rn K ca):=by
 refine F.ok A9 (fun vs H Q E h=>?_) (fun cdv A outer s H vs Q E hr h=>?_)
 ·obtain ⟨x,dx,w,l,rfl,hx,q⟩:=h
  rfl
 obtain ⟨x,dx,w,l,rfl,hx,q⟩:=h
 refine ⟨_,au (bO (pv 0) (pv 1) rfl)
  (ao (bO (pv 0) (pv 2) rfl)),?_⟩
 refine ⟨_,rfl,_,rfl,x,ca.aT,dx,_,rfl,hx,CA.kQ,CA.c0,(by show 0 < 1000; decide),?_⟩
 refine ⟨_,rfl,_,rfl,x,ca.aT,dx,_,rfl,ae,CA.kQ,CA.fc,(by show 1 < 1000; decide),?_⟩
 exact q _ _ eh (fT w l)
theorem C1 (F:ba K "__init__" "RingFamily.__init__" oJ ca.wo fd) {fd0:FuncData} (wj:aE P w K mg base ["self","word","least"] 1 (rn K ca) ca.qJ fd0):aD P w K mg base a8 3 ca.wo fd ["self","word"] (wM K ca):=by
 refine F.ok Dd (fun vs H Q E h=>?_) (fun cdv A outer s H vs Q E hr h=>?_)
 ·obtain ⟨x,dx,w,rfl,hx,q⟩:=h
  rfl
 obtain ⟨x,dx,w,rfl,hx,q⟩:=h
 refine ⟨_,ao (aR (fB CA.eR CA.cm_Family___init___Trees wj hr (aa (pv 0) (aa (pv 1) (aa ar ag))))),?_⟩
 exact ⟨_,rfl,_,rfl,x,dx,w,1,rfl,hx,fun fs H' e f=>q fs H' e f⟩
theorem CD (F:ba K "__init__" "Trees.__init__" md ca.qA fd) {fd0:FuncData} (yt:aE P w K mg base ["self","word"] 3 (wM K ca) ca.wo fd0):aD P w K mg base a8 5 ca.qA fd ["self"] (tM K ca):=by
 refine F.ok Bm (fun vs H Q E h=>?_) (fun cdv A outer s H vs Q E hr h=>?_)
 ·obtain ⟨x,dx,rfl,hx,q⟩:=h
  rfl
 obtain ⟨x,dx,rfl,hx,q⟩:=h
 refine ⟨_,ao (aR (fB CA.iG CA.cm_RingFamily___init___Trees yt hr (aa (pv 0) (aa bV ag)))),?_⟩
 exact ⟨_,rfl,x,dx,_,rfl,hx,fun fs H' e f=>q fs H' e f⟩
theorem A7 (F:ba K "__init__" "Family.__init__" mq ca.qN fd):aD P w K mg base a8 1 ca.qN fd ["self","word","least"] (sg K ca):=by
 refine F.ok Cr (fun vs H Q E h=>?_) (fun cdv A outer s H vs Q E hr h=>?_)
 ·obtain ⟨x,dx,w,l,rfl,hx,q⟩:=h
  rfl
 obtain ⟨x,dx,w,l,rfl,hx,q⟩:=h
 refine ⟨_,au (bO (pv 0) (pv 1) rfl)
  (ao (bO (pv 0) (pv 2) rfl)),?_⟩
 refine ⟨_,rfl,_,rfl,x,ca.bq,dx,_,rfl,hx,CA.oH,CA.dU,(by show 0 < 1000; decide),?_⟩
 refine ⟨_,rfl,_,rfl,x,ca.bq,dx,_,rfl,ae,CA.oH,CA.fP,(by show 1 < 1000; decide),?_⟩
 exact q _ _ eh (fT w l)
theorem Bo (F:ba K "__init__" "RingFamily.__init__" lq ca.rf fd) {fd0:FuncData} (vK:aE P w K mg base ["self","word","least"] 1 (sg K ca) ca.qN fd0):aD P w K mg base a8 3 ca.rf fd ["self","word"] (sW K ca):=by
 refine F.ok AH (fun vs H Q E h=>?_) (fun cdv A outer s H vs Q E hr h=>?_)
 ·obtain ⟨x,dx,w,rfl,hx,q⟩:=h
  rfl
 obtain ⟨x,dx,w,rfl,hx,q⟩:=h
 refine ⟨_,ao (aR (fB CA.eR CA.cm_Family___init___Cars vK hr (aa (pv 0) (aa (pv 1) (aa ar ag))))),?_⟩
 exact ⟨_,rfl,_,rfl,x,dx,w,1,rfl,hx,fun fs H' e f=>q fs H' e f⟩
theorem Ce (F:ba K "__init__" "Cars.__init__" kS ca.ra fd) {fd0:FuncData} (w6:aE P w K mg base ["self","word"] 3 (sW K ca) ca.rf fd0):aD P w K mg base a8 5 ca.ra fd ["self"] (rW K ca):=by
 refine F.ok BY (fun vs H Q E h=>?_) (fun cdv A outer s H vs Q E hr h=>?_)
 ·obtain ⟨x,dx,rfl,hx,q⟩:=h
  rfl
 obtain ⟨x,dx,rfl,hx,q⟩:=h
 refine ⟨_,ao (aR (fB CA.iG CA.cm_RingFamily___init___Cars w6 hr (aa (pv 0) (aa bV ag)))),?_⟩
 exact ⟨_,rfl,x,dx,_,rfl,hx,fun fs H' e f=>q fs H' e f⟩
theorem Cn (F:ba K "ring_families" "ring_families" mr f fd) {fd0:FuncData} (vI:aE P w K mg base ["self"] 5 (tw K ca) ca.qP fd0) {fd1:FuncData} (vB:aE P w K mg base ["self"] 5 (tM K ca) ca.qA fd1) {fd2:FuncData} (vd:aE P w K mg base ["self"] 5 (rW K ca) ca.ra fd2):aD P w K mg base a8 7 f fd [] (sN K ca):=by
 refine F.ok BK (fun vs H Q E h=>?_) (fun cdv A outer s H vs Q E hr h=>?_)
 ·obtain ⟨rfl,q⟩:=h
  rfl
 obtain ⟨rfl,q⟩:=h
 refine ⟨_,ao (aW (br (aa (gq CA.mk_Codes CA.zO vI hr) (aa (gq CA.mk_Trees CA.zN vB hr) (aa (gq CA.mk_Cars CA.Bu vd hr) ag))))),?_⟩
 intro x0 dx0 nx0 ndx0 nex0
 refine ⟨x0,dx0,rfl,ae,fun fs0 H1 e0 fl0=>⟨rfl,?_⟩⟩
 have s0:af H H1:=by rw [e0]; exact ((af.new (af.refl H) ndx0 _).upd nx0 _).upd nx0 _
 have hx0:H1 x0=some (.ins ca.aS dx0 fs0):=by rw [e0]; exact ae
 clear e0
 have t0:=s0
 have pr0:Paired (bU H1) [.ref x0] [("codes",ca.aS,1)]:=.cons ⟨x0,dx0,fs0,rfl,hx0,fl0⟩ .nil
 clear s0 hx0
 intro x1 dx1 nx1 ndx1 nex1
 refine ⟨x1,dx1,rfl,ae,fun fs1 H2 e1 fl1=>⟨rfl,?_⟩⟩
 have s1:af H1 H2:=by rw [e1]; exact ((af.new (af.refl H1) ndx1 _).upd nx1 _).upd nx1 _
 have hx1:H2 x1=some (.ins ca.aT dx1 fs1):=by rw [e1]; exact ae
 clear e1
 have t1:=t0.trans s1
 have pr1:Paired (bU H2) [.ref x0,.ref x1] [("codes",ca.aS,1),("trees",ca.aT,1)]:=fH (cf pr0 s1) (.cons ⟨x1,dx1,fs1,rfl,hx1,fl1⟩ .nil)
 clear pr0 s1 hx1
 intro x2 dx2 nx2 ndx2 nex2
 refine ⟨x2,dx2,rfl,ae,fun fs2 H3 e2 fl2=>⟨rfl,?_⟩⟩
 have s2:af H2 H3:=by rw [e2]; exact ((af.new (af.refl H2) ndx2 _).upd nx2 _).upd nx2 _
 have hx2:H3 x2=some (.ins ca.bq dx2 fs2):=by rw [e2]; exact ae
 clear e2
 have t2:=t1.trans s2
 have pr2:Paired (bU H3) [.ref x0,.ref x1,.ref x2] [("codes",ca.aS,1),("trees",ca.aT,1),("cars",ca.bq,1)]:=fH (cf pr1 s2) (.cons ⟨x2,dx2,fs2,rfl,hx2,fl2⟩ .nil)
 clear pr1 s2 hx2
 refine ⟨(by show 3<=sizeLine; decide),fun p hp=>?_⟩
 exact q p _ _ (af.new t2 hp _) (t2.free hp) ae (cf pr2 (af.new (af.refl _) hp _))
theorem BX (F:ba K "family_of" "family_of" lG f fd) {f0:Addr} {fd0:FuncData} (wg:Def P w K mg base "split_families" [] 7 (sM K ca) f0 fd0) {f1:Addr} {fd1:FuncData} (wd:Def P w K mg base "ring_families" [] 7 (sN K ca) f1 fd1):aD P w K mg base a8 8 f fd ["word"] (oj K ca):=by
 refine F.ok yl (fun vs H Q E h=>?_) (fun cdv A outer s H vs Q E hr h=>?_)
 ·obtain ⟨f,rfl,hf,q⟩:=h
  rfl
 obtain ⟨f,rfl,hf,q⟩:=h
 refine ⟨_,au (fz PassesOwn.never rfl (bH (aI oG (hV wg hr) (hV wd hr))) (aO (i:=1) yl.nd rfl (Or.inl rfl)) (ao (fX (bz iO (xH (pv 1) rfl) (pv 0) (bo _)) (ao (aW (pv 1))) eA)))
  xp,?_⟩
 have ok:∀ g∈iU ca,gd K g.2.1/\bp K g.2.1 "word":=List.forall_mem_cons.mpr ⟨⟨CA.il,CA.bJ⟩,List.forall_mem_cons.mpr ⟨⟨CA.jy,CA.cE⟩,List.forall_mem_cons.mpr ⟨⟨CA.kI,CA.cW⟩,List.forall_mem_cons.mpr ⟨⟨CA.ji,CA.dP⟩,List.forall_mem_cons.mpr ⟨⟨CA.iB,CA.cV⟩,List.forall_mem_cons.mpr ⟨⟨CA.jD,CA.cI⟩,List.forall_mem_cons.mpr ⟨⟨CA.ma,CA.cZ⟩,List.forall_mem_cons.mpr ⟨⟨CA.mD,CA.cY⟩,List.forall_mem_cons.mpr ⟨⟨CA.kQ,CA.c0⟩,List.forall_mem_cons.mpr ⟨⟨CA.oH,CA.dU⟩,List.forall_mem_nil _⟩⟩⟩⟩⟩⟩⟩⟩⟩⟩
 refine ⟨rfl,fun p1 xs1 H1 s1 f1 h1 pr1=>⟨rfl,fun p2 xs2 H2 s2 f2 h2 pr2=>?_⟩⟩
 have e2:=pr2.length
 have e1:=pr1.length
 refine ⟨p1,p2,xs1,xs2,rfl,rfl,s2 _ _ h1,h2,(by rw [e1,e2]; show 10<=sizeLine; decide),fun pc hpc=>?_⟩
 have s3:=af.new (af.refl H2) hpc (.lst (xs1++xs2))
 have pr:Paired (bU (upd H2 pc (.lst (xs1++xs2)))) (xs1++xs2) (iU ca):=fH (cf pr1 (s2.trans s3)) (cf pr2 s3)
 have hc:upd H2 pc (.lst (xs1++xs2)) pc=some (.lst (xs1++xs2)):=ae
 have s4:=(s1.trans s2).trans s3
 generalize upd H2 pc (.lst (xs1++xs2))=H3 at s4 pr hc |-
 obtain ⟨jf,hjf⟩:=List.getElem?_of_mem hf
 refine ⟨pc,rfl,⟨_,aq.of hc⟩,gY (xs:=xs1++xs2) (fun i σ H'=>∃ (o1:Option V),σ=[some (.str f.1),o1]/\H3=H'/\i<=jf) ⟨_,rfl,rfl,Nat.zero_le _⟩ (fun i σ H' _ h=>by obtain ⟨_,_,e,_⟩:=h; rw [<- e]; exact aq.of hc) ?_ ?_⟩
 ·rintro i v σ H' hv ⟨o1,rfl,rfl,hij⟩
  obtain ⟨g,hg,x,dx,fs,rfl,hx,fl⟩:=z0 pr hv
  have gm:=List.mem_of_getElem? hg
  refine ⟨_,rfl,x,_,dx,fs,_,rfl,hx,(ok g gm).1,(ok g gm).2,fl.word,_,rfl,rfl,_,rfl,?_⟩
  by_cases e:g.1=f.1
  ·have eg:=yK gm hf e
   subst eg
   refine gr rfl ⟨_,rfl,q x dx fs H3 s4 hx fl⟩
  ·refine gu (fun z=>e (by injection z)) ⟨_,rfl,rfl,?_⟩
   by_cases e2:i=jf
   ·subst e2
    rw [hg] at hjf
    injection hjf with hjf
    exact absurd (by rw [hjf]) e
   ·omega
 ·rintro σ H' ⟨o1,rfl,rfl,hij⟩
  have l:=pr.length
  have:=(List.getElem?_eq_some_iff.mp hjf).1
  omega
theorem Bv (F:ba K "all_measures" "all_measures" iR f fd):aD P w K mg base a8 1 f fd [] (nO K ca):=by
 refine F.ok AO (fun vs H Q E h=>?_) (fun cdv A outer s H vs Q E hr h=>?_)
 ·obtain ⟨rfl,q⟩:=h
  rfl
 obtain ⟨rfl,q⟩:=h
 have hb:rX (ah iR) zu=true:=by decide +kernel
 generalize ah iR=b at hb |-
 refine ⟨_,xl (ns:=zu) (rows:=iy ca) hb (List.cons_ne_nil _ _) (by decide) (.cons ⟨rfl,(.cons ⟨rfl,rfl,CA.m7⟩ (.cons ⟨rfl,rfl,CA.jU⟩ (.cons ⟨rfl,rfl,CA.mH⟩ .nil)))⟩ (.cons ⟨rfl,(.cons ⟨rfl,rfl,CA.pM⟩ (.cons ⟨rfl,rfl,CA.nt⟩ (.cons ⟨rfl,rfl,CA.og⟩ .nil)))⟩ (.cons ⟨rfl,(.cons ⟨rfl,rfl,CA.qp⟩ (.cons ⟨rfl,rfl,CA.oA⟩ (.cons ⟨rfl,rfl,CA.o7⟩ .nil)))⟩ (.cons ⟨rfl,(.cons ⟨rfl,rfl,CA.j0⟩ (.cons ⟨rfl,rfl,CA.jb⟩ (.cons ⟨rfl,rfl,CA.jK⟩ .nil)))⟩ (.cons ⟨rfl,(.cons ⟨rfl,rfl,CA.jF⟩ (.cons ⟨rfl,rfl,CA.iQ⟩ .nil))⟩ (.cons ⟨rfl,(.cons ⟨rfl,rfl,CA.qr⟩ (.cons ⟨rfl,rfl,CA.nT⟩ .nil))⟩ (.cons ⟨rfl,(.cons ⟨rfl,rfl,CA.qi⟩ (.cons ⟨rfl,rfl,CA.nV⟩ (.cons ⟨rfl,rfl,CA.pI⟩ .nil)))⟩ (.cons ⟨rfl,(.cons ⟨rfl,rfl,CA.oQ⟩ (.cons ⟨rfl,rfl,CA.ox⟩ .nil))⟩ (.cons ⟨rfl,(.cons ⟨rfl,rfl,CA.oO⟩ (.cons ⟨rfl,rfl,CA.oo⟩ .nil))⟩ (.cons ⟨rfl,(.cons ⟨rfl,rfl,CA.qm⟩ (.cons ⟨rfl,rfl,CA.oW⟩ .nil))⟩ .nil)))))))))),?_⟩
 exact xS (rows:=iy ca) (su ca).1 (su ca).2 (by show 10<=15; decide) fun p H' s f m=>q p H' s f m
theorem B4 (F:ba K "marks_of" "marks_of" l0 f fd) {f0:Addr} {fd0:FuncData} (kZ:Def P w K mg base "family_of" ["word"] 8 (oj K ca) f0 fd0) {f1:Addr} {fd1:FuncData} (g6:Def P w K mg base "all_measures" [] 1 (nO K ca) f1 fd1) (eZ:mg "list" = none):aD P w K mg base a8 9 f fd ["word"] (sJ K ca):=by
 refine F.ok xQ (fun vs H Q E h=>?_) (fun cdv A outer s H vs Q E hr h=>?_)
 ·obtain ⟨f,items,rfl,hf,hi,q⟩:=h
  rfl
 obtain ⟨f,items,rfl,hf,hi,q⟩:=h
 refine ⟨_,au (bg (i:=1) xQ.nd rfl (Or.inl rfl) (bI kZ hr (aa (pv 0) ag)))
  (ao (aW (gv (vj rfl) rfl eZ i0 (aa (fu (jO hr) (hV g6 hr) (xH (pv 1) rfl) (fun _ _=>rfl)) ag)))),?_⟩
 have ok:∀ g∈iU ca,gd K g.2.1/\bp K g.2.1 "word":=List.forall_mem_cons.mpr ⟨⟨CA.il,CA.bJ⟩,List.forall_mem_cons.mpr ⟨⟨CA.jy,CA.cE⟩,List.forall_mem_cons.mpr ⟨⟨CA.kI,CA.cW⟩,List.forall_mem_cons.mpr ⟨⟨CA.ji,CA.dP⟩,List.forall_mem_cons.mpr ⟨⟨CA.iB,CA.cV⟩,List.forall_mem_cons.mpr ⟨⟨CA.jD,CA.cI⟩,List.forall_mem_cons.mpr ⟨⟨CA.ma,CA.cZ⟩,List.forall_mem_cons.mpr ⟨⟨CA.mD,CA.cY⟩,List.forall_mem_cons.mpr ⟨⟨CA.kQ,CA.c0⟩,List.forall_mem_cons.mpr ⟨⟨CA.oH,CA.dU⟩,List.forall_mem_nil _⟩⟩⟩⟩⟩⟩⟩⟩⟩⟩
 refine ⟨_,rfl,f,rfl,hf,fun x dx fs H1 s1 hx fl=>⟨rfl,fun p H2 s2 f2 m=>⟨_,rfl,x,_,dx,fs,_,rfl,s2 _ _ hx,(ok f hf).1,(ok f hf).2,fl.word,?_⟩⟩⟩
 obtain ⟨d,g1,g2⟩:=m.get hi
 refine ⟨p,_,rfl,g1,d,_,rfl,g2,fun r hr=>?_⟩
 rw [vW]
 exact q r _ (af.new (s1.trans s2) hr _) ((s1.trans s2).free hr) ae
theorem AI (F:ba K "each_once" "each_once" kY f fd) (eU:mg "sorted" = none) (eZ:mg "list" = none) (bB:mg "range" = none) (aN:mg "len" = none):aD P w K mg base a8 1 f fd ["numbers"] (oy K ca):=by
 refine F.ok Bh (fun vs H Q E h=>?_) (fun cdv A outer s H vs Q E hr h=>?_)
 ·obtain ⟨l,ns,rfl,hl,h64,q⟩:=h
  rfl
 obtain ⟨l,ns,rfl,hl,h64,q⟩:=h
 refine ⟨_,ao (aW (gN (vz (D9 hr)) (aK rY rfl eU iM (aa (pv 0) ag)) (Cs rfl rfl eZ rfl bB (aa (aK aJ rfl aN bN (aa (pv 0) ag)) ag)) (bo _))),?_⟩
 have lm:(ns.map V.int).length=ns.length:=List.length_map _
 refine ⟨_,rfl,l,ns,rfl,aq.of hl,h64,fun ps ms hps hp hs=>?_⟩
 have s1:=af.new (af.refl H) hps (.lst (ms.map V.int))
 have hm1:upd H ps (.lst (ms.map V.int)) ps=some (.lst (ms.map V.int)):=ae
 generalize upd H ps (.lst (ms.map V.int))=H1 at s1 hm1 |-
 refine ⟨_,rfl,l,_,rfl,.inl (aq.of (s1 _ _ hl)),_,rfl,by omega,by omega,by omega,fun pr hpr=>?_⟩
 have s2:=af.new (af.refl H1) hpr (.lst (gM 0 (((ns.map V.int).length:Nat):Int).toNat))
 refine ⟨ps,pr,_,_,rfl,rfl,aq.of (s2 _ _ hm1),aq.of ae,pW ms,?_,?_⟩
 ·rw [qf]; exact pW _
 have e:mS (ms.map V.int) (gM 0 (((ns.map V.int).length:Nat):Int).toNat)=dX ns:=by
  rw [qf,tK,uc hp hs,show (((ns.map V.int).length:Nat):Int).toNat=ns.length by omega]
 have last:∀ b:Bool,b=dX ns->Q (.bl b) (upd H1 pr (.lst (gM 0 (((ns.map V.int).length:Nat):Int).toNat))):=fun b z=>by rw [z]; exact q _ (s1.trans s2)
 exact last _ e
theorem Cp (F:ba K "flat" "flat" mB f fd):aD P w K mg base a8 1 f fd ["rows"] (jZ K ca):=by
 refine F.ok t7 (fun vs H Q E h=>?_) (fun cdv A outer s H vs Q E hr h=>?_)
 ·obtain ⟨l,rfl,hor⟩:=h
  rfl
 obtain ⟨l,rfl,hor⟩:=h
 refine ⟨_,au (bg (i:=1) t7.nd rfl (Or.inl rfl) (br ag))
  (au (fz PassesOwn.never rfl (bH (pv 0)) (aO (i:=2) t7.nd rfl (Or.inl rfl)) (ao (aR (iw PySem.F.plainAttrs_list PySem.F.slot_list_extend PySem.F.type_list_extend zJ (pv 1) (aa (pv 2) ag)))))
  (ao (aW (pv 1)))),?_⟩
 rcases hor with ⟨ps,hl,hz,q⟩ | ⟨bs,xss,hl,rw_,hz,q⟩
 ·obtain ⟨xs,el,lxs,pr⟩:=hl.len
  refine ⟨Nat.zero_le _,fun pf hpf=>?_⟩
  have s1:=af.new (af.refl H) hpf (.lst [])
  refine ⟨_,rfl,l,rfl,⟨_,aq.of (s1 _ _ el)⟩,gY (xs:=xs) (fun i σ H'=>∃ (o1:Option V),σ=[some (.ref l),some (.ref pf),o1]/\af H H'/\H' pf=some (.lst ((aX (ps.take i)).map V.int))) ⟨_,rfl,s1,ae⟩ (fun i σ H' _ h=>aq.of (h.choose_spec.2.1 _ _ el)) ?_ ?_⟩
  ·rintro i v σ H2 hv ⟨o1,rfl,sm,hf⟩
   obtain ⟨pp,tt,hpp,rfl,htt⟩:=pr.get hv
   have hz2:((aX (ps.take i)).map V.int).length<=2000:=by
    rw [List.length_map,gy,List.length_take]
    omega
   refine ⟨_,rfl,.inl ⟨rfl,_,aq.of hf⟩,_,rfl,.inr ⟨pf,tt,_,_,rfl,rfl,hf,eE.of (sm _ _ htt),(by show _+2<=_; exact sz (by omega)),?_⟩⟩
   refine ⟨_,rfl,sm.upd hpf _,?_⟩
   rw [ae,List.take_add_one,hpp,ko,List.map_append]
   rfl
  ·rintro σ H2 ⟨o1,rfl,sm,hf⟩
   rw [List.take_of_length_le (by omega)] at hf
   exact ⟨_,rfl,q pf H2 sm hpf hf⟩
 ·have lb:=rw_.len
  refine ⟨Nat.zero_le _,fun pf hpf=>?_⟩
  have s1:=af.new (af.refl H) hpf (.lst [])
  refine ⟨_,rfl,l,rfl,⟨_,aq.of (s1 _ _ hl)⟩,gY (xs:=bs.map V.ref) (fun i σ H'=>∃ (o1:Option V),σ=[some (.ref l),some (.ref pf),o1]/\af H H'/\H' pf=some (.lst (xss.take i).flatten)) ⟨_,rfl,s1,ae⟩ (fun i σ H' _ h=>aq.of (h.choose_spec.2.1 _ _ hl)) ?_ ?_⟩
  ·rintro i v σ H2 hv ⟨o1,rfl,sm,hf⟩
   obtain ⟨b,xs,rfl,hx,hb⟩:=rw_.get hv
   have et:(xss.take (i+1)).flatten=(xss.take i).flatten++xs:=by
    rw [List.take_add_one,hx,List.flatten_append]
    simp
   have hz2:(xss.take i).flatten.length+xs.length<=1000:=by
    have h1:(xss.take (i+1)).flatten.length<=xss.flatten.length:=by
     conv=>rhs; rw [<- List.take_append_drop (i+1) xss,List.flatten_append,List.length_append]
     omega
    rw [et,List.length_append] at h1
    omega
   have nb:b≠pf:=aw hb hpf
   refine ⟨_,rfl,.inl ⟨rfl,_,aq.of hf⟩,_,rfl,.inl ⟨pf,b,_,_,rfl,rfl,hf,sm _ _ hb,sz (by omega),?_⟩⟩
   exact ⟨_,rfl,sm.upd hpf _,by rw [ae,et]⟩
  ·rintro σ H2 ⟨o1,rfl,sm,hf⟩
   rw [List.take_of_length_le (by rw [List.length_map]; omega)] at hf
   exact ⟨_,rfl,q pf H2 sm hpf hf⟩
theorem BP (F:ba K "any_cross" "any_cross" mf f fd):aD P w K mg base a8 1 f fd ["pairs"] (oh K ca):=by
 refine F.ok km (fun vs H Q E h=>?_) (fun cdv A outer s H vs Q E hr h=>?_)
 ·obtain ⟨l,ps,rfl,hl,q⟩:=h
  rfl
 obtain ⟨l,ps,rfl,hl,q⟩:=h
 refine ⟨_,au (fz PassesOwn.never rfl (bH (pv 0)) (tD rfl (eQ (aO (i:=1) km.nd rfl (Or.inl rfl)) (eQ (aO (i:=2) km.nd rfl (Or.inl rfl)) ja))) (ao (fz PassesOwn.never rfl (bH (pv 0)) (tD rfl (eQ (aO (i:=3) km.nd rfl (Or.inl rfl)) (eQ (aO (i:=4) km.nd rfl (Or.inl rfl)) ja))) (ao (fX (Bd fY fY fY (pv 1) (pv 3) (pv 2) (pv 4)) (ao (aW jx)) eA)))))
  (ao (aW jx)),?_⟩
 obtain ⟨xs,el,lxs,pr⟩:=hl.len
 refine ⟨_,rfl,l,rfl,⟨_,aq.of el⟩,gY (xs:=xs) (fun i σ H'=>∃ (o1 o2 o3 o4:Option V),σ=[some (.ref l),o1,o2,o3,o4]/\H=H'/\∀ p∈ps.take i,ps.any (iV p)=false) ⟨_,_,_,_,rfl,rfl,by simp⟩ (fun i σ H' _ h=>by obtain ⟨_,_,_,_,_,rfl,_⟩:=h; exact aq.of el) ?_ ?_⟩
 ·rintro i v σ H2 hv ⟨o1,o2,o3,o4,rfl,rfl,al⟩
  obtain ⟨pp,tt,hpp,rfl,htt⟩:=pr.get hv
  refine ⟨tt,_,rfl,eE.of htt,rfl,_,_,rfl,_,_,rfl,rfl,?_⟩
  refine ⟨_,rfl,l,rfl,⟨_,aq.of el⟩,gY (xs:=xs) (fun j σ H'=>∃ (o3 o4:Option V),σ=[some (.ref l),some (.int pp.1),some (.int pp.2),o3,o4]/\H=H'/\∀ r∈ps.take j,iV pp r=false) ⟨_,_,rfl,rfl,by simp⟩ (fun i σ H' _ h=>by obtain ⟨_,_,_,rfl,_⟩:=h; exact aq.of el) ?_ ?_⟩
  ·rintro j v σ H3 hv ⟨o3,o4,rfl,rfl,al2⟩
   obtain ⟨rr,t2,hrr,rfl,ht2⟩:=pr.get hv
   refine ⟨t2,_,rfl,eE.of ht2,rfl,_,_,rfl,_,_,rfl,rfl,?_⟩
   have next:iV pp rr=false->∀ r∈ps.take (j+1),iV pp r=false:=fun hc r hr=>by
    rw [List.take_add_one,hrr] at hr
    rcases List.mem_append.mp hr with z | z
    ·exact al2 r z
    ·have:r=rr:=by simpa using z
     rw [this]; exact hc
   refine ⟨_,rfl,_,rfl,_,_,rfl,rfl,_,rfl,?_⟩
   by_cases c1:pp.1 < rr.1
   ·refine gr c1 ⟨_,rfl,_,_,rfl,rfl,_,rfl,?_⟩
    by_cases c2:rr.1 < pp.2
    ·refine gr c2 ⟨_,rfl,_,_,rfl,rfl,_,rfl,?_⟩
     by_cases c3:pp.2 < rr.2
     ·refine gr c3 ?_
      have:dH ps=true:=gz.mpr ⟨pp,List.mem_of_getElem? hpp,rr,List.mem_of_getElem? hrr,c1,c2,c3⟩
      rw [this] at q
      exact q
     ·exact gu c3 ⟨_,_,rfl,rfl,next (by unfold iV; simp [c3])⟩
    ·exact gu c2 ⟨_,rfl,fJ ⟨_,_,rfl,rfl,next (by unfold iV; simp [c2])⟩⟩
   ·exact gu c1 ⟨_,rfl,fJ ⟨_,_,rfl,rfl,next (by unfold iV; simp [c1])⟩⟩
  ·rintro σ H3 ⟨o3,o4,rfl,rfl,al2⟩
   rw [List.take_of_length_le (by omega)] at al2
   refine ⟨_,_,_,_,rfl,rfl,fun p hp=>?_⟩
   rw [List.take_add_one,hpp] at hp
   rcases List.mem_append.mp hp with z | z
   ·exact al p z
   ·have:p=pp:=by simpa using z
    rw [this,List.any_eq_false]
    intro r hr
    rw [al2 r hr]
    decide
 ·rintro σ H2 ⟨o1,o2,o3,o4,rfl,rfl,al⟩
  rw [List.take_of_length_le (by omega)] at al
  have:dH ps=false:=by
   unfold dH
   rw [List.any_eq_false]
   intro p hp
   rw [al p hp]
   decide
  rw [this] at q
  exact q
theorem Ay (F:ba K "is_one" "Bows.is_one" lC ca.qI fd) {f0:Addr} {fd0:FuncData} (kK:Def P w K mg base "each_once" ["numbers"] 1 (oy K ca) f0 fd0) {f1:Addr} {fd1:FuncData} (ir:Def P w K mg base "flat" ["rows"] 1 (jZ K ca) f1 fd1) {f2:Addr} {fd2:FuncData} (mv:Def P w K mg base "any_cross" ["pairs"] 1 (oh K ca) f2 fd2) (eU:mg "sorted" = none) (vU:mg "all" = none):aD P w K mg base a8 2 ca.qI fd ["self","thing"] (sZ K ca):=by
 refine F.ok BQ (fun vs H Q E h=>?_) (fun cdv A outer s H vs Q E hr h=>?_)
 ·obtain ⟨x,l,ps,rfl,hl,hz,q⟩:=h
  rfl
 obtain ⟨x,l,ps,rfl,hl,hz,q⟩:=h
 refine ⟨_,au (fX (PW.pt (lM (jd (iE (bI kK hr (aa (bI ir hr (aa (pv 1) ag)) ag)))) (kl (bz (AD (jw hr)) (pv 1) (aK se rfl eU iM (aa (pv 1) ag)) (bo _))))) (ao (aW jx)) eA)
  (ao (aW (rG (aK (yF rfl) rfl vU Bc (aa (eW rfl (bH (pv 1)) rfl rfl rfl rfl (N:=["a","b"]) (.own (.own .nil)) (fun _ _ _ _ _ _=>(pD (K:=K) (n:=2) rfl rfl (eQ (aO (i:=0) (by show List.Nodup (["a","b"]:List Str); decide +kernel) rfl (Or.inl rfl)) (eQ (aO (i:=1) (by show List.Nodup (["a","b"]:List Str); decide +kernel) rfl (Or.inl rfl)) ja)))) (fun _ _ _ _ _ _=>gP) (fun _ _ _ _ _ _=>(gN fY (pv 0) (pv 1) (bo _)))) ag)) (rh (xu (bI mv hr (aa (pv 1) ag))))))),?_⟩
 refine ⟨_,rfl,l,rfl,.inl ⟨ps,hl,by omega,fun pf H1 s1 f1 h1=>⟨pf,_,rfl,h1,by rw [gy]; omega,fun H2 s2=>⟨_,rfl,?_⟩⟩⟩⟩
 have s12:=s1.trans s2
 have hl2:=hl.same s12
 cases hE:dX (aX ps) with
 | false =>
  rw [xV hE] at q
  exact fI (fI (q _ s12))
 | true =>
  refine fJ ⟨_,rfl,_,rfl,l,ps,rfl,hl2,by omega,fun pq qs H3 s3 f3 h3 hp hs=>?_⟩
  have s13:=s12.trans s3
  have hl3:=hl.same s13
  have ne:l≠pq:=by
   obtain ⟨_,e,_⟩:=hl2
   exact aw e f3
  refine ⟨2,_,by decide,EqD.prs ne hl3 h3,⟨l,pq,rfl,rfl,ne⟩,_,rfl,?_⟩
  by_cases e:ps=qs
  ·rw [ur hp hs hE e] at q
   obtain ⟨xs,el,lxs,pr⟩:=hl3.len
   rw [decide_eq_true e]
   refine fJ ⟨_,rfl,l,rfl,⟨_,aq.of el⟩,fun D hD=>cg (xs:=xs) (fun i ys H'=>af H3 H'/\H' D=some (.lst ys)/\ys=((ps.take i).map fun p=>decide (p.1 < p.2)).map V.bl/\i<=ps.length) (sz (by omega)) ⟨af.new (af.refl H3) hD _,ae,rfl,Nat.zero_le _⟩ (fun i ys H' hi h=>⟨aq.of (h.1 _ _ el),?_⟩) (fun i x ys H' R R0 hx h r r0=>?_) (fun ys H' h=>?_)⟩
   ·rw [h.2.2.1]
    simp
    omega
   ·obtain ⟨sm,hy,ey,hi⟩:=h
    obtain ⟨pp,tt,hpp,rfl,htt⟩:=pr.get hx
    have hlt:i < ps.length:=(List.getElem?_eq_some_iff.mp hpp).1
    refine ⟨tt,_,rfl,eE.of (sm _ _ htt),rfl,_,_,rfl,_,_,rfl,rfl,(Ext.set rfl).trans (Ext.set rfl),rO (fI ⟨_,rfl,_,rfl,_,_,rfl,rfl,?_⟩)⟩
    refine r _ _ hy ⟨sm.upd hD _,ae,?_,hlt⟩
    rw [List.take_add_one,hpp,List.map_append,List.map_append,<- ey]
    rfl
   ·obtain ⟨sm,hy,ey,hi⟩:=h
    rw [List.take_of_length_le (by omega)] at ey
    have ha:(((ps.map fun p=>decide (p.1 < p.2)).map V.bl).length)=ps.length:=by simp
    rw [ey] at hy
    refine ⟨D,_,rfl,aq.of hy,_,rfl,?_⟩
    have e2:((ps.map fun p=>decide (p.1 < p.2)).all id)=ps.all fun p=>decide (p.1 < p.2):=by rw [List.all_map]; rfl
    rw [e2]
    cases hA:ps.all fun p=>decide (p.1 < p.2) with
    | false =>
     rw [hA,Bool.false_and] at q
     exact fJ (q _ (s13.trans sm))
    | true =>
     rw [hA,Bool.true_and] at q
     exact fI ⟨_,rfl,l,ps,rfl,hl3.same sm,_,rfl,q _ (s13.trans sm)⟩
  ·rw [wJ hp hs hE e] at q
   rw [decide_eq_false e]
   exact fI (q _ s13)
theorem As (F:ba K "refuse_other" "Family.refuse_other" mE ca.qX fd) {fd0:FuncData} (wy:aE P w K mg base ["self","thing"] 2 (sZ K ca) ca.qI fd0):aD P w K mg base a8 3 ca.qX fd ["self","thing"] (sE K ca):=by
 refine F.ok Cc (fun vs H Q E h=>?_) (fun cdv A outer s H vs Q E hr h=>?_)
 ·obtain ⟨x,dx,fs,l,ps,rfl,hx,fo,hl,hz,hB,q⟩:=h
  rfl
 obtain ⟨x,dx,fs,l,ps,rfl,hx,fo,hl,hz,hB,q⟩:=h
 refine ⟨_,ao (fX (jd (iE (qW (pv 0) CA.ji CA.mt_Bows_is_one wy hr (aa (pv 1) ag)))) (ao nh) eA),?_⟩
 exact ⟨_,rfl,x,dx,fs,rfl,hx,fo,_,rfl,x,l,ps,rfl,hl,hz,fun H1 s1=>⟨_,rfl,by rw [hB]; exact fJ (q H1 s1)⟩⟩
theorem CB (F:ba K "neighbours" "neighbours" lY f fd) {f0:Addr} {fd0:FuncData} (ir:Def P w K mg base "flat" ["rows"] 1 (jZ K ca) f0 fd0) (eZ:mg "list" = none) (wR:mg "zip" = none):aD P w K mg base a8 2 f fd ["rooms"] (ub K ca):=by
 refine F.ok BH (fun vs H Q E h=>?_) (fun cdv A outer s H vs Q E hr h=>?_)
 ·obtain ⟨l,H0,rs,rfl,hl,hz,hz2,q⟩:=h
  rfl
 obtain ⟨l,H0,rs,rfl,hl,hz,hz2,q⟩:=h
 refine ⟨_,ao (aW (bI ir hr (aa (eW rfl (bH (pv 0)) rfl rfl rfl rfl (N:=["room"]) (.own .nil) (fun _ _ _ _ _ _=>(aO (i:=0) (by show List.Nodup (["room"]:List Str); decide +kernel) rfl (Or.inl rfl))) (fun _ _ _ _ _ _=>gP) (fun _ _ _ _ _ _=>(Aa (K:=K) rfl rfl rfl eZ rfl wR (aa (pv 0) (aa (rT (y8 (K:=K) rfl) (pv 0) (uF ar) uS) ag))))) ag))),?_⟩
 obtain ⟨xs,el,lxs⟩:=hl.len
 refine ⟨_,rfl,l,rfl,⟨_,aq.of el⟩,fun D hD=>cg (xs:=xs) (fun k ys H'=>∃ (bs:List Addr) (xss:List (List V)),af H H'/\H' D=some (.lst ys)/\ys=bs.map V.ref/\eV H' bs xss/\(∀ b∈bs,b≠D)/\cL H' xss.flatten (fZ (rs.take k))/\k<=rs.length/\bs.length=k) (sz (by omega)) ⟨[],[],af.new (af.refl H) hD _,ae,rfl,.nil,fun b hb=>absurd hb (by simp),.nil,Nat.zero_le _,rfl⟩ (fun k ys H' hk h=>?_) (fun k v ys H' R R0 hx h r r0=>?_) (fun ys H' h=>?_)⟩
 ·obtain ⟨bs,xss,sm,_,rfl,_,_,_,_,lb⟩:=h
  exact ⟨aq.of (sm _ _ el),by rw [List.length_map]; omega⟩
 ·obtain ⟨bs,xss,sm,hy,rfl,rws,nD,pr,hk,lb⟩:=h
  obtain ⟨b,ns,rfl,hn,hb,_⟩:=hl.at el hx
  have hlt:k < rs.length:=(List.getElem?_eq_some_iff.mp hn).1
  have hb2:=sm _ _ hb
  have ln:ns.length<=rs.flatten.length:=len_one rs ns (List.mem_of_getElem? hn)
  refine ⟨Ext.set rfl,rO (fI ⟨_,rfl,_,rfl,_,rfl,b,_,rfl,aq.of hb2,fun ps hps=>?_⟩)⟩
  have s3:=af.new (af.refl H') hps (.lst (ic (ns.map V.int) (some 1) none))
  have e1:ic (ns.map V.int) (some 1) none=(ns.drop 1).map V.int:=by rw [ng,yp]
  refine ⟨b,ps,ns,ns.drop 1,rfl,aq.of (s3 _ _ hb2),aq.of (by rw [ae,e1]),by omega,fun pz H3 s4 f4 h4=>?_⟩
  have s5:=s3.trans s4
  obtain ⟨zs,ez,lz,pz4⟩:=h4.len
  have hy5:=s5 _ _ hy
  have nz:pz≠D:=fun z=>by
   rw [z] at f4
   rw [s3 _ _ hy] at f4
   cases f4
  refine r _ _ hy5 ⟨bs++[pz],xss++[zs],(sm.trans s5).upd hD _,ae,by rw [List.map_append]; rfl,?_,?_,?_,hlt,by rw [List.length_append]; show bs.length+1=k+1; omega⟩
  ·have up:∀ {c:Addr} {ws:List V},c≠D->H3 c=some (.lst ws)->upd H3 D (.lst (bs.map V.ref++[.ref pz])) c=some (.lst ws):=fun n e=>(ak n).trans e
   have go:∀ {bs:List Addr} {xss:List (List V)},eV H' bs xss->(∀ b∈bs,b≠D)->eV (upd H3 D (.lst (bs.map V.ref++[.ref pz]))) bs xss->True:=fun _ _ _=>trivial
   have rws5:=rws.same s5
   have g:∀ {cs:List Addr} {wss:List (List V)},eV H3 cs wss->(∀ c∈cs,c≠D)->eV (upd H3 D (.lst (bs.map V.ref++[.ref pz]))) (cs++[pz]) (wss++[zs]):=by
    intro cs wss h hc
    induction h with
    | nil=>exact .cons (up nz ez) .nil
    | cons x _ ih=>exact .cons (up (hc _ (by simp)) x) (ih fun c hc'=>hc c (by simp [hc']))
   exact g rws5 nD
  ·intro c hc
   rcases List.mem_append.mp hc with z | z
   ·exact nD c z
   ·rw [show c=pz by simpa using z]; exact nz
  ·have e2:fZ (rs.take (k+1))=fZ (rs.take k)++ns.zip (ns.drop 1):=by
    unfold fZ
    rw [List.take_add_one,hn,List.map_append,List.flatten_append]
    simp
   rw [e2,List.flatten_append]
   have p1:=(pr.same s5).app pz4
   rw [show ([zs]:List (List V)).flatten=zs by simp]
   exact p1.updL hy5 _
 ·obtain ⟨bs,xss,sm,hy,rfl,rws,nD,pr,hk,lb⟩:=h
  rw [List.take_of_length_le (by omega)] at pr
  have lf:(fZ rs).length<=rs.flatten.length:=by
   unfold fZ
   rw [List.length_flatten,List.length_flatten,List.map_map]
   have go:∀ rs:List (List Int),(rs.map (List.length ∘ fun r=>r.zip (r.drop 1))).sum<=(rs.map List.length).sum:=fun rs=>by
    induction rs with
    | nil=>exact Nat.le_refl _
    | cons r rs ih =>
     rw [List.map_cons,List.map_cons,List.sum_cons,List.sum_cons]
     have:(r.zip (r.drop 1)).length<=r.length:=by rw [List.length_zip]; exact Nat.min_le_left _ _
     show (r.zip (r.drop 1)).length+_<=_
     omega
   exact go rs
  refine ⟨D,rfl,.inr ⟨bs,xss,hy,rws,by rw [pr.length]; omega,fun pf H3 s3 f3 h3=>q pf H3 (sm.trans s3) (sm.free f3) ⟨_,h3,pr.same s3⟩⟩⟩
theorem Cv (F:ba K "is_one" "Rooms.is_one" mj ca.qQ fd) {f0:Addr} {fd0:FuncData} (kK:Def P w K mg base "each_once" ["numbers"] 1 (oy K ca) f0 fd0) {f1:Addr} {fd1:FuncData} (ir:Def P w K mg base "flat" ["rows"] 1 (jZ K ca) f1 fd1) {f2:Addr} {fd2:FuncData} (mv:Def P w K mg base "any_cross" ["pairs"] 1 (oh K ca) f2 fd2) {f3:Addr} {fd3:FuncData} (ve:Def P w K mg base "neighbours" ["rooms"] 2 (ub K ca) f3 fd3) (eU:mg "sorted" = none):aD P w K mg base a8 3 ca.qQ fd ["self","thing"] (sr K ca):=by
 refine F.ok Bz (fun vs H Q E h=>?_) (fun cdv A outer s H vs Q E hr h=>?_)
 ·obtain ⟨x,l,H0,rs,rfl,hl,hz,hz2,hz1,q⟩:=h
  rfl
 obtain ⟨x,l,H0,rs,rfl,hl,hz,hz2,hz1,q⟩:=h
 refine ⟨_,au (fX (PW.pt (lM (bz (CI (jw hr)) (br ag) (pv 1) (by rfl)) (kl (jd (iE (bI kK hr (aa (bI ir hr (aa (pv 1) ag)) ag))))))) (ao (aW jx)) eA)
  (ao (aW (rG (gN (sR (jw hr)) (pv 1) (aK (tY (jw hr)) rfl eU iM (aa (eW rfl (bH (pv 1)) rfl rfl rfl rfl (N:=["room"]) (.own .nil) (fun _ _ _ _ _ _=>(aO (i:=0) (by show List.Nodup (["room"]:List Str); decide +kernel) rfl (Or.inl rfl))) (fun _ _ _ _ _ _=>gP) (fun _ _ _ _ _ _=>(aK (ug (K:=K) rfl) rfl eU iM (aa (pv 0) ag)))) ag)) (bo _)) (rh (xu (bI mv hr (aa (bI ve hr (aa (pv 1) ag)) ag))))))),?_⟩
 refine ⟨Nat.zero_le _,fun pe hpe=>?_⟩
 have s1:=af.new (af.refl H) hpe (.lst [])
 have hl1:=hl.same s1
 have he1:upd H pe (.lst []) pe=some (.lst []):=ae
 generalize upd H pe (.lst [])=H1 at s1 hl1 he1 |-
 refine ⟨_,rfl,pe,l,H0,rs,rfl,rfl,he1,hl1,_,rfl,?_⟩
 cases hv:rs.any fun r=>decide (r=[]) with
 | true =>
  obtain ⟨r,hr,e⟩:=List.any_eq_true.mp hv
  rw [rM ⟨r,hr,of_decide_eq_true e⟩] at q
  exact fI (fI (q _ s1))
 | false =>
  have hne:∀ r∈rs,r≠[]:=fun r hr e=>by
   have:=List.any_eq_false.mp hv r hr
   exact this (decide_eq_true e)
  obtain ⟨bs,el,rws⟩:=hl1.rws
  refine fJ ⟨_,rfl,l,rfl,.inr ⟨bs,_,el,rws,by rw [uf,List.length_map]; omega,fun pf H2 s2 f2 h2=>?_⟩⟩
  rw [uf] at h2
  refine ⟨pf,rs.flatten,rfl,h2,hz2,fun H3 s3=>⟨_,rfl,?_⟩⟩
  have s13:=s1.trans (s2.trans s3)
  have hl3:=hl.same s13
  cases hE:dX rs.flatten with
  | false =>
   rw [yE hE] at q
   exact fI (q _ s13)
  | true =>
   rw [sL hne hE] at q
   obtain ⟨xs,ex,lxs⟩:=hl3.len
   refine fJ ⟨_,rfl,_,rfl,l,rfl,⟨_,aq.of ex⟩,fun D hD=>cg (xs:=xs) (fun k ys H'=>∃ ts:List (List Int),af H3 H'/\H' D=some (.lst ys)/\bC H3 H' D ts/\Paired (fun (r t:List Int)=>t.Perm r/\t.Pairwise (·<=·)) (rs.take k) ts/\k<=rs.length) (sz (by omega)) ⟨[],af.new (af.refl H3) hD _,ae,bC.nil ae,.nil,Nat.zero_le _⟩ (fun k ys H' hk h=>?_) (fun k v ys H' R R0 hx h r r0=>?_) (fun ys H' h=>?_)⟩
   ·obtain ⟨ts,sm,hy,lt,pt,hk'⟩:=h
    obtain ⟨us,eu,lu⟩:=lt.len
    rw [hy] at eu
    cases eu
    refine ⟨aq.of (sm _ _ ex),?_⟩
    rw [lu,<- Paired.length pt,List.length_take]
    omega
   ·obtain ⟨ts,sm,hy,lt,pt,hk'⟩:=h
    obtain ⟨b,ns,rfl,hn,hb,_⟩:=hl3.at ex hx
    have hlt:k < rs.length:=(List.getElem?_eq_some_iff.mp hn).1
    refine ⟨Ext.set rfl,rO (fI ⟨_,rfl,b,ns,rfl,aq.of (sm _ _ hb),hz1 ns (List.mem_of_getElem? hn),fun c ms hc hp hs=>?_⟩)⟩
    have k9:=af.new (af.refl H') hc (.lst (ms.map V.int))
    refine r _ _ (k9 _ _ hy) ⟨ts++[ms],(sm.trans k9).upd hD _,ae,lt.push hy k9 hc ae (sm.free hc),?_,hlt⟩
    rw [List.take_add_one,hn]
    exact nZ pt (.cons ⟨hp,hs⟩ .nil)
   ·obtain ⟨ts,sm,hy,lt,pt,hk'⟩:=h
    rw [List.take_of_length_le (by omega)] at pt
    have ltl:=Paired.length pt
    refine ⟨D,_,ts,rfl,lt,by omega,fun pq ss H5 s5 f5 l5 hp hs _=>?_⟩
    have s15:=s13.trans (sm.trans s5)
    have hl5:=hl.same s15
    have ne:l≠pq:=by
     obtain ⟨_,e,_⟩:=hl3.same sm
     exact aw e f5
    refine ⟨2,_,by decide,EqD.rooms hl5 l5 ne,⟨l,pq,rfl,rfl,ne⟩,_,rfl,?_⟩
    rw [yC pt hp hs hne hE]
    cases hR:sT rs with
    | false =>
     rw [hR,Bool.false_and] at q
     exact fJ (q _ s15)
    | true =>
     rw [hR,Bool.true_and] at q
     exact fI ⟨_,rfl,l,H0,rs,rfl,hl5,by omega,by omega,fun pn H6 s6 f6 h6=>⟨pn,fZ rs,rfl,h6,_,rfl,q _ (s15.trans s6)⟩⟩
theorem Dw (F:ba K "refuse_other" "Family.refuse_other" pB ca.vS fd) {fd0:FuncData} (wZ:aE P w K mg base ["self","thing"] 3 (sr K ca) ca.qQ fd0):aD P w K mg base a8 4 ca.vS fd ["self","thing"] (wF K ca):=by
 refine F.ok CQ (fun vs H Q E h=>?_) (fun cdv A outer s H vs Q E hr h=>?_)
 ·obtain ⟨x,dx,fs,l,H0,rs,rfl,hx,fo,hl,z1,z2,z3,hB,q⟩:=h
  rfl
 obtain ⟨x,dx,fs,l,H0,rs,rfl,hx,fo,hl,z1,z2,z3,hB,q⟩:=h
 refine ⟨_,ao (fX (jd (iE (qW (pv 0) CA.iB CA.mt_Rooms_is_one wZ hr (aa (pv 1) ag)))) (ao nh) eA),?_⟩
 exact ⟨_,rfl,x,dx,fs,rfl,hx,fo,_,rfl,x,l,H0,rs,rfl,hl,z1,z2,z3,fun H1 s1=>⟨_,rfl,by rw [hB]; exact fJ (q H1 s1)⟩⟩
theorem Bs (F:ba K "bows_peaks" "bows_peaks" kH f fd) (aN:mg "len" = none):aD P w K mg base a8 1 f fd ["thing"] (tG K ca):=by
 refine F.ok Cq (fun vs H Q E h=>?_) (fun cdv A outer s H vs Q E hr h=>?_)
 ·obtain ⟨l,ps,rfl,hl,hz,bw,q⟩:=h
  rfl
 obtain ⟨l,ps,rfl,hl,hz,bw,q⟩:=h
 refine ⟨_,ao (aW (aK aJ rfl aN bN (aa (eW rfl (bH (pv 0)) rfl rfl rfl rfl (N:=["a","b"]) (.own (.own .nil)) (fun _ _ _ _ _ _=>(pD (K:=K) (n:=2) rfl rfl (eQ (aO (i:=0) (by show List.Nodup (["a","b"]:List Str); decide +kernel) rfl (Or.inl rfl)) (eQ (aO (i:=1) (by show List.Nodup (["a","b"]:List Str); decide +kernel) rfl (Or.inl rfl)) ja)))) (fun _ _ _ _ _ _=>(gR (bz iO (pv 1) (aI dE (pv 0) ar) (bo _)))) (fun _ _ _ _ _ _=>(pv 0))) ag))),?_⟩
 obtain ⟨xs,el,lxs,pr⟩:=hl.len
 refine ⟨_,rfl,l,rfl,⟨_,aq.of el⟩,fun D hD=>cg (xs:=xs) (fun i ys H'=>af H H'/\H' D=some (.lst ys)/\ys.length=aB (iZ ps) i/\i<=ps.length) (sz (by omega)) ⟨af.new (af.refl H) hD _,ae,rfl,Nat.zero_le _⟩ (fun i ys H' hi h=>⟨aq.of (h.1 _ _ el),by rw [h.2.2.1]; exact gO _ _⟩) (fun i x ys H' R R0 hx h r r0=>?_) (fun ys H' h=>?_)⟩
 ·obtain ⟨sm,hy,ey,hi⟩:=h
  obtain ⟨pp,tt,hpp,rfl,htt⟩:=pr.get hx
  have hlt:i < ps.length:=(List.getElem?_eq_some_iff.mp hpp).1
  have gp:ps.getD i (0,0)=pp:=by rw [List.getD_eq_getElem?_getD,hpp]; rfl
  have ht2:=sm _ _ htt
  have st:aB (iZ ps) (i+1)=aB (iZ ps) i+(if iZ ps i=true then 1 else 0):=rfl
  unfold iZ at st
  rw [gp] at st
  refine ⟨tt,_,rfl,eE.of ht2,rfl,_,_,rfl,_,_,rfl,rfl,(Ext.set rfl).trans (Ext.set rfl),⟨_,rfl,_,rfl,_,_,rfl,rfl,rfl,_,rfl,?_⟩⟩
  by_cases e:pp.2=pp.1+1
  ·rw [if_pos (decide_eq_true e)] at st
   exact gr (congrArg V.int e) ⟨_,rfl,r _ _ hy ⟨sm.upd hD _,ae,by rw [List.length_append,ey]; exact st.symm,hlt⟩⟩
  ·rw [if_neg (by rw [decide_eq_false e]; decide)] at st
   exact gu (Ej e) (r0 _ ⟨sm,hy,by rw [ey]; exact st.symm,hlt⟩)
 ·obtain ⟨sm,hy,ey,hi⟩:=h
  rw [lxs] at ey
  refine ⟨D,_,rfl,.inl (aq.of hy),?_⟩
  rw [ey]
  exact q _ sm
theorem AU (F:ba K "bows_over" "bows_over" mi f fd):aD P w K mg base a8 1 f fd ["thing","bow"] (n9 K ca):=by
 refine F.ok CJ (fun vs H Q E h=>?_) (fun cdv A outer s H vs Q E hr h=>?_)
 ·obtain ⟨l,t,ps,p,rfl,hl,hz,ht,q⟩:=h
  rfl
 obtain ⟨l,t,ps,p,rfl,hl,hz,ht,q⟩:=h
 refine ⟨_,ao (aW (eW rfl (bH (pv 0)) rfl rfl rfl rfl (N:=["a","b","bow"]) (.own (.own (.cap (j:=1) rfl rfl rfl .nil))) (fun _ _ _ _ _ _=>(pD (K:=K) (n:=2) rfl rfl (eQ (aO (i:=0) (by show List.Nodup (["a","b","bow"]:List Str); decide +kernel) rfl (Or.inl rfl)) (eQ (aO (i:=1) (by show List.Nodup (["a","b","bow"]:List Str); decide +kernel) rfl (Or.inl rfl)) ja)))) (fun _ _ _ _ _ _=>(gR (PW.pt (n8 (bz fY (pv 0) (aV (kR (K:=K) rfl) (pv 2) ar (fun _ _=>rfl)) (bo _)) (my (bz fY (aV (kR (K:=K) rfl) (pv 2) ar (fun _ _=>rfl)) (pv 1) (bo _))))))) (fun _ _ _ _ _ _=>(ud (aa (pv 0) (aa (pv 1) ag)))))),?_⟩
 obtain ⟨xs,el,lxs,pr⟩:=hl.len
 refine ⟨_,rfl,l,rfl,⟨_,aq.of el⟩,fun D hD=>cg (xs:=xs) (fun i ys H'=>af H H'/\H' D=some (.lst ys)/\ys.length=aB (oq ps p) i/\i<=ps.length) (sz (by omega)) ⟨af.new (af.refl H) hD _,ae,rfl,Nat.zero_le _⟩ (fun i ys H' hi h=>⟨aq.of (h.1 _ _ el),by rw [h.2.2.1]; exact gO _ _⟩) (fun i x ys H' R R0 hx h r r0=>?_) (fun ys H' h=>?_)⟩
 ·obtain ⟨sm,hy,ey,hi⟩:=h
  obtain ⟨pp,tt,hpp,rfl,htt⟩:=pr.get hx
  have hlt:i < ps.length:=(List.getElem?_eq_some_iff.mp hpp).1
  have gp:ps.getD i (0,0)=pp:=by rw [List.getD_eq_getElem?_getD,hpp]; rfl
  have ht2:=sm _ _ htt
  have ht3:=sm _ _ ht
  have st:aB (oq ps p) (i+1)=aB (oq ps p) i+(if oq ps p i=true then 1 else 0):=rfl
  unfold oq at st
  rw [gp] at st
  refine ⟨tt,_,rfl,eE.of ht2,rfl,_,_,rfl,_,_,rfl,rfl,(Ext.set rfl).trans (Ext.set rfl),⟨_,rfl,_,rfl,t,_,_,_,rfl,rfl,eE.of ht3,rfl,_,_,rfl,rfl,_,rfl,?_⟩⟩
  by_cases c1:pp.1 < p.1
  ·rw [decide_eq_true c1,Bool.true_and] at st
   refine gr c1 ⟨_,rfl,t,_,_,_,rfl,rfl,eE.of ht3,rfl,_,rfl,_,_,rfl,rfl,_,rfl,?_⟩
   by_cases c2:p.2 < pp.2
   ·rw [if_pos (decide_eq_true c2)] at st
    refine gr c2 ⟨_,rfl,_,rfl,(by show 2<=sizeLine; decide),fun u hu=>?_⟩
    refine r _ _ ((ak (aw hy hu)).trans hy) ⟨(af.new sm hu _).upd hD _,ae,by rw [List.length_append,ey]; exact st.symm,hlt⟩
   ·rw [if_neg (by rw [decide_eq_false c2]; decide)] at st
    exact gu c2 (r0 _ ⟨sm,hy,by rw [ey]; exact st.symm,hlt⟩)
  ·rw [decide_eq_false c1,Bool.false_and,if_neg (by decide)] at st
   exact gu c1 (fJ (r0 _ ⟨sm,hy,by rw [ey]; exact st.symm,hlt⟩))
 ·obtain ⟨sm,hy,ey,hi⟩:=h
  rw [lxs] at ey
  exact q _ _ _ sm hD hy ey
theorem BC (F:ba K "bows_returns" "bows_returns" kW f fd) {f0:Addr} {fd0:FuncData} (lU:Def P w K mg base "bows_over" ["thing","bow"] 1 (n9 K ca) f0 fd0) (aN:mg "len" = none):aD P w K mg base a8 2 f fd ["thing"] (sC K ca):=by
 refine F.ok Ca (fun vs H Q E h=>?_) (fun cdv A outer s H vs Q E hr h=>?_)
 ·obtain ⟨l,ps,rfl,hl,hz,bw,q⟩:=h
  rfl
 obtain ⟨l,ps,rfl,hl,hz,bw,q⟩:=h
 refine ⟨_,ao (aW (aK aJ rfl aN bN (aa (eW rfl (bH (pv 0)) rfl rfl rfl rfl (N:=["bow","thing"]) (.own (.cap (j:=0) rfl rfl rfl .nil)) (fun _ _ _ _ _ _=>(aO (i:=0) (by show List.Nodup (["bow","thing"]:List Str); decide +kernel) rfl (Or.inl rfl))) (fun _ _ _ _ _ _=>(gR (bz (uU (K:=K) rfl (jw hr)) (bI lU hr (aa (pv 1) (aa (pv 0) ag))) (br ag) (bo _)))) (fun _ _ _ _ _ _=>(pv 0))) ag))),?_⟩
 obtain ⟨xs,el,lxs,pr⟩:=hl.len
 refine ⟨_,rfl,l,rfl,⟨_,aq.of el⟩,fun D hD=>cg (xs:=xs) (fun i ys H'=>af H H'/\H' D=some (.lst ys)/\ys.length=aB (jh ps) i/\i<=ps.length) (sz (by omega)) ⟨af.new (af.refl H) hD _,ae,rfl,Nat.zero_le _⟩ (fun i ys H' hi h=>⟨aq.of (h.1 _ _ el),by rw [h.2.2.1]; exact gO _ _⟩) (fun i x ys H' R R0 hx h r r0=>?_) (fun ys H' h=>?_)⟩
 ·obtain ⟨sm,hy,ey,hi⟩:=h
  obtain ⟨pp,tt,hpp,rfl,htt⟩:=pr.get hx
  have hlt:i < ps.length:=(List.getElem?_eq_some_iff.mp hpp).1
  have gp:ps.getD i (0,0)=pp:=by rw [List.getD_eq_getElem?_getD,hpp]; rfl
  have ht2:=sm _ _ htt
  have ep:ps[i]=pp:=(List.getElem?_eq_some_iff.mp hpp).2
  have st:aB (jh ps) (i+1)=aB (jh ps) i+(if jh ps i=true then 1 else 0):=rfl
  unfold jh at st
  refine ⟨Ext.set rfl,_,rfl,_,rfl,l,tt,ps,pp,rfl,hl.same sm,hz,ht2,fun po os H3 s3 f3 h3 eo=>⟨Nat.zero_le _,fun pe hpe=>?_⟩⟩
  rw [<- ep,zz bw hlt] at eo
  have k4:=af.new (af.refl H3) hpe (.lst [])
  have s4:=s3.trans k4
  have neo:po≠pe:=aw h3 hpe
  refine ⟨1,_,by decide,EqD.void neo (aq.of (k4 _ _ h3)) (aq.of ae),⟨po,pe,rfl,rfl,neo⟩,_,rfl,?_⟩
  by_cases e:os=[]
  ·rw [e] at eo
   rw [if_pos (decide_eq_true (show gj (a9 ps) i=0 from eo.symm))] at st
   exact eqT (decide_eq_true e) ⟨_,rfl,r _ _ (s4 _ _ hy) ⟨(sm.trans s4).upd hD _,ae,by rw [List.length_append,ey]; exact st.symm,hlt⟩⟩
  ·have ne0:¬ gj (a9 ps) i=0:=fun z=>e (List.eq_nil_of_length_eq_zero (by omega))
   rw [if_neg (by rw [decide_eq_false ne0]; decide)] at st
   exact DG (decide_eq_false e) (r0 _ ⟨sm.trans s4,s4 _ _ hy,by rw [ey]; exact st.symm,hlt⟩)
 ·obtain ⟨sm,hy,ey,hi⟩:=h
  rw [lxs] at ey
  refine ⟨D,_,rfl,.inl (aq.of hy),?_⟩
  rw [ey]
  exact q _ sm
theorem BU (F:ba K "bows_height" "bows_height" me f fd) {f0:Addr} {fd0:FuncData} (lU:Def P w K mg base "bows_over" ["thing","bow"] 1 (n9 K ca) f0 fd0) (jC:mg "max" = none) (aN:mg "len" = none):aD P w K mg base a8 2 f fd ["thing"] (tQ K ca):=by
 refine F.ok Cf (fun vs H Q E h=>?_) (fun cdv A outer s H vs Q E hr h=>?_)
 ·obtain ⟨l,ps,rfl,hl,hz,bw,q⟩:=h
  rfl
 obtain ⟨l,ps,rfl,hl,hz,bw,q⟩:=h
 refine ⟨_,ao (aW (xP (yg rfl) rfl jC ui (aa (eW rfl (bH (pv 0)) rfl rfl rfl rfl (N:=["bow","thing"]) (.own (.cap (j:=0) rfl rfl rfl .nil)) (fun _ _ _ _ _ _=>(aO (i:=0) (by show List.Nodup (["bow","thing"]:List Str); decide +kernel) rfl (Or.inl rfl))) (fun _ _ _ _ _ _=>gP) (fun _ _ _ _ _ _=>(aI dE (aK (qj (K:=K) rfl) rfl aN bN (aa (bI lU hr (aa (pv 1) (aa (pv 0) ag))) ag)) ar))) ag) (Af ar BS))),?_⟩
 obtain ⟨xs,el,lxs,pr⟩:=hl.len
 refine ⟨_,rfl,l,rfl,⟨_,aq.of el⟩,fun D hD=>cg (xs:=xs) (fun i ys H'=>af H H'/\H' D=some (.lst ys)/\ys=((List.range i).map fun (k:Nat)=>1+(gj (a9 ps) k:Int)).map V.int/\i<=ps.length) (sz (by omega)) ⟨af.new (af.refl H) hD _,ae,rfl,Nat.zero_le _⟩ (fun i ys H' hi h=>⟨aq.of (h.1 _ _ el),by rw [h.2.2.1,List.length_map,List.length_map,List.length_range]; exact Nat.le_refl _⟩) (fun i x ys H' R R0 hx h r r0=>?_) (fun ys H' h=>?_)⟩
 ·obtain ⟨sm,hy,ey,hi⟩:=h
  obtain ⟨pp,tt,hpp,rfl,htt⟩:=pr.get hx
  have hlt:i < ps.length:=(List.getElem?_eq_some_iff.mp hpp).1
  have gp:ps.getD i (0,0)=pp:=by rw [List.getD_eq_getElem?_getD,hpp]; rfl
  have ht2:=sm _ _ htt
  have ep:ps[i]=pp:=(List.getElem?_eq_some_iff.mp hpp).2
  refine ⟨Ext.set rfl,rO (fI ⟨_,rfl,_,rfl,l,tt,ps,pp,rfl,hl.same sm,hz,ht2,fun po os H3 s3 f3 h3 eo=>⟨po,_,rfl,.inl (aq.of h3),_,_,rfl,rfl,r _ _ (s3 _ _ hy) ⟨(sm.trans s3).upd hD _,ae,?_,hlt⟩⟩⟩)⟩
  rw [<- ep,zz bw hlt] at eo
  rw [eo,List.range_succ,List.map_append,List.map_append,<- ey]
  show _++[V.int ((gj (a9 ps) i:Int)+1)]=_++[V.int (1+(gj (a9 ps) i:Int))]
  rw [Int.add_comm]
 ·obtain ⟨sm,hy,ey,hi⟩:=h
  rw [lxs] at ey
  have ef:=uK bw.nst ps.length (by rw [ny]; exact Nat.le_refl _)
  rw [ey,<- ef] at hy
  refine ⟨D,_,.int 0,rfl,rfl,aq.of hy,fun e0=>?_,fun hne M' hM hmax=>?_⟩
  ·have q:=q _ sm
   rw [e0] at q
   exact q
  ·have eM:=Ae (fun x hx=>by have:=vb (a9 ps) _ x hx; omega) hM hmax
   rw [eM]
   exact q _ sm
theorem Cu (F:ba K "rooms_peaks" "rooms_peaks" lH f fd) (aN:mg "len" = none):aD P w K mg base a8 1 f fd ["thing"] (rp K ca):=by
 refine F.ok BE (fun vs H Q E h=>?_) (fun cdv A outer s H vs Q E hr h=>?_)
 ·obtain ⟨l,H0,rs,rfl,hl,hz,hne,q⟩:=h
  rfl
 obtain ⟨l,H0,rs,rfl,hl,hz,hne,q⟩:=h
 refine ⟨_,ao (aW (aK aJ rfl aN bN (aa (pv 0) ag))),?_⟩
 obtain ⟨xs,ex,lx⟩:=hl.len
 refine ⟨_,rfl,l,_,rfl,.inl (aq.of ex),?_⟩
 rw [lx]
 exact q H (af.refl H)
theorem Bq (F:ba K "rooms_around" "rooms_around" lS f fd):aD P w K mg base a8 1 f fd ["thing","room"] (so K ca):=by
 refine F.ok BV (fun vs H Q E h=>?_) (fun cdv A outer s H vs Q E hr h=>?_)
 ·obtain ⟨l,t,H0,rs,r',rfl,hl,hz,hne,ht,hr',q⟩:=h
  rfl
 obtain ⟨l,t,H0,rs,r',rfl,hl,hz,hne,ht,hr',q⟩:=h
 refine ⟨_,ao (aW (eW rfl (bH (pv 0)) rfl rfl rfl rfl (N:=["other","room"]) (.own (.cap (j:=1) rfl rfl rfl .nil)) (fun _ _ _ _ _ _=>(aO (i:=0) (by show List.Nodup (["other","room"]:List Str); decide +kernel) rfl (Or.inl rfl))) (fun _ _ _ _ _ _=>(gR (PW.pt (n8 (bz fY (aV (dD (K:=K) rfl) (pv 0) ar (fun _ _=>rfl)) (aV (dD (K:=K) rfl) (pv 1) ar (fun _ _=>rfl)) (bo _)) (my (bz fY (aV (dD (K:=K) rfl) (pv 1) (nY jT ar) (fun _ _=>rfl)) (aV (dD (K:=K) rfl) (pv 0) (nY jT ar) (fun _ _=>rfl)) (bo _))))))) (fun _ _ _ _ _ _=>(pv 0)))),?_⟩
 obtain ⟨xs,ex,lxs⟩:=hl.len
 refine ⟨_,rfl,l,rfl,⟨_,aq.of ex⟩,fun D hD=>cg (xs:=xs) (fun i ys H'=>af H H'/\H' D=some (.lst ys)/\ys.length=aB (iP rs r') i/\i<=rs.length) (sz (by omega)) ⟨af.new (af.refl H) hD _,ae,rfl,Nat.zero_le _⟩ (fun i ys H' hi h=>⟨aq.of (h.1 _ _ ex),by rw [h.2.2.1]; exact gO _ _⟩) (fun i x ys H' R R0 hx h R1 r0=>?_) (fun ys H' h=>?_)⟩
 ·obtain ⟨sm,hy,ey,hi⟩:=h
  obtain ⟨b,ns,rfl,hn,hb,_⟩:=hl.at ex hx
  have hlt:i < rs.length:=(List.getElem?_eq_some_iff.mp hn).1
  have gp:rs.getD i []=ns:=by rw [List.getD_eq_getElem?_getD,hn]; rfl
  have nn:=hne ns (List.mem_of_getElem? hn)
  have hb2:=sm _ _ hb
  have ht3:=sm _ _ ht
  have st:aB (iP rs r') (i+1)=aB (iP rs r') i+(if iP rs r' i=true then 1 else 0):=rfl
  unfold iP at st
  rw [gp] at st
  refine ⟨Ext.set rfl,⟨_,rfl,b,_,_,_,rfl,rfl,aq.of hb2,nM nn,_,rfl,t,_,_,_,rfl,rfl,aq.of ht3,nM hr',_,_,rfl,rfl,_,rfl,?_⟩⟩
  by_cases c1:hd ns < hd r'
  ·rw [decide_eq_true c1,Bool.true_and] at st
   refine gr c1 ⟨_,rfl,_,rfl,t,_,_,_,rfl,rfl,aq.of ht3,iN hr',_,rfl,_,rfl,b,_,_,_,rfl,rfl,aq.of hb2,iN nn,_,_,rfl,rfl,_,rfl,?_⟩
   by_cases c2:lst r' < lst ns
   ·rw [if_pos (decide_eq_true c2)] at st
    exact gr c2 ⟨_,rfl,R1 _ _ hy ⟨sm.upd hD _,ae,by rw [List.length_append,ey]; exact st.symm,hlt⟩⟩
   ·rw [if_neg (by rw [decide_eq_false c2]; decide)] at st
    exact gu c2 (r0 _ ⟨sm,hy,by rw [ey]; exact st.symm,hlt⟩)
  ·rw [decide_eq_false c1,Bool.false_and,if_neg (by decide)] at st
   exact gu c1 (fJ (r0 _ ⟨sm,hy,by rw [ey]; exact st.symm,hlt⟩))
 ·obtain ⟨sm,hy,ey,hi⟩:=h
  rw [lxs] at ey
  exact q _ _ _ sm hD hy ey
theorem AX (F:ba K "rooms_returns" "rooms_returns" lF f fd) {f0:Addr} {fd0:FuncData} (vP:Def P w K mg base "rooms_around" ["thing","room"] 1 (so K ca) f0 fd0) (aN:mg "len" = none):aD P w K mg base a8 2 f fd ["thing"] (rS K ca):=by
 refine F.ok CK (fun vs H Q E h=>?_) (fun cdv A outer s H vs Q E hr h=>?_)
 ·obtain ⟨l,H0,rs,rfl,hl,hz,hne,q⟩:=h
  rfl
 obtain ⟨l,H0,rs,rfl,hl,hz,hne,q⟩:=h
 refine ⟨_,ao (aW (aK aJ rfl aN bN (aa (eW rfl (bH (pv 0)) rfl rfl rfl rfl (N:=["room","thing"]) (.own (.cap (j:=0) rfl rfl rfl .nil)) (fun _ _ _ _ _ _=>(aO (i:=0) (by show List.Nodup (["room","thing"]:List Str); decide +kernel) rfl (Or.inl rfl))) (fun _ _ _ _ _ _=>(gR (bz (uU (K:=K) rfl (jw hr)) (bI vP hr (aa (pv 1) (aa (pv 0) ag))) (br ag) (bo _)))) (fun _ _ _ _ _ _=>(pv 0))) ag))),?_⟩
 obtain ⟨xs,ex,lxs⟩:=hl.len
 refine ⟨_,rfl,l,rfl,⟨_,aq.of ex⟩,fun D hD=>cg (xs:=xs) (fun i ys H'=>af H H'/\H' D=some (.lst ys)/\ys.length=aB (ku rs) i/\i<=rs.length) (sz (by omega)) ⟨af.new (af.refl H) hD _,ae,rfl,Nat.zero_le _⟩ (fun i ys H' hi h=>⟨aq.of (h.1 _ _ ex),by rw [h.2.2.1]; exact gO _ _⟩) (fun i x ys H' R R0 hx h r r0=>?_) (fun ys H' h=>?_)⟩
 ·obtain ⟨sm,hy,ey,hi⟩:=h
  obtain ⟨b,ns,rfl,hn,hb,_⟩:=hl.at ex hx
  have hlt:i < rs.length:=(List.getElem?_eq_some_iff.mp hn).1
  have gp:rs.getD i []=ns:=by rw [List.getD_eq_getElem?_getD,hn]; rfl
  have nn:=hne ns (List.mem_of_getElem? hn)
  have hb2:=sm _ _ hb
  have st:aB (ku rs) (i+1)=aB (ku rs) i+(if ku rs i=true then 1 else 0):=rfl
  unfold ku at st
  rw [gp] at st
  refine ⟨Ext.set rfl,_,rfl,_,rfl,l,b,H0,rs,ns,rfl,hl.same sm,hz,hne,hb2,nn,fun po os H3 s3 f3 h3 eo=>⟨Nat.zero_le _,fun pe hpe=>?_⟩⟩
  have k4:=af.new (af.refl H3) hpe (.lst [])
  have s4:=s3.trans k4
  have neo:po≠pe:=aw h3 hpe
  refine ⟨1,_,by decide,EqD.void neo (aq.of (k4 _ _ h3)) (aq.of ae),⟨po,pe,rfl,rfl,neo⟩,_,rfl,?_⟩
  by_cases e:os=[]
  ·rw [e] at eo
   rw [if_pos (decide_eq_true (show aB (iP rs ns) rs.length=0 from eo.symm))] at st
   exact eqT (decide_eq_true e) ⟨_,rfl,r _ _ (s4 _ _ hy) ⟨(sm.trans s4).upd hD _,ae,by rw [List.length_append,ey]; exact st.symm,hlt⟩⟩
  ·have ne0:¬ aB (iP rs ns) rs.length=0:=fun z=>e (List.eq_nil_of_length_eq_zero (by omega))
   rw [if_neg (by rw [decide_eq_false ne0]; decide)] at st
   exact DG (decide_eq_false e) (r0 _ ⟨sm.trans s4,s4 _ _ hy,by rw [ey]; exact st.symm,hlt⟩)
 ·obtain ⟨sm,hy,ey,hi⟩:=h
  rw [lxs] at ey
  refine ⟨D,_,rfl,.inl (aq.of hy),?_⟩
  rw [ey]
  exact q _ sm
theorem Bg (F:ba K "mark" "mark" lD f fd) {f0:Addr} {fd0:FuncData} (kZ:Def P w K mg base "family_of" ["word"] 8 (oj K ca) f0 fd0) {f1:Addr} {fd1:FuncData} (wH:Def P w K mg base "marks_of" ["word"] 9 (sJ K ca) f1 fd1) {fd2:FuncData} (wA:aE P w K mg base ["self","thing"] 3 (sE K ca) ca.qX fd2) {fd3:FuncData} (yR:aE P w K mg base ["self","thing"] 4 (wF K ca) ca.vS fd3) {f4:Addr} {fd4:FuncData} (g6:Def P w K mg base "all_measures" [] 1 (nO K ca) f4 fd4) {f5:Addr} {fd5:FuncData} (qD:Def P w K mg base "bows_peaks" ["thing"] 1 (tG K ca) f5 fd5) {f6:Addr} {fd6:FuncData} (qL:Def P w K mg base "bows_returns" ["thing"] 2 (sC K ca) f6 fd6) {f7:Addr} {fd7:FuncData} (qV:Def P w K mg base "bows_height" ["thing"] 2 (tQ K ca) f7 fd7) {f8:Addr} {fd8:FuncData} (qT:Def P w K mg base "rooms_peaks" ["thing"] 1 (rp K ca) f8 fd8) {f9:Addr} {fd9:FuncData} (qS:Def P w K mg base "rooms_returns" ["thing"] 2 (rS K ca) f9 fd9):aD P w K mg base a8 10 f fd ["word","name","thing"] (rl K ca):=by
 refine F.ok xI (fun vs H Q E h=>?_) (fun cdv A outer s H vs Q E hr h=>?_)
 ·obtain ⟨w,n,x,v,rfl,hm,q⟩:=h
  rfl
 obtain ⟨w,n,x,v,rfl,hm,q⟩:=h
 refine ⟨_,au (bg (i:=3) xI.nd rfl (Or.inl rfl) (bI kZ hr (aa (pv 0) ag)))
  (au (fX (bz yf (pv 1) (bI wH hr (aa (pv 0) ag)) (by rfl)) (ao nh) eA)
  (au (aR (kB (qW (pv 3) CA.ji CA.mt_Bows_refuse_other wA hr (aa (pv 2) ag)) (qW (pv 3) CA.iB CA.mt_Rooms_refuse_other yR hr (aa (pv 2) ag))))
  (ao (aW (kB (je (fu (jO hr) (fu (jO hr) (hV g6 hr) (pv 0) (fun _ _=>rfl)) (pv 1) (fun _ _=>rfl)) qD hr (aa (pv 2) ag)) (kB (je (fu (jO hr) (fu (jO hr) (hV g6 hr) (pv 0) (fun _ _=>rfl)) (pv 1) (fun _ _=>rfl)) qL hr (aa (pv 2) ag)) (kB (je (fu (jO hr) (fu (jO hr) (hV g6 hr) (pv 0) (fun _ _=>rfl)) (pv 1) (fun _ _=>rfl)) qV hr (aa (pv 2) ag)) (kB (je (fu (jO hr) (fu (jO hr) (hV g6 hr) (pv 0) (fun _ _=>rfl)) (pv 1) (fun _ _=>rfl)) qT hr (aa (pv 2) ag)) (je (fu (jO hr) (fu (jO hr) (hV g6 hr) (pv 0) (fun _ _=>rfl)) (pv 1) (fun _ _=>rfl)) qS hr (aa (pv 2) ag)))))))))),?_⟩
 rcases hm with ⟨l,ps,rfl,hl,h40,bw,rfl,hm⟩ | ⟨l,H0,rs,rfl,hl,z1,z2,z3,hB,rfl,hm⟩
 ·have hf:((("bows" : Str),ca.aM,(0:Int)):Str × Addr × Int)∈iU ca:=List.mem_append_left _ (List.mem_cons_of_mem _ (List.mem_cons_of_mem _ (List.mem_cons_of_mem _ (List.mem_cons_self ..))))
  have hi:(iy ca).lookup ("bows" : Str)=some ([("peaks",ca.fw),("returns",ca.dv),("height",ca.eB)]:List (Str × Addr)):=rfl
  have hn:n∈(["peaks","returns","height"]:List Str):=by
   rcases hm with ⟨rfl,_⟩ | ⟨rfl,_⟩ | ⟨rfl,_⟩
   all_goals simp
  refine ⟨_,rfl,("bows",ca.aM,0),rfl,hf,fun x dx fs H1 s1 hx fl=>?_⟩
  refine ⟨_,rfl,_,rfl,("bows",ca.aM,0),_,rfl,hf,hi,fun p H2 s2 f2 h2=>⟨n,p,_,rfl,rfl,aq.of h2,_,rfl,vn hn ?_⟩⟩
  have t2:=s1.trans s2
  refine .inl ⟨_,rfl,x,dx,fs,rfl,s2 _ _ hx,fl.no "refuse_other" (by decide) (by decide),_,rfl,x,dx,fs,l,ps,rfl,s2 _ _ hx,fl.no "is_one" (by decide) (by decide),hl.same t2,by omega,bw.bows,fun H3 s3=>?_⟩
  have t3:=t2.trans s3
  rcases hm with ⟨rfl,rfl⟩ | ⟨rfl,rfl⟩ | ⟨rfl,rfl⟩
  ·refine .inl ⟨rfl,fun pm H4 s4 f4 m4=>?_⟩
   obtain ⟨d,g1,g2⟩:=m4.get hi
   have t4:=t3.trans s4
   exact ⟨_,rfl,pm,_,rfl,g1,_,rfl,d,_,rfl,iH g2 rfl,g8 CA.j0 qD.m,_,rfl,l,ps,rfl,hl.same t4,h40,bw,fun H5 s5=>q H5 (t4.trans s5)⟩
  ·refine .inr (.inl ⟨rfl,fun pm H4 s4 f4 m4=>?_⟩)
   obtain ⟨d,g1,g2⟩:=m4.get hi
   have t4:=t3.trans s4
   exact ⟨_,rfl,pm,_,rfl,g1,_,rfl,d,_,rfl,iH g2 rfl,g8 CA.jb qL.m,_,rfl,l,ps,rfl,hl.same t4,h40,bw,fun H5 s5=>q H5 (t4.trans s5)⟩
  ·refine .inr (.inr (.inl ⟨rfl,fun pm H4 s4 f4 m4=>?_⟩))
   obtain ⟨d,g1,g2⟩:=m4.get hi
   have t4:=t3.trans s4
   exact ⟨_,rfl,pm,_,rfl,g1,_,rfl,d,_,rfl,iH g2 rfl,g8 CA.jK qV.m,_,rfl,l,ps,rfl,hl.same t4,h40,bw,fun H5 s5=>q H5 (t4.trans s5)⟩
 ·have hf:((("rooms" : Str),ca.aG,(0:Int)):Str × Addr × Int)∈iU ca:=List.mem_append_left _ (List.mem_cons_of_mem _ (List.mem_cons_of_mem _ (List.mem_cons_of_mem _ (List.mem_cons_of_mem _ (List.mem_cons_self ..)))))
  have hi:(iy ca).lookup ("rooms" : Str)=some ([("peaks",ca.ee),("returns",ca.cT)]:List (Str × Addr)):=rfl
  have hn:n∈(["peaks","returns"]:List Str):=by
   rcases hm with ⟨rfl,_⟩ | ⟨rfl,_⟩
   all_goals simp
  refine ⟨_,rfl,("rooms",ca.aG,0),rfl,hf,fun x dx fs H1 s1 hx fl=>?_⟩
  refine ⟨_,rfl,_,rfl,("rooms",ca.aG,0),_,rfl,hf,hi,fun p H2 s2 f2 h2=>⟨n,p,_,rfl,rfl,aq.of h2,_,rfl,vn hn ?_⟩⟩
  have t2:=s1.trans s2
  refine .inr (⟨_,rfl,x,dx,fs,rfl,s2 _ _ hx,fl.no "refuse_other" (by decide) (by decide),_,rfl,x,dx,fs,l,H0,rs,rfl,s2 _ _ hx,fl.no "is_one" (by decide) (by decide),hl.same t2,z1,z2,z3,hB,fun H3 s3=>?_⟩)
  have t3:=t2.trans s3
  rcases hm with ⟨rfl,rfl⟩ | ⟨rfl,rfl⟩
  ·refine .inr (.inr (.inr (.inl ⟨rfl,fun pm H4 s4 f4 m4=>?_⟩)))
   obtain ⟨d,g1,g2⟩:=m4.get hi
   have t4:=t3.trans s4
   exact ⟨_,rfl,pm,_,rfl,g1,_,rfl,d,_,rfl,iH g2 rfl,g8 CA.jF qT.m,_,rfl,l,H0,rs,rfl,hl.same t4,by omega,rA hB,fun H5 s5=>q H5 (t4.trans s5)⟩
  ·refine .inr (.inr (.inr (.inr (⟨rfl,fun pm H4 s4 f4 m4=>?_⟩))))
   obtain ⟨d,g1,g2⟩:=m4.get hi
   have t4:=t3.trans s4
   exact ⟨_,rfl,pm,_,rfl,g1,_,rfl,d,_,rfl,iH g2 rfl,g8 CA.iQ qS.m,_,rfl,l,H0,rs,rfl,hl.same t4,by omega,rA hB,fun H5 s5=>q H5 (t4.trans s5)⟩
theorem AA (F:ba K "_law_told" "_law_told" mF f fd) {f0:Addr} {fd0:FuncData} (vh:Def P w K mg base "mark" ["word","name","thing"] 10 (rl K ca) f0 fd0) (bB:mg "range" = none) (aN:mg "len" = none) (gE:mg "isinstance" = none) (gZ:mg "int" = none) (tN:mg "bool" = none):aD P w K mg base a8 11 f fd ["_law_word","_law_names","_law_thing","_law_due"] (tU K ca):=by
 refine F.ok ot (fun vs H Q E h=>?_) (fun cdv A outer s H vs Q E hr h=>?_)
 ·obtain ⟨w,a,b,x,names,due,rfl,ha,hb,h10,hlen,hm,q⟩:=h
  rfl
 obtain ⟨w,a,b,x,names,due,rfl,ha,hb,h10,hlen,hm,q⟩:=h
 refine ⟨_,au (fz PassesOwn.never rfl (eD rfl bB (aa ar ag)) (aO (i:=4) ot.nd rfl (Or.inl rfl)) (ao (fz PassesOwn.never rfl (eD rfl bB (aa (aK aJ rfl aN bN (aa (pv 1) ag)) ag)) (aO (i:=5) ot.nd rfl (Or.inl rfl)) (au (bg (i:=6) ot.nd rfl (Or.inl rfl) (bI vh hr (aa (pv 0) (aa (aV bj (pv 1) (pv 5) (fun _ _=>rfl)) (aa (pv 2) ag)))))
  (ao (fX (PW.pt (lM (jd (iE (aK mO rfl gE jM (aa (pv 6) (aa (u7 (v:=.ty "int") rfl gZ nK rfl) ag))))) (lM (iE (aK mO rfl gE jM (aa (pv 6) (aa (u7 (v:=.ty "bool") rfl tN zR rfl) ag)))) (kl (bz Dp (pv 6) (aV bj (pv 3) (pv 5) (fun _ _=>rfl)) (bo _)))))) (ao (aW jx)) eA))))))
  (ao (aW jx)),?_⟩
 have lm:(names.map V.str).length=names.length:=List.length_map _
 refine ⟨_,rfl,by decide,by decide,fC (lo:=0) (n:=2) (fun i σ H'=>∃ (o1 o2 o3:Option V),σ=[some (.str w),some (.ref a),some x,some (.ref b),o1,o2,o3]/\af H H') ⟨_,_,_,rfl,af.refl H⟩ ?_ ?_⟩
 ·rintro i σ H1 hi ⟨o1,o2,o3,rfl,s1⟩
  refine ⟨_,rfl,a,_,rfl,.inl (aq.of (s1 _ _ ha)),_,rfl,by omega,by omega,fC (lo:=0) (n:=(((names.map V.str).length:Nat):Int).toNat) (fun j σ H'=>∃ (o2 o3:Option V),σ=[some (.str w),some (.ref a),some x,some (.ref b),some (.int ((0:Int)+(i:Int))),o2,o3]/\af H H') ⟨_,_,rfl,s1⟩ ?_ ?_⟩
  ·rintro j σ H2 hj ⟨o2,o3,rfl,s2⟩
   have hj1:j < names.length:=by omega
   have hj2:j < due.length:=by omega
   have n1:names[j]? = some names[j]:=List.getElem?_eq_getElem hj1
   have n2:due[j]? = some due[j]:=List.getElem?_eq_getElem hj2
   have at1:gi (names.map V.str) ((0:Int)+(j:Int))=some (.str names[j]):=by
    rw [Int.zero_add]; exact gW (by rw [List.getElem?_map,n1]; rfl)
   have at2:gi (due.map V.int) ((0:Int)+(j:Int))=some (.int due[j]):=by
    rw [Int.zero_add]; exact gW (by rw [List.getElem?_map,n2]; rfl)
   refine ⟨_,rfl,_,rfl,_,rfl,a,_,_,_,rfl,rfl,aq.of (s2 _ _ ha),at1,_,rfl,w,_,x,_,rfl,(hm j _ _ n1 n2).same s2,fun H3 s3=>?_⟩
   have s4:=s2.trans s3
   exact ⟨_,rfl,_,_,_,_,_,rfl,zp,.int _,uz,_,rfl,fJ ⟨_,rfl,_,_,_,_,_,rfl,zp,.int _,rC,_,rfl,fJ ⟨_,rfl,_,rfl,_,rfl,b,_,_,_,rfl,rfl,aq.of (s4 _ _ hb),at2,rfl,_,rfl,vn rfl ⟨_,_,rfl,s4⟩⟩⟩⟩
  ·rintro σ H2 ⟨o2,o3,rfl,s2⟩
   exact ⟨_,_,_,rfl,s2⟩
 ·rintro σ H1 ⟨o1,o2,o3,rfl,s1⟩
  exact q H1 s1
theorem Cz (F:ba K "_law_of_bows" "_law_of_bows" lW f fd) (bB:mg "range" = none) (aN:mg "len" = none) (gZ:mg "int" = none) (jC:mg "max" = none):aD P w K mg base a8 1 f fd ["_law_bows_here"] (sG K ca):=by
 refine F.ok hJ (fun vs H Q E h=>?_) (fun cdv A outer s H vs Q E hr h=>?_)
 ·obtain ⟨l,ps,rfl,hl,hz,q⟩:=h
  rfl
 obtain ⟨l,ps,rfl,hl,hz,q⟩:=h
 refine ⟨_,au (bg (i:=1) hJ.nd rfl (Or.inl rfl) ar)
  (au (bg (i:=2) hJ.nd rfl (Or.inl rfl) ar)
  (au (bg (i:=3) hJ.nd rfl (Or.inr rfl) (br ag))
  (au (fz PassesOwn.never rfl (eD rfl bB (aa (aK aJ rfl aN bN (aa (pv 0) ag)) ag)) (aO (i:=4) hJ.nd rfl (Or.inr rfl)) (au (jA (i:=5) hJ.nd rfl (Or.inl rfl) rfl rfl (eD rfl bB (aa (pv 4) ag)) rfl rfl rfl rfl (N:=["_law_j","_law_bows_here","_law_k"]) (.own (.cap (j:=0) rfl rfl rfl (.cap (j:=4) rfl rfl rfl .nil))) (fun _ _ _ _ _ _=>(aO (i:=0) (by show List.Nodup (["_law_j","_law_bows_here","_law_k"]:List Str); decide +kernel) rfl (Or.inl rfl))) (fun _ _ _ _ _ _=>(gR (bz fY (aV (kR (K:=K) rfl) (aV (dD (K:=K) rfl) (pv 1) (pv 2) (fun _ _=>rfl)) ar (fun _ _=>rfl)) (aV (kR (K:=K) rfl) (aV (dD (K:=K) rfl) (pv 1) (pv 0) (fun _ _=>rfl)) ar (fun _ _=>rfl)) (bo _)))) (fun _ _ _ _ _ _=>(pv 0)))
  (uV (bg (i:=1) hJ.nd rfl (Or.inl rfl) (aI dE (pv 1) (gv jR rfl gZ nK (aa (gN iO (aV nN (aV bj (pv 0) (pv 4) (fun _ _=>rfl)) ar (fun _ _=>rfl)) (aI dE (aV nN (aV bj (pv 0) (pv 4) (fun _ _=>rfl)) ar (fun _ _=>rfl)) ar) (bo _)) ag))))
  (uV (bg (i:=2) hJ.nd rfl (Or.inl rfl) (aI dE (pv 2) (gv jR rfl gZ nK (aa (gN iO (aK aJ rfl aN bN (aa (pv 5) ag)) ar (bo _)) ag))))
  (ao (aR (iw PySem.F.plainAttrs_list PySem.F.slot_list_append PySem.F.type_list_append eN (pv 3) (aa (aI dE ar (aK (pZ rfl) rfl jC ui (aa (aI oG (br (aa ar ag)) (eW rfl (bH (pv 5)) rfl rfl rfl rfl (N:=["_law_j","_law_depths"]) (.own (.cap (j:=3) rfl rfl rfl .nil)) (fun _ _ _ _ _ _=>(aO (i:=0) (by show List.Nodup (["_law_j","_law_depths"]:List Str); decide +kernel) rfl (Or.inl rfl))) (fun _ _ _ _ _ _=>gP) (fun _ _ _ _ _ _=>(aV (dD (K:=K) rfl) (pv 1) (pv 0) (fun _ _=>rfl))))) ag))) ag))))))))
  (ao (aW (br (aa (pv 1) (aa (pv 2) (aa (aK (pZ rfl) rfl jC ui (aa (aI oG (br (aa ar ag)) (pv 3)) ag)) ag))))))))),?_⟩
 obtain ⟨xs,el,lxs,pr⟩:=hl.len
 have lsn:=ny ps
 refine ⟨Nat.zero_le _,fun pl hpl=>?_⟩
 have s1:=af.new (af.refl H) hpl (.lst [])
 refine ⟨_,rfl,l,_,rfl,.inl (aq.of (s1 _ _ el)),_,rfl,by omega,by omega,fC (lo:=0) (n:=((xs.length:Nat):Int).toNat) (fun i σ H'=>∃ (o1 o2:Option V),σ=[some (.ref l),some (.int (aB (iZ ps) i:Nat)),some (.int (aB (jh ps) i:Nat)),some (.ref pl),o1,o2]/\af H H'/\H' pl=some (.lst ((cy (a9 ps) i).map V.int))) ⟨_,_,rfl,s1,ae⟩ ?_ ?_⟩
 ·rintro i σ H2 hi ⟨o1,o2,rfl,s2,hpl2⟩
  have hlt:i < ps.length:=by omega
  have el2:=s2 _ _ el
  have row:∀ (j:Nat) (H':Hp),j < ps.length->af H H'->∃ t,gi xs ((0:Int)+(j:Int))=some (.ref t)/\H' t=some (.tup [.int (ps.getD j (0,0)).1,.int (ps.getD j (0,0)).2]):=fun j H' hj s=>by
   have hx:xs[j]? = some xs[j]:=List.getElem?_eq_getElem (by omega)
   obtain ⟨pp,tt,hpp,e,htt⟩:=pr.get hx
   refine ⟨tt,?_,?_⟩
   ·rw [Int.zero_add]; exact gW (by rw [hx,e])
   ·rw [List.getD_eq_getElem?_getD,hpp]; exact s _ _ htt
  refine ⟨_,rfl,_,rfl,by omega,by omega,fun D hD=>uo (lo:=0) (n:=((0:Int)+(i:Int)).toNat) (fun m ys H'=>af H2 H'/\H' D=some (.lst ys)/\ys=((List.range m).filter (bP (a9 ps) i)).map (fun (j:Nat)=>V.int (j:Int))/\m<=i) (sz (by omega)) ⟨af.new (af.refl H2) hD _,ae,rfl,Nat.zero_le _⟩ (fun m ys H' hm h=>by rw [h.2.2.1,List.length_map]; exact Nat.le_trans (List.length_filter_le _ _) (by rw [List.length_range]; exact Nat.le_refl _)) (fun m ys H' R R0 hm h r r0=>?_) (fun ys H' h=>?_)⟩
  ·obtain ⟨sm,hy,ey,hmi⟩:=h
   obtain ⟨ti,ai,hti⟩:=row i H' hlt (s2.trans sm)
   obtain ⟨tm,am,htm⟩:=row m H' (by omega) (s2.trans sm)
   have g1:=j5 ps i
   have g2:=j5 ps m
   refine ⟨Ext.set rfl,⟨_,rfl,_,rfl,l,_,_,_,rfl,rfl,aq.of (sm _ _ el2),ai,ti,_,_,_,rfl,rfl,eE.of hti,rfl,_,rfl,_,rfl,l,_,_,_,rfl,rfl,aq.of (sm _ _ el2),am,tm,_,_,_,rfl,rfl,eE.of htm,rfl,_,_,rfl,rfl,_,rfl,?_⟩⟩
   by_cases c1:(ps.getD i (0,0)).2 < (ps.getD m (0,0)).2
   ·refine gr c1 ⟨_,rfl,r _ _ hy ⟨sm.upd hD _,ae,?_,by omega⟩⟩
    rw [List.range_succ,List.filter_append,List.map_append,<- ey,List.filter_cons,if_pos (show bP (a9 ps) i m=true from decide_eq_true (by rw [g1,g2]; exact c1)),Int.zero_add]
    rfl
   ·refine gu c1 (r0 _ ⟨sm,hy,?_,by omega⟩)
    rw [List.range_succ,List.filter_append,List.map_append,<- ey,List.filter_cons,if_neg (show ¬ bP (a9 ps) i m=true from fun z=>c1 (by have:=of_decide_eq_true z; rw [g1,g2] at this; exact this))]
    simp
  obtain ⟨sm,hy,ey,_⟩:=h
  rw [show ((0:Int)+(i:Int)).toNat=i by omega] at ey
  have s3:=s2.trans sm
  have el3:=s3 _ _ el
  have hpl3:=sm _ _ hpl2
  have lov:((List.range i).filter (bP (a9 ps) i)).length=gj (a9 ps) i:=uJ _ _
  generalize H'=H3 at *
  have inc:∀ (g:Nat->Bool) (b:Bool),b=g i->V.int (((aB g i:Nat):Int)+(if b=true then 1 else 0))=V.int ((aB g (i+1):Nat):Int):=fun g b eb=>by
   have st:aB g (i+1)=aB g i+(if g i=true then 1 else 0):=rfl
   rw [st,eb]
   cases g i with
   | true=>rfl
   | false=>rfl
  refine ⟨fun σ H'=>σ=[some (.ref l),some (.int (aB (iZ ps) (i+1):Nat)),some (.int (aB (jh ps) i:Nat)),some (.ref pl),some (.int ((0:Int)+(i:Int))),some (.ref D)]/\H3=H',?_,?_⟩
  ·obtain ⟨ti,ai,hti⟩:=row i H3 hlt s3
   refine ⟨_,rfl,_,rfl,_,rfl,l,_,_,_,rfl,rfl,aq.of el3,ai,ti,_,_,_,rfl,rfl,eE.of hti,rfl,_,rfl,_,rfl,l,_,_,_,rfl,rfl,aq.of el3,ai,ti,_,_,_,rfl,rfl,eE.of hti,rfl,_,_,rfl,rfl,rfl,.inr ⟨_,rfl,_,_,rfl,rfl,?_,rfl⟩⟩
   refine congrArg (fun v=>[some (.ref l),some v,some (.int (aB (jh ps) i:Nat)),some (.ref pl),some (.int ((0:Int)+(i:Int))),some (.ref D)]) (inc (iZ ps) _ ?_)
   exact decide_eq_decide.mpr ⟨fun z=>V.int.inj z,fun z=>congrArg V.int z⟩
  rintro σ H4 ⟨rfl,rfl⟩
  refine ⟨fun σ H'=>σ=[some (.ref l),some (.int (aB (iZ ps) (i+1):Nat)),some (.int (aB (jh ps) (i+1):Nat)),some (.ref pl),some (.int ((0:Int)+(i:Int))),some (.ref D)]/\H3=H',?_,?_⟩
  ·refine ⟨_,rfl,_,rfl,D,_,rfl,.inl (aq.of hy),rfl,.inr ⟨_,rfl,_,_,rfl,rfl,?_,rfl⟩⟩
   refine congrArg (fun v=>[some (.ref l),some (.int (aB (iZ ps) (i+1):Nat)),some v,some (.ref pl),some (.int ((0:Int)+(i:Int))),some (.ref D)]) (inc (jh ps) _ ?_)
   rw [ey,List.length_map,lov]
   exact decide_eq_decide.mpr ⟨fun z=>by have:=V.int.inj z; omega,fun z=>by rw [z]; rfl⟩
  rintro σ H4 ⟨rfl,rfl⟩
  refine ⟨_,rfl,.inl ⟨rfl,_,aq.of hpl3⟩,(by show 1<=sizeLine; decide),fun p0 hp0=>?_⟩
  have j4:=af.new (af.refl H3) hp0 (.lst [.int 0])
  have h0:upd H3 p0 (.lst [.int 0]) p0=some (.lst [.int 0]):=ae
  have s4:=s3.trans j4
  have hy4:=j4 _ _ hy
  have hpl4:=j4 _ _ hpl3
  generalize upd H3 p0 (.lst [.int 0])=H5 at j4 h0 s4 hy4 hpl4 |-
  have lf:=lh (a9 ps) i
  have lys:ys.length<=i:=by rw [ey,List.length_map]; exact Nat.le_trans (List.length_filter_le _ _) (by rw [List.length_range]; exact Nat.le_refl _)
  refine ⟨_,rfl,D,rfl,⟨_,aq.of hy4⟩,fun E hE=>cg (xs:=ys) (fun m zs H'=>af H5 H'/\H' E=some (.lst zs)/\zs=((((List.range i).filter (bP (a9 ps) i)).take m).map fun j=>(cy (a9 ps) i).getD j 0).map V.int) (sz (by omega)) ⟨af.new (af.refl H5) hE _,ae,rfl⟩ (fun m zs H' hm h=>⟨aq.of (h.1 _ _ hy4),?_⟩) (fun m x zs H' R R0 hx h r r0=>?_) (fun zs H' h=>?_)⟩
  ·rw [h.2.2,List.length_map,List.length_map,List.length_take]
   omega
  ·obtain ⟨sm5,hz5,ez5⟩:=h
   rw [ey,List.getElem?_map] at hx
   cases ej:((List.range i).filter (bP (a9 ps) i))[m]? with
   | none=>rw [ej] at hx; cases hx
   | some j =>
    rw [ej] at hx
    injection hx with hx
    subst hx
    have hj:j < i:=List.mem_range.mp (List.mem_filter.mp (List.mem_of_getElem? ej)).1
    have atf:=ff (ns:=cy (a9 ps) i) (i:=((j:Nat):Int)) (by omega) (by omega)
    rw [Int.toNat_natCast] at atf
    refine ⟨Ext.set rfl,rO (fI ⟨_,rfl,_,rfl,pl,_,_,_,rfl,rfl,aq.of (sm5 _ _ hpl4),atf,r _ _ hz5 ⟨sm5.upd hE _,ae,?_⟩⟩)⟩
    rw [List.take_add_one,ej,List.map_append,List.map_append,<- ez5]
    rfl
  obtain ⟨sm5,hz5,ez5⟩:=h
  rw [show ys.length=((List.range i).filter (bP (a9 ps) i)).length by rw [ey,List.length_map],List.take_length] at ez5
  have es:((List.range i).filter (bP (a9 ps) i)).map (fun j=>(cy (a9 ps) i).getD j 0)=gb (a9 ps) (cy (a9 ps) i) i i:=rfl
  rw [es] at ez5
  rw [ez5] at hz5
  have lsel:=y3 (a9 ps) (cy (a9 ps) i) i i
  have sf:cy (a9 ps) (i+1)=cy (a9 ps) i++[1+gc (gb (a9 ps) (cy (a9 ps) i) i i)]:=rfl
  have hpl5:=sm5 _ _ hpl4
  refine ⟨p0,E,_,_,rfl,rfl,sm5 _ _ h0,hz5,by rw [List.length_map]; show 1+_<=sizeLine; exact sz (by omega),fun pc hpc=>?_⟩
  have s6:=af.new (s4.trans sm5) hpc (.lst ([.int 0]++(gb (a9 ps) (cy (a9 ps) i) i i).map V.int))
  have hpl6:=(ak (o:=.lst ([.int 0]++(gb (a9 ps) (cy (a9 ps) i) i i).map V.int)) (aw hpl5 hpc)).trans hpl5
  refine ⟨pc,0::gb (a9 ps) (cy (a9 ps) i) i i,rfl,aq.of ae,List.cons_ne_nil _ _,fun M' hM hmax=>?_⟩
  have eM:=nL hM hmax
  refine ⟨_,_,rfl,rfl,pl,_,_,rfl,rfl,hpl6,by rw [List.length_map,lf]; exact jJ (by omega),_,_,rfl,s6.upd hpl _,?_⟩
  rw [ae,sf,<- eM,List.map_append]
  rfl
 ·rintro σ H2 ⟨o1,o2,rfl,s2,hp⟩
  rw [show ((xs.length:Nat):Int).toNat=ps.length by omega] at hp |-
  have lf:=lh (a9 ps) ps.length
  refine ⟨_,rfl,_,rfl,(by show 1<=sizeLine; decide),fun p0 hp0=>?_⟩
  have j4:=af.new (af.refl H2) hp0 (.lst [.int 0])
  refine ⟨_,rfl,p0,pl,_,_,rfl,rfl,ae,j4 _ _ hp,by rw [List.length_map,lf]; show 1+_<=sizeLine; exact sz (by omega),fun pc hpc=>?_⟩
  have s5:=af.new (s2.trans j4) hpc (.lst ([.int 0]++(cy (a9 ps) ps.length).map V.int))
  refine ⟨pc,0::cy (a9 ps) ps.length,rfl,aq.of ae,List.cons_ne_nil _ _,fun M' hM hmax=>⟨(by show 3<=sizeLine; decide),fun pr' hpr=>q pr' _ (af.new s5 hpr _) ?_⟩⟩
  rw [ae,<- nL hM hmax]
  rfl
theorem Ci (F:ba K "_law_of_rooms" "_law_of_rooms" lT f fd) (gZ:mg "int" = none) (aN:mg "len" = none):aD P w K mg base a8 1 f fd ["_law_rooms_here"] (ua K ca):=by
 refine F.ok kE (fun vs H Q E h=>?_) (fun cdv A outer s H vs Q E hr h=>?_)
 ·obtain ⟨l,H0,rs,rfl,hl,hz,hne,q⟩:=h
  rfl
 obtain ⟨l,H0,rs,rfl,hl,hz,hne,q⟩:=h
 refine ⟨_,au (bg (i:=1) kE.nd rfl (Or.inl rfl) ar)
  (au (fz PassesOwn.never rfl (bH (pv 0)) (aO (i:=2) kE.nd rfl (Or.inr rfl)) (au (jA (i:=3) kE.nd rfl (Or.inl rfl) rfl rfl (bH (pv 0)) rfl rfl rfl rfl (N:=["_law_other","_law_room"]) (.own (.cap (j:=2) rfl rfl rfl .nil)) (fun _ _ _ _ _ _=>(aO (i:=0) (by show List.Nodup (["_law_other","_law_room"]:List Str); decide +kernel) rfl (Or.inl rfl))) (fun _ _ _ _ _ _=>(gR (PW.pt (n8 (bz fY (aV (dD (K:=K) rfl) (pv 0) ar (fun _ _=>rfl)) (aV (dD (K:=K) rfl) (pv 1) ar (fun _ _=>rfl)) (bo _)) (my (bz fY (aV (dD (K:=K) rfl) (pv 1) (nY jT ar) (fun _ _=>rfl)) (aV (dD (K:=K) rfl) (pv 0) (nY jT ar) (fun _ _=>rfl)) (bo _))))))) (fun _ _ _ _ _ _=>(pv 0)))
  (ao (bg (i:=1) kE.nd rfl (Or.inl rfl) (aI dE (pv 1) (gv jR rfl gZ nK (aa (gN iO (aK aJ rfl aN bN (aa (pv 3) ag)) ar (bo _)) ag)))))))
  (ao (aW (br (aa (aK aJ rfl aN bN (aa (pv 0) ag)) (aa (pv 1) ag)))))),?_⟩
 obtain ⟨xs,ex,lxs⟩:=hl.len
 refine ⟨_,rfl,l,rfl,⟨_,aq.of ex⟩,gY (xs:=xs) (fun k σ H'=>∃ (o1 o2:Option V),σ=[some (.ref l),some (.int (aB (ku rs) k:Nat)),o1,o2]/\af H H') ⟨_,_,rfl,af.refl H⟩ (fun k σ H' _ h=>by obtain ⟨_,_,_,sm⟩:=h; exact aq.of (sm _ _ ex)) ?_ ?_⟩
 ·rintro k v σ H2 hv ⟨o1,o2,rfl,s2⟩
  obtain ⟨t,r',rfl,hn',ht,_⟩:=hl.at ex hv
  have hr':=hne r' (List.mem_of_getElem? hn')
  have gk:rs.getD k []=r':=by rw [List.getD_eq_getElem?_getD,hn']; rfl
  have ht2:=s2 _ _ ht
  have ex2:=s2 _ _ ex
  refine ⟨_,rfl,l,rfl,⟨_,aq.of ex2⟩,fun D hD=>cg (xs:=xs) (fun i ys H'=>af H2 H'/\H' D=some (.lst ys)/\ys.length=aB (iP rs r') i/\i<=rs.length) (sz (by omega)) ⟨af.new (af.refl H2) hD _,ae,rfl,Nat.zero_le _⟩ (fun i ys H' hi h=>⟨aq.of (h.1 _ _ ex2),by rw [h.2.2.1]; exact gO _ _⟩) (fun i x ys H' R R0 hx h R1 r0=>?_) (fun ys H' h=>?_)⟩
  ·obtain ⟨sm0,hy,ey,hi⟩:=h
   have sm:=s2.trans sm0
   obtain ⟨b,ns,rfl,hn,hb,_⟩:=hl.at ex hx
   have hlt:i < rs.length:=(List.getElem?_eq_some_iff.mp hn).1
   have gp:rs.getD i []=ns:=by rw [List.getD_eq_getElem?_getD,hn]; rfl
   have nn:=hne ns (List.mem_of_getElem? hn)
   have hb2:=sm _ _ hb
   have ht3:=sm _ _ ht
   have st:aB (iP rs r') (i+1)=aB (iP rs r') i+(if iP rs r' i=true then 1 else 0):=rfl
   unfold iP at st
   rw [gp] at st
   refine ⟨Ext.set rfl,⟨_,rfl,b,_,_,_,rfl,rfl,aq.of hb2,nM nn,_,rfl,t,_,_,_,rfl,rfl,aq.of ht3,nM hr',_,_,rfl,rfl,_,rfl,?_⟩⟩
   by_cases c1:hd ns < hd r'
   ·rw [decide_eq_true c1,Bool.true_and] at st
    refine gr c1 ⟨_,rfl,_,rfl,t,_,_,_,rfl,rfl,aq.of ht3,iN hr',_,rfl,_,rfl,b,_,_,_,rfl,rfl,aq.of hb2,iN nn,_,_,rfl,rfl,_,rfl,?_⟩
    by_cases c2:lst r' < lst ns
    ·rw [if_pos (decide_eq_true c2)] at st
     exact gr c2 ⟨_,rfl,R1 _ _ hy ⟨sm0.upd hD _,ae,by rw [List.length_append,ey]; exact st.symm,hlt⟩⟩
    ·rw [if_neg (by rw [decide_eq_false c2]; decide)] at st
     exact gu c2 (r0 _ ⟨sm0,hy,by rw [ey]; exact st.symm,hlt⟩)
   ·rw [decide_eq_false c1,Bool.false_and,if_neg (by decide)] at st
    exact gu c1 (fJ (r0 _ ⟨sm0,hy,by rw [ey]; exact st.symm,hlt⟩))
  ·obtain ⟨sm,hy,ey,hi⟩:=h
   rw [lxs] at ey
   have inc:∀ (g:Nat->Bool) (b:Bool),b=g k->V.int (((aB g k:Nat):Int)+(if b=true then 1 else 0))=V.int ((aB g (k+1):Nat):Int):=fun g b eb=>by
    have st:aB g (k+1)=aB g k+(if g k=true then 1 else 0):=rfl
    rw [st,eb]
    cases g k with
    | true=>rfl
    | false=>rfl
   refine ⟨_,rfl,_,rfl,D,_,rfl,.inl (aq.of hy),rfl,.inr ⟨_,rfl,_,_,rfl,rfl,some (.ref t),some (.ref D),?_,s2.trans sm⟩⟩
   refine congrArg (fun v=>[some (V.ref l),some v,some (V.ref t),some (V.ref D)]) (inc (ku rs) _ ?_)
   rw [ey]
   unfold ku
   rw [gk]
   exact decide_eq_decide.mpr ⟨fun z=>by have:=V.int.inj z; omega,fun z=>by rw [z]; rfl⟩
 ·rintro σ H2 ⟨o1,o2,rfl,s2⟩
  refine ⟨_,rfl,l,_,rfl,.inl (aq.of (s2 _ _ ex)),_,rfl,(by show 2<=sizeLine; decide),fun p hp=>q p _ (af.new s2 hp _) ?_⟩
  rw [ae,lxs]
  rfl
theorem Au (F:ba K "law" "law" ip f fd) {f0:Addr} {fd0:FuncData} (we:Def P w K mg base "_law_bows" ["_law_script","_law_size","_law_turn"] 2 (rq K ca) f0 fd0) {f1:Addr} {fd1:FuncData} (qH:Def P w K mg base "_law_cell_at" ["_law_script","_law_k"] 1 (sU K ca) f1 fd1) {f2:Addr} {fd2:FuncData} (wt:Def P w K mg base "_law_rooms" ["_law_script","_law_size","_law_turn"] 2 (rZ K ca) f2 fd2) {f3:Addr} {fd3:FuncData} (qK:Def P w K mg base "_law_told" ["_law_word","_law_names","_law_thing","_law_due"] 11 (tU K ca) f3 fd3) {f4:Addr} {fd4:FuncData} (vA:Def P w K mg base "_law_of_bows" ["_law_bows_here"] 1 (sG K ca) f4 fd4) {f5:Addr} {fd5:FuncData} (vQ:Def P w K mg base "_law_of_rooms" ["_law_rooms_here"] 1 (ua K ca) f5 fd5) (eZ:mg "list" = none):aD P w K mg base a8 12 f fd ["_law_script"] (B2 K ca):=by
 refine F.ok n6 (fun vs H Q E h=>?_) (fun cdv A outer s H vs Q E hr h=>?_)
 ·obtain ⟨a,ns,rfl,hS,h63,q⟩:=h
  rfl
 obtain ⟨a,ns,rfl,hS,h63,q⟩:=h
 refine ⟨_,au (bg (i:=1) n6.nd rfl (Or.inl rfl) (bI we hr (aa (pv 0) (aa (aI df (bI qH hr (aa (pv 0) (aa ar ag))) ar) (aa ar ag)))))
  (au (bg (i:=2) n6.nd rfl (Or.inl rfl) (bI wt hr (aa (pv 0) (aa (aI df (bI qH hr (aa (pv 0) (aa ar ag))) ar) (aa ar ag)))))
  (au (bg (i:=3) n6.nd rfl (Or.inl rfl) (br (aa (gv jY rfl eZ i0 (aa (pv 1) ag)) (aa (eW rfl (bH (pv 2)) rfl rfl rfl rfl (N:=["_law_room"]) (.own .nil) (fun _ _ _ _ _ _=>(aO (i:=0) (by show List.Nodup (["_law_room"]:List Str); decide +kernel) rfl (Or.inl rfl))) (fun _ _ _ _ _ _=>gP) (fun _ _ _ _ _ _=>(gv (qq (K:=K) rfl) rfl eZ i0 (aa (pv 0) ag)))) ag))))
  (au (fX (jd (iE (bI qK hr (aa bV (aa (br (aa bV (aa bV (aa bV ag)))) (aa (aV bj (pv 3) ar (fun _ _=>rfl)) (aa (bI vA hr (aa (pv 1) ag)) ag))))))) (ao (aW jx)) eA)
  (ao (aW (rG (bI qK hr (aa bV (aa (br (aa bV (aa bV ag))) (aa (aV bj (pv 3) ar (fun _ _=>rfl)) (aa (bI vQ hr (aa (pv 2) ag)) ag))))) (rh (gN (sR (jw hr)) (pv 3) (br (aa (pv 1) (aa (pv 2) ag))) (bo _))))))))),?_⟩
 have hb:∀ x k:Int,0 < k->0<=x % k/\x % k < k:=fun x k hk=>⟨Int.emod_nonneg _ (by omega),Int.emod_lt_of_pos _ hk⟩
 have m0:=hb (ns.getD (0:Int).toNat 0) 41 (by decide)
 have m1:=hb (ns.getD (1:Int).toNat 0) 41 (by decide)
 refine ⟨_,rfl,_,rfl,a,ns,0,rfl,hS,by decide,_,_,rfl,rfl,pm (by decide),?_⟩
 try dsimp only
 generalize ns.getD (0:Int).toNat 0 % 41=z at m0 |-
 obtain ⟨n0,rfl⟩:∃ n:Nat,z=(n:Int):=⟨z.toNat,by omega⟩
 refine ⟨a,ns,n0,2,rfl,hS,h63,by omega,by decide,by decide,fun pb ps H1 s1 fb hbw lp isb=>?_⟩
 have bw:=Dc isb
 refine ⟨_,rfl,_,rfl,a,ns,1,rfl,s1.seq hS,by decide,_,_,rfl,rfl,pm (by decide),?_⟩
 try dsimp only
 generalize ns.getD (1:Int).toNat 0 % 41=z at m1 |-
 obtain ⟨n1,rfl⟩:∃ n:Nat,z=(n:Int):=⟨z.toNat,by omega⟩
 refine ⟨a,ns,n1,200,rfl,s1.seq hS,h63,by omega,by decide,by decide,fun pr rs op H2 s2 fr hr rom=>?_⟩
 have t2:=s1.trans s2
 have rm:=rom.rms
 have ln:=rm.lens
 have good:=rom.rooms
 have fl:rs.flatten.length=n1:=by
  have:=rm.flat.length_eq
  rw [t8] at this
  exact this
 have z1:rs.length<=60:=by omega
 have z3:∀ r∈rs,r.length < 64:=fun r hr=>by have:=ln.2 r hr; omega
 have hb2:=hbw.same s2
 obtain ⟨xb,eb,lxb,prb⟩:=hb2.len
 refine ⟨_,rfl,pb,_,rfl,.inl (aq.of eb),fun c hc=>?_⟩
 have k3:=af.new (af.refl H2) hc (.lst xb)
 have hc3:gf (upd H2 c (.lst xb)) c ps:=⟨xb,ae,prb.same k3⟩
 have hr3:=hr.same k3
 have hb3:=hb2.same k3
 have ncb:c≠pb:=fun z=>by rw [z,eb] at hc; cases hc
 generalize upd H2 c (.lst xb)=H3 at k3 hc3 hr3 hb3 |-
 obtain ⟨xs,el,lxs⟩:=hr3.len
 refine ⟨_,rfl,pr,rfl,⟨_,aq.of el⟩,fun D hD=>cg (xs:=xs) (fun k ys H'=>af H3 H'/\H' D=some (.lst ys)/\bC H3 H' D (rs.take k)/\k<=rs.length) (sz (by omega)) ⟨af.new (af.refl H3) hD _,ae,bC.nil ae,Nat.zero_le _⟩ (fun k ys H' hk h=>⟨aq.of (h.1 _ _ el),?_⟩) (fun k v ys H' R R0 hx h r r0=>?_) (fun ys H' h=>?_)⟩
 ·obtain ⟨us,eu,lu⟩:=h.2.2.1.len
  rw [h.2.1] at eu
  cases eu
  rw [lu,List.length_take]
  omega
 ·obtain ⟨sk,hy,lk,hk⟩:=h
  obtain ⟨b,ns',rfl,hn,hb',_⟩:=hr3.at el hx
  have hlt:k < rs.length:=(List.getElem?_eq_some_iff.mp hn).1
  refine ⟨Ext.set rfl,rO (fI ⟨_,rfl,b,_,rfl,.inl (aq.of (sk _ _ hb')),fun c hc=>?_⟩)⟩
  have k9:=af.new (af.refl H') hc (.lst (ns'.map V.int))
  refine r _ _ (k9 _ _ hy) ⟨(sk.trans k9).upd hD _,ae,?_,hlt⟩
  rw [List.take_add_one,hn]
  exact lk.push hy k9 hc ae (sk.free hc)
 obtain ⟨s4,hy,l4,_⟩:=h
 rw [List.take_of_length_le (by omega)] at l4
 generalize H'=H4 at *
 refine ⟨(by show 2<=sizeLine; decide),fun ph hph=>?_⟩
 have k5:=af.new (af.refl H4) hph (.lst [.ref c,.ref D])
 have hh5:upd H4 ph (.lst [.ref c,.ref D]) ph=some (.lst [.ref c,.ref D]):=ae
 have s45:=s4.trans k5
 have hc5:=hc3.same s45
 have hb5:=hb3.same s45
 have hr5:=hr3.same s45
 have l5:=l4.same k5
 have nDr:D≠pr:=fun z=>by rw [z,el] at hD; cases hD
 generalize upd H4 ph (.lst [.ref c,.ref D])=H5 at k5 hh5 s45 hc5 hb5 hr5 l5 |-
 refine ⟨(by show 3<=sizeLine; decide),fun pn hpn=>?_⟩
 have k6:=af.new (af.refl H5) hpn (.lst [.str "peaks",.str "returns",.str "height"])
 have hn6:upd H5 pn (.lst [.str "peaks",.str "returns",.str "height"]) pn=some (.lst ((["peaks","returns","height"]:List Str).map V.str)):=ae
 generalize upd H5 pn (.lst [.str "peaks",.str "returns",.str "height"])=H6 at k6 hn6 |-
 refine ⟨_,rfl,ph,_,_,_,rfl,rfl,aq.of (k6 _ _ hh5),rfl,_,rfl,pb,ps,rfl,hb5.same k6,by omega,fun pd H7 s7 hd7=>?_⟩
 have s57:=k6.trans s7
 refine ⟨"bows",pn,pd,.ref c,["peaks","returns","height"],_,rfl,s7 _ _ hn6,hd7,by decide,rfl,fun j nm k en ev=>.inl ⟨c,ps,rfl,hc5.same s57,by omega,bw,rfl,?_⟩,fun H8 s8=>⟨_,rfl,fJ ?_⟩⟩
 ·skip
  match j,en,ev with
  | 0,en,ev =>
   injection en with en
   injection ev with ev
   exact .inl ⟨en.symm,ev.symm⟩
  | 1,en,ev =>
   injection en with en
   injection ev with ev
   exact .inr (.inl ⟨en.symm,ev.symm⟩)
  | 2,en,ev =>
   injection en with en
   injection ev with ev
   exact .inr (.inr ⟨en.symm,ev.symm⟩)
  | j+3,en,ev=>cases en
 have s58:=s57.trans s8
 refine ⟨(by show 2<=sizeLine; decide),fun pm' hpm=>?_⟩
 have k9:=af.new (af.refl H8) hpm (.lst [.str "peaks",.str "returns"])
 have hn9:upd H8 pm' (.lst [.str "peaks",.str "returns"]) pm'=some (.lst ((["peaks","returns"]:List Str).map V.str)):=ae
 generalize upd H8 pm' (.lst [.str "peaks",.str "returns"])=H9 at k9 hn9 |-
 have s59:=s58.trans k9
 refine ⟨_,rfl,ph,_,_,_,rfl,rfl,aq.of (s59 _ _ hh5),rfl,_,rfl,pr,H1,rs,rfl,hr5.same s59,z1,rA good,fun pe Ha sa he=>?_⟩
 have s5a:=s59.trans sa
 refine ⟨"rooms",pm',pe,.ref D,["peaks","returns"],_,rfl,sa _ _ hn9,he,by decide,rfl,fun j nm k en ev=>.inr ⟨D,H3,rs,rfl,l5.same s5a,z1,by omega,z3,good,rfl,?_⟩,fun Hb sb=>⟨_,rfl,fI ?_⟩⟩
 ·skip
  match j,en,ev with
  | 0,en,ev =>
   injection en with en
   injection ev with ev
   exact .inl ⟨en.symm,ev.symm⟩
  | 1,en,ev =>
   injection en with en
   injection ev with ev
   exact .inr ⟨en.symm,ev.symm⟩
  | j+2,en,ev=>cases en
 have s5b:=s5a.trans sb
 refine ⟨_,rfl,_,rfl,_,rfl,(by show 2<=sizeLine; decide),fun pz hpz=>?_⟩
 have kc:=af.new (af.refl Hb) hpz (.lst [.ref pb,.ref pr])
 have s5c:=s5b.trans kc
 have nz:ph≠pz:=aw (s5b _ _ hh5) hpz
 refine ⟨3,true,by decide,EqD.lstT nz (aq.of (s5c _ _ hh5)) (aq.of ae) rfl fun j x y hx hy=>?_,⟨ph,pz,rfl,rfl,nz⟩,q _⟩
 match j,hx,hy with
 | 0,hx,hy =>
  cases hx
  cases hy
  have:=EqD.prs (K:=K) ncb (hc5.same s5c) (hb5.same s5c)
  rw [decide_eq_true rfl] at this
  exact this
 | 1,hx,hy =>
  cases hx
  cases hy
  exact bC.eqD (l5.same s5c) (hr5.same s5c) nDr
 | j+2,hx,hy=>cases hx
end
noncomputable def CG (K:PySem.W.Frag):Sp:=fun vs H Q _=>∃ (a:Addr) (ns:List Int),vs=[.ref a]/\aq K H a (ns.map V.int)/\ns.length<=63/\∀ H',Q (.bl true) H'
theorem pF {P:List Value->Prop} (h:P []):∀ us:List Value,us.length=0->P us
 | [],_=>h
theorem bA {P:List Value->Prop} (h:∀ a0:Value,P [a0]):∀ us:List Value,us.length=1->P us
 | [a0],_=>h a0
theorem bQ {P:List Value->Prop} (h:∀ a0 a1:Value,P [a0,a1]):∀ us:List Value,us.length=2->P us
 | [a0,a1],_=>h a0 a1
theorem cU {P:List Value->Prop} (h:∀ a0 a1 a2:Value,P [a0,a1,a2]):∀ us:List Value,us.length=3->P us
 | [a0,a1,a2],_=>h a0 a1 a2
theorem zI {P:List Value->Prop} (h:∀ a0 a1 a2 a3:Value,P [a0,a1,a2,a3]):∀ us:List Value,us.length=4->P us
 | [a0,a1,a2,a3],_=>h a0 a1 a2 a3
theorem all_mk {l:PySem.W.OpenLaw} {w:World} {K:PySem.W.Frag} {h:Heap} {mg:Str->Option Value} {fa:Addr} (X:K.In h) (G:h.Ns mainGlobals mg) (hfa:mg "law" = some (.ref fa)) {aM:Addr} {aG:Addr} {aC:Addr} {aH:Addr} {aP:Addr} {aL:Addr} {aZ:Addr} {aS:Addr} {aT:Addr} {bq:Addr} {ax:Addr} {az:Addr} {aY:Addr} {fq:Addr} {fM:Addr} {eJ:Addr} {fj:Addr} {eL:Addr} {e7:Addr} {eY:Addr} {eG:Addr} {fL:Addr} {eH:Addr} {fN:Addr} {cT:Addr} {ee:Addr} {eB:Addr} {dv:Addr} {fw:Addr} {fk:Addr} {eI:Addr} {fQ:Addr} {eF:Addr} {dI:Addr} {fe:Addr} {de:Addr} {cN:Addr} {dQ:Addr}
 {f1 f2 f3 f4 f5 f6 f7 f8 f9 f10 f11 f12 f13 f14 f15 f16 f17 f18 f19 f20 f21 f22 f23 f24 f25 f26 f27 f28 f29 f30 f31 f32 f33 f34 f35 f36 f37 f38 f39 f40 f41 f42 f43 f44 f45 f46 f47 f48 f49 f50 f51 f52 f53 f54 f55 f56 f57 f58 f59:Addr} {od1 an1 od2 an2 od3 an3 od4 an4 od5 an5 od6 an6 od7 an7 od8 an8 od9 an9 od10 an10 od11 an11 od12 an12 od13 an13 od14 an14 od15 an15 od16 an16 od17 an17 od18 an18 od19 an19 od20 an20 od21 an21 od22 an22 od23 an23 od24 an24 od25 an25 od26 an26 od27 an27 od28 an28 od29 an29 od30 an30 od31 an31 od32 an32 od33 an33 od34 an34 od35 an35 od36 an36 od37 an37 od38 an38 od39 an39 od40 an40 od41 an41 od42 an42 od43 an43 od44 an44 od45 an45 od46 an46 od47 an47 od48 an48 od49 an49 od50 an50 od51 an51 od52 an52 od53 an53 od54 an54 od55 an55 od56 an56 od57 an57 od58 an58 od59 an59:Option Addr} {sl1 sl2 sl3 sl4 sl5 sl6 sl7 sl8 sl9 sl10 sl11 sl12 sl13 sl14 sl15 sl16 sl17 sl18 sl19 sl20 sl21 sl22 sl23 sl24 sl25 sl26 sl27 sl28 sl29 sl30 sl31 sl32 sl33 sl34 sl35 sl36 sl37 sl38 sl39 sl40 sl41 sl42 sl43 sl44 sl45 sl46 sl47 sl48 sl49 sl50 sl51 sl52 sl53 sl54 sl55 sl56 sl57 sl58 sl59:Array (Option Value)} {oc1 kV1 dc1 pm1 cd1 ct1 oc2 kV2 dc2 pm2 cd2 ct2 oc3 kV3 dc3 pm3 cd3 ct3 oc4 kV4 dc4 pm4 cd4 ct4 oc5 kV5 dc5 pm5 cd5 ct5 oc6 kV6 dc6 pm6 cd6 ct6 oc7 kV7 dc7 pm7 cd7 ct7 oc8 kV8 dc8 pm8 cd8 ct8 oc9 kV9 dc9 pm9 cd9 ct9 oc10 kV10 dc10 pm10 cd10 ct10 oc11 kV11 dc11 pm11 cd11 ct11 oc12 kV12 dc12 pm12 cd12 ct12 oc13 kV13 dc13 pm13 cd13 ct13 oc14 kV14 dc14 pm14 cd14 ct14 oc15 kV15 dc15 pm15 cd15 ct15 oc16 kV16 dc16 pm16 cd16 ct16 oc17 kV17 dc17 pm17 cd17 ct17 oc18 kV18 dc18 pm18 cd18 ct18 oc19 kV19 dc19 pm19 cd19 ct19 oc20 kV20 dc20 pm20 cd20 ct20 oc21 kV21 dc21 pm21 cd21 ct21 oc22 kV22 dc22 pm22 cd22 ct22 oc23 kV23 dc23 pm23 cd23 ct23 oc24 kV24 dc24 pm24 cd24 ct24 oc25 kV25 dc25 pm25 cd25 ct25 oc26 kV26 dc26 pm26 cd26 ct26 oc27 kV27 dc27 pm27 cd27 ct27 oc28 kV28 dc28 pm28 cd28 ct28 oc29 kV29 dc29 pm29 cd29 ct29 oc30 kV30 dc30 pm30 cd30 ct30 oc31 kV31 dc31 pm31 cd31 ct31 oc32 kV32 dc32 pm32 cd32 ct32 oc33 kV33 dc33 pm33 cd33 ct33 oc34 kV34 dc34 pm34 cd34 ct34 oc35 kV35 dc35 pm35 cd35 ct35 oc36 kV36 dc36 pm36 cd36 ct36 oc37 kV37 dc37 pm37 cd37 ct37 oc38 kV38 dc38 pm38 cd38 ct38 oc39 kV39 dc39 pm39 cd39 ct39 oc40 kV40 dc40 pm40 cd40 ct40 oc41 kV41 dc41 pm41 cd41 ct41 oc42 kV42 dc42 pm42 cd42 ct42 oc43 kV43 dc43 pm43 cd43 ct43 oc44 kV44 dc44 pm44 cd44 ct44 oc45 kV45 dc45 pm45 cd45 ct45 oc46 kV46 dc46 pm46 cd46 ct46 oc47 kV47 dc47 pm47 cd47 ct47 oc48 kV48 dc48 pm48 cd48 ct48 oc49 kV49 dc49 pm49 cd49 ct49 oc50 kV50 dc50 pm50 cd50 ct50 oc51 kV51 dc51 pm51 cd51 ct51 oc52 kV52 dc52 pm52 cd52 ct52 oc53 kV53 dc53 pm53 cd53 ct53 oc54 kV54 dc54 pm54 cd54 ct54 oc55 kV55 dc55 pm55 cd55 ct55 oc56 kV56 dc56 pm56 cd56 ct56 oc57 kV57 dc57 pm57 cd57 ct57 oc58 kV58 dc58 pm58 cd58 ct58 oc59 kV59 dc59 pm59 cd59 ct59:Value}
  (iW:PySem.W.nsIn K mainGlobals "Brackets" = some (some (.ref aC)))
  (jQ:PySem.W.nsIn K mainGlobals "Stairs" = some (some (.ref aH)))
  (nE:PySem.W.nsIn K mainGlobals "Twins" = some (some (.ref aP)))
  (oY:PySem.W.nsIn K mainGlobals "Bows" = some (some (.ref aM)))
  (ni:PySem.W.nsIn K mainGlobals "Rooms" = some (some (.ref aG)))
  (kr:PySem.W.nsIn K mainGlobals "Floors" = some (some (.ref aL)))
  (nJ:PySem.W.nsIn K mainGlobals "Turns" = some (some (.ref aZ)))
  (gS:PySem.W.nsIn K mainGlobals "SplitFamily" = some (some (.ref ax)))
  (jP:PySem.W.nsIn K mainGlobals "Family" = some (some (.ref az)))
  (mY:PySem.W.nsIn K mainGlobals "Codes" = some (some (.ref aS)))
  (mU:PySem.W.nsIn K mainGlobals "Trees" = some (some (.ref aT)))
  (pG:PySem.W.nsIn K mainGlobals "Cars" = some (some (.ref bq)))
  (ie:PySem.W.nsIn K mainGlobals "RingFamily" = some (some (.ref aY)))
  (fV:PySem.W.findIn K (.ref aM) "refuse_other" = some (some (.ref f44)))
  (fK:PySem.W.findIn K (.ref aG) "refuse_other" = some (some (.ref f47)))
  (hW:PySem.W.findIn K (.ref aM) "is_one" = some (some (.ref f43)))
  (gT:PySem.W.findIn K (.ref aG) "is_one" = some (some (.ref f46)))
  (iT:PySem.W.findIn K (.ref aC) "__init__" = some (some (.ref f7)))
  (j9:PySem.W.findIn K (.ref aH) "__init__" = some (some (.ref f10)))
  (nI:PySem.W.findIn K (.ref aP) "__init__" = some (some (.ref f13)))
  (pC:PySem.W.findIn K (.ref aM) "__init__" = some (some (.ref f16)))
  (m9:PySem.W.findIn K (.ref aG) "__init__" = some (some (.ref f19)))
  (kz:PySem.W.findIn K (.ref aL) "__init__" = some (some (.ref f22)))
  (m6:PySem.W.findIn K (.ref aZ) "__init__" = some (some (.ref f25)))
  (nA:PySem.W.findIn K (.ref aS) "__init__" = some (some (.ref f29)))
  (nk:PySem.W.findIn K (.ref aT) "__init__" = some (some (.ref f32)))
  (pH:PySem.W.findIn K (.ref bq) "__init__" = some (some (.ref f35)))
  (bL:PySem.W.findCls K (.ref ax) (.type "type") "__init__" = some (.val (.ref f6)))
  (bK:PySem.W.specialIn K (.ref ax) "__getattribute__" = some (some (.builtin "type.__getattribute__")))
  (bM:PySem.W.readsIn K ax (.type "type")=true)
  (cM:PySem.W.findCls K (.ref az) (.type "type") "__init__" = some (.val (.ref f5)))
  (cS:PySem.W.specialIn K (.ref az) "__getattribute__" = some (some (.builtin "type.__getattribute__")))
  (cR:PySem.W.readsIn K az (.type "type")=true)
  (cb:PySem.W.findCls K (.ref ax) (.type "type") "__init__" = some (.val (.ref f9)))
  (bY:PySem.W.specialIn K (.ref ax) "__getattribute__" = some (some (.builtin "type.__getattribute__")))
  (bW:PySem.W.readsIn K ax (.type "type")=true)
  (dk:PySem.W.findCls K (.ref az) (.type "type") "__init__" = some (.val (.ref f8)))
  (dj:PySem.W.specialIn K (.ref az) "__getattribute__" = some (some (.builtin "type.__getattribute__")))
  (dq:PySem.W.readsIn K az (.type "type")=true)
  (ck:PySem.W.findCls K (.ref ax) (.type "type") "__init__" = some (.val (.ref f12)))
  (cj:PySem.W.specialIn K (.ref ax) "__getattribute__" = some (some (.builtin "type.__getattribute__")))
  (cp:PySem.W.readsIn K ax (.type "type")=true)
  (dw:PySem.W.findCls K (.ref az) (.type "type") "__init__" = some (.val (.ref f11)))
  (dG:PySem.W.specialIn K (.ref az) "__getattribute__" = some (some (.builtin "type.__getattribute__")))
  (dF:PySem.W.readsIn K az (.type "type")=true)
  (cF:PySem.W.findCls K (.ref ax) (.type "type") "__init__" = some (.val (.ref f15)))
  (cH:PySem.W.specialIn K (.ref ax) "__getattribute__" = some (some (.builtin "type.__getattribute__")))
  (cC:PySem.W.readsIn K ax (.type "type")=true)
  (d5:PySem.W.findCls K (.ref az) (.type "type") "__init__" = some (.val (.ref f14)))
  (d6:PySem.W.specialIn K (.ref az) "__getattribute__" = some (some (.builtin "type.__getattribute__")))
  (d4:PySem.W.readsIn K az (.type "type")=true)
  (cq:PySem.W.findCls K (.ref ax) (.type "type") "__init__" = some (.val (.ref f18)))
  (cw:PySem.W.specialIn K (.ref ax) "__getattribute__" = some (some (.builtin "type.__getattribute__")))
  (cm:PySem.W.readsIn K ax (.type "type")=true)
  (dy:PySem.W.findCls K (.ref az) (.type "type") "__init__" = some (.val (.ref f17)))
  (dA:PySem.W.specialIn K (.ref az) "__getattribute__" = some (some (.builtin "type.__getattribute__")))
  (dz:PySem.W.readsIn K az (.type "type")=true)
  (bX:PySem.W.findCls K (.ref ax) (.type "type") "__init__" = some (.val (.ref f21)))
  (bT:PySem.W.specialIn K (.ref ax) "__getattribute__" = some (some (.builtin "type.__getattribute__")))
  (bZ:PySem.W.readsIn K ax (.type "type")=true)
  (dh:PySem.W.findCls K (.ref az) (.type "type") "__init__" = some (.val (.ref f20)))
  (di:PySem.W.specialIn K (.ref az) "__getattribute__" = some (some (.builtin "type.__getattribute__")))
  (du:PySem.W.readsIn K az (.type "type")=true)
  (cx:PySem.W.findCls K (.ref ax) (.type "type") "__init__" = some (.val (.ref f24)))
  (cu:PySem.W.specialIn K (.ref ax) "__getattribute__" = some (some (.builtin "type.__getattribute__")))
  (cn:PySem.W.readsIn K ax (.type "type")=true)
  (dS:PySem.W.findCls K (.ref az) (.type "type") "__init__" = some (.val (.ref f23)))
  (dJ:PySem.W.specialIn K (.ref az) "__getattribute__" = some (some (.builtin "type.__getattribute__")))
  (dB:PySem.W.readsIn K az (.type "type")=true)
  (cK:PySem.W.findCls K (.ref aY) (.type "type") "__init__" = some (.val (.ref f28)))
  (cA:PySem.W.specialIn K (.ref aY) "__getattribute__" = some (some (.builtin "type.__getattribute__")))
  (cB:PySem.W.readsIn K aY (.type "type")=true)
  (dW:PySem.W.findCls K (.ref az) (.type "type") "__init__" = some (.val (.ref f27)))
  (dR:PySem.W.specialIn K (.ref az) "__getattribute__" = some (some (.builtin "type.__getattribute__")))
  (dM:PySem.W.readsIn K az (.type "type")=true)
  (cD:PySem.W.findCls K (.ref aY) (.type "type") "__init__" = some (.val (.ref f31)))
  (cG:PySem.W.specialIn K (.ref aY) "__getattribute__" = some (some (.builtin "type.__getattribute__")))
  (cJ:PySem.W.readsIn K aY (.type "type")=true)
  (dN:PySem.W.findCls K (.ref az) (.type "type") "__init__" = some (.val (.ref f30)))
  (dO:PySem.W.specialIn K (.ref az) "__getattribute__" = some (some (.builtin "type.__getattribute__")))
  (dC:PySem.W.readsIn K az (.type "type")=true)
  (cP:PySem.W.findCls K (.ref aY) (.type "type") "__init__" = some (.val (.ref f34)))
  (cO:PySem.W.specialIn K (.ref aY) "__getattribute__" = some (some (.builtin "type.__getattribute__")))
  (cQ:PySem.W.readsIn K aY (.type "type")=true)
  (d8:PySem.W.findCls K (.ref az) (.type "type") "__init__" = some (.val (.ref f33)))
  (d9:PySem.W.specialIn K (.ref az) "__getattribute__" = some (some (.builtin "type.__getattribute__")))
  (d7:PySem.W.readsIn K az (.type "type")=true)
  (a1:PySem.W.nsIn K mainGlobals "_law_draws" = some (some (.ref f1)))
  (l1:K.lookup f1=some ⟨oc1,od1,.func (PySem.W.fnOf "_law_draws" "_law_draws" (aj lP) (ah lP) (ab lP) .none kV1 dc1 pm1 an1 cd1 ct1),sl1⟩)
  (c1:PySem.W.codeIn K cd1 "_law_draws" = true)
  (k1:PySem.W.keepIn K (.ref f1)=true)
  (a2:PySem.W.nsIn K mainGlobals "_law_bows" = some (some (.ref f2)))
  (l2:K.lookup f2=some ⟨oc2,od2,.func (PySem.W.fnOf "_law_bows" "_law_bows" (aj kO) (ah kO) (ab kO) .none kV2 dc2 pm2 an2 cd2 ct2),sl2⟩)
  (c2:PySem.W.codeIn K cd2 "_law_bows" = true)
  (k2:PySem.W.keepIn K (.ref f2)=true)
  (a3:PySem.W.nsIn K mainGlobals "_law_cell_at" = some (some (.ref f3)))
  (l3:K.lookup f3=some ⟨oc3,od3,.func (PySem.W.fnOf "_law_cell_at" "_law_cell_at" (aj kU) (ah kU) (ab kU) .none kV3 dc3 pm3 an3 cd3 ct3),sl3⟩)
  (c3:PySem.W.codeIn K cd3 "_law_cell_at" = true)
  (k3:PySem.W.keepIn K (.ref f3)=true)
  (a4:PySem.W.nsIn K mainGlobals "_law_rooms" = some (some (.ref f4)))
  (l4:K.lookup f4=some ⟨oc4,od4,.func (PySem.W.fnOf "_law_rooms" "_law_rooms" (aj lB) (ah lB) (ab lB) .none kV4 dc4 pm4 an4 cd4 ct4),sl4⟩)
  (c4:PySem.W.codeIn K cd4 "_law_rooms" = true)
  (k4:PySem.W.keepIn K (.ref f4)=true)
  (l5:K.lookup f5=some ⟨oc5,od5,.func (PySem.W.fnOf "__init__" "Family.__init__" (aj lV) (ah lV) (ab lV) .none kV5 dc5 pm5 an5 cd5 ct5),sl5⟩)
  (c5:PySem.W.codeIn K cd5 "Family.__init__" = true)
  (k5:PySem.W.keepIn K (.ref f5)=true)
  (i5:PySem.W.isFn K (.ref f5)=true)
  (l6:K.lookup f6=some ⟨oc6,od6,.func (PySem.W.fnOf "__init__" "SplitFamily.__init__" (aj pj) (ah pj) (ab pj) .none kV6 dc6 pm6 an6 cd6 ct6),sl6⟩)
  (c6:PySem.W.codeIn K cd6 "SplitFamily.__init__" = true)
  (k6:PySem.W.keepIn K (.ref f6)=true)
  (i6:PySem.W.isFn K (.ref f6)=true)
  (l7:K.lookup f7=some ⟨oc7,od7,.func (PySem.W.fnOf "__init__" "Brackets.__init__" (aj ml) (ah ml) (ab ml) .none kV7 dc7 pm7 an7 cd7 ct7),sl7⟩)
  (c7:PySem.W.codeIn K cd7 "Brackets.__init__" = true)
  (k7:PySem.W.keepIn K (.ref f7)=true)
  (i7:PySem.W.isFn K (.ref f7)=true)
  (l8:K.lookup f8=some ⟨oc8,od8,.func (PySem.W.fnOf "__init__" "Family.__init__" (aj kM) (ah kM) (ab kM) .none kV8 dc8 pm8 an8 cd8 ct8),sl8⟩)
  (c8:PySem.W.codeIn K cd8 "Family.__init__" = true)
  (k8:PySem.W.keepIn K (.ref f8)=true)
  (i8:PySem.W.isFn K (.ref f8)=true)
  (l9:K.lookup f9=some ⟨oc9,od9,.func (PySem.W.fnOf "__init__" "SplitFamily.__init__" (aj pJ) (ah pJ) (ab pJ) .none kV9 dc9 pm9 an9 cd9 ct9),sl9⟩)
  (c9:PySem.W.codeIn K cd9 "SplitFamily.__init__" = true)
  (k9:PySem.W.keepIn K (.ref f9)=true)
  (i9:PySem.W.isFn K (.ref f9)=true)
  (l10:K.lookup f10=some ⟨oc10,od10,.func (PySem.W.fnOf "__init__" "Stairs.__init__" (aj kN) (ah kN) (ab kN) .none kV10 dc10 pm10 an10 cd10 ct10),sl10⟩)
  (c10:PySem.W.codeIn K cd10 "Stairs.__init__" = true)
  (k10:PySem.W.keepIn K (.ref f10)=true)
  (i10:PySem.W.isFn K (.ref f10)=true)
  (l11:K.lookup f11=some ⟨oc11,od11,.func (PySem.W.fnOf "__init__" "Family.__init__" (aj mC) (ah mC) (ab mC) .none kV11 dc11 pm11 an11 cd11 ct11),sl11⟩)
  (c11:PySem.W.codeIn K cd11 "Family.__init__" = true)
  (k11:PySem.W.keepIn K (.ref f11)=true)
  (i11:PySem.W.isFn K (.ref f11)=true)
  (l12:K.lookup f12=some ⟨oc12,od12,.func (PySem.W.fnOf "__init__" "SplitFamily.__init__" (aj pL) (ah pL) (ab pL) .none kV12 dc12 pm12 an12 cd12 ct12),sl12⟩)
  (c12:PySem.W.codeIn K cd12 "SplitFamily.__init__" = true)
  (k12:PySem.W.keepIn K (.ref f12)=true)
  (i12:PySem.W.isFn K (.ref f12)=true)
  (l13:K.lookup f13=some ⟨oc13,od13,.func (PySem.W.fnOf "__init__" "Twins.__init__" (aj lZ) (ah lZ) (ab lZ) .none kV13 dc13 pm13 an13 cd13 ct13),sl13⟩)
  (c13:PySem.W.codeIn K cd13 "Twins.__init__" = true)
  (k13:PySem.W.keepIn K (.ref f13)=true)
  (i13:PySem.W.isFn K (.ref f13)=true)
  (l14:K.lookup f14=some ⟨oc14,od14,.func (PySem.W.fnOf "__init__" "Family.__init__" (aj kT) (ah kT) (ab kT) .none kV14 dc14 pm14 an14 cd14 ct14),sl14⟩)
  (c14:PySem.W.codeIn K cd14 "Family.__init__" = true)
  (k14:PySem.W.keepIn K (.ref f14)=true)
  (i14:PySem.W.isFn K (.ref f14)=true)
  (l15:K.lookup f15=some ⟨oc15,od15,.func (PySem.W.fnOf "__init__" "SplitFamily.__init__" (aj o6) (ah o6) (ab o6) .none kV15 dc15 pm15 an15 cd15 ct15),sl15⟩)
  (c15:PySem.W.codeIn K cd15 "SplitFamily.__init__" = true)
  (k15:PySem.W.keepIn K (.ref f15)=true)
  (i15:PySem.W.isFn K (.ref f15)=true)
  (l16:K.lookup f16=some ⟨oc16,od16,.func (PySem.W.fnOf "__init__" "Bows.__init__" (aj mh) (ah mh) (ab mh) .none kV16 dc16 pm16 an16 cd16 ct16),sl16⟩)
  (c16:PySem.W.codeIn K cd16 "Bows.__init__" = true)
  (k16:PySem.W.keepIn K (.ref f16)=true)
  (i16:PySem.W.isFn K (.ref f16)=true)
  (l17:K.lookup f17=some ⟨oc17,od17,.func (PySem.W.fnOf "__init__" "Family.__init__" (aj kJ) (ah kJ) (ab kJ) .none kV17 dc17 pm17 an17 cd17 ct17),sl17⟩)
  (c17:PySem.W.codeIn K cd17 "Family.__init__" = true)
  (k17:PySem.W.keepIn K (.ref f17)=true)
  (i17:PySem.W.isFn K (.ref f17)=true)
  (l18:K.lookup f18=some ⟨oc18,od18,.func (PySem.W.fnOf "__init__" "SplitFamily.__init__" (aj oZ) (ah oZ) (ab oZ) .none kV18 dc18 pm18 an18 cd18 ct18),sl18⟩)
  (c18:PySem.W.codeIn K cd18 "SplitFamily.__init__" = true)
  (k18:PySem.W.keepIn K (.ref f18)=true)
  (i18:PySem.W.isFn K (.ref f18)=true)
  (l19:K.lookup f19=some ⟨oc19,od19,.func (PySem.W.fnOf "__init__" "Rooms.__init__" (aj lX) (ah lX) (ab lX) .none kV19 dc19 pm19 an19 cd19 ct19),sl19⟩)
  (c19:PySem.W.codeIn K cd19 "Rooms.__init__" = true)
  (k19:PySem.W.keepIn K (.ref f19)=true)
  (i19:PySem.W.isFn K (.ref f19)=true)
  (l20:K.lookup f20=some ⟨oc20,od20,.func (PySem.W.fnOf "__init__" "Family.__init__" (aj lO) (ah lO) (ab lO) .none kV20 dc20 pm20 an20 cd20 ct20),sl20⟩)
  (c20:PySem.W.codeIn K cd20 "Family.__init__" = true)
  (k20:PySem.W.keepIn K (.ref f20)=true)
  (i20:PySem.W.isFn K (.ref f20)=true)
  (l21:K.lookup f21=some ⟨oc21,od21,.func (PySem.W.fnOf "__init__" "SplitFamily.__init__" (aj pE) (ah pE) (ab pE) .none kV21 dc21 pm21 an21 cd21 ct21),sl21⟩)
  (c21:PySem.W.codeIn K cd21 "SplitFamily.__init__" = true)
  (k21:PySem.W.keepIn K (.ref f21)=true)
  (i21:PySem.W.isFn K (.ref f21)=true)
  (l22:K.lookup f22=some ⟨oc22,od22,.func (PySem.W.fnOf "__init__" "Floors.__init__" (aj kX) (ah kX) (ab kX) .none kV22 dc22 pm22 an22 cd22 ct22),sl22⟩)
  (c22:PySem.W.codeIn K cd22 "Floors.__init__" = true)
  (k22:PySem.W.keepIn K (.ref f22)=true)
  (i22:PySem.W.isFn K (.ref f22)=true)
  (l23:K.lookup f23=some ⟨oc23,od23,.func (PySem.W.fnOf "__init__" "Family.__init__" (aj lL) (ah lL) (ab lL) .none kV23 dc23 pm23 an23 cd23 ct23),sl23⟩)
  (c23:PySem.W.codeIn K cd23 "Family.__init__" = true)
  (k23:PySem.W.keepIn K (.ref f23)=true)
  (i23:PySem.W.isFn K (.ref f23)=true)
  (l24:K.lookup f24=some ⟨oc24,od24,.func (PySem.W.fnOf "__init__" "SplitFamily.__init__" (aj pK) (ah pK) (ab pK) .none kV24 dc24 pm24 an24 cd24 ct24),sl24⟩)
  (c24:PySem.W.codeIn K cd24 "SplitFamily.__init__" = true)
  (k24:PySem.W.keepIn K (.ref f24)=true)
  (i24:PySem.W.isFn K (.ref f24)=true)
  (l25:K.lookup f25=some ⟨oc25,od25,.func (PySem.W.fnOf "__init__" "Turns.__init__" (aj mw) (ah mw) (ab mw) .none kV25 dc25 pm25 an25 cd25 ct25),sl25⟩)
  (c25:PySem.W.codeIn K cd25 "Turns.__init__" = true)
  (k25:PySem.W.keepIn K (.ref f25)=true)
  (i25:PySem.W.isFn K (.ref f25)=true)
  (a26:PySem.W.nsIn K mainGlobals "split_families" = some (some (.ref f26)))
  (l26:K.lookup f26=some ⟨oc26,od26,.func (PySem.W.fnOf "split_families" "split_families" (aj lI) (ah lI) (ab lI) .none kV26 dc26 pm26 an26 cd26 ct26),sl26⟩)
  (c26:PySem.W.codeIn K cd26 "split_families" = true)
  (k26:PySem.W.keepIn K (.ref f26)=true)
  (l27:K.lookup f27=some ⟨oc27,od27,.func (PySem.W.fnOf "__init__" "Family.__init__" (aj lN) (ah lN) (ab lN) .none kV27 dc27 pm27 an27 cd27 ct27),sl27⟩)
  (c27:PySem.W.codeIn K cd27 "Family.__init__" = true)
  (k27:PySem.W.keepIn K (.ref f27)=true)
  (i27:PySem.W.isFn K (.ref f27)=true)
  (l28:K.lookup f28=some ⟨oc28,od28,.func (PySem.W.fnOf "__init__" "RingFamily.__init__" (aj oP) (ah oP) (ab oP) .none kV28 dc28 pm28 an28 cd28 ct28),sl28⟩)
  (c28:PySem.W.codeIn K cd28 "RingFamily.__init__" = true)
  (k28:PySem.W.keepIn K (.ref f28)=true)
  (i28:PySem.W.isFn K (.ref f28)=true)
  (l29:K.lookup f29=some ⟨oc29,od29,.func (PySem.W.fnOf "__init__" "Codes.__init__" (aj kL) (ah kL) (ab kL) .none kV29 dc29 pm29 an29 cd29 ct29),sl29⟩)
  (c29:PySem.W.codeIn K cd29 "Codes.__init__" = true)
  (k29:PySem.W.keepIn K (.ref f29)=true)
  (i29:PySem.W.isFn K (.ref f29)=true)
  (l30:K.lookup f30=some ⟨oc30,od30,.func (PySem.W.fnOf "__init__" "Family.__init__" (aj mx) (ah mx) (ab mx) .none kV30 dc30 pm30 an30 cd30 ct30),sl30⟩)
  (c30:PySem.W.codeIn K cd30 "Family.__init__" = true)
  (k30:PySem.W.keepIn K (.ref f30)=true)
  (i30:PySem.W.isFn K (.ref f30)=true)
  (l31:K.lookup f31=some ⟨oc31,od31,.func (PySem.W.fnOf "__init__" "RingFamily.__init__" (aj oJ) (ah oJ) (ab oJ) .none kV31 dc31 pm31 an31 cd31 ct31),sl31⟩)
  (c31:PySem.W.codeIn K cd31 "RingFamily.__init__" = true)
  (k31:PySem.W.keepIn K (.ref f31)=true)
  (i31:PySem.W.isFn K (.ref f31)=true)
  (l32:K.lookup f32=some ⟨oc32,od32,.func (PySem.W.fnOf "__init__" "Trees.__init__" (aj md) (ah md) (ab md) .none kV32 dc32 pm32 an32 cd32 ct32),sl32⟩)
  (c32:PySem.W.codeIn K cd32 "Trees.__init__" = true)
  (k32:PySem.W.keepIn K (.ref f32)=true)
  (i32:PySem.W.isFn K (.ref f32)=true)
  (l33:K.lookup f33=some ⟨oc33,od33,.func (PySem.W.fnOf "__init__" "Family.__init__" (aj mq) (ah mq) (ab mq) .none kV33 dc33 pm33 an33 cd33 ct33),sl33⟩)
  (c33:PySem.W.codeIn K cd33 "Family.__init__" = true)
  (k33:PySem.W.keepIn K (.ref f33)=true)
  (i33:PySem.W.isFn K (.ref f33)=true)
  (l34:K.lookup f34=some ⟨oc34,od34,.func (PySem.W.fnOf "__init__" "RingFamily.__init__" (aj lq) (ah lq) (ab lq) .none kV34 dc34 pm34 an34 cd34 ct34),sl34⟩)
  (c34:PySem.W.codeIn K cd34 "RingFamily.__init__" = true)
  (k34:PySem.W.keepIn K (.ref f34)=true)
  (i34:PySem.W.isFn K (.ref f34)=true)
  (l35:K.lookup f35=some ⟨oc35,od35,.func (PySem.W.fnOf "__init__" "Cars.__init__" (aj kS) (ah kS) (ab kS) .none kV35 dc35 pm35 an35 cd35 ct35),sl35⟩)
  (c35:PySem.W.codeIn K cd35 "Cars.__init__" = true)
  (k35:PySem.W.keepIn K (.ref f35)=true)
  (i35:PySem.W.isFn K (.ref f35)=true)
  (a36:PySem.W.nsIn K mainGlobals "ring_families" = some (some (.ref f36)))
  (l36:K.lookup f36=some ⟨oc36,od36,.func (PySem.W.fnOf "ring_families" "ring_families" (aj mr) (ah mr) (ab mr) .none kV36 dc36 pm36 an36 cd36 ct36),sl36⟩)
  (c36:PySem.W.codeIn K cd36 "ring_families" = true)
  (k36:PySem.W.keepIn K (.ref f36)=true)
  (a37:PySem.W.nsIn K mainGlobals "family_of" = some (some (.ref f37)))
  (l37:K.lookup f37=some ⟨oc37,od37,.func (PySem.W.fnOf "family_of" "family_of" (aj lG) (ah lG) (ab lG) .none kV37 dc37 pm37 an37 cd37 ct37),sl37⟩)
  (c37:PySem.W.codeIn K cd37 "family_of" = true)
  (k37:PySem.W.keepIn K (.ref f37)=true)
  (a38:PySem.W.nsIn K mainGlobals "all_measures" = some (some (.ref f38)))
  (l38:K.lookup f38=some ⟨oc38,od38,.func (PySem.W.fnOf "all_measures" "all_measures" (aj iR) (ah iR) (ab iR) .none kV38 dc38 pm38 an38 cd38 ct38),sl38⟩)
  (c38:PySem.W.codeIn K cd38 "all_measures" = true)
  (k38:PySem.W.keepIn K (.ref f38)=true)
  (a39:PySem.W.nsIn K mainGlobals "marks_of" = some (some (.ref f39)))
  (l39:K.lookup f39=some ⟨oc39,od39,.func (PySem.W.fnOf "marks_of" "marks_of" (aj l0) (ah l0) (ab l0) .none kV39 dc39 pm39 an39 cd39 ct39),sl39⟩)
  (c39:PySem.W.codeIn K cd39 "marks_of" = true)
  (k39:PySem.W.keepIn K (.ref f39)=true)
  (a40:PySem.W.nsIn K mainGlobals "each_once" = some (some (.ref f40)))
  (l40:K.lookup f40=some ⟨oc40,od40,.func (PySem.W.fnOf "each_once" "each_once" (aj kY) (ah kY) (ab kY) .none kV40 dc40 pm40 an40 cd40 ct40),sl40⟩)
  (c40:PySem.W.codeIn K cd40 "each_once" = true)
  (k40:PySem.W.keepIn K (.ref f40)=true)
  (a41:PySem.W.nsIn K mainGlobals "flat" = some (some (.ref f41)))
  (l41:K.lookup f41=some ⟨oc41,od41,.func (PySem.W.fnOf "flat" "flat" (aj mB) (ah mB) (ab mB) .none kV41 dc41 pm41 an41 cd41 ct41),sl41⟩)
  (c41:PySem.W.codeIn K cd41 "flat" = true)
  (k41:PySem.W.keepIn K (.ref f41)=true)
  (a42:PySem.W.nsIn K mainGlobals "any_cross" = some (some (.ref f42)))
  (l42:K.lookup f42=some ⟨oc42,od42,.func (PySem.W.fnOf "any_cross" "any_cross" (aj mf) (ah mf) (ab mf) .none kV42 dc42 pm42 an42 cd42 ct42),sl42⟩)
  (c42:PySem.W.codeIn K cd42 "any_cross" = true)
  (k42:PySem.W.keepIn K (.ref f42)=true)
  (l43:K.lookup f43=some ⟨oc43,od43,.func (PySem.W.fnOf "is_one" "Bows.is_one" (aj lC) (ah lC) (ab lC) .none kV43 dc43 pm43 an43 cd43 ct43),sl43⟩)
  (c43:PySem.W.codeIn K cd43 "Bows.is_one" = true)
  (k43:PySem.W.keepIn K (.ref f43)=true)
  (i43:PySem.W.isFn K (.ref f43)=true)
  (l44:K.lookup f44=some ⟨oc44,od44,.func (PySem.W.fnOf "refuse_other" "Family.refuse_other" (aj mE) (ah mE) (ab mE) .none kV44 dc44 pm44 an44 cd44 ct44),sl44⟩)
  (c44:PySem.W.codeIn K cd44 "Family.refuse_other" = true)
  (k44:PySem.W.keepIn K (.ref f44)=true)
  (i44:PySem.W.isFn K (.ref f44)=true)
  (a45:PySem.W.nsIn K mainGlobals "neighbours" = some (some (.ref f45)))
  (l45:K.lookup f45=some ⟨oc45,od45,.func (PySem.W.fnOf "neighbours" "neighbours" (aj lY) (ah lY) (ab lY) .none kV45 dc45 pm45 an45 cd45 ct45),sl45⟩)
  (c45:PySem.W.codeIn K cd45 "neighbours" = true)
  (k45:PySem.W.keepIn K (.ref f45)=true)
  (l46:K.lookup f46=some ⟨oc46,od46,.func (PySem.W.fnOf "is_one" "Rooms.is_one" (aj mj) (ah mj) (ab mj) .none kV46 dc46 pm46 an46 cd46 ct46),sl46⟩)
  (c46:PySem.W.codeIn K cd46 "Rooms.is_one" = true)
  (k46:PySem.W.keepIn K (.ref f46)=true)
  (i46:PySem.W.isFn K (.ref f46)=true)
  (l47:K.lookup f47=some ⟨oc47,od47,.func (PySem.W.fnOf "refuse_other" "Family.refuse_other" (aj pB) (ah pB) (ab pB) .none kV47 dc47 pm47 an47 cd47 ct47),sl47⟩)
  (c47:PySem.W.codeIn K cd47 "Family.refuse_other" = true)
  (k47:PySem.W.keepIn K (.ref f47)=true)
  (i47:PySem.W.isFn K (.ref f47)=true)
  (a48:PySem.W.nsIn K mainGlobals "bows_peaks" = some (some (.ref f48)))
  (l48:K.lookup f48=some ⟨oc48,od48,.func (PySem.W.fnOf "bows_peaks" "bows_peaks" (aj kH) (ah kH) (ab kH) .none kV48 dc48 pm48 an48 cd48 ct48),sl48⟩)
  (c48:PySem.W.codeIn K cd48 "bows_peaks" = true)
  (k48:PySem.W.keepIn K (.ref f48)=true)
  (a49:PySem.W.nsIn K mainGlobals "bows_over" = some (some (.ref f49)))
  (l49:K.lookup f49=some ⟨oc49,od49,.func (PySem.W.fnOf "bows_over" "bows_over" (aj mi) (ah mi) (ab mi) .none kV49 dc49 pm49 an49 cd49 ct49),sl49⟩)
  (c49:PySem.W.codeIn K cd49 "bows_over" = true)
  (k49:PySem.W.keepIn K (.ref f49)=true)
  (a50:PySem.W.nsIn K mainGlobals "bows_returns" = some (some (.ref f50)))
  (l50:K.lookup f50=some ⟨oc50,od50,.func (PySem.W.fnOf "bows_returns" "bows_returns" (aj kW) (ah kW) (ab kW) .none kV50 dc50 pm50 an50 cd50 ct50),sl50⟩)
  (c50:PySem.W.codeIn K cd50 "bows_returns" = true)
  (k50:PySem.W.keepIn K (.ref f50)=true)
  (a51:PySem.W.nsIn K mainGlobals "bows_height" = some (some (.ref f51)))
  (l51:K.lookup f51=some ⟨oc51,od51,.func (PySem.W.fnOf "bows_height" "bows_height" (aj me) (ah me) (ab me) .none kV51 dc51 pm51 an51 cd51 ct51),sl51⟩)
  (c51:PySem.W.codeIn K cd51 "bows_height" = true)
  (k51:PySem.W.keepIn K (.ref f51)=true)
  (a52:PySem.W.nsIn K mainGlobals "rooms_peaks" = some (some (.ref f52)))
  (l52:K.lookup f52=some ⟨oc52,od52,.func (PySem.W.fnOf "rooms_peaks" "rooms_peaks" (aj lH) (ah lH) (ab lH) .none kV52 dc52 pm52 an52 cd52 ct52),sl52⟩)
  (c52:PySem.W.codeIn K cd52 "rooms_peaks" = true)
  (k52:PySem.W.keepIn K (.ref f52)=true)
  (a53:PySem.W.nsIn K mainGlobals "rooms_around" = some (some (.ref f53)))
  (l53:K.lookup f53=some ⟨oc53,od53,.func (PySem.W.fnOf "rooms_around" "rooms_around" (aj lS) (ah lS) (ab lS) .none kV53 dc53 pm53 an53 cd53 ct53),sl53⟩)
  (c53:PySem.W.codeIn K cd53 "rooms_around" = true)
  (k53:PySem.W.keepIn K (.ref f53)=true)
  (a54:PySem.W.nsIn K mainGlobals "rooms_returns" = some (some (.ref f54)))
  (l54:K.lookup f54=some ⟨oc54,od54,.func (PySem.W.fnOf "rooms_returns" "rooms_returns" (aj lF) (ah lF) (ab lF) .none kV54 dc54 pm54 an54 cd54 ct54),sl54⟩)
  (c54:PySem.W.codeIn K cd54 "rooms_returns" = true)
  (k54:PySem.W.keepIn K (.ref f54)=true)
  (a55:PySem.W.nsIn K mainGlobals "mark" = some (some (.ref f55)))
  (l55:K.lookup f55=some ⟨oc55,od55,.func (PySem.W.fnOf "mark" "mark" (aj lD) (ah lD) (ab lD) .none kV55 dc55 pm55 an55 cd55 ct55),sl55⟩)
  (c55:PySem.W.codeIn K cd55 "mark" = true)
  (k55:PySem.W.keepIn K (.ref f55)=true)
  (a56:PySem.W.nsIn K mainGlobals "_law_told" = some (some (.ref f56)))
  (l56:K.lookup f56=some ⟨oc56,od56,.func (PySem.W.fnOf "_law_told" "_law_told" (aj mF) (ah mF) (ab mF) .none kV56 dc56 pm56 an56 cd56 ct56),sl56⟩)
  (c56:PySem.W.codeIn K cd56 "_law_told" = true)
  (k56:PySem.W.keepIn K (.ref f56)=true)
  (a57:PySem.W.nsIn K mainGlobals "_law_of_bows" = some (some (.ref f57)))
  (l57:K.lookup f57=some ⟨oc57,od57,.func (PySem.W.fnOf "_law_of_bows" "_law_of_bows" (aj lW) (ah lW) (ab lW) .none kV57 dc57 pm57 an57 cd57 ct57),sl57⟩)
  (c57:PySem.W.codeIn K cd57 "_law_of_bows" = true)
  (k57:PySem.W.keepIn K (.ref f57)=true)
  (a58:PySem.W.nsIn K mainGlobals "_law_of_rooms" = some (some (.ref f58)))
  (l58:K.lookup f58=some ⟨oc58,od58,.func (PySem.W.fnOf "_law_of_rooms" "_law_of_rooms" (aj lT) (ah lT) (ab lT) .none kV58 dc58 pm58 an58 cd58 ct58),sl58⟩)
  (c58:PySem.W.codeIn K cd58 "_law_of_rooms" = true)
  (k58:PySem.W.keepIn K (.ref f58)=true)
  (a59:PySem.W.nsIn K mainGlobals "law" = some (some (.ref f59)))
  (l59:K.lookup f59=some ⟨oc59,od59,.func (PySem.W.fnOf "law" "law" (aj ip) (ah ip) (ab ip) .none kV59 dc59 pm59 an59 cd59 ct59),sl59⟩)
  (c59:PySem.W.codeIn K cd59 "law" = true)
  (k59:PySem.W.keepIn K (.ref f59)=true)
  (pg_Bows:PySem.W.plainGet K aM Str.empty=true)
  (hd_Bows:PySem.W.hasDictIn K aM=true)
  (po_Bows:PySem.W.plainOver K aM=true)
  (sa_Bows:PySem.W.findIn K (.ref aM) "__setattr__" = some (some (.builtin "object.__setattr__")))
  (pg_Rooms:PySem.W.plainGet K aG Str.empty=true)
  (hd_Rooms:PySem.W.hasDictIn K aG=true)
  (po_Rooms:PySem.W.plainOver K aG=true)
  (sa_Rooms:PySem.W.findIn K (.ref aG) "__setattr__" = some (some (.builtin "object.__setattr__")))
  (pg_Brackets:PySem.W.plainGet K aC Str.empty=true)
  (hd_Brackets:PySem.W.hasDictIn K aC=true)
  (po_Brackets:PySem.W.plainOver K aC=true)
  (sa_Brackets:PySem.W.findIn K (.ref aC) "__setattr__" = some (some (.builtin "object.__setattr__")))
  (pg_Stairs:PySem.W.plainGet K aH Str.empty=true)
  (hd_Stairs:PySem.W.hasDictIn K aH=true)
  (po_Stairs:PySem.W.plainOver K aH=true)
  (sa_Stairs:PySem.W.findIn K (.ref aH) "__setattr__" = some (some (.builtin "object.__setattr__")))
  (pg_Twins:PySem.W.plainGet K aP Str.empty=true)
  (hd_Twins:PySem.W.hasDictIn K aP=true)
  (po_Twins:PySem.W.plainOver K aP=true)
  (sa_Twins:PySem.W.findIn K (.ref aP) "__setattr__" = some (some (.builtin "object.__setattr__")))
  (pg_Floors:PySem.W.plainGet K aL Str.empty=true)
  (hd_Floors:PySem.W.hasDictIn K aL=true)
  (po_Floors:PySem.W.plainOver K aL=true)
  (sa_Floors:PySem.W.findIn K (.ref aL) "__setattr__" = some (some (.builtin "object.__setattr__")))
  (pg_Turns:PySem.W.plainGet K aZ Str.empty=true)
  (hd_Turns:PySem.W.hasDictIn K aZ=true)
  (po_Turns:PySem.W.plainOver K aZ=true)
  (sa_Turns:PySem.W.findIn K (.ref aZ) "__setattr__" = some (some (.builtin "object.__setattr__")))
  (pg_Codes:PySem.W.plainGet K aS Str.empty=true)
  (hd_Codes:PySem.W.hasDictIn K aS=true)
  (po_Codes:PySem.W.plainOver K aS=true)
  (sa_Codes:PySem.W.findIn K (.ref aS) "__setattr__" = some (some (.builtin "object.__setattr__")))
  (pg_Trees:PySem.W.plainGet K aT Str.empty=true)
  (hd_Trees:PySem.W.hasDictIn K aT=true)
  (po_Trees:PySem.W.plainOver K aT=true)
  (sa_Trees:PySem.W.findIn K (.ref aT) "__setattr__" = some (some (.builtin "object.__setattr__")))
  (pg_Cars:PySem.W.plainGet K bq Str.empty=true)
  (hd_Cars:PySem.W.hasDictIn K bq=true)
  (po_Cars:PySem.W.plainOver K bq=true)
  (sa_Cars:PySem.W.findIn K (.ref bq) "__setattr__" = some (some (.builtin "object.__setattr__")))
  (mk_Brackets:PySem.W.makesIn K aC=true)
  (kc_Brackets:PySem.W.keepIn K (.ref aC)=true)
  (mk_Stairs:PySem.W.makesIn K aH=true)
  (kc_Stairs:PySem.W.keepIn K (.ref aH)=true)
  (mk_Twins:PySem.W.makesIn K aP=true)
  (kc_Twins:PySem.W.keepIn K (.ref aP)=true)
  (mk_Bows:PySem.W.makesIn K aM=true)
  (kc_Bows:PySem.W.keepIn K (.ref aM)=true)
  (mk_Rooms:PySem.W.makesIn K aG=true)
  (kc_Rooms:PySem.W.keepIn K (.ref aG)=true)
  (mk_Floors:PySem.W.makesIn K aL=true)
  (kc_Floors:PySem.W.keepIn K (.ref aL)=true)
  (mk_Turns:PySem.W.makesIn K aZ=true)
  (kc_Turns:PySem.W.keepIn K (.ref aZ)=true)
  (mk_Codes:PySem.W.makesIn K aS=true)
  (kc_Codes:PySem.W.keepIn K (.ref aS)=true)
  (mk_Trees:PySem.W.makesIn K aT=true)
  (kc_Trees:PySem.W.keepIn K (.ref aT)=true)
  (mk_Cars:PySem.W.makesIn K bq=true)
  (kc_Cars:PySem.W.keepIn K (.ref bq)=true)
  (bJ:PySem.W.findIn K (.ref aC) "word" = some none)
  (cE:PySem.W.findIn K (.ref aH) "word" = some none)
  (cW:PySem.W.findIn K (.ref aP) "word" = some none)
  (dP:PySem.W.findIn K (.ref aM) "word" = some none)
  (cV:PySem.W.findIn K (.ref aG) "word" = some none)
  (cI:PySem.W.findIn K (.ref aL) "word" = some none)
  (cZ:PySem.W.findIn K (.ref aZ) "word" = some none)
  (cY:PySem.W.findIn K (.ref aS) "word" = some none)
  (c0:PySem.W.findIn K (.ref aT) "word" = some none)
  (dU:PySem.W.findIn K (.ref bq) "word" = some none)
  (dc:PySem.W.findIn K (.ref aC) "least" = some none)
  (eC:PySem.W.findIn K (.ref aH) "least" = some none)
  (eX:PySem.W.findIn K (.ref aP) "least" = some none)
  (fO:PySem.W.findIn K (.ref aM) "least" = some none)
  (fh:PySem.W.findIn K (.ref aG) "least" = some none)
  (eK:PySem.W.findIn K (.ref aL) "least" = some none)
  (fi:PySem.W.findIn K (.ref aZ) "least" = some none)
  (e8:PySem.W.findIn K (.ref aS) "least" = some none)
  (fc:PySem.W.findIn K (.ref aT) "least" = some none)
  (fP:PySem.W.findIn K (.ref bq) "least" = some none)
  (nf_cars_rootage:PySem.W.nsIn K mainGlobals "cars_rootage" = some (some (.ref fq)))
  (nf_cars_leaves:PySem.W.nsIn K mainGlobals "cars_leaves" = some (some (.ref fM)))
  (nf_trees_rootage:PySem.W.nsIn K mainGlobals "trees_rootage" = some (some (.ref eJ)))
  (nf_trees_leaves:PySem.W.nsIn K mainGlobals "trees_leaves" = some (some (.ref fj)))
  (nf_codes_rootage:PySem.W.nsIn K mainGlobals "codes_rootage" = some (some (.ref eL)))
  (nf_codes_leaves:PySem.W.nsIn K mainGlobals "codes_leaves" = some (some (.ref e7)))
  (nf_turns_height:PySem.W.nsIn K mainGlobals "turns_height" = some (some (.ref eY)))
  (nf_turns_returns:PySem.W.nsIn K mainGlobals "turns_returns" = some (some (.ref eG)))
  (nf_turns_peaks:PySem.W.nsIn K mainGlobals "turns_peaks" = some (some (.ref fL)))
  (nf_floor_returns:PySem.W.nsIn K mainGlobals "floor_returns" = some (some (.ref eH)))
  (nf_floor_peaks:PySem.W.nsIn K mainGlobals "floor_peaks" = some (some (.ref fN)))
  (nf_rooms_returns:PySem.W.nsIn K mainGlobals "rooms_returns" = some (some (.ref cT)))
  (nf_rooms_peaks:PySem.W.nsIn K mainGlobals "rooms_peaks" = some (some (.ref ee)))
  (nf_bows_height:PySem.W.nsIn K mainGlobals "bows_height" = some (some (.ref eB)))
  (nf_bows_returns:PySem.W.nsIn K mainGlobals "bows_returns" = some (some (.ref dv)))
  (nf_bows_peaks:PySem.W.nsIn K mainGlobals "bows_peaks" = some (some (.ref fw)))
  (nf_twins_height:PySem.W.nsIn K mainGlobals "twins_height" = some (some (.ref fk)))
  (nf_twins_returns:PySem.W.nsIn K mainGlobals "twins_returns" = some (some (.ref eI)))
  (nf_twins_peaks:PySem.W.nsIn K mainGlobals "twins_peaks" = some (some (.ref fQ)))
  (nf_stairs_height:PySem.W.nsIn K mainGlobals "stairs_height" = some (some (.ref eF)))
  (nf_stairs_returns:PySem.W.nsIn K mainGlobals "stairs_returns" = some (some (.ref dI)))
  (nf_stairs_peaks:PySem.W.nsIn K mainGlobals "stairs_peaks" = some (some (.ref fe)))
  (nf_brackets_height:PySem.W.nsIn K mainGlobals "brackets_height" = some (some (.ref de)))
  (nf_brackets_returns:PySem.W.nsIn K mainGlobals "brackets_returns" = some (some (.ref cN)))
  (nf_brackets_peaks:PySem.W.nsIn K mainGlobals "brackets_peaks" = some (some (.ref dQ)))
  (z_range:PySem.W.nsIn K mainGlobals "range" = some none)
  (z_len:PySem.W.nsIn K mainGlobals "len" = some none)
  (z_min:PySem.W.nsIn K mainGlobals "min" = some none)
  (z_list:PySem.W.nsIn K mainGlobals "list" = some none)
  (z_sorted:PySem.W.nsIn K mainGlobals "sorted" = some none)
  (z_all:PySem.W.nsIn K mainGlobals "all" = some none)
  (z_zip:PySem.W.nsIn K mainGlobals "zip" = some none)
  (z_max:PySem.W.nsIn K mainGlobals "max" = some none)
  (z_isinstance:PySem.W.nsIn K mainGlobals "isinstance" = some none)
  (z_int:PySem.W.nsIn K mainGlobals "int" = some none)
  (z_bool:PySem.W.nsIn K mainGlobals "bool" = some none) :
  ∃ fd:FuncData,(∀ (s:Shared) (v:Value),BindsTo s fd ⟨[v],[]⟩ [("_law_script",v)])/\∀ base:Heap,K.In base->base.Ns mainGlobals mg->aD l.prog w K mg base a8 12 fa fd ["_law_script"] (CG K):=by
 have e:=hfa.symm.trans (PySem.W.mg_of X G a59)
 cases e
 have CA:BN K mg ⟨aM,aG,aC,aH,aP,aL,aZ,aS,aT,bq,ax,az,aY,f5,f6,f7,f8,f9,f10,f11,f12,f13,f14,f15,f16,f17,f18,f19,f20,f21,f22,f23,f24,f25,f27,f28,f29,f30,f31,f32,f33,f34,f35,f43,f44,f46,f47,fq,fM,eJ,fj,eL,e7,eY,eG,fL,eH,fN,cT,ee,eB,dv,fw,fk,eI,fQ,eF,dI,fe,de,cN,dQ⟩:=⟨PySem.W.mg_of X G iW,PySem.W.mg_of X G jQ,PySem.W.mg_of X G nE,PySem.W.mg_of X G oY,PySem.W.mg_of X G ni,PySem.W.mg_of X G kr,PySem.W.mg_of X G nJ,PySem.W.mg_of X G gS,PySem.W.mg_of X G jP,PySem.W.mg_of X G mY,PySem.W.mg_of X G mU,PySem.W.mg_of X G pG,PySem.W.mg_of X G ie,⟨pg_Bows,hd_Bows,po_Bows,sa_Bows⟩,⟨pg_Rooms,hd_Rooms,po_Rooms,sa_Rooms⟩,⟨pg_Brackets,hd_Brackets,po_Brackets,sa_Brackets⟩,⟨pg_Stairs,hd_Stairs,po_Stairs,sa_Stairs⟩,⟨pg_Twins,hd_Twins,po_Twins,sa_Twins⟩,⟨pg_Floors,hd_Floors,po_Floors,sa_Floors⟩,⟨pg_Turns,hd_Turns,po_Turns,sa_Turns⟩,⟨pg_Codes,hd_Codes,po_Codes,sa_Codes⟩,⟨pg_Trees,hd_Trees,po_Trees,sa_Trees⟩,⟨pg_Cars,hd_Cars,po_Cars,sa_Cars⟩,⟨fV,i44,k44⟩,⟨fK,i47,k47⟩,⟨hW,i43,k43⟩,⟨gT,i46,k46⟩,⟨mk_Brackets,iT,i7,kc_Brackets⟩,⟨mk_Stairs,j9,i10,kc_Stairs⟩,⟨mk_Twins,nI,i13,kc_Twins⟩,⟨mk_Bows,pC,i16,kc_Bows⟩,⟨mk_Rooms,m9,i19,kc_Rooms⟩,⟨mk_Floors,kz,i22,kc_Floors⟩,⟨mk_Turns,m6,i25,kc_Turns⟩,⟨mk_Codes,nA,i29,kc_Codes⟩,⟨mk_Trees,nk,i32,kc_Trees⟩,⟨mk_Cars,pH,i35,kc_Cars⟩,⟨bK,bM,bL,k6⟩,⟨cS,cR,cM,k5⟩,⟨bY,bW,cb,k9⟩,⟨dj,dq,dk,k8⟩,⟨cj,cp,ck,k12⟩,⟨dG,dF,dw,k11⟩,⟨cH,cC,cF,k15⟩,⟨d6,d4,d5,k14⟩,⟨cw,cm,cq,k18⟩,⟨dA,dz,dy,k17⟩,⟨bT,bZ,bX,k21⟩,⟨di,du,dh,k20⟩,⟨cu,cn,cx,k24⟩,⟨dJ,dB,dS,k23⟩,⟨cA,cB,cK,k28⟩,⟨dR,dM,dW,k27⟩,⟨cG,cJ,cD,k31⟩,⟨dO,dC,dN,k30⟩,⟨cO,cQ,cP,k34⟩,⟨d9,d7,d8,k33⟩,bJ,cE,cW,dP,cV,cI,cZ,cY,c0,dU,dc,eC,eX,fO,fh,eK,fi,e8,fc,fP,PySem.W.mg_of X G nf_cars_rootage,PySem.W.mg_of X G nf_cars_leaves,PySem.W.mg_of X G nf_trees_rootage,PySem.W.mg_of X G nf_trees_leaves,PySem.W.mg_of X G nf_codes_rootage,PySem.W.mg_of X G nf_codes_leaves,PySem.W.mg_of X G nf_turns_height,PySem.W.mg_of X G nf_turns_returns,PySem.W.mg_of X G nf_turns_peaks,PySem.W.mg_of X G nf_floor_returns,PySem.W.mg_of X G nf_floor_peaks,PySem.W.mg_of X G nf_rooms_returns,PySem.W.mg_of X G nf_rooms_peaks,PySem.W.mg_of X G nf_bows_height,PySem.W.mg_of X G nf_bows_returns,PySem.W.mg_of X G nf_bows_peaks,PySem.W.mg_of X G nf_twins_height,PySem.W.mg_of X G nf_twins_returns,PySem.W.mg_of X G nf_twins_peaks,PySem.W.mg_of X G nf_stairs_height,PySem.W.mg_of X G nf_stairs_returns,PySem.W.mg_of X G nf_stairs_peaks,PySem.W.mg_of X G nf_brackets_height,PySem.W.mg_of X G nf_brackets_returns,PySem.W.mg_of X G nf_brackets_peaks⟩
 have F1:=aA (st:=lP) l1 c1 k1
 have b1:=F1.binds (ps:=["_law_script","_law_turn","_law_many"]) fun _ _ _ _ _ _=>cU (fun _ _ _=>rfl)
 have F2:=aA (st:=kO) l2 c2 k2
 have b2:=F2.binds (ps:=["_law_script","_law_size","_law_turn"]) fun _ _ _ _ _ _=>cU (fun _ _ _=>rfl)
 have F3:=aA (st:=kU) l3 c3 k3
 have b3:=F3.binds (ps:=["_law_script","_law_k"]) fun _ _ _ _ _ _=>bQ (fun _ _=>rfl)
 have F4:=aA (st:=lB) l4 c4 k4
 have b4:=F4.binds (ps:=["_law_script","_law_size","_law_turn"]) fun _ _ _ _ _ _=>cU (fun _ _ _=>rfl)
 have F5:=aA (st:=lV) l5 c5 k5
 have b5:=F5.binds (ps:=["self","word","least"]) fun _ _ _ _ _ _=>cU (fun _ _ _=>rfl)
 have F6:=aA (st:=pj) l6 c6 k6
 have b6:=F6.binds (ps:=["self","word"]) fun _ _ _ _ _ _=>bQ (fun _ _=>rfl)
 have F7:=aA (st:=ml) l7 c7 k7
 have b7:=F7.binds (ps:=["self"]) fun _ _ _ _ _ _=>bA (fun _=>rfl)
 have F8:=aA (st:=kM) l8 c8 k8
 have b8:=F8.binds (ps:=["self","word","least"]) fun _ _ _ _ _ _=>cU (fun _ _ _=>rfl)
 have F9:=aA (st:=pJ) l9 c9 k9
 have b9:=F9.binds (ps:=["self","word"]) fun _ _ _ _ _ _=>bQ (fun _ _=>rfl)
 have F10:=aA (st:=kN) l10 c10 k10
 have b10:=F10.binds (ps:=["self"]) fun _ _ _ _ _ _=>bA (fun _=>rfl)
 have F11:=aA (st:=mC) l11 c11 k11
 have b11:=F11.binds (ps:=["self","word","least"]) fun _ _ _ _ _ _=>cU (fun _ _ _=>rfl)
 have F12:=aA (st:=pL) l12 c12 k12
 have b12:=F12.binds (ps:=["self","word"]) fun _ _ _ _ _ _=>bQ (fun _ _=>rfl)
 have F13:=aA (st:=lZ) l13 c13 k13
 have b13:=F13.binds (ps:=["self"]) fun _ _ _ _ _ _=>bA (fun _=>rfl)
 have F14:=aA (st:=kT) l14 c14 k14
 have b14:=F14.binds (ps:=["self","word","least"]) fun _ _ _ _ _ _=>cU (fun _ _ _=>rfl)
 have F15:=aA (st:=o6) l15 c15 k15
 have b15:=F15.binds (ps:=["self","word"]) fun _ _ _ _ _ _=>bQ (fun _ _=>rfl)
 have F16:=aA (st:=mh) l16 c16 k16
 have b16:=F16.binds (ps:=["self"]) fun _ _ _ _ _ _=>bA (fun _=>rfl)
 have F17:=aA (st:=kJ) l17 c17 k17
 have b17:=F17.binds (ps:=["self","word","least"]) fun _ _ _ _ _ _=>cU (fun _ _ _=>rfl)
 have F18:=aA (st:=oZ) l18 c18 k18
 have b18:=F18.binds (ps:=["self","word"]) fun _ _ _ _ _ _=>bQ (fun _ _=>rfl)
 have F19:=aA (st:=lX) l19 c19 k19
 have b19:=F19.binds (ps:=["self"]) fun _ _ _ _ _ _=>bA (fun _=>rfl)
 have F20:=aA (st:=lO) l20 c20 k20
 have b20:=F20.binds (ps:=["self","word","least"]) fun _ _ _ _ _ _=>cU (fun _ _ _=>rfl)
 have F21:=aA (st:=pE) l21 c21 k21
 have b21:=F21.binds (ps:=["self","word"]) fun _ _ _ _ _ _=>bQ (fun _ _=>rfl)
 have F22:=aA (st:=kX) l22 c22 k22
 have b22:=F22.binds (ps:=["self"]) fun _ _ _ _ _ _=>bA (fun _=>rfl)
 have F23:=aA (st:=lL) l23 c23 k23
 have b23:=F23.binds (ps:=["self","word","least"]) fun _ _ _ _ _ _=>cU (fun _ _ _=>rfl)
 have F24:=aA (st:=pK) l24 c24 k24
 have b24:=F24.binds (ps:=["self","word"]) fun _ _ _ _ _ _=>bQ (fun _ _=>rfl)
 have F25:=aA (st:=mw) l25 c25 k25
 have b25:=F25.binds (ps:=["self"]) fun _ _ _ _ _ _=>bA (fun _=>rfl)
 have F26:=aA (st:=lI) l26 c26 k26
 have b26:=F26.binds (ps:=[]) fun _ _ _ _ _ _=>pF rfl
 have F27:=aA (st:=lN) l27 c27 k27
 have b27:=F27.binds (ps:=["self","word","least"]) fun _ _ _ _ _ _=>cU (fun _ _ _=>rfl)
 have F28:=aA (st:=oP) l28 c28 k28
 have b28:=F28.binds (ps:=["self","word"]) fun _ _ _ _ _ _=>bQ (fun _ _=>rfl)
 have F29:=aA (st:=kL) l29 c29 k29
 have b29:=F29.binds (ps:=["self"]) fun _ _ _ _ _ _=>bA (fun _=>rfl)
 have F30:=aA (st:=mx) l30 c30 k30
 have b30:=F30.binds (ps:=["self","word","least"]) fun _ _ _ _ _ _=>cU (fun _ _ _=>rfl)
 have F31:=aA (st:=oJ) l31 c31 k31
 have b31:=F31.binds (ps:=["self","word"]) fun _ _ _ _ _ _=>bQ (fun _ _=>rfl)
 have F32:=aA (st:=md) l32 c32 k32
 have b32:=F32.binds (ps:=["self"]) fun _ _ _ _ _ _=>bA (fun _=>rfl)
 have F33:=aA (st:=mq) l33 c33 k33
 have b33:=F33.binds (ps:=["self","word","least"]) fun _ _ _ _ _ _=>cU (fun _ _ _=>rfl)
 have F34:=aA (st:=lq) l34 c34 k34
 have b34:=F34.binds (ps:=["self","word"]) fun _ _ _ _ _ _=>bQ (fun _ _=>rfl)
 have F35:=aA (st:=kS) l35 c35 k35
 have b35:=F35.binds (ps:=["self"]) fun _ _ _ _ _ _=>bA (fun _=>rfl)
 have F36:=aA (st:=mr) l36 c36 k36
 have b36:=F36.binds (ps:=[]) fun _ _ _ _ _ _=>pF rfl
 have F37:=aA (st:=lG) l37 c37 k37
 have b37:=F37.binds (ps:=["word"]) fun _ _ _ _ _ _=>bA (fun _=>rfl)
 have F38:=aA (st:=iR) l38 c38 k38
 have b38:=F38.binds (ps:=[]) fun _ _ _ _ _ _=>pF rfl
 have F39:=aA (st:=l0) l39 c39 k39
 have b39:=F39.binds (ps:=["word"]) fun _ _ _ _ _ _=>bA (fun _=>rfl)
 have F40:=aA (st:=kY) l40 c40 k40
 have b40:=F40.binds (ps:=["numbers"]) fun _ _ _ _ _ _=>bA (fun _=>rfl)
 have F41:=aA (st:=mB) l41 c41 k41
 have b41:=F41.binds (ps:=["rows"]) fun _ _ _ _ _ _=>bA (fun _=>rfl)
 have F42:=aA (st:=mf) l42 c42 k42
 have b42:=F42.binds (ps:=["pairs"]) fun _ _ _ _ _ _=>bA (fun _=>rfl)
 have F43:=aA (st:=lC) l43 c43 k43
 have b43:=F43.binds (ps:=["self","thing"]) fun _ _ _ _ _ _=>bQ (fun _ _=>rfl)
 have F44:=aA (st:=mE) l44 c44 k44
 have b44:=F44.binds (ps:=["self","thing"]) fun _ _ _ _ _ _=>bQ (fun _ _=>rfl)
 have F45:=aA (st:=lY) l45 c45 k45
 have b45:=F45.binds (ps:=["rooms"]) fun _ _ _ _ _ _=>bA (fun _=>rfl)
 have F46:=aA (st:=mj) l46 c46 k46
 have b46:=F46.binds (ps:=["self","thing"]) fun _ _ _ _ _ _=>bQ (fun _ _=>rfl)
 have F47:=aA (st:=pB) l47 c47 k47
 have b47:=F47.binds (ps:=["self","thing"]) fun _ _ _ _ _ _=>bQ (fun _ _=>rfl)
 have F48:=aA (st:=kH) l48 c48 k48
 have b48:=F48.binds (ps:=["thing"]) fun _ _ _ _ _ _=>bA (fun _=>rfl)
 have F49:=aA (st:=mi) l49 c49 k49
 have b49:=F49.binds (ps:=["thing","bow"]) fun _ _ _ _ _ _=>bQ (fun _ _=>rfl)
 have F50:=aA (st:=kW) l50 c50 k50
 have b50:=F50.binds (ps:=["thing"]) fun _ _ _ _ _ _=>bA (fun _=>rfl)
 have F51:=aA (st:=me) l51 c51 k51
 have b51:=F51.binds (ps:=["thing"]) fun _ _ _ _ _ _=>bA (fun _=>rfl)
 have F52:=aA (st:=lH) l52 c52 k52
 have b52:=F52.binds (ps:=["thing"]) fun _ _ _ _ _ _=>bA (fun _=>rfl)
 have F53:=aA (st:=lS) l53 c53 k53
 have b53:=F53.binds (ps:=["thing","room"]) fun _ _ _ _ _ _=>bQ (fun _ _=>rfl)
 have F54:=aA (st:=lF) l54 c54 k54
 have b54:=F54.binds (ps:=["thing"]) fun _ _ _ _ _ _=>bA (fun _=>rfl)
 have F55:=aA (st:=lD) l55 c55 k55
 have b55:=F55.binds (ps:=["word","name","thing"]) fun _ _ _ _ _ _=>cU (fun _ _ _=>rfl)
 have F56:=aA (st:=mF) l56 c56 k56
 have b56:=F56.binds (ps:=["_law_word","_law_names","_law_thing","_law_due"]) fun _ _ _ _ _ _=>zI (fun _ _ _ _=>rfl)
 have F57:=aA (st:=lW) l57 c57 k57
 have b57:=F57.binds (ps:=["_law_bows_here"]) fun _ _ _ _ _ _=>bA (fun _=>rfl)
 have F58:=aA (st:=lT) l58 c58 k58
 have b58:=F58.binds (ps:=["_law_rooms_here"]) fun _ _ _ _ _ _=>bA (fun _=>rfl)
 have F59:=aA (st:=ip) l59 c59 k59
 have bB:=PySem.W.mg_none_of X G z_range
 have aN:=PySem.W.mg_none_of X G z_len
 have vC:=PySem.W.mg_none_of X G z_min
 have eZ:=PySem.W.mg_none_of X G z_list
 have eU:=PySem.W.mg_none_of X G z_sorted
 have vU:=PySem.W.mg_none_of X G z_all
 have wR:=PySem.W.mg_none_of X G z_zip
 have jC:=PySem.W.mg_none_of X G z_max
 have gE:=PySem.W.mg_none_of X G z_isinstance
 have gZ:=PySem.W.mg_none_of X G z_int
 have tN:=PySem.W.mg_none_of X G z_bool
 refine ⟨PySem.W.fnOf "law" "law" (aj ip) (ah ip) (ab ip) .none kV59 dc59 pm59 an59 cd59 ct59,fun s v=>.of_eq rfl,fun base _ _=>?_⟩
 have lA:Def l.prog w K mg base "_law_draws" ["_law_script","_law_turn","_law_many"] 1 (oF K _) f1 _:=⟨(Ct (P:=l.prog) (w:=w) (base:=base) CA F1 bB aN).up,b1,k1,PySem.W.mg_of X G a1⟩
 have we:Def l.prog w K mg base "_law_bows" ["_law_script","_law_size","_law_turn"] 2 (rq K _) f2 _:=⟨(B9 (P:=l.prog) (w:=w) (base:=base) CA F2 lA bB aN).up,b2,k2,PySem.W.mg_of X G a2⟩
 have qH:Def l.prog w K mg base "_law_cell_at" ["_law_script","_law_k"] 1 (sU K _) f3 _:=⟨(BD (P:=l.prog) (w:=w) (base:=base) CA F3 aN).up,b3,k3,PySem.W.mg_of X G a3⟩
 have wt:Def l.prog w K mg base "_law_rooms" ["_law_script","_law_size","_law_turn"] 2 (rZ K _) f4 _:=⟨(AW (P:=l.prog) (w:=w) (base:=base) CA F4 lA bB vC aN).up,b4,k4,PySem.W.mg_of X G a4⟩
 have v8:aE l.prog w K mg base ["self","word","least"] 1 (rP K _) f5 _:=⟨(Ba (P:=l.prog) (w:=w) (base:=base) CA F5).up,b5⟩
 have yG:aE l.prog w K mg base ["self","word"] 3 (vm K _) f6 _:=⟨(Df (P:=l.prog) (w:=w) (base:=base) CA F6 v8).up,b6⟩
 have vk:aE l.prog w K mg base ["self"] 5 (sH K _) f7 _:=⟨(BF (P:=l.prog) (w:=w) (base:=base) CA F7 yG).up,b7⟩
 have w4:aE l.prog w K mg base ["self","word","least"] 1 (tj K _) f8 _:=⟨(By (P:=l.prog) (w:=w) (base:=base) CA F8).up,b8⟩
 have yW:aE l.prog w K mg base ["self","word"] 3 (wV K _) f9 _:=⟨(CU (P:=l.prog) (w:=w) (base:=base) CA F9 w4).up,b9⟩
 have vZ:aE l.prog w K mg base ["self"] 5 (sv K _) f10 _:=⟨(AZ (P:=l.prog) (w:=w) (base:=base) CA F10 yW).up,b10⟩
 have v9:aE l.prog w K mg base ["self","word","least"] 1 (sQ K _) f11 _:=⟨(B5 (P:=l.prog) (w:=w) (base:=base) CA F11).up,b11⟩
 have yI:aE l.prog w K mg base ["self","word"] 3 (wC K _) f12 _:=⟨(C6 (P:=l.prog) (w:=w) (base:=base) CA F12 v9).up,b12⟩
 have vO:aE l.prog w K mg base ["self"] 5 (rB K _) f13 _:=⟨(AR (P:=l.prog) (w:=w) (base:=base) CA F13 yI).up,b13⟩
 have wN:aE l.prog w K mg base ["self","word","least"] 1 (rJ K _) f14 _:=⟨(AQ (P:=l.prog) (w:=w) (base:=base) CA F14).up,b14⟩
 have yD:aE l.prog w K mg base ["self","word"] 3 (vM K _) f15 _:=⟨(C9 (P:=l.prog) (w:=w) (base:=base) CA F15 wN).up,b15⟩
 have vg:aE l.prog w K mg base ["self"] 5 (si K _) f16 _:=⟨(Cy (P:=l.prog) (w:=w) (base:=base) CA F16 yD).up,b16⟩
 have wW:aE l.prog w K mg base ["self","word","least"] 1 (r8 K _) f17 _:=⟨(A3 (P:=l.prog) (w:=w) (base:=base) CA F17).up,b17⟩
 have yH:aE l.prog w K mg base ["self","word"] 3 (wI K _) f18 _:=⟨(C3 (P:=l.prog) (w:=w) (base:=base) CA F18 wW).up,b18⟩
 have vJ:aE l.prog w K mg base ["self"] 5 (tR K _) f19 _:=⟨(Bj (P:=l.prog) (w:=w) (base:=base) CA F19 yH).up,b19⟩
 have vo:aE l.prog w K mg base ["self","word","least"] 1 (rE K _) f20 _:=⟨(AB (P:=l.prog) (w:=w) (base:=base) CA F20).up,b20⟩
 have yP:aE l.prog w K mg base ["self","word"] 3 (wk K _) f21 _:=⟨(Du (P:=l.prog) (w:=w) (base:=base) CA F21 vo).up,b21⟩
 have vX:aE l.prog w K mg base ["self"] 5 (tO K _) f22 _:=⟨(Be (P:=l.prog) (w:=w) (base:=base) CA F22 yP).up,b22⟩
 have vR:aE l.prog w K mg base ["self","word","least"] 1 (tI K _) f23 _:=⟨(Bw (P:=l.prog) (w:=w) (base:=base) CA F23).up,b23⟩
 have yX:aE l.prog w K mg base ["self","word"] 3 (wc K _) f24 _:=⟨(CV (P:=l.prog) (w:=w) (base:=base) CA F24 vR).up,b24⟩
 have vy:aE l.prog w K mg base ["self"] 5 (tW K _) f25 _:=⟨(BB (P:=l.prog) (w:=w) (base:=base) CA F25 yX).up,b25⟩
 have wg:Def l.prog w K mg base "split_families" [] 7 (sM K _) f26 _:=⟨(Bp (P:=l.prog) (w:=w) (base:=base) CA F26 vk vZ vO vg vJ vX vy).up,b26,k26,PySem.W.mg_of X G a26⟩
 have wx:aE l.prog w K mg base ["self","word","least"] 1 (sd K _) f27 _:=⟨(A1 (P:=l.prog) (w:=w) (base:=base) CA F27).up,b27⟩
 have yq:aE l.prog w K mg base ["self","word"] 3 (wU K _) f28 _:=⟨(Dm (P:=l.prog) (w:=w) (base:=base) CA F28 wx).up,b28⟩
 have vI:aE l.prog w K mg base ["self"] 5 (tw K _) f29 _:=⟨(Bb (P:=l.prog) (w:=w) (base:=base) CA F29 yq).up,b29⟩
 have wj:aE l.prog w K mg base ["self","word","least"] 1 (rn K _) f30 _:=⟨(Cd (P:=l.prog) (w:=w) (base:=base) CA F30).up,b30⟩
 have yt:aE l.prog w K mg base ["self","word"] 3 (wM K _) f31 _:=⟨(C1 (P:=l.prog) (w:=w) (base:=base) CA F31 wj).up,b31⟩
 have vB:aE l.prog w K mg base ["self"] 5 (tM K _) f32 _:=⟨(CD (P:=l.prog) (w:=w) (base:=base) CA F32 yt).up,b32⟩
 have vK:aE l.prog w K mg base ["self","word","least"] 1 (sg K _) f33 _:=⟨(A7 (P:=l.prog) (w:=w) (base:=base) CA F33).up,b33⟩
 have w6:aE l.prog w K mg base ["self","word"] 3 (sW K _) f34 _:=⟨(Bo (P:=l.prog) (w:=w) (base:=base) CA F34 vK).up,b34⟩
 have vd:aE l.prog w K mg base ["self"] 5 (rW K _) f35 _:=⟨(Ce (P:=l.prog) (w:=w) (base:=base) CA F35 w6).up,b35⟩
 have wd:Def l.prog w K mg base "ring_families" [] 7 (sN K _) f36 _:=⟨(Cn (P:=l.prog) (w:=w) (base:=base) CA F36 vI vB vd).up,b36,k36,PySem.W.mg_of X G a36⟩
 have kZ:Def l.prog w K mg base "family_of" ["word"] 8 (oj K _) f37 _:=⟨(BX (P:=l.prog) (w:=w) (base:=base) CA F37 wg wd).up,b37,k37,PySem.W.mg_of X G a37⟩
 have g6:Def l.prog w K mg base "all_measures" [] 1 (nO K _) f38 _:=⟨(Bv (P:=l.prog) (w:=w) (base:=base) CA F38).up,b38,k38,PySem.W.mg_of X G a38⟩
 have wH:Def l.prog w K mg base "marks_of" ["word"] 9 (sJ K _) f39 _:=⟨(B4 (P:=l.prog) (w:=w) (base:=base) CA F39 kZ g6 eZ).up,b39,k39,PySem.W.mg_of X G a39⟩
 have kK:Def l.prog w K mg base "each_once" ["numbers"] 1 (oy K _) f40 _:=⟨(AI (P:=l.prog) (w:=w) (base:=base) CA F40 eU eZ bB aN).up,b40,k40,PySem.W.mg_of X G a40⟩
 have ir:Def l.prog w K mg base "flat" ["rows"] 1 (jZ K _) f41 _:=⟨(Cp (P:=l.prog) (w:=w) (base:=base) CA F41).up,b41,k41,PySem.W.mg_of X G a41⟩
 have mv:Def l.prog w K mg base "any_cross" ["pairs"] 1 (oh K _) f42 _:=⟨(BP (P:=l.prog) (w:=w) (base:=base) CA F42).up,b42,k42,PySem.W.mg_of X G a42⟩
 have wy:aE l.prog w K mg base ["self","thing"] 2 (sZ K _) f43 _:=⟨(Ay (P:=l.prog) (w:=w) (base:=base) CA F43 kK ir mv eU vU).up,b43⟩
 have wA:aE l.prog w K mg base ["self","thing"] 3 (sE K _) f44 _:=⟨(As (P:=l.prog) (w:=w) (base:=base) CA F44 wy).up,b44⟩
 have ve:Def l.prog w K mg base "neighbours" ["rooms"] 2 (ub K _) f45 _:=⟨(CB (P:=l.prog) (w:=w) (base:=base) CA F45 ir eZ wR).up,b45,k45,PySem.W.mg_of X G a45⟩
 have wZ:aE l.prog w K mg base ["self","thing"] 3 (sr K _) f46 _:=⟨(Cv (P:=l.prog) (w:=w) (base:=base) CA F46 kK ir mv ve eU).up,b46⟩
 have yR:aE l.prog w K mg base ["self","thing"] 4 (wF K _) f47 _:=⟨(Dw (P:=l.prog) (w:=w) (base:=base) CA F47 wZ).up,b47⟩
 have qD:Def l.prog w K mg base "bows_peaks" ["thing"] 1 (tG K _) f48 _:=⟨(Bs (P:=l.prog) (w:=w) (base:=base) CA F48 aN).up,b48,k48,PySem.W.mg_of X G a48⟩
 have lU:Def l.prog w K mg base "bows_over" ["thing","bow"] 1 (n9 K _) f49 _:=⟨(AU (P:=l.prog) (w:=w) (base:=base) CA F49).up,b49,k49,PySem.W.mg_of X G a49⟩
 have qL:Def l.prog w K mg base "bows_returns" ["thing"] 2 (sC K _) f50 _:=⟨(BC (P:=l.prog) (w:=w) (base:=base) CA F50 lU aN).up,b50,k50,PySem.W.mg_of X G a50⟩
 have qV:Def l.prog w K mg base "bows_height" ["thing"] 2 (tQ K _) f51 _:=⟨(BU (P:=l.prog) (w:=w) (base:=base) CA F51 lU jC aN).up,b51,k51,PySem.W.mg_of X G a51⟩
 have qT:Def l.prog w K mg base "rooms_peaks" ["thing"] 1 (rp K _) f52 _:=⟨(Cu (P:=l.prog) (w:=w) (base:=base) CA F52 aN).up,b52,k52,PySem.W.mg_of X G a52⟩
 have vP:Def l.prog w K mg base "rooms_around" ["thing","room"] 1 (so K _) f53 _:=⟨(Bq (P:=l.prog) (w:=w) (base:=base) CA F53).up,b53,k53,PySem.W.mg_of X G a53⟩
 have qS:Def l.prog w K mg base "rooms_returns" ["thing"] 2 (rS K _) f54 _:=⟨(AX (P:=l.prog) (w:=w) (base:=base) CA F54 vP aN).up,b54,k54,PySem.W.mg_of X G a54⟩
 have vh:Def l.prog w K mg base "mark" ["word","name","thing"] 10 (rl K _) f55 _:=⟨(Bg (P:=l.prog) (w:=w) (base:=base) CA F55 kZ wH wA yR g6 qD qL qV qT qS).up,b55,k55,PySem.W.mg_of X G a55⟩
 have qK:Def l.prog w K mg base "_law_told" ["_law_word","_law_names","_law_thing","_law_due"] 11 (tU K _) f56 _:=⟨(AA (P:=l.prog) (w:=w) (base:=base) CA F56 vh bB aN gE gZ tN).up,b56,k56,PySem.W.mg_of X G a56⟩
 have vA:Def l.prog w K mg base "_law_of_bows" ["_law_bows_here"] 1 (sG K _) f57 _:=⟨(Cz (P:=l.prog) (w:=w) (base:=base) CA F57 bB aN gZ jC).up,b57,k57,PySem.W.mg_of X G a57⟩
 have vQ:Def l.prog w K mg base "_law_of_rooms" ["_law_rooms_here"] 1 (ua K _) f58 _:=⟨(Ci (P:=l.prog) (w:=w) (base:=base) CA F58 gZ aN).up,b58,k58,PySem.W.mg_of X G a58⟩
 exact Au (P:=l.prog) (w:=w) (base:=base) CA F59 we qH wt qK vA vQ eZ
theorem walk {l:PySem.W.OpenLaw} {q:Program} {loose:List Str} {XP:(Str->Option Value)->Heap->Prop} {YP:World->Heap->Prop} {d:DefRec} {K:Params->PySem.W.Frag} (hn:l.most=some 63) (hdf:d.params.defaults=[])
  (hY:∀ (w:World) (h:Heap),YP w h->(K w.params).In h)
  (F:∀ (w:World) (mg:Str->Option Value) (fa:Addr) (h:Heap),(K w.params).In h->h.Ns mainGlobals mg->mg d.name=some (.ref fa) ->
   ∃ fd:FuncData,(∀ (s:Shared) (u:Value),BindsTo s fd ⟨[u],[]⟩ [("_law_script",u)])/\∀ base:Heap,(K w.params).In base->base.Ns mainGlobals mg->aD l.prog w (K w.params) mg base a8 12 fa fd ["_law_script"] (CG (K w.params))) :
  PySem.W.WalkO q loose XP YP l.row.toRowW d [] (fun f vs=>PySem.call f vs) :=
 L2.walk_of (n:=63) (k:=12) (x:="_law_script") (CX:=fun _=>a8) (sp:=fun w=>CG (K w.params)) hn (by decide) hdf ⟨rfl,by decide,by decide⟩ hY F (fun _ _ a ns hl _ hS=>⟨a,ns,rfl,hS,hl,fun _=>rfl⟩) fun _ _ _ _ _ z=>z
end Ck
open L2
namespace Ck
open PySem PySem.W PySem.Calls PyProof.Rows
noncomputable def hB:List Stmt:=behindTheImports PySem.Challenge.pw_countkin_k49_marks_of_bows_and_rooms
noncomputable def hE:Env:={ scope:=PySem.Challenge.pw_countkin_k49_marks_of_bows_and_rooms.main.scope,locals:=mainNs,globals:=mainNs,cells:=[],code:=(.ref 13),frame:=some 14 }
noncomputable def hC:Code:=.body hB hE
noncomputable def hTree (P:Params):BT:=(.node (boot_o_0 P) (.node (boot_o_1 P) (.node (boot_o_3 P) (.node (boot_o_7 P) .nil .nil) (.node ⟨(.type "tuple"),none,(.seq #[] 0),#[]⟩ .nil .nil)) (.node (boot_o_5 P) (.node (boot_o_9 P) .nil .nil) (.node ⟨(.type "code"),none,(.fields #[(.str "<module>" 182),(.str "<module>" 183),(.str "/claim/cut.py" 184),(.int 1 0),(.int 0 0),(.int 0 0),(.int 0 0),(.int 0 0),(.ref 11),(.bool false),(.int 181 0),(.ref 12),.none,.none,.none,.none,(.int 185 0),(.int 1 0),(.str "/claim/cut.py" 186)]),#[]⟩ .nil .nil))) (.node (boot_o_2 P) (.node (boot_o_4 P) (.node (boot_o_8 P) .nil .nil) (.node ⟨.none,none,(.fields #[]),#[]⟩ .nil .nil)) (.node (boot_o_6 P) (.node (boot_o_10 P) .nil .nil) (.node ⟨(.type "frame"),none,.plain,#[(some (.ref 13)),(some (.ref 3)),(some (.ref 3)),none,(some (.str "__main__" 164)),none,(some (.ref 0))]⟩ .nil .nil))))
noncomputable def hS (w:World) (os:OsState):SharedT:=⟨hTree w.params,15,({}:Life),Array.mk [],⟨0,0,0,0⟩,187,os⟩
noncomputable def hQ:Program:={ PySem.Challenge.pw_countkin_k49_marks_of_bows_and_rooms with main:={ PySem.Challenge.pw_countkin_k49_marks_of_bows_and_rooms.main with body:=[top 93] } }
noncomputable def hL:List Str:=(Str.ofString "_wall"::Str.ofString "KinError"::Str.ofString "NoSize"::Str.ofString "NoThing"::Str.ofString "NoFamily"::Str.ofString "NoMark"::Str.ofString "flat"::Str.ofString "each_once"::Str.ofString "any_cross"::Str.ofString "GREATEST_SIZE"::Str.ofString "by_rule"::Str.ofString "ring_many"::Str.ofString "Family"::Str.ofString "SplitFamily"::Str.ofString "Bows"::Str.ofString "Rooms"::Str.ofString "neighbours"::Str.ofString "RingFamily"::Str.ofString "Codes"::Str.ofString "Cars"::Str.ofString "Trees"::Str.ofString "comes_to_0"::Str.ofString "Floors"::Str.ofString "may_be_cut"::Str.ofString "third_corner"::Str.ofString "Turns"::Str.ofString "comes_off_a_stack"::Str.ofString "closes"::Str.ofString "Brackets"::Str.ofString "Stairs"::Str.ofString "Twins"::Str.ofString "split_families"::Str.ofString "ring_families"::Str.ofString "family_of"::Str.ofString "missing"::Str.ofString "trees_leaves"::Str.ofString "trees_rootage"::Str.ofString "codes_leaves"::Str.ofString "codes_rootage"::Str.ofString "cars_leaves"::Str.ofString "cars_rootage"::Str.ofString "brackets_peaks"::Str.ofString "depths"::Str.ofString "brackets_returns"::Str.ofString "stairs_peaks"::Str.ofString "stairs_returns"::Str.ofString "twins_peaks"::Str.ofString "twins_returns"::Str.ofString "bows_peaks"::Str.ofString "bows_over"::Str.ofString "bows_returns"::Str.ofString "rooms_peaks"::Str.ofString "rooms_around"::Str.ofString "rooms_returns"::Str.ofString "triangles"::Str.ofString "floor_peaks"::Str.ofString "floor_returns"::Str.ofString "turns_peaks"::Str.ofString "turns_returns"::Str.ofString "brackets_height"::Str.ofString "stairs_height"::Str.ofString "twins_height"::Str.ofString "bows_height"::Str.ofString "turns_height"::Str.ofString "all_measures"::Str.ofString "marks_of"::Str.ofString "mark"::Str.ofString "_law_cell_at"::Str.ofString "_law_draws"::Str.ofString "_law_bows"::Str.ofString "_law_rooms"::Str.ofString "_law_told"::Str.ofString "_law_of_bows"::Str.ofString "_law_of_rooms"::[])
noncomputable def kD (P:Params) (x:Str) (n:Tok) (v:Value):DictEntry:=⟨PyData.keyHash P x,.str x n,v⟩
noncomputable def kF (a b:Str) (s:Stmt) (m:Str) (n:Tok) (c:Addr):Obj:=⟨.type "function",none,.func (fnOf a b (aj s) (ah s) (ab s) .none .none .none (.str m n) none (.ref c) .none),#[]⟩
noncomputable def kC (a b:Str) (t:Nat) (l n:Int) (r q x y z w:Value) (e:Nat):Obj:=⟨.type "code",none,.fields #[.str a t,.str b (t+1),.str "/claim/cut.py" (t+2),.int l 0,.int n 0,.int 0 0,.int 0 0,.int 3 0,r,.bool true,.int 181 0,q,x,y,z,w,.int (Int.ofNat e) 0,.int l 0,.str "/claim/cut.py" (e+1)],#[]⟩
noncomputable def hK:Params->Frag:=fun P=>(nat_lit 2,⟨.none,none,(.dict #[] 0),#[]⟩)::(nat_lit 3,⟨(.type "dict"),none,(.dict (List.toArray (kD P "__name__" 165 (.str "law_countkin_k49_marks_of_bows_and_rooms" 1524)::kD P "__doc__" 166 .none::kD P "__package__" 167 .none::kD P "__loader__" 168 (.builtin "__main__.__loader__#opaque")::kD P "__spec__" 169 .none::kD P "__annotations__" 170 (.ref 6)::kD P "__builtins__" 171 (.ref 4)::kD P "__file__" 173 (.str "/claim/cut.py" 172)::kD P "__cached__" 174 .none::kD P "_wall" 193 (.ref 21)::kD P "KinError" 213 (.ref 31)::kD P "NoSize" 229 (.ref 44)::kD P "NoThing" 245 (.ref 56)::kD P "NoFamily" 261 (.ref 68)::kD P "NoMark" 277 (.ref 80)::kD P "flat" 288 (.ref 89)::kD P "each_once" 295 (.ref 96)::kD P "any_cross" 306 (.ref 103)::kD P "GREATEST_SIZE" 310 (.int 40 309)::kD P "by_rule" 319 (.ref 110)::kD P "ring_many" 328 (.ref 117)::kD P "Family" 443 (.ref 204)::kD P "SplitFamily" 535 (.ref 281)::kD P "Bows" 598 (.ref 333)::kD P "Rooms" 657 (.ref 383)::kD P "neighbours" 663 (.ref 390)::kD P "RingFamily" 730 (.ref 442)::kD P "Codes" 783 (.ref 487)::kD P "Cars" 838 (.ref 532)::kD P "Trees" 893 (.ref 577)::kD P "comes_to_0" 903 (.ref 586)::kD P "Floors" 966 (.ref 636)::kD P "may_be_cut" 975 (.ref 645)::kD P "third_corner" 981 (.ref 650)::kD P "Turns" 1046 (.ref 702)::kD P "comes_off_a_stack" 1056 (.ref 711)::kD P "closes" 1067 (.ref 718)::kD P "Brackets" 1132 (.ref 770)::kD P "Stairs" 1198 (.ref 824)::kD P "Twins" 1266 (.ref 878)::kD P "split_families" 1274 (.ref 887)::kD P "ring_families" 1280 (.ref 894)::kD P "family_of" 1288 (.ref 901)::kD P "missing" 1296 (.ref 906)::kD P "trees_leaves" 1303 (.ref 913)::kD P "trees_rootage" 1310 (.ref 920)::kD P "codes_leaves" 1317 (.ref 927)::kD P "codes_rootage" 1324 (.ref 934)::kD P "cars_leaves" 1331 (.ref 941)::kD P "cars_rootage" 1338 (.ref 948)::kD P "brackets_peaks" 1347 (.ref 955)::kD P "depths" 1357 (.ref 962)::kD P "brackets_returns" 1364 (.ref 969)::kD P "stairs_peaks" 1371 (.ref 976)::kD P "stairs_returns" 1377 (.ref 981)::kD P "twins_peaks" 1387 (.ref 988)::kD P "twins_returns" 1396 (.ref 995)::kD P "bows_peaks" 1402 (.ref 1000)::kD P "bows_over" 1408 (.ref 1005)::kD P "bows_returns" 1414 (.ref 1010)::kD P "rooms_peaks" 1421 (.ref 1017)::kD P "rooms_around" 1427 (.ref 1022)::kD P "rooms_returns" 1433 (.ref 1027)::kD P "triangles" 1439 (.ref 1032)::kD P "floor_peaks" 1445 (.ref 1037)::kD P "floor_returns" 1451 (.ref 1042)::kD P "turns_peaks" 1457 (.ref 1047)::kD P "turns_returns" 1463 (.ref 1052)::kD P "brackets_height" 1472 (.ref 1059)::kD P "stairs_height" 1478 (.ref 1064)::kD P "twins_height" 1485 (.ref 1071)::kD P "bows_height" 1491 (.ref 1076)::kD P "turns_height" 1497 (.ref 1081)::kD P "all_measures" 1505 (.ref 1088)::kD P "marks_of" 1513 (.ref 1095)::kD P "mark" 1523 (.ref 1102)::kD P "_law_cell_at" 1533 (.ref 1109)::kD P "_law_draws" 1539 (.ref 1114)::kD P "_law_bows" 1554 (.ref 1121)::kD P "_law_rooms" 1570 (.ref 1128)::kD P "_law_told" 1583 (.ref 1135)::kD P "_law_of_bows" 1589 (.ref 1140)::kD P "_law_of_rooms" 1595 (.ref 1145)::kD P "law" 1601 (.ref 1150)::[])) 84),#[]⟩)::(nat_lit 30,⟨(.type "dict"),none,(.dict #[kD P "__module__" 203 (.str "countkin.errors" 194),kD P "__firstlineno__" 207 (.int 5 206),kD P "__static_attributes__" 208 (.ref 29),kD P "__weakref__" 210 (.ref 32),kD P "__doc__" 211 .none] 3),#[]⟩)::(nat_lit 31,⟨(.type "type"),none,(.cls ⟨"KinError",[(.type "ValueError")],[(.ref 31),(.type "ValueError"),(.type "Exception"),(.type "BaseException"),(.type "object")],30,"KinError",true,[],[(.ref 44),(.ref 56),(.ref 68),(.ref 80)],false,none,false⟩),#[(some (.ref 22)),none,(some (.str "KinError" 196)),(some (.str "KinError" 204)),(some (.builtin "ValueError.__new__")),(some (.bool true))]⟩)::(nat_lit 32,⟨(.type "getset_descriptor"),none,(.fields #[(.str "__weakref__" 209),(.ref 31),(.builtin "ExceptionGroup.__weakref__"),.none]),#[]⟩)::(nat_lit 43,⟨(.type "dict"),none,(.dict #[kD P "__module__" 221 (.str "countkin.errors" 194),kD P "__firstlineno__" 225 (.int 7 224),kD P "__static_attributes__" 226 (.ref 42),kD P "__doc__" 227 .none] 2),#[]⟩)::(nat_lit 44,⟨(.type "type"),none,(.cls ⟨"NoSize",[(.ref 31)],[(.ref 44),(.ref 31),(.type "ValueError"),(.type "Exception"),(.type "BaseException"),(.type "object")],43,"NoSize",true,[],[],false,none,false⟩),#[(some (.ref 35)),none,(some (.str "NoSize" 214)),(some (.str "NoSize" 222)),(some (.builtin "ValueError.__new__")),(some (.bool true))]⟩)::(nat_lit 55,⟨(.type "dict"),none,(.dict #[kD P "__module__" 237 (.str "countkin.errors" 194),kD P "__firstlineno__" 241 (.int 9 240),kD P "__static_attributes__" 242 (.ref 54),kD P "__doc__" 243 .none] 2),#[]⟩)::(nat_lit 56,⟨(.type "type"),none,(.cls ⟨"NoThing",[(.ref 31)],[(.ref 56),(.ref 31),(.type "ValueError"),(.type "Exception"),(.type "BaseException"),(.type "object")],55,"NoThing",true,[],[],false,none,false⟩),#[(some (.ref 47)),none,(some (.str "NoThing" 230)),(some (.str "NoThing" 238)),(some (.builtin "ValueError.__new__")),(some (.bool true))]⟩)::(nat_lit 67,⟨(.type "dict"),none,(.dict #[kD P "__module__" 253 (.str "countkin.errors" 194),kD P "__firstlineno__" 257 (.int 11 256),kD P "__static_attributes__" 258 (.ref 66),kD P "__doc__" 259 .none] 2),#[]⟩)::(nat_lit 68,⟨(.type "type"),none,(.cls ⟨"NoFamily",[(.ref 31)],[(.ref 68),(.ref 31),(.type "ValueError"),(.type "Exception"),(.type "BaseException"),(.type "object")],67,"NoFamily",true,[],[],false,none,false⟩),#[(some (.ref 59)),none,(some (.str "NoFamily" 246)),(some (.str "NoFamily" 254)),(some (.builtin "ValueError.__new__")),(some (.bool true))]⟩)::(nat_lit 79,⟨(.type "dict"),none,(.dict #[kD P "__module__" 269 (.str "countkin.errors" 194),kD P "__firstlineno__" 273 (.int 13 272),kD P "__static_attributes__" 274 (.ref 78),kD P "__doc__" 275 .none] 2),#[]⟩)::(nat_lit 80,⟨(.type "type"),none,(.cls ⟨"NoMark",[(.ref 31)],[(.ref 80),(.ref 31),(.type "ValueError"),(.type "Exception"),(.type "BaseException"),(.type "object")],79,"NoMark",true,[],[],false,none,false⟩),#[(some (.ref 71)),none,(some (.str "NoMark" 262)),(some (.str "NoMark" 270)),(some (.builtin "ValueError.__new__")),(some (.bool true))]⟩)::(nat_lit 88,(kC "flat" "flat" 280 16 1 (.ref 83) (.ref 84) .none (.ref 85) (.ref 86) (.ref 87) 286))::(nat_lit 89,(kF "flat" "flat" (top 8) "countkin.common" 278 88))::(nat_lit 95,(kC "each_once" "each_once" 289 21 1 (.ref 90) (.ref 91) .none (.ref 92) (.ref 93) (.ref 94) 293))::(nat_lit 96,(kF "each_once" "each_once" (top 9) "countkin.common" 278 95))::(nat_lit 102,(kC "any_cross" "any_cross" 296 23 1 (.ref 97) (.ref 98) .none (.ref 99) (.ref 100) (.ref 101) 304))::(nat_lit 103,(kF "any_cross" "any_cross" (top 10) "countkin.common" 278 102))::(nat_lit 130,(kC "__init__" "Family.__init__" 343 44 3 (.ref 125) (.ref 126) .none (.ref 127) (.ref 128) (.ref 129) 349))::(nat_lit 131,(kF "__init__" "Family.__init__" (inClass (top 16) 0) "countkin.kin" 329 130))::(nat_lit 179,(kC "refuse_other" "Family.refuse_other" 401 68 2 (.ref 174) (.ref 175) .none (.ref 176) (.ref 177) (.ref 178) 406))::(nat_lit 180,(kF "refuse_other" "Family.refuse_other" (inClass (top 16) 7) "countkin.kin" 329 179))::(nat_lit 203,⟨(.type "dict"),none,(.dict #[kD P "__module__" 338 (.str "countkin.kin" 329),kD P "__firstlineno__" 342 (.int 42 341),kD P "__init__" 351 (.ref 131),kD P "size_of" 359 (.ref 138),kD P "is_one" 367 (.ref 145),kD P "unchecked_many" 375 (.ref 152),kD P "unchecked_number" 383 (.ref 159),kD P "unchecked_thing" 392 (.ref 166),kD P "many" 400 (.ref 173),kD P "refuse_other" 408 (.ref 180),kD P "number_of" 416 (.ref 187),kD P "thing_of" 425 (.ref 194),kD P "next_of" 433 (.ref 201),kD P "__static_attributes__" 436 (.ref 202),kD P "__dict__" 438 (.ref 205),kD P "__weakref__" 440 (.ref 206),kD P "__doc__" 441 .none] 4),#[]⟩)::(nat_lit 204,⟨(.type "type"),none,(.cls ⟨"Family",[(.type "object")],[(.ref 204),(.type "object")],203,"Family",true,[],[(.ref 281),(.ref 442)],false,none,false⟩),#[none,none,(some (.str "Family" 331)),(some (.str "Family" 339)),(some (.builtin "object.__new__")),(some (.bool true))]⟩)::(nat_lit 205,⟨(.type "getset_descriptor"),none,(.fields #[(.str "__dict__" 437),(.ref 204),(.builtin "function.__dict__"),(.builtin "function.__dict__#set")]),#[]⟩)::(nat_lit 206,⟨(.type "getset_descriptor"),none,(.fields #[(.str "__weakref__" 439),(.ref 204),(.builtin "ExceptionGroup.__weakref__"),.none]),#[]⟩)::(nat_lit 221,(kC "__init__" "SplitFamily.__init__" 456 82 2 (.ref 216) (.ref 217) .none (.ref 218) (.ref 219) (.ref 220) 461))::(nat_lit 222,(kF "__init__" "SplitFamily.__init__" (inClass (top 17) 0) "countkin.kin" 329 221))::(nat_lit 280,⟨(.type "dict"),none,(.dict #[kD P "__module__" 451 (.str "countkin.kin" 329),kD P "__firstlineno__" 455 (.int 80 454),kD P "__init__" 463 (.ref 222),kD P "bare" 470 (.ref 229),kD P "parted" 478 (.ref 236),kD P "joined" 487 (.ref 243),kD P "unchecked_many" 495 (.ref 250),kD P "unchecked_number" 503 (.ref 257),kD P "unchecked_thing" 512 (.ref 264),kD P "number_by_parts" 521 (.ref 271),kD P "thing_by_parts" 531 (.ref 278),kD P "__static_attributes__" 532 (.ref 279),kD P "__doc__" 533 .none] 2),#[]⟩)::(nat_lit 281,⟨(.type "type"),none,(.cls ⟨"SplitFamily",[(.ref 204)],[(.ref 281),(.ref 204),(.type "object")],280,"SplitFamily",true,[],[(.ref 333),(.ref 383),(.ref 636),(.ref 702),(.ref 770),(.ref 824),(.ref 878)],false,none,false⟩),#[(some (.ref 209)),none,(some (.str "SplitFamily" 444)),(some (.str "SplitFamily" 452)),(some (.builtin "object.__new__")),(some (.bool true))]⟩)::(nat_lit 296,(kC "__init__" "Bows.__init__" 550 111 1 (.ref 291) (.ref 292) .none (.ref 293) (.ref 294) (.ref 295) 554))::(nat_lit 297,(kF "__init__" "Bows.__init__" (inClass (top 19) 0) "countkin.bends" 536 296))::(nat_lit 308,(kC "is_one" "Bows.is_one" 565 117 2 (.ref 305) (.ref 306) .none .none .none (.ref 307) 568))::(nat_lit 309,(kF "is_one" "Bows.is_one" (inClass (top 19) 2) "countkin.bends" 536 308))::(nat_lit 332,⟨(.type "dict"),none,(.dict #[kD P "__module__" 545 (.str "countkin.bends" 536),kD P "__firstlineno__" 549 (.int 109 548),kD P "__init__" 556 (.ref 297),kD P "size_of" 564 (.ref 304),kD P "is_one" 570 (.ref 309),kD P "bare" 577 (.ref 316),kD P "parted" 585 (.ref 323),kD P "joined" 594 (.ref 330),kD P "__static_attributes__" 595 (.ref 331),kD P "__doc__" 596 .none] 2),#[]⟩)::(nat_lit 333,⟨(.type "type"),none,(.cls ⟨"Bows",[(.ref 281)],[(.ref 333),(.ref 281),(.ref 204),(.type "object")],332,"Bows",true,[],[],false,none,false⟩),#[(some (.ref 284)),none,(some (.str "Bows" 538)),(some (.str "Bows" 546)),(some (.builtin "object.__new__")),(some (.bool true))]⟩)::(nat_lit 348,(kC "__init__" "Rooms.__init__" 611 132 1 (.ref 343) (.ref 344) .none (.ref 345) (.ref 346) (.ref 347) 615))::(nat_lit 349,(kF "__init__" "Rooms.__init__" (inClass (top 20) 0) "countkin.bends" 536 348))::(nat_lit 358,(kC "is_one" "Rooms.is_one" 624 138 2 (.ref 355) (.ref 356) .none .none .none (.ref 357) 627))::(nat_lit 359,(kF "is_one" "Rooms.is_one" (inClass (top 20) 2) "countkin.bends" 536 358))::(nat_lit 382,⟨(.type "dict"),none,(.dict #[kD P "__module__" 606 (.str "countkin.bends" 536),kD P "__firstlineno__" 610 (.int 130 609),kD P "__init__" 617 (.ref 349),kD P "size_of" 623 (.ref 354),kD P "is_one" 629 (.ref 359),kD P "bare" 636 (.ref 366),kD P "parted" 644 (.ref 373),kD P "joined" 653 (.ref 380),kD P "__static_attributes__" 654 (.ref 381),kD P "__doc__" 655 .none] 2),#[]⟩)::(nat_lit 383,⟨(.type "type"),none,(.cls ⟨"Rooms",[(.ref 281)],[(.ref 383),(.ref 281),(.ref 204),(.type "object")],382,"Rooms",true,[],[],false,none,false⟩),#[(some (.ref 336)),none,(some (.str "Rooms" 599)),(some (.str "Rooms" 607)),(some (.builtin "object.__new__")),(some (.bool true))]⟩)::(nat_lit 389,(kC "neighbours" "neighbours" 658 151 1 (.ref 386) (.ref 387) .none .none .none (.ref 388) 661))::(nat_lit 390,(kF "neighbours" "neighbours" (top 21) "countkin.bends" 536 389))::(nat_lit 403,(kC "__init__" "RingFamily.__init__" 678 156 2 (.ref 398) (.ref 399) .none (.ref 400) (.ref 401) (.ref 402) 683))::(nat_lit 404,(kF "__init__" "RingFamily.__init__" (inClass (top 23) 0) "countkin.ring" 664 403))::(nat_lit 441,⟨(.type "dict"),none,(.dict #[kD P "__module__" 673 (.str "countkin.ring" 664),kD P "__firstlineno__" 677 (.int 154 676),kD P "__init__" 685 (.ref 404),kD P "code_of" 693 (.ref 411),kD P "of_code" 701 (.ref 418),kD P "unchecked_many" 709 (.ref 425),kD P "unchecked_number" 717 (.ref 432),kD P "unchecked_thing" 726 (.ref 439),kD P "__static_attributes__" 727 (.ref 440),kD P "__doc__" 728 .none] 2),#[]⟩)::(nat_lit 442,⟨(.type "type"),none,(.cls ⟨"RingFamily",[(.ref 204)],[(.ref 442),(.ref 204),(.type "object")],441,"RingFamily",true,[],[(.ref 487),(.ref 532),(.ref 577)],false,none,false⟩),#[(some (.ref 391)),none,(some (.str "RingFamily" 666)),(some (.str "RingFamily" 674)),(some (.builtin "object.__new__")),(some (.bool true))]⟩)::(nat_lit 457,(kC "__init__" "Codes.__init__" 743 175 1 (.ref 452) (.ref 453) .none (.ref 454) (.ref 455) (.ref 456) 747))::(nat_lit 458,(kF "__init__" "Codes.__init__" (inClass (top 24) 0) "countkin.ring" 664 457))::(nat_lit 486,⟨(.type "dict"),none,(.dict #[kD P "__module__" 738 (.str "countkin.ring" 664),kD P "__firstlineno__" 742 (.int 173 741),kD P "__init__" 749 (.ref 458),kD P "size_of" 757 (.ref 465),kD P "is_one" 763 (.ref 470),kD P "code_of" 771 (.ref 477),kD P "of_code" 779 (.ref 484),kD P "__static_attributes__" 780 (.ref 485),kD P "__doc__" 781 .none] 2),#[]⟩)::(nat_lit 487,⟨(.type "type"),none,(.cls ⟨"Codes",[(.ref 442)],[(.ref 487),(.ref 442),(.ref 204),(.type "object")],486,"Codes",true,[],[],false,none,false⟩),#[(some (.ref 445)),none,(some (.str "Codes" 731)),(some (.str "Codes" 739)),(some (.builtin "object.__new__")),(some (.bool true))]⟩)::(nat_lit 502,(kC "__init__" "Cars.__init__" 798 193 1 (.ref 497) (.ref 498) .none (.ref 499) (.ref 500) (.ref 501) 802))::(nat_lit 503,(kF "__init__" "Cars.__init__" (inClass (top 26) 0) "countkin.cars" 784 502))::(nat_lit 531,⟨(.type "dict"),none,(.dict #[kD P "__module__" 793 (.str "countkin.cars" 784),kD P "__firstlineno__" 797 (.int 191 796),kD P "__init__" 804 (.ref 503),kD P "size_of" 812 (.ref 510),kD P "is_one" 818 (.ref 515),kD P "code_of" 826 (.ref 522),kD P "of_code" 834 (.ref 529),kD P "__static_attributes__" 835 (.ref 530),kD P "__doc__" 836 .none] 2),#[]⟩)::(nat_lit 532,⟨(.type "type"),none,(.cls ⟨"Cars",[(.ref 442)],[(.ref 532),(.ref 442),(.ref 204),(.type "object")],531,"Cars",true,[],[],false,none,false⟩),#[(some (.ref 490)),none,(some (.str "Cars" 786)),(some (.str "Cars" 794)),(some (.builtin "object.__new__")),(some (.bool true))]⟩)::(nat_lit 547,(kC "__init__" "Trees.__init__" 853 212 1 (.ref 542) (.ref 543) .none (.ref 544) (.ref 545) (.ref 546) 857))::(nat_lit 548,(kF "__init__" "Trees.__init__" (inClass (top 28) 0) "countkin.elders" 839 547))::(nat_lit 576,⟨(.type "dict"),none,(.dict #[kD P "__module__" 848 (.str "countkin.elders" 839),kD P "__firstlineno__" 852 (.int 210 851),kD P "__init__" 859 (.ref 548),kD P "size_of" 867 (.ref 555),kD P "is_one" 873 (.ref 560),kD P "code_of" 881 (.ref 567),kD P "of_code" 889 (.ref 574),kD P "__static_attributes__" 890 (.ref 575),kD P "__doc__" 891 .none] 2),#[]⟩)::(nat_lit 577,⟨(.type "type"),none,(.cls ⟨"Trees",[(.ref 442)],[(.ref 577),(.ref 442),(.ref 204),(.type "object")],576,"Trees",true,[],[],false,none,false⟩),#[(some (.ref 535)),none,(some (.str "Trees" 841)),(some (.str "Trees" 849)),(some (.builtin "object.__new__")),(some (.bool true))]⟩)::(nat_lit 599,(kC "__init__" "Floors.__init__" 918 238 1 (.ref 594) (.ref 595) .none (.ref 596) (.ref 597) (.ref 598) 922))::(nat_lit 600,(kF "__init__" "Floors.__init__" (inClass (top 31) 0) "countkin.floors" 904 599))::(nat_lit 635,⟨(.type "dict"),none,(.dict #[kD P "__module__" 913 (.str "countkin.floors" 904),kD P "__firstlineno__" 917 (.int 236 916),kD P "__init__" 924 (.ref 600),kD P "size_of" 932 (.ref 607),kD P "is_one" 938 (.ref 612),kD P "bare" 945 (.ref 619),kD P "parted" 953 (.ref 626),kD P "joined" 962 (.ref 633),kD P "__static_attributes__" 963 (.ref 634),kD P "__doc__" 964 .none] 2),#[]⟩)::(nat_lit 636,⟨(.type "type"),none,(.cls ⟨"Floors",[(.ref 281)],[(.ref 636),(.ref 281),(.ref 204),(.type "object")],635,"Floors",true,[],[],false,none,false⟩),#[(some (.ref 587)),none,(some (.str "Floors" 906)),(some (.str "Floors" 914)),(some (.builtin "object.__new__")),(some (.bool true))]⟩)::(nat_lit 663,(kC "__init__" "Turns.__init__" 996 268 1 (.ref 658) (.ref 659) .none (.ref 660) (.ref 661) (.ref 662) 1000))::(nat_lit 664,(kF "__init__" "Turns.__init__" (inClass (top 35) 0) "countkin.rows" 982 663))::(nat_lit 701,⟨(.type "dict"),none,(.dict #[kD P "__module__" 991 (.str "countkin.rows" 982),kD P "__firstlineno__" 995 (.int 266 994),kD P "__init__" 1002 (.ref 664),kD P "size_of" 1010 (.ref 671),kD P "is_one" 1018 (.ref 678),kD P "bare" 1025 (.ref 685),kD P "parted" 1033 (.ref 692),kD P "joined" 1042 (.ref 699),kD P "__static_attributes__" 1043 (.ref 700),kD P "__doc__" 1044 .none] 2),#[]⟩)::(nat_lit 702,⟨(.type "type"),none,(.cls ⟨"Turns",[(.ref 281)],[(.ref 702),(.ref 281),(.ref 204),(.type "object")],701,"Turns",true,[],[],false,none,false⟩),#[(some (.ref 651)),none,(some (.str "Turns" 984)),(some (.str "Turns" 992)),(some (.builtin "object.__new__")),(some (.bool true))]⟩)::(nat_lit 731,(kC "__init__" "Brackets.__init__" 1082 309 1 (.ref 726) (.ref 727) .none (.ref 728) (.ref 729) (.ref 730) 1086))::(nat_lit 732,(kF "__init__" "Brackets.__init__" (inClass (top 40) 0) "countkin.signs" 1068 731))::(nat_lit 769,⟨(.type "dict"),none,(.dict #[kD P "__module__" 1077 (.str "countkin.signs" 1068),kD P "__firstlineno__" 1081 (.int 307 1080),kD P "__init__" 1088 (.ref 732),kD P "size_of" 1096 (.ref 739),kD P "is_one" 1104 (.ref 746),kD P "bare" 1111 (.ref 753),kD P "parted" 1119 (.ref 760),kD P "joined" 1128 (.ref 767),kD P "__static_attributes__" 1129 (.ref 768),kD P "__doc__" 1130 .none] 2),#[]⟩)::(nat_lit 770,⟨(.type "type"),none,(.cls ⟨"Brackets",[(.ref 281)],[(.ref 770),(.ref 281),(.ref 204),(.type "object")],769,"Brackets",true,[],[],false,none,false⟩),#[(some (.ref 719)),none,(some (.str "Brackets" 1070)),(some (.str "Brackets" 1078)),(some (.builtin "object.__new__")),(some (.bool true))]⟩)::(nat_lit 785,(kC "__init__" "Stairs.__init__" 1145 328 1 (.ref 780) (.ref 781) .none (.ref 782) (.ref 783) (.ref 784) 1149))::(nat_lit 786,(kF "__init__" "Stairs.__init__" (inClass (top 41) 0) "countkin.signs" 1068 785))::(nat_lit 823,⟨(.type "dict"),none,(.dict #[kD P "__module__" 1140 (.str "countkin.signs" 1068),kD P "__firstlineno__" 1144 (.int 326 1143),kD P "__init__" 1151 (.ref 786),kD P "size_of" 1159 (.ref 793),kD P "is_one" 1170 (.ref 800),kD P "bare" 1177 (.ref 807),kD P "parted" 1185 (.ref 814),kD P "joined" 1194 (.ref 821),kD P "__static_attributes__" 1195 (.ref 822),kD P "__doc__" 1196 .none] 2),#[]⟩)::(nat_lit 824,⟨(.type "type"),none,(.cls ⟨"Stairs",[(.ref 281)],[(.ref 824),(.ref 281),(.ref 204),(.type "object")],823,"Stairs",true,[],[],false,none,false⟩),#[(some (.ref 773)),none,(some (.str "Stairs" 1133)),(some (.str "Stairs" 1141)),(some (.builtin "object.__new__")),(some (.bool true))]⟩)::(nat_lit 839,(kC "__init__" "Twins.__init__" 1213 353 1 (.ref 834) (.ref 835) .none (.ref 836) (.ref 837) (.ref 838) 1217))::(nat_lit 840,(kF "__init__" "Twins.__init__" (inClass (top 43) 0) "countkin.twigs" 1199 839))::(nat_lit 877,⟨(.type "dict"),none,(.dict #[kD P "__module__" 1208 (.str "countkin.twigs" 1199),kD P "__firstlineno__" 1212 (.int 351 1211),kD P "__init__" 1219 (.ref 840),kD P "size_of" 1230 (.ref 847),kD P "is_one" 1238 (.ref 854),kD P "bare" 1245 (.ref 861),kD P "parted" 1253 (.ref 868),kD P "joined" 1262 (.ref 875),kD P "__static_attributes__" 1263 (.ref 876),kD P "__doc__" 1264 .none] 2),#[]⟩)::(nat_lit 878,⟨(.type "type"),none,(.cls ⟨"Twins",[(.ref 281)],[(.ref 878),(.ref 281),(.ref 204),(.type "object")],877,"Twins",true,[],[],false,none,false⟩),#[(some (.ref 827)),none,(some (.str "Twins" 1201)),(some (.str "Twins" 1209)),(some (.builtin "object.__new__")),(some (.bool true))]⟩)::(nat_lit 886,(kC "split_families" "split_families" 1269 378 0 (.ref 881) (.ref 882) .none (.ref 883) (.ref 884) (.ref 885) 1272))::(nat_lit 887,(kF "split_families" "split_families" (top 45) "countkin.names" 1267 886))::(nat_lit 893,(kC "ring_families" "ring_families" 1275 380 0 (.ref 888) (.ref 889) .none (.ref 890) (.ref 891) (.ref 892) 1278))::(nat_lit 894,(kF "ring_families" "ring_families" (top 46) "countkin.names" 1267 893))::(nat_lit 900,(kC "family_of" "family_of" 1281 382 1 (.ref 895) (.ref 896) .none (.ref 897) (.ref 898) (.ref 899) 1286))::(nat_lit 901,(kF "family_of" "family_of" (top 47) "countkin.names" 1267 900))::(nat_lit 999,(kC "bows_peaks" "bows_peaks" 1397 438 1 (.ref 996) (.ref 997) .none .none .none (.ref 998) 1400))::(nat_lit 1000,(kF "bows_peaks" "bows_peaks" (top 64) "countkin.splitmarks" 1339 999))::(nat_lit 1004,(kC "bows_over" "bows_over" 1403 440 2 (.ref 1001) (.ref 1002) .none .none .none (.ref 1003) 1406))::(nat_lit 1005,(kF "bows_over" "bows_over" (top 65) "countkin.splitmarks" 1339 1004))::(nat_lit 1009,(kC "bows_returns" "bows_returns" 1409 442 1 (.ref 1006) (.ref 1007) .none .none .none (.ref 1008) 1412))::(nat_lit 1010,(kF "bows_returns" "bows_returns" (top 66) "countkin.splitmarks" 1339 1009))::(nat_lit 1016,(kC "rooms_peaks" "rooms_peaks" 1415 444 1 (.ref 1011) (.ref 1012) .none (.ref 1013) (.ref 1014) (.ref 1015) 1419))::(nat_lit 1017,(kF "rooms_peaks" "rooms_peaks" (top 67) "countkin.splitmarks" 1339 1016))::(nat_lit 1021,(kC "rooms_around" "rooms_around" 1422 446 2 (.ref 1018) (.ref 1019) .none .none .none (.ref 1020) 1425))::(nat_lit 1022,(kF "rooms_around" "rooms_around" (top 68) "countkin.splitmarks" 1339 1021))::(nat_lit 1026,(kC "rooms_returns" "rooms_returns" 1428 448 1 (.ref 1023) (.ref 1024) .none .none .none (.ref 1025) 1431))::(nat_lit 1027,(kF "rooms_returns" "rooms_returns" (top 69) "countkin.splitmarks" 1339 1026))::(nat_lit 1075,(kC "bows_height" "bows_height" 1486 472 1 (.ref 1072) (.ref 1073) .none .none .none (.ref 1074) 1489))::(nat_lit 1076,(kF "bows_height" "bows_height" (top 79) "countkin.tallmarks" 1464 1075))::(nat_lit 1087,(kC "all_measures" "all_measures" 1500 481 0 (.ref 1082) (.ref 1083) .none (.ref 1084) (.ref 1085) (.ref 1086) 1503))::(nat_lit 1088,(kF "all_measures" "all_measures" (top 82) "countkin.marks" 1498 1087))::(nat_lit 1094,(kC "marks_of" "marks_of" 1506 483 1 (.ref 1089) (.ref 1090) .none (.ref 1091) (.ref 1092) (.ref 1093) 1511))::(nat_lit 1095,(kF "marks_of" "marks_of" (top 83) "countkin.marks" 1498 1094))::(nat_lit 1101,(kC "mark" "mark" 1514 486 3 (.ref 1096) (.ref 1097) .none (.ref 1098) (.ref 1099) (.ref 1100) 1521))::(nat_lit 1102,(kF "mark" "mark" (top 84) "countkin.marks" 1498 1101))::(nat_lit 1108,(kC "_law_cell_at" "_law_cell_at" 1526 493 2 (.ref 1103) (.ref 1104) .none (.ref 1105) (.ref 1106) (.ref 1107) 1531))::(nat_lit 1109,(kF "_law_cell_at" "_law_cell_at" (top 86) "law_countkin_k49_marks_of_bows_and_rooms" 1524 1108))::(nat_lit 1113,(kC "_law_draws" "_law_draws" 1534 497 3 (.ref 1110) (.ref 1111) .none .none .none (.ref 1112) 1537))::(nat_lit 1114,(kF "_law_draws" "_law_draws" (top 87) "law_countkin_k49_marks_of_bows_and_rooms" 1524 1113))::(nat_lit 1120,(kC "_law_bows" "_law_bows" 1540 514 3 (.ref 1115) (.ref 1116) .none (.ref 1117) (.ref 1118) (.ref 1119) 1552))::(nat_lit 1121,(kF "_law_bows" "_law_bows" (top 88) "law_countkin_k49_marks_of_bows_and_rooms" 1524 1120))::(nat_lit 1127,(kC "_law_rooms" "_law_rooms" 1555 527 3 (.ref 1122) (.ref 1123) .none (.ref 1124) (.ref 1125) (.ref 1126) 1568))::(nat_lit 1128,(kF "_law_rooms" "_law_rooms" (top 89) "law_countkin_k49_marks_of_bows_and_rooms" 1524 1127))::(nat_lit 1134,(kC "_law_told" "_law_told" 1571 542 4 (.ref 1129) (.ref 1130) .none (.ref 1131) (.ref 1132) (.ref 1133) 1581))::(nat_lit 1135,(kF "_law_told" "_law_told" (top 90) "law_countkin_k49_marks_of_bows_and_rooms" 1524 1134))::(nat_lit 1139,(kC "_law_of_bows" "_law_of_bows" 1584 549 1 (.ref 1136) (.ref 1137) .none .none .none (.ref 1138) 1587))::(nat_lit 1140,(kF "_law_of_bows" "_law_of_bows" (top 91) "law_countkin_k49_marks_of_bows_and_rooms" 1524 1139))::(nat_lit 1144,(kC "_law_of_rooms" "_law_of_rooms" 1590 559 1 (.ref 1141) (.ref 1142) .none .none .none (.ref 1143) 1593))::(nat_lit 1145,(kF "_law_of_rooms" "_law_of_rooms" (top 92) "law_countkin_k49_marks_of_bows_and_rooms" 1524 1144))::(nat_lit 1149,(kC "law" "law" 1596 565 1 (.ref 1146) (.ref 1147) .none .none .none (.ref 1148) 1599))::(nat_lit 1150,(kF "law" "law" (top 93) "law_countkin_k49_marks_of_bows_and_rooms" 1524 1149))::[]
noncomputable def hA:List Addr:=(2::3::30::31::32::43::44::55::56::67::68::79::80::88::89::95::96::102::103::130::131::179::180::203::204::205::206::221::222::280::281::296::297::308::309::332::333::348::349::358::359::382::383::389::390::403::404::441::442::457::458::486::487::502::503::531::532::547::548::576::577::599::600::635::636::663::664::701::702::731::732::769::770::785::786::823::824::839::840::877::878::886::887::893::894::900::901::999::1000::1004::1005::1009::1010::1016::1017::1021::1022::1026::1027::1075::1076::1087::1088::1094::1095::1101::1102::1108::1109::1113::1114::1120::1121::1127::1128::1134::1135::1139::1140::1144::1145::1149::1150::[])
noncomputable def hM:List Bool:=(false::false::true::true::false::false::false::false::false::false::false::false::false::false::false::false::false::false::false::false::false::false::false::false::false::false::false::false::false::false::true::true::true::false::false::false::false::false::false::false::false::false::false::true::true::false::false::false::false::false::false::false::false::false::false::true::true::false::false::false::false::false::false::false::false::false::false::true::true::false::false::false::false::false::false::false::false::false::false::true::true::false::false::false::false::false::false::false::true::true::false::false::false::false::false::true::true::false::false::false::false::false::true::true::false::false::false::false::false::false::false::false::false::false::false::false::false::false::false::false::false::false::false::false::false::false::false::false::false::false::true::true::false::false::false::false::false::false::false::false::false::false::false::false::false::false::false::false::false::false::false::false::false::false::false::false::false::false::false::false::false::false::false::false::false::false::false::false::false::false::false::false::false::false::false::false::false::false::false::true::true::false::false::false::false::false::false::false::false::false::false::false::false::false::false::false::false::false::false::false::false::false::false::true::true::true::true::false::false::false::false::false::false::false::false::false::false::false::false::false::false::true::true::false::false::false::false::false::false::false::false::false::false::false::false::false::false::false::false::false::false::false::false::false::false::false::false::false::false::false::false::false::false::false::false::false::false::false::false::false::false::false::false::false::false::false::false::false::false::false::false::false::false::false::false::false::false::false::false::false::true::true::false::false::false::false::false::false::false::false::false::false::false::false::false::false::true::true::false::false::false::false::false::false::false::false::false::false::true::true::false::false::false::false::false::false::false::false::false::false::false::false::false::false::false::false::false::false::false::false::false::false::true::true::false::false::false::false::false::false::false::false::false::false::false::false::false::false::true::true::false::false::false::false::false::false::false::false::true::true::false::false::false::false::false::false::false::false::false::false::false::false::false::false::false::false::false::false::false::false::false::false::true::true::false::false::false::false::false::true::true::false::false::false::false::false::false::false::false::false::false::false::false::true::true::false::false::false::false::false::false::false::false::false::false::false::false::false::false::false::false::false::false::false::false::false::false::false::false::false::false::false::false::false::false::false::false::false::false::false::false::true::true::false::false::false::false::false::false::false::false::false::false::false::false::false::false::true::true::false::false::false::false::false::false::false::false::false::false::false::false::false::false::false::false::false::false::false::false::false::false::false::false::false::false::false::true::true::false::false::false::false::false::false::false::false::false::false::false::false::false::false::true::true::false::false::false::false::false::false::false::false::false::false::false::false::false::false::false::false::false::false::false::false::false::false::false::false::false::false::false::true::true::false::false::false::false::false::false::false::false::false::false::false::false::false::false::true::true::false::false::false::false::false::false::false::false::false::false::false::false::false::false::false::false::false::false::false::false::false::false::false::false::false::false::false::true::true::false::false::false::false::false::false::false::false::false::false::false::false::false::false::false::false::false::false::false::false::false::true::true::false::false::false::false::false::false::false::false::false::false::false::false::false::false::false::false::false::false::false::false::false::false::false::false::false::false::false::false::false::false::false::false::false::false::true::true::false::false::false::false::false::false::false::false::false::false::false::false::false::false::false::false::false::false::false::false::false::false::false::false::false::false::true::true::false::false::false::false::false::false::false::false::false::false::false::false::false::false::false::false::false::false::false::false::false::false::false::false::false::false::false::false::false::false::false::false::false::false::false::false::true::true::false::false::false::false::false::false::false::false::false::false::false::false::false::false::false::false::false::false::false::false::false::false::false::false::false::false::false::false::true::true::false::false::false::false::false::false::false::false::false::false::false::false::false::false::false::false::false::false::false::false::false::false::false::false::false::false::false::false::false::false::false::false::false::false::false::false::true::true::false::false::false::false::false::false::false::false::false::false::false::false::false::false::true::true::false::false::false::false::false::false::false::false::false::false::false::false::false::false::false::false::false::false::false::false::false::false::false::false::false::false::false::false::false::false::false::false::false::false::false::false::true::true::false::false::false::false::false::false::false::false::false::false::false::false::false::false::true::true::false::false::false::false::false::false::false::false::false::false::false::false::false::false::false::false::false::false::false::false::false::false::false::false::false::false::false::false::false::false::false::false::false::false::false::false::true::true::false::false::false::false::false::false::false::true::true::false::false::false::false::false::true::true::false::false::false::false::false::true::true::false::false::false::false::false::false::false::false::false::false::false::false::false::false::false::false::false::false::false::false::false::false::false::false::false::false::false::false::false::false::false::false::false::false::false::false::false::false::false::false::false::false::false::false::false::false::false::false::false::false::false::false::false::false::false::false::false::false::false::false::false::false::false::false::false::false::false::false::false::false::false::false::false::false::false::false::false::false::false::false::false::false::false::false::false::false::false::false::false::false::false::false::false::false::false::false::false::true::true::false::false::false::true::true::false::false::false::true::true::false::false::false::false::false::true::true::false::false::false::true::true::false::false::false::true::true::false::false::false::false::false::false::false::false::false::false::false::false::false::false::false::false::false::false::false::false::false::false::false::false::false::false::false::false::false::false::false::false::false::false::false::false::false::false::false::false::false::false::false::false::false::false::false::true::true::false::false::false::false::false::false::false::false::false::false::true::true::false::false::false::false::false::true::true::false::false::false::false::false::true::true::false::false::false::false::false::true::true::false::false::false::true::true::false::false::false::false::false::true::true::false::false::false::false::false::true::true::false::false::false::false::false::true::true::false::false::false::true::true::false::false::false::true::true::false::false::false::true::true::[])
theorem hAM:hA=nr hM 0:=by kernel_rfl
noncomputable abbrev hX:Shared->Bool:=(fun s=>xlAt hQ [] s&&recOk (RowW.records (OpenRow.toRowW (OpenLaw.row PySem.Challenge.rw_countkin_k49_marks_of_bows_and_rooms))) s)
theorem hKA:∀ P:Params,hA=(hK P).map (·.1):=fun _=>by kernel_rfl
noncomputable abbrev hH:Hook:=kHook hK hA hKA
noncomputable def hLook (P:Params) (s:Shared):=((staticsOk (importedModules PySem.Challenge.pw_countkin_k49_marks_of_bows_and_rooms.main.body) (boot_heap P) s.heap&&namesBound PySem.Challenge.pw_countkin_k49_marks_of_bows_and_rooms s.heap&&gensDone s&&laidKept (boot_heap P) s.heap),openSeen hQ hL (importedModules PySem.Challenge.pw_countkin_k49_marks_of_bows_and_rooms.main.body) hX true s,g7 s.heap.objs.toList hM)
noncomputable def hPreF (w:World) (os:OsState):=topGo treeTable PySem.Challenge.pw_countkin_k49_marks_of_bows_and_rooms w 11 (some (.ref 6)) 12 ⟨boot_heap w.params,Array.mk [],boot_drawn,boot_toks,os⟩ (topStub PySem.Challenge.pw_countkin_k49_marks_of_bows_and_rooms)
noncomputable def hPreG (w:World) (os:OsState):Option (Shared × Thread):=some ((hS w os).abs,⟨denote treeTable hC,hC,⟨0,0,0,0⟩,[topFrame ⟨0,0,0,0⟩]⟩)
noncomputable def hBlkF (w:World) (os:OsState):=segRun treeTable PySem.Challenge.pw_countkin_k49_marks_of_bows_and_rooms w 11 (some (.ref 6)) 1 1 (hS w os).abs (blockOf hB hE hC ⟨0,0,0,0⟩ [topFrame ⟨0,0,0,0⟩])
noncomputable def hBlkG (w:World) (os:OsState):Option (Flow × Shared × Code × Pos):=some (.next,(hS w os).abs,hC,⟨0,0,0,0⟩)
noncomputable def hTree2 (P:Params):BT:=(.node (boot_o_0 P) (.node (boot_o_1 P) (.node ⟨(.type "dict"),none,(.dict #[⟨PyData.keyHash P "__name__",.str "__name__" 165,(.str "countkin.kin" 329)⟩,⟨PyData.keyHash P "__doc__",.str "__doc__" 166,.none⟩,⟨PyData.keyHash P "__package__",.str "__package__" 167,.none⟩,⟨PyData.keyHash P "__loader__",.str "__loader__" 168,(.builtin "__main__.__loader__#opaque")⟩,⟨PyData.keyHash P "__spec__",.str "__spec__" 169,.none⟩,⟨PyData.keyHash P "__annotations__",.str "__annotations__" 170,(.ref 6)⟩,⟨PyData.keyHash P "__builtins__",.str "__builtins__" 171,(.ref 4)⟩,⟨PyData.keyHash P "__file__",.str "__file__" 173,(.str "/claim/cut.py" 172)⟩,⟨PyData.keyHash P "__cached__",.str "__cached__" 174,.none⟩,⟨PyData.keyHash P "_wall",.str "_wall" 193,(.ref 21)⟩,⟨PyData.keyHash P "KinError",.str "KinError" 213,(.ref 31)⟩,⟨PyData.keyHash P "NoSize",.str "NoSize" 229,(.ref 44)⟩,⟨PyData.keyHash P "NoThing",.str "NoThing" 245,(.ref 56)⟩,⟨PyData.keyHash P "NoFamily",.str "NoFamily" 261,(.ref 68)⟩,⟨PyData.keyHash P "NoMark",.str "NoMark" 277,(.ref 80)⟩,⟨PyData.keyHash P "flat",.str "flat" 288,(.ref 89)⟩,⟨PyData.keyHash P "each_once",.str "each_once" 295,(.ref 96)⟩,⟨PyData.keyHash P "any_cross",.str "any_cross" 306,(.ref 103)⟩,⟨PyData.keyHash P "GREATEST_SIZE",.str "GREATEST_SIZE" 310,(.int 40 309)⟩,⟨PyData.keyHash P "by_rule",.str "by_rule" 319,(.ref 110)⟩,⟨PyData.keyHash P "ring_many",.str "ring_many" 328,(.ref 117)⟩,⟨PyData.keyHash P "Family",.str "Family" 443,(.ref 204)⟩] 22),#[]⟩ (.node (boot_o_7 P) (.node ⟨(.type "tuple"),none,(.seq #[] 0),#[]⟩ (.node ⟨(.type "type"),none,(.cls ⟨"KinError",[(.type "ValueError")],[(.ref 31),(.type "ValueError"),(.type "Exception"),(.type "BaseException"),(.type "object")],30,"KinError",true,[],[(.ref 44),(.ref 56),(.ref 68),(.ref 80)],false,none,false⟩),#[(some (.ref 22)),none,(some (.str "KinError" 196)),(some (.str "KinError" 204)),(some (.builtin "ValueError.__new__")),(some (.bool true))]⟩ (.node ⟨.none,none,(.fields #[]),#[]⟩ (.node ⟨(.type "tuple"),none,(.seq #[(.str "self" 346),(.str "word" 347),(.str "least" 348)] 0),#[]⟩ .nil .nil) (.node ⟨(.type "tuple"),none,(.seq #[] 0),#[]⟩ .nil .nil)) (.node ⟨(.type "code"),none,(.fields #[(.str "each_once" 289),(.str "each_once" 290),(.str "/claim/cut.py" 291),(.int 21 0),(.int 1 0),(.int 0 0),(.int 0 0),(.int 3 0),(.ref 90),(.bool true),(.int 181 0),(.ref 91),.none,(.ref 92),(.ref 93),(.ref 94),(.int 293 0),(.int 21 0),(.str "/claim/cut.py" 294)]),#[]⟩ (.node ⟨(.type "function"),none,(.func (fnOf "unchecked_number" "Family.unchecked_number" (aj (inClass (top 16) 4)) (ah (inClass (top 16) 4)) (ab (inClass (top 16) 4)) .none .none .none (.str "countkin.kin" 329) none (.ref 158) .none)),#[]⟩ .nil .nil) .nil)) (.node ⟨(.type "tuple"),none,(.seq #[(.ref 31)] 0),#[]⟩ (.node ⟨(.type "dict"),none,(.dict #[⟨PyData.keyHash P "__module__",.str "__module__" 269,(.str "countkin.errors" 194)⟩,⟨PyData.keyHash P "__firstlineno__",.str "__firstlineno__" 273,(.int 13 272)⟩,⟨PyData.keyHash P "__static_attributes__",.str "__static_attributes__" 274,(.ref 78)⟩,⟨PyData.keyHash P "__doc__",.str "__doc__" 275,.none⟩] 2),#[]⟩ (.node ⟨.none,none,(.func { (fnOf "is_one" "Family.is_one" (aj (inClass (top 16) 2)) (ah (inClass (top 16) 2)) (ab (inClass (top 16) 2)) .none .none .none .none none .none .none) with globals:=0 }),#[]⟩ .nil .nil) (.node ⟨(.type "super"),none,(.fields #[(.ref 204),(.ref 204),(.ref 204)]),#[]⟩ .nil .nil)) (.node ⟨(.type "tuple"),none,(.seq #[] 0),#[]⟩ (.node ⟨.none,none,(.fields #[]),#[]⟩ .nil .nil) .nil))) (.node ⟨(.type "builtin_function_or_method"),none,(.fields #[(.builtin "type.__prepare__"),(.type "type")]),#[]⟩ (.node ⟨.none,none,(.fields #[]),#[]⟩ (.node ⟨(.type "tuple"),none,(.seq #[(.ref 31)] 0),#[]⟩ (.node ⟨(.type "tuple"),none,(.seq #[] 0),#[]⟩ .nil .nil) (.node ⟨.none,none,(.func { (fnOf "next_of" "Family.next_of" (aj (inClass (top 16) 10)) (ah (inClass (top 16) 10)) (ab (inClass (top 16) 10)) .none .none .none .none none .none .none) with globals:=0 }),#[]⟩ .nil .nil)) (.node ⟨(.type "function"),none,(.func (fnOf "any_cross" "any_cross" (aj (top 10)) (ah (top 10)) (ab (top 10)) .none .none .none (.str "countkin.common" 278) none (.ref 102) .none)),#[]⟩ (.node ⟨(.type "tuple"),none,(.seq #[] 0),#[]⟩ .nil .nil) .nil)) (.node ⟨(.type "dict"),none,(.dict #[⟨PyData.keyHash P "__module__",.str "__module__" 237,(.str "countkin.errors" 194)⟩,⟨PyData.keyHash P "__firstlineno__",.str "__firstlineno__" 241,(.int 9 240)⟩,⟨PyData.keyHash P "__static_attributes__",.str "__static_attributes__" 242,(.ref 54)⟩,⟨PyData.keyHash P "__doc__",.str "__doc__" 243,.none⟩] 2),#[]⟩ (.node ⟨.none,none,(.func { (fnOf "flat" "flat" (aj (top 8)) (ah (top 8)) (ab (top 8)) .none .none .none .none none .none .none) with globals:=0 }),#[]⟩ (.node ⟨(.type "code"),none,(.fields #[(.str "unchecked_many" 368),(.str "Family.unchecked_many" 369),(.str "/claim/cut.py" 370),(.int 54 0),(.int 2 0),(.int 0 0),(.int 0 0),(.int 3 0),(.ref 146),(.bool true),(.int 181 0),(.ref 147),.none,(.ref 148),(.ref 149),(.ref 150),(.int 373 0),(.int 54 0),(.str "/claim/cut.py" 374)]),#[]⟩ .nil .nil) .nil) (.node ⟨(.type "builtin_function_or_method"),none,(.fields #[(.builtin "type.__prepare__"),(.type "type")]),#[]⟩ (.node ⟨(.type "tuple"),none,(.seq #[(.str "self" 412),(.str "thing" 413)] 0),#[]⟩ .nil .nil) .nil)))) (.node ⟨(.type "tuple"),none,(.seq #[] 0),#[]⟩ (.node ⟨.none,none,(.func { (fnOf "_wall" "_wall" (aj (top 0)) (ah (top 0)) (ab (top 0)) .none .none .none .none none .none .none) with globals:=0 }),#[]⟩ (.node ⟨(.type "tuple"),none,(.seq #[(.ref 31)] 0),#[]⟩ (.node ⟨(.type "dict"),none,(.dict #[⟨PyData.keyHash P "__module__",.str "__module__" 253,(.str "countkin.errors" 194)⟩,⟨PyData.keyHash P "__firstlineno__",.str "__firstlineno__" 257,(.int 11 256)⟩,⟨PyData.keyHash P "__static_attributes__",.str "__static_attributes__" 258,(.ref 66)⟩,⟨PyData.keyHash P "__doc__",.str "__doc__" 259,.none⟩] 2),#[]⟩ (.node ⟨(.type "function"),none,(.func (fnOf "__init__" "Family.__init__" (aj (inClass (top 16) 0)) (ah (inClass (top 16) 0)) (ab (inClass (top 16) 0)) .none .none .none (.str "countkin.kin" 329) none (.ref 130) .none)),#[]⟩ .nil .nil) (.node ⟨(.type "tuple"),none,(.seq #[] 0),#[]⟩ .nil .nil)) (.node ⟨(.type "tuple"),none,(.seq #[(.str "pairs" 299),(.str "a" 300),(.str "b" 301),(.str "c" 302),(.str "d" 303)] 0),#[]⟩ (.node ⟨(.type "tuple"),none,(.seq #[] 0),#[]⟩ .nil .nil) .nil)) (.node ⟨.none,none,(.fields #[]),#[]⟩ (.node ⟨(.type "tuple"),none,(.seq #[] 0),#[]⟩ (.node ⟨.none,none,(.fields #[]),#[]⟩ .nil .nil) .nil) (.node ⟨.none,none,(.func { (fnOf "ring_many" "ring_many" (aj (top 14)) (ah (top 14)) (ab (top 14)) .none .none .none .none none .none .none) with globals:=0 }),#[]⟩ (.node ⟨(.type "code"),none,(.fields #[(.str "refuse_other" 401),(.str "Family.refuse_other" 402),(.str "/claim/cut.py" 403),(.int 68 0),(.int 2 0),(.int 0 0),(.int 0 0),(.int 3 0),(.ref 174),(.bool true),(.int 181 0),(.ref 175),.none,(.ref 176),(.ref 177),(.ref 178),(.int 406 0),(.int 68 0),(.str "/claim/cut.py" 407)]),#[]⟩ .nil .nil) .nil))) (.node ⟨(.type "code"),none,(.fields #[(.str "KinError" 198),(.str "KinError" 199),(.str "/claim/cut.py" 200),(.int 5 0),(.int 0 0),(.int 0 0),(.int 0 0),(.int 0 0),(.ref 25),(.bool false),(.int 181 0),(.ref 26),.none,.none,.none,.none,(.int 201 0),(.int 5 0),(.str "/claim/cut.py" 202)]),#[]⟩ (.node ⟨(.type "dict"),none,(.dict #[⟨PyData.keyHash P "__module__",.str "__module__" 221,(.str "countkin.errors" 194)⟩,⟨PyData.keyHash P "__firstlineno__",.str "__firstlineno__" 225,(.int 7 224)⟩,⟨PyData.keyHash P "__static_attributes__",.str "__static_attributes__" 226,(.ref 42)⟩,⟨PyData.keyHash P "__doc__",.str "__doc__" 227,.none⟩] 2),#[]⟩ (.node ⟨.none,none,(.fields #[]),#[]⟩ (.node ⟨(.type "tuple"),none,(.seq #[] 0),#[]⟩ .nil .nil) (.node ⟨(.type "dict"),none,(.dict #[⟨PyData.keyHash P "__module__",.str "__module__" 338,(.str "countkin.kin" 329)⟩,⟨PyData.keyHash P "__firstlineno__",.str "__firstlineno__" 342,(.int 42 341)⟩,⟨PyData.keyHash P "__init__",.str "__init__" 351,(.ref 131)⟩,⟨PyData.keyHash P "size_of",.str "size_of" 359,(.ref 138)⟩,⟨PyData.keyHash P "is_one",.str "is_one" 367,(.ref 145)⟩,⟨PyData.keyHash P "unchecked_many",.str "unchecked_many" 375,(.ref 152)⟩,⟨PyData.keyHash P "unchecked_number",.str "unchecked_number" 383,(.ref 159)⟩,⟨PyData.keyHash P "unchecked_thing",.str "unchecked_thing" 392,(.ref 166)⟩,⟨PyData.keyHash P "many",.str "many" 400,(.ref 173)⟩,⟨PyData.keyHash P "refuse_other",.str "refuse_other" 408,(.ref 180)⟩,⟨PyData.keyHash P "number_of",.str "number_of" 416,(.ref 187)⟩,⟨PyData.keyHash P "thing_of",.str "thing_of" 425,(.ref 194)⟩,⟨PyData.keyHash P "next_of",.str "next_of" 433,(.ref 201)⟩,⟨PyData.keyHash P "__static_attributes__",.str "__static_attributes__" 436,(.ref 202)⟩,⟨PyData.keyHash P "__dict__",.str "__dict__" 438,(.ref 205)⟩,⟨PyData.keyHash P "__weakref__",.str "__weakref__" 440,(.ref 206)⟩,⟨PyData.keyHash P "__doc__",.str "__doc__" 441,.none⟩] 4),#[]⟩ .nil .nil)) (.node ⟨(.type "tuple"),none,(.seq #[] 0),#[]⟩ (.node ⟨.none,none,(.func { (fnOf "many" "Family.many" (aj (inClass (top 16) 6)) (ah (inClass (top 16) 6)) (ab (inClass (top 16) 6)) .none .none .none .none none .none .none) with globals:=0 }),#[]⟩ .nil .nil) .nil)) (.node ⟨(.type "tuple"),none,(.seq #[(.ref 31)] 0),#[]⟩ (.node ⟨.none,none,(.fields #[]),#[]⟩ (.node ⟨(.type "tuple"),none,(.seq #[(.str "self" 379),(.str "thing" 380)] 0),#[]⟩ .nil .nil) .nil) (.node ⟨(.type "code"),none,(.fields #[(.str "Family" 333),(.str "Family" 334),(.str "/claim/cut.py" 335),(.int 42 0),(.int 0 0),(.int 0 0),(.int 0 0),(.int 0 0),(.ref 121),(.bool false),(.int 181 0),(.ref 122),.none,.none,.none,.none,(.int 336 0),(.int 42 0),(.str "/claim/cut.py" 337)]),#[]⟩ (.node ⟨(.type "function"),none,(.func (fnOf "number_of" "Family.number_of" (aj (inClass (top 16) 8)) (ah (inClass (top 16) 8)) (ab (inClass (top 16) 8)) .none .none .none (.str "countkin.kin" 329) none (.ref 186) .none)),#[]⟩ .nil .nil) .nil))))) (.node (boot_o_5 P) (.node (boot_o_9 P) (.node ⟨(.type "tuple"),none,(.seq #[(.str "k" 190)] 0),#[]⟩ (.node ⟨(.type "super"),none,(.fields #[(.ref 31),(.ref 31),(.ref 31)]),#[]⟩ (.node ⟨(.type "frame"),none,.plain,#[(some (.ref 64)),(some (.ref 3)),(some (.ref 61)),none,(some (.str "countkin.errors" 194)),none,(some (.ref 0))]⟩ (.node ⟨.none,none,(.func { (fnOf "__init__" "Family.__init__" (aj (inClass (top 16) 0)) (ah (inClass (top 16) 0)) (ab (inClass (top 16) 0)) .none .none .none .none none .none .none) with globals:=0 }),#[]⟩ .nil .nil) (.node ⟨(.type "code"),none,(.fields #[(.str "thing_of" 417),(.str "Family.thing_of" 418),(.str "/claim/cut.py" 419),(.int 75 0),(.int 3 0),(.int 0 0),(.int 0 0),(.int 3 0),(.ref 188),(.bool true),(.int 181 0),(.ref 189),.none,(.ref 190),(.ref 191),(.ref 192),(.int 423 0),(.int 75 0),(.str "/claim/cut.py" 424)]),#[]⟩ .nil .nil)) (.node ⟨(.type "tuple"),none,(.seq #[] 0),#[]⟩ (.node ⟨.none,none,(.fields #[]),#[]⟩ .nil .nil) .nil)) (.node ⟨(.type "dict"),none,(.dict #[⟨PyData.keyHash P "__module__",.str "__module__" 237,(.str "countkin.errors" 194)⟩,⟨PyData.keyHash P "__qualname__",.str "__qualname__" 239,(.str "NoThing" 238)⟩,⟨PyData.keyHash P "__firstlineno__",.str "__firstlineno__" 241,(.int 9 240)⟩,⟨PyData.keyHash P "__static_attributes__",.str "__static_attributes__" 242,(.ref 54)⟩] 4),#[]⟩ (.node ⟨(.type "super"),none,(.fields #[(.ref 80),(.ref 80),(.ref 80)]),#[]⟩ (.node ⟨(.type "function"),none,(.func (fnOf "is_one" "Family.is_one" (aj (inClass (top 16) 2)) (ah (inClass (top 16) 2)) (ab (inClass (top 16) 2)) .none .none .none (.str "countkin.kin" 329) none (.ref 144) .none)),#[]⟩ .nil .nil) .nil) (.node ⟨(.type "tuple"),none,(.seq #[(.str "size" 323),(.str "product" 324),(.str "factor" 325)] 0),#[]⟩ (.node ⟨(.type "tuple"),none,(.seq #[] 0),#[]⟩ .nil .nil) .nil))) (.node ⟨(.type "tuple"),none,(.seq #[] 0),#[]⟩ (.node ⟨(.type "frame"),none,.plain,#[(some (.ref 40)),(some (.ref 3)),(some (.ref 37)),none,(some (.str "countkin.errors" 194)),none,(some (.ref 0))]⟩ (.node ⟨(.type "dict"),none,(.dict #[⟨PyData.keyHash P "__module__",.str "__module__" 269,(.str "countkin.errors" 194)⟩,⟨PyData.keyHash P "__qualname__",.str "__qualname__" 271,(.str "NoMark" 270)⟩,⟨PyData.keyHash P "__firstlineno__",.str "__firstlineno__" 273,(.int 13 272)⟩,⟨PyData.keyHash P "__static_attributes__",.str "__static_attributes__" 274,(.ref 78)⟩] 4),#[]⟩ (.node ⟨(.type "code"),none,(.fields #[(.str "size_of" 352),(.str "Family.size_of" 353),(.str "/claim/cut.py" 354),(.int 48 0),(.int 2 0),(.int 0 0),(.int 0 0),(.int 3 0),(.ref 132),(.bool true),(.int 181 0),(.ref 133),.none,(.ref 134),(.ref 135),(.ref 136),(.int 357 0),(.int 48 0),(.str "/claim/cut.py" 358)]),#[]⟩ .nil .nil) (.node ⟨(.type "function"),none,(.func (fnOf "next_of" "Family.next_of" (aj (inClass (top 16) 10)) (ah (inClass (top 16) 10)) (ab (inClass (top 16) 10)) .none .none .none (.str "countkin.kin" 329) none (.ref 200) .none)),#[]⟩ .nil .nil)) (.node ⟨.none,none,(.fields #[]),#[]⟩ (.node ⟨(.type "tuple"),none,(.seq #[(.str "self" 396),(.str "size" 397)] 0),#[]⟩ .nil .nil) .nil)) (.node ⟨(.type "super"),none,(.fields #[(.ref 56),(.ref 56),(.ref 56)]),#[]⟩ (.node ⟨(.type "function"),none,(.func (fnOf "flat" "flat" (aj (top 8)) (ah (top 8)) (ab (top 8)) .none .none .none (.str "countkin.common" 278) none (.ref 88) .none)),#[]⟩ (.node ⟨(.type "tuple"),none,(.seq #[] 0),#[]⟩ .nil .nil) .nil) (.node ⟨(.type "tuple"),none,(.seq #[] 0),#[]⟩ (.node ⟨.none,none,(.func { (fnOf "number_of" "Family.number_of" (aj (inClass (top 16) 8)) (ah (inClass (top 16) 8)) (ab (inClass (top 16) 8)) .none .none .none .none none .none .none) with globals:=0 }),#[]⟩ .nil .nil) .nil)))) (.node ⟨(.type "code"),none,(.fields #[(.str "<module>" 182),(.str "<module>" 183),(.str "/claim/cut.py" 184),(.int 1 0),(.int 0 0),(.int 0 0),(.int 0 0),(.int 0 0),(.ref 11),(.bool false),(.int 181 0),(.ref 12),.none,.none,.none,.none,(.int 185 0),(.int 1 0),(.str "/claim/cut.py" 186)]),#[]⟩ (.node ⟨(.type "function"),none,(.func (fnOf "_wall" "_wall" (aj (top 0)) (ah (top 0)) (ab (top 0)) .none .none .none (.str "__main__" 164) none (.ref 20) .none)),#[]⟩ (.node ⟨(.type "dict"),none,(.dict #[⟨PyData.keyHash P "__module__",.str "__module__" 221,(.str "countkin.errors" 194)⟩,⟨PyData.keyHash P "__qualname__",.str "__qualname__" 223,(.str "NoSize" 222)⟩,⟨PyData.keyHash P "__firstlineno__",.str "__firstlineno__" 225,(.int 7 224)⟩,⟨PyData.keyHash P "__static_attributes__",.str "__static_attributes__" 226,(.ref 42)⟩] 4),#[]⟩ (.node ⟨(.type "super"),none,(.fields #[(.ref 68),(.ref 68),(.ref 68)]),#[]⟩ (.node ⟨.none,none,(.fields #[]),#[]⟩ .nil .nil) (.node ⟨(.type "tuple"),none,(.seq #[(.str "self" 429),(.str "thing" 430)] 0),#[]⟩ .nil .nil)) (.node ⟨.none,none,(.func { (fnOf "any_cross" "any_cross" (aj (top 10)) (ah (top 10)) (ab (top 10)) .none .none .none .none none .none .none) with globals:=0 }),#[]⟩ (.node ⟨(.type "code"),none,(.fields #[(.str "unchecked_thing" 384),(.str "Family.unchecked_thing" 385),(.str "/claim/cut.py" 386),(.int 60 0),(.int 3 0),(.int 0 0),(.int 0 0),(.int 3 0),(.ref 160),(.bool true),(.int 181 0),(.ref 161),.none,(.ref 162),(.ref 163),(.ref 164),(.int 390 0),(.int 60 0),(.str "/claim/cut.py" 391)]),#[]⟩ .nil .nil) .nil)) (.node ⟨(.type "frame"),none,.plain,#[(some (.ref 52)),(some (.ref 3)),(some (.ref 49)),none,(some (.str "countkin.errors" 194)),none,(some (.ref 0))]⟩ (.node ⟨(.type "tuple"),none,(.seq #[(.str "rows" 283),(.str "found" 284),(.str "row" 285)] 0),#[]⟩ (.node ⟨(.type "tuple"),none,(.seq #[] 0),#[]⟩ .nil .nil) .nil) (.node ⟨(.type "function"),none,(.func (fnOf "ring_many" "ring_many" (aj (top 14)) (ah (top 14)) (ab (top 14)) .none .none .none (.str "countkin.counts" 307) none (.ref 116) .none)),#[]⟩ (.node ⟨(.type "tuple"),none,(.seq #[] 0),#[]⟩ .nil .nil) .nil))) (.node ⟨(.type "tuple"),none,(.seq #[] 0),#[]⟩ (.node ⟨(.type "super"),none,(.fields #[(.ref 44),(.ref 44),(.ref 44)]),#[]⟩ (.node ⟨(.type "frame"),none,.plain,#[(some (.ref 76)),(some (.ref 3)),(some (.ref 73)),none,(some (.str "countkin.errors" 194)),none,(some (.ref 0))]⟩ (.node ⟨(.type "tuple"),none,(.seq #[(.str "self" 363),(.str "thing" 364)] 0),#[]⟩ .nil .nil) (.node ⟨(.type "getset_descriptor"),none,(.fields #[(.str "__dict__" 437),(.ref 204),(.builtin "function.__dict__"),(.builtin "function.__dict__#set")]),#[]⟩ .nil .nil)) (.node ⟨(.type "code"),none,(.fields #[(.str "by_rule" 311),(.str "by_rule" 312),(.str "/claim/cut.py" 313),(.int 31 0),(.int 1 0),(.int 0 0),(.int 0 0),(.int 3 0),(.ref 104),(.bool true),(.int 181 0),(.ref 105),.none,(.ref 106),(.ref 107),(.ref 108),(.int 317 0),(.int 31 0),(.str "/claim/cut.py" 318)]),#[]⟩ (.node ⟨(.type "function"),none,(.func (fnOf "many" "Family.many" (aj (inClass (top 16) 6)) (ah (inClass (top 16) 6)) (ab (inClass (top 16) 6)) .none .none .none (.str "countkin.kin" 329) none (.ref 172) .none)),#[]⟩ .nil .nil) .nil)) (.node ⟨(.type "dict"),none,(.dict #[⟨PyData.keyHash P "__module__",.str "__module__" 253,(.str "countkin.errors" 194)⟩,⟨PyData.keyHash P "__qualname__",.str "__qualname__" 255,(.str "NoFamily" 254)⟩,⟨PyData.keyHash P "__firstlineno__",.str "__firstlineno__" 257,(.int 11 256)⟩,⟨PyData.keyHash P "__static_attributes__",.str "__static_attributes__" 258,(.ref 66)⟩] 4),#[]⟩ (.node ⟨(.type "tuple"),none,(.seq #[] 0),#[]⟩ (.node ⟨.none,none,(.func { (fnOf "unchecked_number" "Family.unchecked_number" (aj (inClass (top 16) 4)) (ah (inClass (top 16) 4)) (ab (inClass (top 16) 4)) .none .none .none .none none .none .none) with globals:=0 }),#[]⟩ .nil .nil) .nil) (.node ⟨(.type "tuple"),none,(.seq #[] 0),#[]⟩ (.node ⟨.none,none,(.fields #[]),#[]⟩ .nil .nil) .nil)))))) (.node (boot_o_2 P) (.node (boot_o_4 P) (.node (boot_o_8 P) (.node ⟨.none,none,(.fields #[]),#[]⟩ (.node ⟨(.type "getset_descriptor"),none,(.fields #[(.str "__weakref__" 209),(.ref 31),(.builtin "ExceptionGroup.__weakref__"),.none]),#[]⟩ (.node ⟨(.type "code"),none,(.fields #[(.str "NoFamily" 248),(.str "NoFamily" 249),(.str "/claim/cut.py" 250),(.int 11 0),(.int 0 0),(.int 0 0),(.int 0 0),(.int 0 0),(.ref 62),(.bool false),(.int 181 0),(.ref 63),.none,.none,.none,.none,(.int 251 0),(.int 11 0),(.str "/claim/cut.py" 252)]),#[]⟩ (.node ⟨(.type "tuple"),none,(.seq #[] 0),#[]⟩ .nil .nil) (.node ⟨.none,none,(.func { (fnOf "thing_of" "Family.thing_of" (aj (inClass (top 16) 9)) (ah (inClass (top 16) 9)) (ab (inClass (top 16) 9)) .none .none .none .none none .none .none) with globals:=0 }),#[]⟩ .nil .nil)) (.node ⟨(.type "function"),none,(.func (fnOf "each_once" "each_once" (aj (top 9)) (ah (top 9)) (ab (top 9)) .none .none .none (.str "countkin.common" 278) none (.ref 95) .none)),#[]⟩ (.node ⟨(.type "tuple"),none,(.seq #[] 0),#[]⟩ .nil .nil) .nil)) (.node ⟨(.type "builtin_function_or_method"),none,(.fields #[(.builtin "type.__prepare__"),(.type "type")]),#[]⟩ (.node ⟨(.type "type"),none,(.cls ⟨"NoMark",[(.ref 31)],[(.ref 80),(.ref 31),(.type "ValueError"),(.type "Exception"),(.type "BaseException"),(.type "object")],79,"NoMark",true,[],[],false,none,false⟩),#[(some (.ref 71)),none,(some (.str "NoMark" 262)),(some (.str "NoMark" 270)),(some (.builtin "ValueError.__new__")),(some (.bool true))]⟩ (.node ⟨(.type "code"),none,(.fields #[(.str "is_one" 360),(.str "Family.is_one" 361),(.str "/claim/cut.py" 362),(.int 51 0),(.int 2 0),(.int 0 0),(.int 0 0),(.int 3 0),(.ref 139),(.bool true),(.int 181 0),(.ref 140),.none,(.ref 141),(.ref 142),(.ref 143),(.int 365 0),(.int 51 0),(.str "/claim/cut.py" 366)]),#[]⟩ .nil .nil) (.node ⟨(.type "builtin_function_or_method"),none,(.fields #[(.builtin "object.__init_subclass__"),(.ref 204)]),#[]⟩ .nil .nil)) (.node ⟨.none,none,(.fields #[]),#[]⟩ (.node ⟨(.type "tuple"),none,(.seq #[(.str "self" 404),(.str "thing" 405)] 0),#[]⟩ .nil .nil) .nil))) (.node ⟨(.type "dict"),none,(.dict #[⟨PyData.keyHash P "__module__",.str "__module__" 203,(.str "countkin.errors" 194)⟩,⟨PyData.keyHash P "__qualname__",.str "__qualname__" 205,(.str "KinError" 204)⟩,⟨PyData.keyHash P "__firstlineno__",.str "__firstlineno__" 207,(.int 5 206)⟩,⟨PyData.keyHash P "__static_attributes__",.str "__static_attributes__" 208,(.ref 29)⟩] 4),#[]⟩ (.node ⟨(.type "code"),none,(.fields #[(.str "NoSize" 216),(.str "NoSize" 217),(.str "/claim/cut.py" 218),(.int 7 0),(.int 0 0),(.int 0 0),(.int 0 0),(.int 0 0),(.ref 38),(.bool false),(.int 181 0),(.ref 39),.none,.none,.none,.none,(.int 219 0),(.int 7 0),(.str "/claim/cut.py" 220)]),#[]⟩ (.node ⟨(.type "builtin_function_or_method"),none,(.fields #[(.builtin "type.__prepare__"),(.type "type")]),#[]⟩ (.node ⟨.none,none,(.func { (fnOf "size_of" "Family.size_of" (aj (inClass (top 16) 1)) (ah (inClass (top 16) 1)) (ab (inClass (top 16) 1)) .none .none .none .none none .none .none) with globals:=0 }),#[]⟩ .nil .nil) (.node ⟨(.type "code"),none,(.fields #[(.str "next_of" 426),(.str "Family.next_of" 427),(.str "/claim/cut.py" 428),(.int 78 0),(.int 2 0),(.int 0 0),(.int 0 0),(.int 3 0),(.ref 195),(.bool true),(.int 181 0),(.ref 196),.none,(.ref 197),(.ref 198),(.ref 199),(.int 431 0),(.int 78 0),(.str "/claim/cut.py" 432)]),#[]⟩ .nil .nil)) (.node ⟨(.type "tuple"),none,(.seq #[] 0),#[]⟩ (.node ⟨.none,none,(.fields #[]),#[]⟩ .nil .nil) .nil)) (.node ⟨(.type "type"),none,(.cls ⟨"NoThing",[(.ref 31)],[(.ref 56),(.ref 31),(.type "ValueError"),(.type "Exception"),(.type "BaseException"),(.type "object")],55,"NoThing",true,[],[],false,none,false⟩),#[(some (.ref 47)),none,(some (.str "NoThing" 230)),(some (.str "NoThing" 238)),(some (.builtin "ValueError.__new__")),(some (.bool true))]⟩ (.node ⟨(.type "code"),none,(.fields #[(.str "flat" 280),(.str "flat" 281),(.str "/claim/cut.py" 282),(.int 16 0),(.int 1 0),(.int 0 0),(.int 0 0),(.int 3 0),(.ref 83),(.bool true),(.int 181 0),(.ref 84),.none,(.ref 85),(.ref 86),(.ref 87),(.int 286 0),(.int 16 0),(.str "/claim/cut.py" 287)]),#[]⟩ (.node ⟨(.type "function"),none,(.func (fnOf "unchecked_many" "Family.unchecked_many" (aj (inClass (top 16) 3)) (ah (inClass (top 16) 3)) (ab (inClass (top 16) 3)) .none .none .none (.str "countkin.kin" 329) none (.ref 151) .none)),#[]⟩ .nil .nil) .nil) (.node ⟨(.type "dict"),none,(.dict #[⟨PyData.keyHash P "__module__",.str "__module__" 338,(.str "countkin.kin" 329)⟩,⟨PyData.keyHash P "__qualname__",.str "__qualname__" 340,(.str "Family" 339)⟩,⟨PyData.keyHash P "__firstlineno__",.str "__firstlineno__" 342,(.int 42 341)⟩,⟨PyData.keyHash P "__init__",.str "__init__" 351,(.ref 131)⟩,⟨PyData.keyHash P "size_of",.str "size_of" 359,(.ref 138)⟩,⟨PyData.keyHash P "is_one",.str "is_one" 367,(.ref 145)⟩,⟨PyData.keyHash P "unchecked_many",.str "unchecked_many" 375,(.ref 152)⟩,⟨PyData.keyHash P "unchecked_number",.str "unchecked_number" 383,(.ref 159)⟩,⟨PyData.keyHash P "unchecked_thing",.str "unchecked_thing" 392,(.ref 166)⟩,⟨PyData.keyHash P "many",.str "many" 400,(.ref 173)⟩,⟨PyData.keyHash P "refuse_other",.str "refuse_other" 408,(.ref 180)⟩,⟨PyData.keyHash P "number_of",.str "number_of" 416,(.ref 187)⟩,⟨PyData.keyHash P "thing_of",.str "thing_of" 425,(.ref 194)⟩,⟨PyData.keyHash P "next_of",.str "next_of" 433,(.ref 201)⟩,⟨PyData.keyHash P "__static_attributes__",.str "__static_attributes__" 436,(.ref 202)⟩] 15),#[]⟩ (.node ⟨(.type "tuple"),none,(.seq #[] 0),#[]⟩ .nil .nil) .nil)))) (.node ⟨.none,none,(.fields #[(.int 1 0),(.int 0 0),(.ref 20),(.int 5 0),(.int 0 0),(.ref 27),(.int 7 0),(.int 0 0),(.ref 40),(.int 9 0),(.int 0 0),(.ref 52),(.int 11 0),(.int 0 0),(.ref 64),(.int 13 0),(.int 0 0),(.ref 76),(.int 16 0),(.int 0 0),(.ref 88),(.int 21 0),(.int 0 0),(.ref 95),(.int 23 0),(.int 0 0),(.ref 102),(.int 31 0),(.int 0 0),(.ref 109),(.int 36 0),(.int 0 0),(.ref 116),(.int 42 0),(.int 0 0),(.ref 123)]),#[]⟩ (.node ⟨(.type "code"),none,(.fields #[(.str "_wall" 187),(.str "_wall" 188),(.str "/claim/cut.py" 189),(.int 1 0),(.int 1 0),(.int 0 0),(.int 0 0),(.int 3 0),(.ref 15),(.bool true),(.int 181 0),(.ref 16),.none,(.ref 17),(.ref 18),(.ref 19),(.int 191 0),(.int 1 0),(.str "/claim/cut.py" 192)]),#[]⟩ (.node ⟨(.type "builtin_function_or_method"),none,(.fields #[(.builtin "type.__prepare__"),(.type "type")]),#[]⟩ (.node ⟨(.type "type"),none,(.cls ⟨"NoFamily",[(.ref 31)],[(.ref 68),(.ref 31),(.type "ValueError"),(.type "Exception"),(.type "BaseException"),(.type "object")],67,"NoFamily",true,[],[],false,none,false⟩),#[(some (.ref 59)),none,(some (.str "NoFamily" 246)),(some (.str "NoFamily" 254)),(some (.builtin "ValueError.__new__")),(some (.bool true))]⟩ (.node ⟨(.type "tuple"),none,(.seq #[] 0),#[]⟩ .nil .nil) (.node ⟨.none,none,(.fields #[]),#[]⟩ .nil .nil)) (.node ⟨(.type "tuple"),none,(.seq #[] 0),#[]⟩ (.node ⟨.none,none,(.func { (fnOf "unchecked_thing" "Family.unchecked_thing" (aj (inClass (top 16) 5)) (ah (inClass (top 16) 5)) (ab (inClass (top 16) 5)) .none .none .none .none none .none .none) with globals:=0 }),#[]⟩ .nil .nil) .nil)) (.node ⟨(.type "code"),none,(.fields #[(.str "NoThing" 232),(.str "NoThing" 233),(.str "/claim/cut.py" 234),(.int 9 0),(.int 0 0),(.int 0 0),(.int 0 0),(.int 0 0),(.ref 50),(.bool false),(.int 181 0),(.ref 51),.none,.none,.none,.none,(.int 235 0),(.int 9 0),(.str "/claim/cut.py" 236)]),#[]⟩ (.node ⟨.none,none,(.fields #[]),#[]⟩ (.node ⟨(.type "tuple"),none,(.seq #[(.str "self" 371),(.str "size" 372)] 0),#[]⟩ .nil .nil) .nil) (.node ⟨(.type "code"),none,(.fields #[(.str "ring_many" 320),(.str "ring_many" 321),(.str "/claim/cut.py" 322),(.int 36 0),(.int 1 0),(.int 0 0),(.int 0 0),(.int 3 0),(.ref 111),(.bool true),(.int 181 0),(.ref 112),.none,(.ref 113),(.ref 114),(.ref 115),(.int 326 0),(.int 36 0),(.str "/claim/cut.py" 327)]),#[]⟩ (.node ⟨(.type "function"),none,(.func (fnOf "refuse_other" "Family.refuse_other" (aj (inClass (top 16) 7)) (ah (inClass (top 16) 7)) (ab (inClass (top 16) 7)) .none .none .none (.str "countkin.kin" 329) none (.ref 179) .none)),#[]⟩ .nil .nil) .nil))) (.node ⟨(.type "frame"),none,.plain,#[(some (.ref 27)),(some (.ref 3)),(some (.ref 24)),none,(some (.str "countkin.errors" 194)),none,(some (.ref 0))]⟩ (.node ⟨(.type "type"),none,(.cls ⟨"NoSize",[(.ref 31)],[(.ref 44),(.ref 31),(.type "ValueError"),(.type "Exception"),(.type "BaseException"),(.type "object")],43,"NoSize",true,[],[],false,none,false⟩),#[(some (.ref 35)),none,(some (.str "NoSize" 214)),(some (.str "NoSize" 222)),(some (.builtin "ValueError.__new__")),(some (.bool true))]⟩ (.node ⟨(.type "code"),none,(.fields #[(.str "NoMark" 264),(.str "NoMark" 265),(.str "/claim/cut.py" 266),(.int 13 0),(.int 0 0),(.int 0 0),(.int 0 0),(.int 0 0),(.ref 74),(.bool false),(.int 181 0),(.ref 75),.none,.none,.none,.none,(.int 267 0),(.int 13 0),(.str "/claim/cut.py" 268)]),#[]⟩ (.node ⟨.none,none,(.fields #[]),#[]⟩ .nil .nil) (.node ⟨(.type "type"),none,(.cls ⟨"Family",[(.type "object")],[(.ref 204),(.type "object")],203,"Family",true,[],[],false,none,false⟩),#[none,none,(some (.str "Family" 331)),(some (.str "Family" 339)),(some (.builtin "object.__new__")),(some (.bool true))]⟩ .nil .nil)) (.node ⟨.none,none,(.func { (fnOf "by_rule" "by_rule" (aj (top 13)) (ah (top 13)) (ab (top 13)) .none .none .none .none none .none .none) with globals:=0 }),#[]⟩ (.node ⟨(.type "code"),none,(.fields #[(.str "many" 393),(.str "Family.many" 394),(.str "/claim/cut.py" 395),(.int 63 0),(.int 2 0),(.int 0 0),(.int 0 0),(.int 3 0),(.ref 167),(.bool true),(.int 181 0),(.ref 168),.none,(.ref 169),(.ref 170),(.ref 171),(.int 398 0),(.int 63 0),(.str "/claim/cut.py" 399)]),#[]⟩ .nil .nil) .nil)) (.node ⟨(.type "builtin_function_or_method"),none,(.fields #[(.builtin "type.__prepare__"),(.type "type")]),#[]⟩ (.node ⟨(.type "tuple"),none,(.seq #[(.str "numbers" 292)] 0),#[]⟩ (.node ⟨(.type "tuple"),none,(.seq #[] 0),#[]⟩ .nil .nil) .nil) (.node ⟨(.type "frame"),none,.plain,#[(some (.ref 123)),(some (.ref 3)),(some (.ref 120)),none,(some (.str "countkin.kin" 329)),none,(some (.ref 0))]⟩ (.node ⟨(.type "tuple"),none,(.seq #[] 0),#[]⟩ .nil .nil) .nil))))) (.node (boot_o_6 P) (.node (boot_o_10 P) (.node ⟨(.type "tuple"),none,(.seq #[] 0),#[]⟩ (.node ⟨(.type "builtin_function_or_method"),none,(.fields #[(.builtin "object.__init_subclass__"),(.ref 31)]),#[]⟩ (.node ⟨(.type "tuple"),none,(.seq #[] 0),#[]⟩ (.node ⟨(.type "code"),none,(.fields #[(.str "__init__" 343),(.str "Family.__init__" 344),(.str "/claim/cut.py" 345),(.int 44 0),(.int 3 0),(.int 0 0),(.int 0 0),(.int 3 0),(.ref 125),(.bool true),(.int 181 0),(.ref 126),.none,(.ref 127),(.ref 128),(.ref 129),(.int 349 0),(.int 44 0),(.str "/claim/cut.py" 350)]),#[]⟩ .nil .nil) (.node ⟨(.type "function"),none,(.func (fnOf "thing_of" "Family.thing_of" (aj (inClass (top 16) 9)) (ah (inClass (top 16) 9)) (ab (inClass (top 16) 9)) .none .none .none (.str "countkin.kin" 329) none (.ref 193) .none)),#[]⟩ .nil .nil)) (.node ⟨.none,none,(.fields #[]),#[]⟩ (.node ⟨(.type "tuple"),none,(.seq #[(.str "self" 387),(.str "size" 388),(.str "number" 389)] 0),#[]⟩ .nil .nil) .nil)) (.node ⟨(.type "tuple"),none,(.seq #[] 0),#[]⟩ (.node ⟨(.type "builtin_function_or_method"),none,(.fields #[(.builtin "object.__init_subclass__"),(.ref 80)]),#[]⟩ (.node ⟨(.type "tuple"),none,(.seq #[] 0),#[]⟩ .nil .nil) .nil) (.node ⟨(.type "tuple"),none,(.seq #[] 0),#[]⟩ (.node ⟨.none,none,(.func { (fnOf "refuse_other" "Family.refuse_other" (aj (inClass (top 16) 7)) (ah (inClass (top 16) 7)) (ab (inClass (top 16) 7)) .none .none .none .none none .none .none) with globals:=0 }),#[]⟩ .nil .nil) .nil))) (.node ⟨.none,none,(.fields #[]),#[]⟩ (.node ⟨(.type "tuple"),none,(.seq #[] 0),#[]⟩ (.node ⟨(.type "tuple"),none,(.seq #[] 0),#[]⟩ (.node ⟨(.type "function"),none,(.func (fnOf "size_of" "Family.size_of" (aj (inClass (top 16) 1)) (ah (inClass (top 16) 1)) (ab (inClass (top 16) 1)) .none .none .none (.str "countkin.kin" 329) none (.ref 137) .none)),#[]⟩ .nil .nil) (.node ⟨(.type "tuple"),none,(.seq #[(.str "least" 434),(.str "word" 435)] 0),#[]⟩ .nil .nil)) (.node ⟨(.type "tuple"),none,(.seq #[(.str "size" 314),(.str "share" 315),(.str "k" 316)] 0),#[]⟩ (.node ⟨(.type "tuple"),none,(.seq #[] 0),#[]⟩ .nil .nil) .nil)) (.node ⟨(.type "builtin_function_or_method"),none,(.fields #[(.builtin "object.__init_subclass__"),(.ref 56)]),#[]⟩ (.node ⟨(.type "tuple"),none,(.seq #[] 0),#[]⟩ (.node ⟨.none,none,(.fields #[]),#[]⟩ .nil .nil) .nil) (.node ⟨.none,none,(.fields #[(.int 44 0),(.int 4 0),(.ref 130),(.int 48 0),(.int 4 0),(.ref 137),(.int 51 0),(.int 4 0),(.ref 144),(.int 54 0),(.int 4 0),(.ref 151),(.int 57 0),(.int 4 0),(.ref 158),(.int 60 0),(.int 4 0),(.ref 165),(.int 63 0),(.int 4 0),(.ref 172),(.int 68 0),(.int 4 0),(.ref 179),(.int 72 0),(.int 4 0),(.ref 186),(.int 75 0),(.int 4 0),(.ref 193),(.int 78 0),(.int 4 0),(.ref 200)]),#[]⟩ (.node ⟨(.type "code"),none,(.fields #[(.str "number_of" 409),(.str "Family.number_of" 410),(.str "/claim/cut.py" 411),(.int 72 0),(.int 2 0),(.int 0 0),(.int 0 0),(.int 3 0),(.ref 181),(.bool true),(.int 181 0),(.ref 182),.none,(.ref 183),(.ref 184),(.ref 185),(.int 414 0),(.int 72 0),(.str "/claim/cut.py" 415)]),#[]⟩ .nil .nil) .nil)))) (.node ⟨(.type "frame"),none,.plain,#[(some (.ref 13)),(some (.ref 3)),(some (.ref 3)),none,(some (.str "__main__" 164)),none,(some (.ref 0))]⟩ (.node ⟨(.type "tuple"),none,(.seq #[(.type "ValueError")] 0),#[]⟩ (.node ⟨(.type "tuple"),none,(.seq #[] 0),#[]⟩ (.node ⟨(.type "builtin_function_or_method"),none,(.fields #[(.builtin "object.__init_subclass__"),(.ref 68)]),#[]⟩ (.node ⟨(.type "tuple"),none,(.seq #[(.str "self" 355),(.str "thing" 356)] 0),#[]⟩ .nil .nil) (.node ⟨(.type "tuple"),none,(.seq #[] 0),#[]⟩ .nil .nil)) (.node ⟨(.type "code"),none,(.fields #[(.str "any_cross" 296),(.str "any_cross" 297),(.str "/claim/cut.py" 298),(.int 23 0),(.int 1 0),(.int 0 0),(.int 0 0),(.int 3 0),(.ref 97),(.bool true),(.int 181 0),(.ref 98),.none,(.ref 99),(.ref 100),(.ref 101),(.int 304 0),(.int 23 0),(.str "/claim/cut.py" 305)]),#[]⟩ (.node ⟨(.type "function"),none,(.func (fnOf "unchecked_thing" "Family.unchecked_thing" (aj (inClass (top 16) 5)) (ah (inClass (top 16) 5)) (ab (inClass (top 16) 5)) .none .none .none (.str "countkin.kin" 329) none (.ref 165) .none)),#[]⟩ .nil .nil) .nil)) (.node ⟨(.type "tuple"),none,(.seq #[] 0),#[]⟩ (.node ⟨(.type "tuple"),none,(.seq #[] 0),#[]⟩ (.node ⟨.none,none,(.func { (fnOf "unchecked_many" "Family.unchecked_many" (aj (inClass (top 16) 3)) (ah (inClass (top 16) 3)) (ab (inClass (top 16) 3)) .none .none .none .none none .none .none) with globals:=0 }),#[]⟩ .nil .nil) .nil) (.node ⟨(.type "tuple"),none,(.seq #[] 0),#[]⟩ (.node ⟨.none,none,(.fields #[]),#[]⟩ .nil .nil) .nil))) (.node ⟨(.type "dict"),none,(.dict #[⟨PyData.keyHash P "__module__",.str "__module__" 203,(.str "countkin.errors" 194)⟩,⟨PyData.keyHash P "__firstlineno__",.str "__firstlineno__" 207,(.int 5 206)⟩,⟨PyData.keyHash P "__static_attributes__",.str "__static_attributes__" 208,(.ref 29)⟩,⟨PyData.keyHash P "__weakref__",.str "__weakref__" 210,(.ref 32)⟩,⟨PyData.keyHash P "__doc__",.str "__doc__" 211,.none⟩] 3),#[]⟩ (.node ⟨(.type "builtin_function_or_method"),none,(.fields #[(.builtin "object.__init_subclass__"),(.ref 44)]),#[]⟩ (.node ⟨(.type "tuple"),none,(.seq #[] 0),#[]⟩ (.node ⟨(.type "tuple"),none,(.seq #[] 0),#[]⟩ .nil .nil) (.node ⟨(.type "getset_descriptor"),none,(.fields #[(.str "__weakref__" 439),(.ref 204),(.builtin "ExceptionGroup.__weakref__"),.none]),#[]⟩ .nil .nil)) (.node ⟨(.type "function"),none,(.func (fnOf "by_rule" "by_rule" (aj (top 13)) (ah (top 13)) (ab (top 13)) .none .none .none (.str "countkin.counts" 307) none (.ref 109) .none)),#[]⟩ (.node ⟨(.type "tuple"),none,(.seq #[] 0),#[]⟩ .nil .nil) .nil)) (.node ⟨(.type "tuple"),none,(.seq #[] 0),#[]⟩ (.node ⟨.none,none,(.func { (fnOf "each_once" "each_once" (aj (top 9)) (ah (top 9)) (ab (top 9)) .none .none .none .none none .none .none) with globals:=0 }),#[]⟩ (.node ⟨(.type "code"),none,(.fields #[(.str "unchecked_number" 376),(.str "Family.unchecked_number" 377),(.str "/claim/cut.py" 378),(.int 57 0),(.int 2 0),(.int 0 0),(.int 0 0),(.int 3 0),(.ref 153),(.bool true),(.int 181 0),(.ref 154),.none,(.ref 155),(.ref 156),(.ref 157),(.int 381 0),(.int 57 0),(.str "/claim/cut.py" 382)]),#[]⟩ .nil .nil) .nil) (.node ⟨.none,none,(.fields #[]),#[]⟩ (.node ⟨(.type "tuple"),none,(.seq #[(.str "self" 420),(.str "size" 421),(.str "number" 422)] 0),#[]⟩ .nil .nil) .nil)))))))
noncomputable def hS2 (w:World) (os:OsState):SharedT:=⟨hTree2 w.params,209,({}:Life),Array.mk [],⟨0,0,0,0⟩,444,os⟩
noncomputable def hMidF (w:World) (os:OsState):=segRunT treeTable PySem.Challenge.pw_countkin_k49_marks_of_bows_and_rooms w 11 (some (.ref 6)) 1 1814 (hS w os) (piecesOf (hB.take 17) hE hC ⟨0,0,0,0⟩ [topFrame ⟨0,0,0,0⟩])
noncomputable def hMidG (w:World) (os:OsState):Option (Flow × SharedT × Code × Pos):=some (.next,hS2 w os,hC,⟨42,0,79,16⟩)
noncomputable def hRunF (w:World) (os:OsState):=(segRunT treeTable PySem.Challenge.pw_countkin_k49_marks_of_bows_and_rooms w 11 (some (.ref 6)) 1 6528 (hS2 w os) (piecesOf (hB.drop 17) hE hC ⟨42,0,79,16⟩ [topFrame ⟨0,0,0,0⟩])).map (oN treeTable PySem.Challenge.pw_countkin_k49_marks_of_bows_and_rooms w 11 (some (.ref 6)) ⟨0,0,0,0⟩ hC 2 (hLook w.params))
noncomputable def hRunG (w:World) (_:OsState):=some (Flow.next,hC,some (true,openGood hQ hL,(hK w.params).map fun p=>some p.2))
noncomputable def hSizF (w:World):=((boot_heap w.params).isNs mainGlobals&&(Array.mk []:Array GenState).size == 0,(boot_heap w.params).objs.size,(boot_heap w.params).nsMap mainGlobals "__annotations__")
noncomputable def hSizG (_:World):Bool × Nat × Option Value:=(true,11,(some (.ref 6)))
theorem hSeed:(fun _ _ _ _ _ _ _ _ _ _=>true) hPreF hPreG hBlkF hBlkG hRunF hRunG hSizF hSizG hMidF hMidG=true:=by k_qdec
theorem hPre:hPreF=hPreG:=Eq.trans PySem.W.Fast.te5317814654954331368 (Eq.trans (by kernel_rfl) (Eq.symm PySem.W.Fast.te14277440360295502494))
theorem hBlk:hBlkF=hBlkG:=Eq.trans PySem.W.Fast.te2033988648308832629 (Eq.trans (by kernel_rfl) (Eq.symm PySem.W.Fast.te1798457917166677164))
theorem hMid:hMidF=hMidG:=Eq.trans PySem.W.Fast.te3840733706415240168 (Eq.trans (by kernel_rfl) (Eq.symm PySem.W.Fast.te18240272836940206031))
theorem hRun:hRunF=hRunG:=Eq.trans PySem.W.Fast.te6412348297585774662 (Eq.trans (by kernel_rfl) (Eq.symm PySem.W.Fast.te15447895654253735931))
theorem hSiz:hSizF=hSizG:=Eq.trans PySem.W.Fast.te13693962943478796877 (by kernel_rfl)
theorem hLeft:LeftO PySem.Challenge.pw_countkin_k49_marks_of_bows_and_rooms hQ hL hX (Hook.obs hH) (Hook.val hH) 16806 :=
 vN (boot_open (by kernel_rfl) (by decide) (fun _=>by kernel_rfl)) (fun w=>congrFun hSiz w)
  (fun w os=>by
   obtain ⟨e,r,l⟩:=zT (b:=hB) (env:=hE) (L:=hLook w.params) rfl (congrFun (congrFun hPre w) os) (congrFun (congrFun hBlk w) os) (congrFun (congrFun hMid w) os) (congrFun (congrFun hRun w) os)
   exact ⟨e,r,(congrArg (fun z=>(_,_,z)) (zL hAM e.heap)).trans l⟩) (by decide)
end Ck
open PySem PySem.W PyProof.Rows
set_option maxRecDepth 100000 in
set_option maxHeartbeats 0 in
theorem PySem.Challenge.cw_countkin_k49_marks_of_bows_and_rooms_holds : PySem.Challenge.rw_countkin_k49_marks_of_bows_and_rooms.Holds := by
 w_on; o_law
 refine holds_open (q:=Ck.hQ) (loose:=Ck.hL) (Xt:=Ck.hX) (XP:=XL Ck.hQ []) (Yf:=Hook.obs (kHook Ck.hK Ck.hA Ck.hKA)) (Ya:=Hook.val (kHook Ck.hK Ck.hA Ck.hKA)) (YP:=Hook.says (kHook Ck.hK Ck.hA Ck.hKA)) (N:=16806) Ck.hLeft (Hook.of (kHook Ck.hK Ck.hA Ck.hKA)) (Hook.keeps (kHook Ck.hK Ck.hA Ck.hKA))
  (fun s e=>xl_of s (Bool.and_eq_true_iff.mp e).1) XL.keeps (by rfl) (by rfl) (by rfl) (fun s e=>recFacts_of (Bool.and_eq_true_iff.mp e).2) (by rfl) (by first | assumption | decide +kernel) (by decide +kernel) ⟨rfl,rfl,rfl,rfl,rfl,by decide +kernel⟩ ?hw ?hc
 case hw=>w_witness2
 k_fill
 refine Ck.walk (l:=PySem.Challenge.rw_countkin_k49_marks_of_bows_and_rooms) rfl rfl (fun w h Y=>PySem.W.kIn_of Y) ?F
 case F =>
  intro w mg fa h KX G hmg
  refine' Ck.all_mk KX G hmg ?iW ?jQ ?nE ?oY ?ni ?kr ?nJ ?gS ?jP ?mY ?mU ?pG ?ie ?fV ?fK ?hW ?gT ?iT ?j9 ?nI ?pC ?m9 ?kz ?m6 ?nA ?nk ?pH ?bL ?bK ?bM ?cM ?cS ?cR ?cb ?bY ?bW ?dk ?dj ?dq ?ck ?cj ?cp ?dw ?dG ?dF ?cF ?cH ?cC ?d5 ?d6 ?d4 ?cq ?cw ?cm ?dy ?dA ?dz ?bX ?bT ?bZ ?dh ?di ?du ?cx ?cu ?cn ?dS ?dJ ?dB ?cK ?cA ?cB ?dW ?dR ?dM ?cD ?cG ?cJ ?dN ?dO ?dC ?cP ?cO ?cQ ?d8 ?d9 ?d7 ?a1 ?l1 ?c1 ?k1 ?a2 ?l2 ?c2 ?k2 ?a3 ?l3 ?c3 ?k3 ?a4 ?l4 ?c4 ?k4 ?l5 ?c5 ?k5 ?i5 ?l6 ?c6 ?k6 ?i6 ?l7 ?c7 ?k7 ?i7 ?l8 ?c8 ?k8 ?i8 ?l9 ?c9 ?k9 ?i9 ?l10 ?c10 ?k10 ?i10 ?l11 ?c11 ?k11 ?i11 ?l12 ?c12 ?k12 ?i12 ?l13 ?c13 ?k13 ?i13 ?l14 ?c14 ?k14 ?i14 ?l15 ?c15 ?k15 ?i15 ?l16 ?c16 ?k16 ?i16 ?l17 ?c17 ?k17 ?i17 ?l18 ?c18 ?k18 ?i18 ?l19 ?c19 ?k19 ?i19 ?l20 ?c20 ?k20 ?i20 ?l21 ?c21 ?k21 ?i21 ?l22 ?c22 ?k22 ?i22 ?l23 ?c23 ?k23 ?i23 ?l24 ?c24 ?k24 ?i24 ?l25 ?c25 ?k25 ?i25 ?a26 ?l26 ?c26 ?k26 ?l27 ?c27 ?k27 ?i27 ?l28 ?c28 ?k28 ?i28 ?l29 ?c29 ?k29 ?i29 ?l30 ?c30 ?k30 ?i30 ?l31 ?c31 ?k31 ?i31 ?l32 ?c32 ?k32 ?i32 ?l33 ?c33 ?k33 ?i33 ?l34 ?c34 ?k34 ?i34 ?l35 ?c35 ?k35 ?i35 ?a36 ?l36 ?c36 ?k36 ?a37 ?l37 ?c37 ?k37 ?a38 ?l38 ?c38 ?k38 ?a39 ?l39 ?c39 ?k39 ?a40 ?l40 ?c40 ?k40 ?a41 ?l41 ?c41 ?k41 ?a42 ?l42 ?c42 ?k42 ?l43 ?c43 ?k43 ?i43 ?l44 ?c44 ?k44 ?i44 ?a45 ?l45 ?c45 ?k45 ?l46 ?c46 ?k46 ?i46 ?l47 ?c47 ?k47 ?i47 ?a48 ?l48 ?c48 ?k48 ?a49 ?l49 ?c49 ?k49 ?a50 ?l50 ?c50 ?k50 ?a51 ?l51 ?c51 ?k51 ?a52 ?l52 ?c52 ?k52 ?a53 ?l53 ?c53 ?k53 ?a54 ?l54 ?c54 ?k54 ?a55 ?l55 ?c55 ?k55 ?a56 ?l56 ?c56 ?k56 ?a57 ?l57 ?c57 ?k57 ?a58 ?l58 ?c58 ?k58 ?a59 ?l59 ?c59 ?k59 ?pg_Bows ?hd_Bows ?po_Bows ?sa_Bows ?pg_Rooms ?hd_Rooms ?po_Rooms ?sa_Rooms ?pg_Brackets ?hd_Brackets ?po_Brackets ?sa_Brackets ?pg_Stairs ?hd_Stairs ?po_Stairs ?sa_Stairs ?pg_Twins ?hd_Twins ?po_Twins ?sa_Twins ?pg_Floors ?hd_Floors ?po_Floors ?sa_Floors ?pg_Turns ?hd_Turns ?po_Turns ?sa_Turns ?pg_Codes ?hd_Codes ?po_Codes ?sa_Codes ?pg_Trees ?hd_Trees ?po_Trees ?sa_Trees ?pg_Cars ?hd_Cars ?po_Cars ?sa_Cars ?mk_Brackets ?kc_Brackets ?mk_Stairs ?kc_Stairs ?mk_Twins ?kc_Twins ?mk_Bows ?kc_Bows ?mk_Rooms ?kc_Rooms ?mk_Floors ?kc_Floors ?mk_Turns ?kc_Turns ?mk_Codes ?kc_Codes ?mk_Trees ?kc_Trees ?mk_Cars ?kc_Cars ?bJ ?cE ?cW ?dP ?cV ?cI ?cZ ?cY ?c0 ?dU ?dc ?eC ?eX ?fO ?fh ?eK ?fi ?e8 ?fc ?fP ?nf_cars_rootage ?nf_cars_leaves ?nf_trees_rootage ?nf_trees_leaves ?nf_codes_rootage ?nf_codes_leaves ?nf_turns_height ?nf_turns_returns ?nf_turns_peaks ?nf_floor_returns ?nf_floor_peaks ?nf_rooms_returns ?nf_rooms_peaks ?nf_bows_height ?nf_bows_returns ?nf_bows_peaks ?nf_twins_height ?nf_twins_returns ?nf_twins_peaks ?nf_stairs_height ?nf_stairs_returns ?nf_stairs_peaks ?nf_brackets_height ?nf_brackets_returns ?nf_brackets_peaks ?z_range ?z_len ?z_min ?z_list ?z_sorted ?z_all ?z_zip ?z_max ?z_isinstance ?z_int ?z_bool
  (case iW=>k_is)
  (case jQ=>k_is)
  (case nE=>k_is)
  (case oY=>k_is)
  (case ni=>k_is)
  (case kr=>k_is)
  (case nJ=>k_is)
  (case gS=>k_is)
  (case jP=>k_is)
  (case mY=>k_is)
  (case mU=>k_is)
  (case pG=>k_is)
  (case ie=>k_is)
  (case fV=>k_is)
  (case fK=>k_is)
  (case hW=>k_is)
  (case gT=>k_is)
  (case iT=>k_is)
  (case j9=>k_is)
  (case nI=>k_is)
  (case pC=>k_is)
  (case m9=>k_is)
  (case kz=>k_is)
  (case m6=>k_is)
  (case nA=>k_is)
  (case nk=>k_is)
  (case pH=>k_is)
  (case bL=>k_is)
  (case bK=>k_is)
  (case bM=>k_is)
  (case cM=>k_is)
  (case cS=>k_is)
  (case cR=>k_is)
  (case cb=>k_is)
  (case bY=>k_is)
  (case bW=>k_is)
  (case dk=>k_is)
  (case dj=>k_is)
  (case dq=>k_is)
  (case ck=>k_is)
  (case cj=>k_is)
  (case cp=>k_is)
  (case dw=>k_is)
  (case dG=>k_is)
  (case dF=>k_is)
  (case cF=>k_is)
  (case cH=>k_is)
  (case cC=>k_is)
  (case d5=>k_is)
  (case d6=>k_is)
  (case d4=>k_is)
  (case cq=>k_is)
  (case cw=>k_is)
  (case cm=>k_is)
  (case dy=>k_is)
  (case dA=>k_is)
  (case dz=>k_is)
  (case bX=>k_is)
  (case bT=>k_is)
  (case bZ=>k_is)
  (case dh=>k_is)
  (case di=>k_is)
  (case du=>k_is)
  (case cx=>k_is)
  (case cu=>k_is)
  (case cn=>k_is)
  (case dS=>k_is)
  (case dJ=>k_is)
  (case dB=>k_is)
  (case cK=>k_is)
  (case cA=>k_is)
  (case cB=>k_is)
  (case dW=>k_is)
  (case dR=>k_is)
  (case dM=>k_is)
  (case cD=>k_is)
  (case cG=>k_is)
  (case cJ=>k_is)
  (case dN=>k_is)
  (case dO=>k_is)
  (case dC=>k_is)
  (case cP=>k_is)
  (case cO=>k_is)
  (case cQ=>k_is)
  (case d8=>k_is)
  (case d9=>k_is)
  (case d7=>k_is)
  (case a1=>k_is)
  (case l1=>k_is)
  (case c1=>k_is)
  (case k1=>k_is)
  (case a2=>k_is)
  (case l2=>k_is)
  (case c2=>k_is)
  (case k2=>k_is)
  (case a3=>k_is)
  (case l3=>k_is)
  (case c3=>k_is)
  (case k3=>k_is)
  (case a4=>k_is)
  (case l4=>k_is)
  (case c4=>k_is)
  (case k4=>k_is)
  (case l5=>k_is)
  (case c5=>k_is)
  (case k5=>k_is)
  (case i5=>k_is)
  (case l6=>k_is)
  (case c6=>k_is)
  (case k6=>k_is)
  (case i6=>k_is)
  (case l7=>k_is)
  (case c7=>k_is)
  (case k7=>k_is)
  (case i7=>k_is)
  (case l8=>k_is)
  (case c8=>k_is)
  (case k8=>k_is)
  (case i8=>k_is)
  (case l9=>k_is)
  (case c9=>k_is)
  (case k9=>k_is)
  (case i9=>k_is)
  (case l10=>k_is)
  (case c10=>k_is)
  (case k10=>k_is)
  (case i10=>k_is)
  (case l11=>k_is)
  (case c11=>k_is)
  (case k11=>k_is)
  (case i11=>k_is)
  (case l12=>k_is)
  (case c12=>k_is)
  (case k12=>k_is)
  (case i12=>k_is)
  (case l13=>k_is)
  (case c13=>k_is)
  (case k13=>k_is)
  (case i13=>k_is)
  (case l14=>k_is)
  (case c14=>k_is)
  (case k14=>k_is)
  (case i14=>k_is)
  (case l15=>k_is)
  (case c15=>k_is)
  (case k15=>k_is)
  (case i15=>k_is)
  (case l16=>k_is)
  (case c16=>k_is)
  (case k16=>k_is)
  (case i16=>k_is)
  (case l17=>k_is)
  (case c17=>k_is)
  (case k17=>k_is)
  (case i17=>k_is)
  (case l18=>k_is)
  (case c18=>k_is)
  (case k18=>k_is)
  (case i18=>k_is)
  (case l19=>k_is)
  (case c19=>k_is)
  (case k19=>k_is)
  (case i19=>k_is)
  (case l20=>k_is)
  (case c20=>k_is)
  (case k20=>k_is)
  (case i20=>k_is)
  (case l21=>k_is)
  (case c21=>k_is)
  (case k21=>k_is)
  (case i21=>k_is)
  (case l22=>k_is)
  (case c22=>k_is)
  (case k22=>k_is)
  (case i22=>k_is)
  (case l23=>k_is)
  (case c23=>k_is)
  (case k23=>k_is)
  (case i23=>k_is)
  (case l24=>k_is)
  (case c24=>k_is)
  (case k24=>k_is)
  (case i24=>k_is)
  (case l25=>k_is)
  (case c25=>k_is)
  (case k25=>k_is)
  (case i25=>k_is)
  (case a26=>k_is)
  (case l26=>k_is)
  (case c26=>k_is)
  (case k26=>k_is)
  (case l27=>k_is)
  (case c27=>k_is)
  (case k27=>k_is)
  (case i27=>k_is)
  (case l28=>k_is)
  (case c28=>k_is)
  (case k28=>k_is)
  (case i28=>k_is)
  (case l29=>k_is)
  (case c29=>k_is)
  (case k29=>k_is)
  (case i29=>k_is)
  (case l30=>k_is)
  (case c30=>k_is)
  (case k30=>k_is)
  (case i30=>k_is)
  (case l31=>k_is)
  (case c31=>k_is)
  (case k31=>k_is)
  (case i31=>k_is)
  (case l32=>k_is)
  (case c32=>k_is)
  (case k32=>k_is)
  (case i32=>k_is)
  (case l33=>k_is)
  (case c33=>k_is)
  (case k33=>k_is)
  (case i33=>k_is)
  (case l34=>k_is)
  (case c34=>k_is)
  (case k34=>k_is)
  (case i34=>k_is)
  (case l35=>k_is)
  (case c35=>k_is)
  (case k35=>k_is)
  (case i35=>k_is)
  (case a36=>k_is)
  (case l36=>k_is)
  (case c36=>k_is)
  (case k36=>k_is)
  (case a37=>k_is)
  (case l37=>k_is)
  (case c37=>k_is)
  (case k37=>k_is)
  (case a38=>k_is)
  (case l38=>k_is)
  (case c38=>k_is)
  (case k38=>k_is)
  (case a39=>k_is)
  (case l39=>k_is)
  (case c39=>k_is)
  (case k39=>k_is)
  (case a40=>k_is)
  (case l40=>k_is)
  (case c40=>k_is)
  (case k40=>k_is)
  (case a41=>k_is)
  (case l41=>k_is)
  (case c41=>k_is)
  (case k41=>k_is)
  (case a42=>k_is)
  (case l42=>k_is)
  (case c42=>k_is)
  (case k42=>k_is)
  (case l43=>k_is)
  (case c43=>k_is)
  (case k43=>k_is)
  (case i43=>k_is)
  (case l44=>k_is)
  (case c44=>k_is)
  (case k44=>k_is)
  (case i44=>k_is)
  (case a45=>k_is)
  (case l45=>k_is)
  (case c45=>k_is)
  (case k45=>k_is)
  (case l46=>k_is)
  (case c46=>k_is)
  (case k46=>k_is)
  (case i46=>k_is)
  (case l47=>k_is)
  (case c47=>k_is)
  (case k47=>k_is)
  (case i47=>k_is)
  (case a48=>k_is)
  (case l48=>k_is)
  (case c48=>k_is)
  (case k48=>k_is)
  (case a49=>k_is)
  (case l49=>k_is)
  (case c49=>k_is)
  (case k49=>k_is)
  (case a50=>k_is)
  (case l50=>k_is)
  (case c50=>k_is)
  (case k50=>k_is)
  (case a51=>k_is)
  (case l51=>k_is)
  (case c51=>k_is)
  (case k51=>k_is)
  (case a52=>k_is)
  (case l52=>k_is)
  (case c52=>k_is)
  (case k52=>k_is)
  (case a53=>k_is)
  (case l53=>k_is)
  (case c53=>k_is)
  (case k53=>k_is)
  (case a54=>k_is)
  (case l54=>k_is)
  (case c54=>k_is)
  (case k54=>k_is)
  (case a55=>k_is)
  (case l55=>k_is)
  (case c55=>k_is)
  (case k55=>k_is)
  (case a56=>k_is)
  (case l56=>k_is)
  (case c56=>k_is)
  (case k56=>k_is)
  (case a57=>k_is)
  (case l57=>k_is)
  (case c57=>k_is)
  (case k57=>k_is)
  (case a58=>k_is)
  (case l58=>k_is)
  (case c58=>k_is)
  (case k58=>k_is)
  (case a59=>k_is)
  (case l59=>k_is)
  (case c59=>k_is)
  (case k59=>k_is)
  (case pg_Bows=>k_is)
  (case hd_Bows=>k_is)
  (case po_Bows=>k_is)
  (case sa_Bows=>k_is)
  (case pg_Rooms=>k_is)
  (case hd_Rooms=>k_is)
  (case po_Rooms=>k_is)
  (case sa_Rooms=>k_is)
  (case pg_Brackets=>k_is)
  (case hd_Brackets=>k_is)
  (case po_Brackets=>k_is)
  (case sa_Brackets=>k_is)
  (case pg_Stairs=>k_is)
  (case hd_Stairs=>k_is)
  (case po_Stairs=>k_is)
  (case sa_Stairs=>k_is)
  (case pg_Twins=>k_is)
  (case hd_Twins=>k_is)
  (case po_Twins=>k_is)
  (case sa_Twins=>k_is)
  (case pg_Floors=>k_is)
  (case hd_Floors=>k_is)
  (case po_Floors=>k_is)
  (case sa_Floors=>k_is)
  (case pg_Turns=>k_is)
  (case hd_Turns=>k_is)
  (case po_Turns=>k_is)
  (case sa_Turns=>k_is)
  (case pg_Codes=>k_is)
  (case hd_Codes=>k_is)
  (case po_Codes=>k_is)
  (case sa_Codes=>k_is)
  (case pg_Trees=>k_is)
  (case hd_Trees=>k_is)
  (case po_Trees=>k_is)
  (case sa_Trees=>k_is)
  (case pg_Cars=>k_is)
  (case hd_Cars=>k_is)
  (case po_Cars=>k_is)
  (case sa_Cars=>k_is)
  (case mk_Brackets=>k_is)
  (case kc_Brackets=>k_is)
  (case mk_Stairs=>k_is)
  (case kc_Stairs=>k_is)
  (case mk_Twins=>k_is)
  (case kc_Twins=>k_is)
  (case mk_Bows=>k_is)
  (case kc_Bows=>k_is)
  (case mk_Rooms=>k_is)
  (case kc_Rooms=>k_is)
  (case mk_Floors=>k_is)
  (case kc_Floors=>k_is)
  (case mk_Turns=>k_is)
  (case kc_Turns=>k_is)
  (case mk_Codes=>k_is)
  (case kc_Codes=>k_is)
  (case mk_Trees=>k_is)
  (case kc_Trees=>k_is)
  (case mk_Cars=>k_is)
  (case kc_Cars=>k_is)
  (case bJ=>k_is)
  (case cE=>k_is)
  (case cW=>k_is)
  (case dP=>k_is)
  (case cV=>k_is)
  (case cI=>k_is)
  (case cZ=>k_is)
  (case cY=>k_is)
  (case c0=>k_is)
  (case dU=>k_is)
  (case dc=>k_is)
  (case eC=>k_is)
  (case eX=>k_is)
  (case fO=>k_is)
  (case fh=>k_is)
  (case eK=>k_is)
  (case fi=>k_is)
  (case e8=>k_is)
  (case fc=>k_is)
  (case fP=>k_is)
  (case nf_cars_rootage=>k_is)
  (case nf_cars_leaves=>k_is)
  (case nf_trees_rootage=>k_is)
  (case nf_trees_leaves=>k_is)
  (case nf_codes_rootage=>k_is)
  (case nf_codes_leaves=>k_is)
  (case nf_turns_height=>k_is)
  (case nf_turns_returns=>k_is)
  (case nf_turns_peaks=>k_is)
  (case nf_floor_returns=>k_is)
  (case nf_floor_peaks=>k_is)
  (case nf_rooms_returns=>k_is)
  (case nf_rooms_peaks=>k_is)
  (case nf_bows_height=>k_is)
  (case nf_bows_returns=>k_is)
  (case nf_bows_peaks=>k_is)
  (case nf_twins_height=>k_is)
  (case nf_twins_returns=>k_is)
  (case nf_twins_peaks=>k_is)
  (case nf_stairs_height=>k_is)
  (case nf_stairs_returns=>k_is)
  (case nf_stairs_peaks=>k_is)
  (case nf_brackets_height=>k_is)
  (case nf_brackets_returns=>k_is)
  (case nf_brackets_peaks=>k_is)
  (case z_range=>k_is)
  (case z_len=>k_is)
  (case z_min=>k_is)
  (case z_list=>k_is)
  (case z_sorted=>k_is)
  (case z_all=>k_is)
  (case z_zip=>k_is)
  (case z_max=>k_is)
  (case z_isinstance=>k_is)
  (case z_int=>k_is)
  (case z_bool=>k_is)
