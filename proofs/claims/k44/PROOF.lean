import PyProof.Rows.All
import Wide.All
import OpenK.AllK
import Wide.FinOn
import Lean
import PyProof.EqAt
import PyProof.EqKinds
import PyProof.TupleCall
import KE.KMinBuiltin
import KE.KRevSl
import KE.KSortTup
import KE.KTryMore
import Open.Pieces
import OpenK.KQuick
import OpenK.KWalk
import PyProof.CollectWalk
import PyProof.EnumMake
import PyProof.ExcAttrAll.ValueError
import PyProof.FitsBits
import PyProof.ListRange
import PyProof.NeKinds
import PyProof.Rows.SortRuns
import PyProof.ZipIter
import PySem.Challenge.RW_countkin_k44_gaps
set_option Elab.async false
set_option linter.all false
set_option maxRecDepth 100000
namespace L2
open PySem PySem.Spec PyProof.Rows
noncomputable abbrev Key:=Sum Int Str
noncomputable def iz:Key->Value->Bool
  | .inl k,v=>Value.isInt k v
  | .inr x,v=>Value.isStrOf x v
noncomputable def yW (w:World):Key->Int
  | .inl k=>hashInt k
  | .inr x=>hashStr w x
theorem bW:∀ {k:Key} {v:Value},iz k v=true->(∃ i t,k=Sum.inl i/\v=Value.int i t)\/(∃ x t,k=Sum.inr x/\v=Value.str x t)
  | .inl i,v,h=>by
    obtain ⟨t,e⟩:=Value.isInt_shape (k:=i) (v:=v) h
    exact .inl ⟨i,t,rfl,e⟩
  | .inr x,v,h=>by
    obtain ⟨t,e⟩:=Value.isStrOf_shape (x:=x) (v:=v) h
    exact .inr ⟨x,t,rfl,e⟩
theorem sM (i:Int) (t:Tok):iz (.inl i) (.int i t)=true:=by simp [iz,Value.isInt]
theorem qK (x:Str) (t:Tok):iz (.inr x) (.str x t)=true:=by simp [iz,Value.isStrOf]
theorem xc (a b:Int):decide ((Sum.inl a:Key)=Sum.inl b)=(a == b):=by
  by_cases e:a=b
  · subst e; simp
  · have h:¬ (Sum.inl a:Key)=Sum.inl b:=fun q=>e (Sum.inl.inj q)
    rw [decide_eq_false h]
    exact (beq_eq_false_iff_ne.mpr e).symm
theorem xp (a b:Str):decide ((Sum.inr a:Key)=Sum.inr b)=decide (a=b):=by
  by_cases e:a=b
  · subst e; simp
  · have h:¬ (Sum.inr a:Key)=Sum.inr b:=fun q=>e (Sum.inr.inj q)
    rw [decide_eq_false h,decide_eq_false e]
theorem wO (a:Int) (b:Str):decide ((Sum.inl a:Key)=Sum.inr b)=false:=decide_eq_false (fun q=>nomatch q)
theorem xw (a:Str) (b:Int):decide ((Sum.inr a:Key)=Sum.inl b)=false:=decide_eq_false (fun q=>nomatch q)
noncomputable def cj (prog:Program) (w:World):PySem.KeyKind prog w Key where
  is:=iz
  hash:=yW w
  inj:=fun v a b ha hb=>by
    rcases bW ha with ⟨i,t,rfl,rfl⟩ | ⟨x,t,rfl,rfl⟩
    · rcases bW hb with ⟨j,u,rfl,e⟩ | ⟨y,u,rfl,e⟩
      · injection e with e1 _; rw [e1]
      · exact nomatch e
    · rcases bW hb with ⟨j,u,rfl,e⟩ | ⟨y,u,rfl,e⟩
      · exact nomatch e
      · injection e with e1 _; rw [e1]
  byValue:=fun k v h=>by
    rcases bW h with ⟨i,t,rfl,rfl⟩ | ⟨x,t,rfl,rfl⟩<;>rfl
  pyHash:=fun hv h=>by
    rcases bW hv with ⟨i,t,rfl,rfl⟩ | ⟨x,t,rfl,rfl⟩
    · exact wpAny_pyHash_int h
    · exact wpAny_pyHash_str h
  eqBool:=fun hu hv h=>by
    rcases bW hu with ⟨i,t,rfl,rfl⟩ | ⟨x,t,rfl,rfl⟩
    · rcases bW hv with ⟨j,u,rfl,rfl⟩ | ⟨y,u,rfl,rfl⟩
      · rw [xc] at h; exact wpAny_eqBool_int h
      · rw [wO] at h; exact SeqAt.EqAt.int_str i t y u _ _ _ _ h
    · rcases bW hv with ⟨j,u,rfl,rfl⟩ | ⟨y,u,rfl,rfl⟩
      · rw [xw] at h; exact SeqAt.EqAt.str_int x t j u _ _ _ _ h
      · rw [xp] at h; exact wpAny_eqBool_str h
  «strs»:=fun k x t v h=>by
    rcases bW h with ⟨i,u,rfl,e⟩ | ⟨y,u,rfl,e⟩
    · exact nomatch e
    · injection e with e1 _
      subst e1
      cases v<;>rfl
theorem ox (prog:Program) (w:World) (i:Int) (t:Tok):(cj prog w).is (.inl i) (.int i t)=true:=sM i t
theorem ou (prog:Program) (w:World) (x:Str) (t:Tok):(cj prog w).is (.inr x) (.str x t)=true:=qK x t
end L2
namespace L2
open PySem PySem.Spec PyProof.Rows
inductive V where
  | non | bl (b:Bool) | int (i:Int) | str (x:Str) | byt (b:Array UInt8) | flt (b:UInt64) | ref (a:Addr) | ty (n:String)
  deriving DecidableEq
noncomputable def RelV:V->Value->Prop
  | .non,u=>u=Value.none
  | .bl b,u=>u=Value.bool b
  | .int i,u=>∃ t,u=Value.int i t
  | .str x,u=>∃ t,u=Value.str x t
  | .byt b,u=>∃ t,u=Value.bytes b t
  | .flt b,u=>∃ t,u=Value.float b t
  | .ref a,u=>u=Value.ref a
  | .ty n,u=>u=Value.type n
noncomputable abbrev Vals:List V->List Value->Prop:=Paired RelV
theorem Vals.length {xs:List V} {us:List Value} (r:Vals xs us):xs.length=us.length:=Paired.length r
theorem Vals.get:∀ {xs:List V} {us:List Value} {i:Nat} {x:V},Vals xs us->xs[i]? = some x->∃ u,us[i]? = some u/\RelV x u
  | _,_,_,_,.nil,e=>by simp at e
  | _,_,0,_,.cons r _,e=>by simp at e; subst e; exact ⟨_,rfl,r⟩
  | _,_,i+1,x,.cons _ t,e=>by
    obtain ⟨u,h1,h2⟩:=Vals.get (i:=i) (x:=x) t (by simpa using e)
    exact ⟨u,by simpa using h1,h2⟩
theorem Vals.set {x:V} {u:Value} (r:RelV x u):∀ {xs:List V} {us:List Value} (i:Nat),Vals xs us->Vals (xs.set i x) (us.set i u)
  | _,_,_,.nil=>.nil
  | _,_,0,.cons _ t=>.cons r t
  | _,_,i+1,.cons q t=>.cons q (Vals.set r i t)
theorem Vals.append:∀ {xs ys:List V} {us ws:List Value},Vals xs us->Vals ys ws->Vals (xs++ys) (us++ws)
  | _,_,_,_,.nil,s=>s
  | _,_,_,_,.cons r t,s=>.cons r (Vals.append t s)
theorem Vals.take:∀ {xs:List V} {us:List Value} (n:Nat),Vals xs us->Vals (xs.take n) (us.take n)
  | _,_,0,_=>.nil
  | _,_,_+1,.nil=>.nil
  | _,_,n+1,.cons r t=>.cons r (Vals.take n t)
theorem Vals.drop:∀ {xs:List V} {us:List Value} (n:Nat),Vals xs us->Vals (xs.drop n) (us.drop n)
  | _,_,0,r=>r
  | _,_,_+1,.nil=>.nil
  | _,_,n+1,.cons _ t=>Vals.drop n t
noncomputable def dw:Option V->Option Value->Prop
  | some v,some u=>RelV v u
  | none,none=>True
  | _,_=>False
noncomputable def KV {κ:Type}:List (κ × V)->List (κ × Value)->Prop:=Paired fun (p:κ × V) (q:κ × Value)=>p.1=q.1/\RelV p.2 q.2
noncomputable def kV:Key->V
  | .inl i=>.int i
  | .inr x=>.str x
inductive HO where
  | lst (xs:List V)
  | tup (xs:List V)
  | dK (kvs:List (Key × V)) | dT (kvs:List (List Key × V))
  | set (S:Int->Bool) (n:Nat)
  | ins (C dx:Addr) (fs:List (Str × V))
  | own (x:Addr)
  | xd (fs:List (Str × V))
  | met (f x:Addr)
  | rng (lo hi:Int)
  | frz (o:Obj) (u:HO)
  | tbl (ps:Array Value)
  | ext (φ:Heap->Prop)
noncomputable abbrev Hp:=Addr->Option HO
noncomputable def upd (H:Hp) (a:Addr) (o:HO):Hp:=fun b=>if b=a then some o else H b
theorem af {H:Hp} {a:Addr} {o:HO}:upd H a o a=some o:=by unfold upd; rw [if_pos rfl]
theorem ao {H:Hp} {a b:Addr} {o:HO} (h:b≠a):upd H a o b=H b:=by unfold upd; rw [if_neg h]
theorem kz {H:Hp} {a:Addr} {o u:HO}:upd (upd H a o) a u=upd H a u:=by
  funext b; unfold upd; split<;>rfl
theorem uB {H:Hp} {a b:Addr} {o u:HO} (h:H a=some o) (h':H b=some u) (d:o≠u):a≠b:=by
  intro e; subst e; rw [h] at h'; exact d (Option.some.inj h')
theorem au {H:Hp} {a b:Addr} {o:HO} (h:H a=some o) (h':H b=none):a≠b:=by
  intro e; subst e; rw [h] at h'; cases h'
section
variable (P:Program) (w:World)
noncomputable def bo (H:Hp) (h:Heap) (a:Addr):HO->Prop
  | .lst xs=>xs.length<=sizeLine/\∃ (its:List Value) (n:Nat),Vals xs its/\h.get? a=some { cls:=.type "list",data:=.seq its.toArray n }
  | .tup xs=>xs.length<=sizeLine/\∃ its:List Value,Vals xs its/\IsTup h a its.toArray
  | .dK kvs=>kvs.length<=sizeLine/\(a == sysModules)=false/\∃ vs,KV kvs vs/\h.DictOf (cj P w) a vs
  | .dT kvs=>kvs.length<=sizeLine/\(a == sysModules)=false/\∃ xs:List (List Key × Addr × Value),
      Paired (fun (p:List Key × V) (q:List Key × Addr × Value)=>p.1=q.1/\H q.2.1=some (.tup (p.1.map kV))/\RelV p.2 q.2.2) kvs xs /\
      ∃ o es ep,h.get? a=some o/\o.ExactDict/\o.data = .dict es ep/\es.toList=xs.map (entryOfKey (tupleKind (cj P w)))/\(xs.map (·.1)).Nodup
  | .set S n=>h.SetOf (intKind P w) a S n
  | .ins C dx fs=>H dx=some (.own a)/\fs.length<=1000/\dx≠a/\h.get? a=some (PySem.W.instObj C dx) /\
      ∃ mA,h.Ns1 dx mA/\(∀ f,dw (fs.lookup f) (mA f))/\PySem.Within mA (fs.map (·.1))
  | .own _=>∃ o,h.get? a=some o
  | .xd fs=>∃ mA,h.Ns1 a mA/\∀ f,dw (fs.lookup f) (mA f)
  | .rng lo hi=>∃ t u v,h.get? a=some { cls:=.type "range",data:=.fields #[.int lo t,.int hi u,.int 1 v] }
  | .frz o u=>h.get? a=some o/\bo H h a u
  | .tbl ps=>h.get? a=some { cls:=.none,data:=.fields ps }
  | .met f x=>h.get? a=some (PySem.W.methodObj (.ref f) (.ref x))
  | .ext φ=>φ h/\(∃ o,h.get? a=some o)/\∀ h1 h2:Heap,φ h1->(∀ o,h1.get? a=some o->h2.get? a=some o)->φ h2
def cw (H:Hp) (h:Heap):Prop:=∀ a o,H a=some o->bo P w H h a o
end
section
variable {P:Program} {w:World} {H H':Hp} {h h':Heap} {a:Addr} {o:HO}
theorem bo.lt (x:bo P w H h a o):a < h.objs.size:=by
  cases o with
  | lst xs=>obtain ⟨_,_,_,_,e⟩:=x; exact Heap.lt_size e
  | tup xs=>obtain ⟨_,_,_,p⟩:=x; exact p.lt
  | dK kvs=>obtain ⟨_,_,_,_,o,_,_,e,_⟩:=x; exact Heap.lt_size e
  | dT kvs=>obtain ⟨_,_,_,_,o,_,_,e,_⟩:=x; exact Heap.lt_size e
  | set S n=>obtain ⟨o,_,_,_,e,_⟩:=x; exact Heap.lt_size e
  | ins C dx fs=>obtain ⟨_,_,_,e,_⟩:=x; exact Heap.lt_size e
  | own y=>obtain ⟨_,e⟩:=x; exact Heap.lt_size e
  | xd fs=>obtain ⟨_,⟨_,_,_,e,_⟩,_⟩:=x; exact Heap.lt_size e
  | rng lo hi=>obtain ⟨_,_,_,e⟩:=x; exact Heap.lt_size e
  | frz ob u=>obtain ⟨e,_⟩:=x; exact Heap.lt_size e
  | tbl ps=>exact Heap.lt_size (show h.get? a=some _ from x)
  | met f y=>exact Heap.lt_size (show h.get? a=some _ from x)
  | ext φ=>obtain ⟨_,⟨_,e⟩,_⟩:=x; exact Heap.lt_size e
theorem Paired.mapP {α β:Type} {F G:α->β->Prop}:∀ {l₁:List α} {l₂:List β},Paired F l₁ l₂->(∀ a b,F a b->G a b)->Paired G l₁ l₂
  | _,_,.nil,_=>.nil
  | _,_,.cons r t,f=>.cons (f _ _ r) (Paired.mapP t f)
theorem bo.stay (x:bo P w H h a o) (k:∀ b u,(b=a\/H b=some (.own a))->h.get? b=some u->h'.get? b=some u)
    (ho:∀ b,H b=some (.own a)->H' b=some (.own a)) (ht:∀ b xs,H b=some (.tup xs)->H' b=some (.tup xs)):bo P w H' h' a o:=by
  induction o with
  | lst xs=>obtain ⟨z,its,n,r,e⟩:=x; exact ⟨z,its,n,r,k _ _ (.inl rfl) e⟩
  | tup xs=>obtain ⟨z,its,r,ob,e,c⟩:=x; exact ⟨z,its,r,ob,k _ _ (.inl rfl) e,c⟩
  | dK kvs=>obtain ⟨z,y,vs,r,ob,es,ep,e,c⟩:=x; exact ⟨z,y,vs,r,ob,es,ep,k _ _ (.inl rfl) e,c⟩
  | dT kvs =>
    obtain ⟨z,y,xs,r,ob,es,ep,e,c⟩:=x
    exact ⟨z,y,xs,Paired.mapP r fun p q z=>⟨z.1,ht _ _ z.2.1,z.2.2⟩,ob,es,ep,k _ _ (.inl rfl) e,c⟩
  | set S n=>obtain ⟨ob,es,ep,t,e,c⟩:=x; exact ⟨ob,es,ep,t,k _ _ (.inl rfl) e,c⟩
  | ins C dx fs =>
    obtain ⟨d,z,ne,e,mA,⟨od,es,ep,e2,c⟩,r⟩:=x
    exact ⟨ho _ d,z,ne,k _ _ (.inl rfl) e,mA,⟨od,es,ep,k _ _ (.inr d) e2,c⟩,r⟩
  | own y=>obtain ⟨ob,e⟩:=x; exact ⟨ob,k _ _ (.inl rfl) e⟩
  | xd fs=>obtain ⟨mA,⟨od,es,ep,e,c⟩,r⟩:=x; exact ⟨mA,⟨od,es,ep,k _ _ (.inl rfl) e,c⟩,r⟩
  | rng lo hi=>obtain ⟨t,u,v,e⟩:=x; exact ⟨t,u,v,k _ _ (.inl rfl) e⟩
  | frz ob u ih=>obtain ⟨e,q⟩:=x; exact ⟨k _ _ (.inl rfl) e,ih q⟩
  | tbl ps =>
    have e:h.get? a=some { cls:=.none,data:=.fields ps }:=x
    show h'.get? a=some { cls:=.none,data:=.fields ps }
    exact k a _ (.inl rfl) e
  | met f y =>
    have e:h.get? a=some (PySem.W.methodObj (.ref f) (.ref y)):=x
    show h'.get? a=some (PySem.W.methodObj (.ref f) (.ref y))
    exact k a _ (.inl rfl) e
  | ext φ=>obtain ⟨p,⟨o,e⟩,st⟩:=x; exact ⟨st _ _ p fun o q=>k _ _ (.inl rfl) q,⟨o,k _ _ (.inl rfl) e⟩,st⟩
theorem cw.lt (x:cw P w H h) (e:H a=some o):a < h.objs.size:=(x a o e).lt
theorem cw.fresh (x:cw P w H h) (e:h.objs.size<=a):H a=none:=by
  cases q:H a with
  | none=>rfl
  | some u=>exact absurd (Nat.lt_of_lt_of_le (x.lt q) e) (Nat.lt_irrefl _)
theorem cw.kept (x:cw P w H h) (k:∀ b u,h.get? b=some u->h'.get? b=some u):cw P w H h':=fun a o e =>
  (x a o e).stay (fun b u _ q=>k b u q) (fun _ q=>q) fun _ _ q=>q
theorem cw.laid (x:cw P w H h) (k:∀ b u,h.get? b=some u->h'.get? b=some u) (hp:h.objs.size<=a) (new:bo P w (upd H a o) h' a o):cw P w (upd H a o) h':=fun b u e=>by
  have hn:=x.fresh hp
  by_cases hb:b=a
  · subst hb; rw [af] at e; cases e; exact new
  · rw [ao hb] at e
    exact (x b u e).stay (fun c v _ q=>k c v q) (fun c q=>by rw [ao (au q hn)]; exact q) fun c xs q=>by rw [ao (au q hn)]; exact q
end
def Rd (H:Hp) (a:Addr) (u:HO):Prop:=H a=some u\/∃ o,H a=some (.frz o u)
theorem Rd.ok {P:Program} {w:World} {H:Hp} {h:Heap} {a:Addr} {u:HO} (r:Rd H a u) (x:cw P w H h):bo P w H h a u:=by
  rcases r with r | ⟨o,r⟩
  · exact x a u r
  · obtain ⟨_,q⟩:=x a _ r
    exact q
noncomputable def so:Option HO->Prop
  | some (.lst _)=>True
  | some (.dK _)=>True
  | some (.dT _)=>True
  | some (.set _ _)=>True
  | some (.ins _ _ _)=>True
  | some (.ext _)=>True
  | _=>False
section
variable {P:Program} {w:World} {H:Hp} {h h':Heap} {x e:Addr} {o':HO}
theorem cw.write (ok:cw P w H h) (mu:so (H x)) (he:e=x\/H e=some (.own x)) (k:∀ b u,b≠e->h.get? b=some u->h'.get? b=some u) (heo:∃ u,h'.get? e=some u)
    (new:bo P w (upd H x o') h' x o'):cw P w (upd H x o') h':=fun b u q=>by
  have nown:∀ c y,H c=some (.own y)->c≠x:=fun c y r z=>by subst z; rw [r] at mu; exact mu
  have ntup:∀ c xs,H c=some (.tup xs)->c≠x:=fun c xs r z=>by subst z; rw [r] at mu; exact mu
  by_cases hb:b=x
  · subst hb; rw [af] at q; cases q; exact new
  · rw [ao hb] at q
    by_cases hbe:b=e
    · have q':H b=some (.own x):=by
        rcases he with z | z
        · exact absurd (hbe.trans z) hb
        · rw [hbe]; exact z
      rw [q] at q'; cases q'
      obtain ⟨v,hv⟩:=heo
      exact ⟨v,by rw [hbe]; exact hv⟩
    · refine (ok b u q).stay (fun c v hc r=>k c v ?_ r) (fun c r=>by rw [ao (nown c b r)]; exact r) fun c xs r=>by rw [ao (ntup c xs r)]; exact r
      rcases hc with rfl | hc
      · exact hbe
      · rintro rfl
        rcases he with z | z
        · exact nown c b hc z
        · rw [hc] at z; cases z; exact hb rfl
end
structure Un (fs ex:List Addr) (H H':Hp) (h h':Heap):Prop where
  keep:∀ b o,h.get? b=some o->H b=none->b∉fs->b∉ex->h'.get? b=some o
  slot:∀ b o,h.get? b=some o->H b=none->b∈fs->b∉ex->∃ sl,h'.get? b=some { o with slots:=sl }
  free:∀ b o,h.get? b=some o->H b=none->b∉ex->H' b=none
  there:∀ b o,h.get? b=some o->b∉ex->∃ o',h'.get? b=some o'
  tups:∀ b xs,H b=some (.tup xs)->H' b=some (.tup xs)
  frzs:∀ b o u,H b=some (.frz o u)->H' b=some (.frz o u)
  tbls:∀ b ps,H b=some (.tbl ps)->∃ more,H' b=some (.tbl (ps++more))
section
variable {fs fs' ex ex':List Addr} {H H1 H2:Hp} {h h1 h2 h':Heap} {a x e:Addr} {o:HO}
theorem Un.any (u:Un fs ex H H1 h h1) {b:Addr} {ob:Obj} (q:h.get? b=some ob) (n:H b=none) (hx:b∉ex):∃ sl,h1.get? b=some { ob with slots:=sl }:=by
  by_cases hb:b∈fs
  · exact u.slot b ob q n hb hx
  · exact ⟨ob.slots,u.keep b ob q n hb hx⟩
theorem Un.kept (k:∀ b u,h.get? b=some u->h'.get? b=some u):Un fs ex H H h h' :=
  ⟨fun b ob q _ _ _=>k b ob q,fun b ob q _ _ _=>⟨ob.slots,k b ob q⟩,fun _ _ _ n _=>n,fun b ob q _=>⟨ob,k b ob q⟩,fun _ _ q=>q,fun _ _ _ q=>q,fun _ ps q=>⟨#[],by rw [q]; simp⟩⟩
theorem Un.refl:Un fs ex H H h h:=Un.kept fun _ _ q=>q
theorem Un.laid (k:∀ b u,h.get? b=some u->h'.get? b=some u) (hp:h.objs.size<=a) (hn:H a=none):Un fs ex H (upd H a o) h h' where
  keep:=fun b u q _ _ _=>k b u q
  slot:=fun b u q _ _ _=>⟨u.slots,k b u q⟩
  free:=fun b u q n _=>by rw [ao (Nat.ne_of_lt (Nat.lt_of_lt_of_le (Heap.lt_size q) hp))]; exact n
  there:=fun b u q _=>⟨u,k b u q⟩
  tups:=fun b xs q=>by rw [ao (au q hn)]; exact q
  frzs:=fun b u xs q=>by rw [ao (au q hn)]; exact q
  tbls:=fun b ps q=>⟨#[],by rw [ao (au q hn),q]; simp⟩
theorem Un.write (mu:so (H x)) (he:e=x\/H e=some (.own x)) (k:∀ b u,b≠e->h.get? b=some u->h'.get? b=some u) (heo:∃ u,h'.get? e=some u):Un fs ex H (upd H x o) h h':=by
  have hx:∀ b,H b=none->b≠x:=fun b n z=>by subst z; rw [n] at mu; exact mu
  have hb:∀ b,H b=none->b≠e:=fun b n z=>by
    subst z
    rcases he with r | r
    · exact hx b n r
    · rw [n] at r; cases r
  have hm:∀ b u,H b=some u->¬ so (some u)->b≠x:=fun b u q nm z=>by subst z; rw [q] at mu; exact nm mu
  refine ⟨fun b u q n _ _=>k b u (hb b n) q,fun b u q n _ _=>⟨u.slots,k b u (hb b n) q⟩,fun b u q n _=>by rw [ao (hx b n)]; exact n,fun b u q _=>?_,
    fun b xs q=>by rw [ao (hm b _ q fun z=>z)]; exact q,fun b u xs q=>by rw [ao (hm b _ q fun z=>z)]; exact q,fun b ps q=>⟨#[],by rw [ao (hm b _ q fun z=>z),q]; simp⟩⟩
  by_cases hbe:b=e
  · subst hbe; exact heo
  · exact ⟨u,k b u hbe q⟩
end
noncomputable def uy (h:Heap) (H:Hp):List Addr:=(List.range h.objs.size).filter fun a=>(H a).isSome
noncomputable def gj (h:Heap) (H:Hp):Heap:=PySem.W.hideAll h (uy h H)
theorem rl (h:Heap) (H:Hp):(gj h H).objs.size=h.objs.size:=PySem.W.hideAll_size _ _
theorem tq {h:Heap} {H:Hp} {b:Addr} {o:Obj} (e:h.get? b=some o) (n:H b=none):(gj h H).get? b=some o :=
  PySem.W.hideAll_get _ e fun hm=>by
    have q:(H b).isSome=true:=(List.mem_filter.mp hm).2
    rw [n] at q; simp at q
theorem uU {h:Heap} {H:Hp} {b:Addr} {o:Obj} (e:(gj h H).get? b=some o):h.get? b=some o/\H b=none:=by
  have e':h.get? b=some o:=PySem.W.of_hideAll (uy h H) e
  refine ⟨e',?_⟩
  cases q:H b with
  | none=>rfl
  | some x =>
    have hm:b∈uy h H:=List.mem_filter.mpr ⟨List.mem_range.mpr (Heap.lt_size e'),by simp [q]⟩
    have z:(gj h H).get? b=none:=PySem.W.hideAll_none (uy h H) hm
    rw [z] at e; cases e
noncomputable def va (g h:Heap) (L:Addr):List (Addr × Obj):=(List.range h.objs.size).filterMap fun a=>if a=L\/(g.get? a).isSome=true then none else (h.get? a).map fun o=>(a,o)
noncomputable def rest (g h:Heap) (L d:Addr):List (Addr × Obj):=(va g h L).filter fun p=>decide (p.1≠d)
end L2
namespace L2
open PySem PySem.Spec PyProof.Rows
structure Mod (K:PySem.W.Frag) (mg:Str->Option Value) (base:Heap):Prop where
  kin:K.In base
  glob:base.Ns mainGlobals mg
  blt:∃ mb,base.Ns builtinsNs mb/\∀ x:Str,x≠"__name__"->mb x=bootBuiltins x
  nolimit:base.NoLimit
structure Cx where
  prog:Program
  w:World
  K:PySem.W.Frag
  mg:Str->Option Value
  base:Heap
  A:Around
  N:List Str
  s₀:Shared
  H₀:Hp
  env:Env
  outer:List Env
  stack:List Env
  ex:List Addr
  fn:Str->Bool
  calm:Bool
  pn:List (Addr × Obj)
  xe:Value->Shared->Prop
noncomputable def fQ (l:List Env):List Addr:=l.filterMap (·.frame)
noncomputable abbrev Cx.fs (X:Cx):List Addr:=fQ X.outer
def xo (sc:Scope) (x:Str):Prop:=sc.names.lookup x=some .local\/sc.names.lookup x=some .cell\/sc.names.lookup x=some .free
def Loc (sc:Scope) (x:Str):Prop:=sc.names.lookup x=some .local\/sc.names.lookup x=some .cell
def Look (env:Env) (h:Heap) (m:Str->Option Value) (x:Str) (u:Value):Prop :=
  (env.kindOf x=some .local/\m x=some u)\/((env.kindOf x=some .cell\/env.kindOf x=some .free)/\∃ c,env.cells.lookup x=some c/\h.IsCell c (some u))
structure Cx.Ok (X:Cx):Prop where
  mod:Mod X.K X.mg X.base
  kind:X.env.scope.kind = .function
  glob:X.env.globals=mainGlobals
  blt:X.env.builtins=builtinsNs
  above:X.s₀.heap.objs.size<=X.env.locals
  inj:∀ x y c,X.env.cells.lookup x=some c->X.env.cells.lookup y=some c->x=y
  has:∀ x,(X.env.kindOf x=some .cell\/X.env.kindOf x=some .free)->∃ c,X.env.cells.lookup x=some c
  cab:∀ x c,X.fn x=true->X.env.cells.lookup x=some c->X.s₀.heap.objs.size<=c
  hd:X.calm=true->X.A.handled=none
  frames:X.A.frames=some X.stack
  stk:X.stack=X.outer\/(X.stack=X.env::X.outer/\X.env.frame=some X.env.locals)
  exf:∀ b∈X.ex,b≠X.env.locals/\∀ x c,X.env.cells.lookup x=some c->c≠b
  bs:∀ b o,X.base.get? b=some o->X.s₀.heap.get? b=some o/\X.H₀ b=none
  bsz:X.base.objs.size<=X.s₀.heap.objs.size
  noex:∀ b o,X.base.get? b=some o->b∉X.ex
  exfs:∀ b∈X.ex,b∉X.fs
  funs:X.s₀.heap.FunFrames X.base X.outer
  frf:∀ b∈X.fs,X.H₀ b=none
structure Inv (X:Cx) (pins:List (Addr × Obj)) (σ:List (Option V)) (H:Hp) (s:Shared):Prop where
  ok:X.Ok
  os:s.os=X.s₀.os
  bare:AllBare s.gens
  base:Un X.fs X.ex X.H₀ H X.s₀.heap s.heap
  loc:∃ m,s.heap.Ns X.env.locals m/\∀ (i:Nat) (x:Str) (v:V),X.N[i]? = some x->σ[i]? = some (some v)->xo X.env.scope x->∃ u,RelV v u/\Look X.env s.heap m x u
  cell:∀ x c,X.env.cells.lookup x=some c->∃ v,s.heap.IsCell c v
  free:H X.env.locals=none
  freeC:∀ x c,X.env.cells.lookup x=some c->H c=none
  pin:∀ p∈X.pn++pins,s.heap.get? p.1=some p.2/\H p.1=none/\p.1≠X.env.locals/\p.1∉X.fs/\∀ v,p.2.data≠.cell v
  hok:cw X.prog X.w H s.heap
  len:σ.length=X.N.length
section
variable {X:Cx} {pins:List (Addr × Obj)} {σ:List (Option V)} {H H':Hp} {s:Shared} {h':Heap}
theorem Cx.Ok.nofr (ok:X.Ok) {b:Addr} {o:Obj} (e:X.base.get? b=some o):b∉X.fs:=fun hb=>by
  have:=(ok.funs.mem hb).1
  rw [e] at this; cases this
theorem Inv.bs (I:Inv X pins σ H s):∀ b o,X.base.get? b=some o->s.heap.get? b=some o/\H b=none:=fun b o e =>
  ⟨I.base.keep b o (I.ok.bs b o e).1 (I.ok.bs b o e).2 (I.ok.nofr e) (I.ok.noex b o e),I.base.free b o (I.ok.bs b o e).1 (I.ok.bs b o e).2 (I.ok.noex b o e)⟩
theorem Inv.bk (I:Inv X pins σ H s):∀ b o,X.base.get? b=some o->s.heap.get? b=some o:=fun b o e=>(I.bs b o e).1
theorem Inv.mod (I:Inv X pins σ H s):Mod X.K X.mg X.base:=I.ok.mod
theorem Inv.kIn (I:Inv X pins σ H s):X.K.In s.heap:=I.ok.mod.kin.keeps I.bk
theorem Inv.fr (I:Inv X pins σ H s):∃ m,Fr X.base X.env.locals s.heap m :=
  let ⟨m,hn,_⟩:=I.loc
  ⟨m,hn,I.bk,Nat.le_trans I.ok.bsz I.ok.above⟩
theorem Inv.lt (I:Inv X pins σ H s):X.env.locals < s.heap.objs.size:=let ⟨_,hn,_⟩:=I.loc; hn.lt
theorem Inv.sz (I:Inv X pins σ H s):X.s₀.heap.objs.size<=s.heap.objs.size:=Nat.le_trans I.ok.above (Nat.le_of_lt I.lt)
theorem Inv.nofs (I:Inv X pins σ H s) {a:Addr} (h:s.heap.objs.size<=a):a∉X.fs:=fun hb=>by
  obtain ⟨_,o,ho,_⟩:=I.ok.funs.mem hb
  exact absurd (Nat.lt_of_lt_of_le (Heap.lt_size ho) (Nat.le_trans I.sz h)) (Nat.lt_irrefl _)
theorem Inv.cne (I:Inv X pins σ H s):∀ x c,X.env.cells.lookup x=some c->c≠X.env.locals:=fun x c e z=>by
  obtain ⟨v,o,ho,hd⟩:=I.cell x c e
  obtain ⟨m,⟨o',es,ep,ho',hd',_⟩,_⟩:=I.loc
  rw [z,ho'] at ho; cases ho; rw [hd'] at hd; cases hd
theorem Inv.funs (I:Inv X pins σ H s):s.heap.FunFrames X.base X.outer:=by
  have all:∀ (l:List Env),(∀ b∈fQ l,b∈X.fs)->X.s₀.heap.FunFrames X.base l->s.heap.FunFrames X.base l:=by
    intro l
    induction l with
    | nil=>intro _ _; trivial
    | cons env r ih =>
      intro hs hl
      obtain ⟨hk,⟨L,o,hf,hn,ho,hd⟩,hr⟩:=hl
      have hL:L∈X.fs:=hs L (by unfold fQ; rw [List.filterMap_cons,hf]; exact List.mem_cons_self)
      obtain ⟨sl,e⟩:=I.base.slot L o ho (I.ok.frf L hL) hL fun z=>I.ok.exfs L z hL
      exact ⟨hk,⟨L,_,hf,hn,e,hd⟩,ih (fun b hb=>hs b (by unfold fQ; rw [List.filterMap_cons,hf]; exact List.mem_cons_of_mem _ hb)) hr⟩
  exact all X.outer (fun _ hb=>hb) I.ok.funs
theorem Inv.stack (I:Inv X pins σ H s):s.heap.FunFrames X.base X.stack:=by
  rcases I.ok.stk with e | ⟨e,hf⟩
  · rw [e]; exact I.funs
  · rw [e]
    obtain ⟨m,hn,_⟩:=I.loc
    refine .cons (by rw [I.ok.kind]; decide) hf hn ?_ I.funs
    exact Heap.get?_none_of_le (Nat.le_trans I.ok.bsz I.ok.above)
theorem Inv.stkSub (I:Inv X pins σ H s):∀ b∈fQ X.stack,b∈X.env.locals::X.fs:=fun b hb=>by
  rcases I.ok.stk with e | ⟨e,hf⟩
  · rw [e] at hb; exact List.mem_cons_of_mem _ hb
  · rw [e] at hb
    unfold fQ at hb
    rw [List.filterMap_cons,hf] at hb
    exact hb
theorem Inv.stkFree (I:Inv X pins σ H s):∀ b∈fQ X.stack,H b=none:=fun b hb=>by
  rcases List.mem_cons.mp (I.stkSub b hb) with e | hb
  · rw [e]; exact I.free
  · obtain ⟨_,o,ho,_⟩:=I.ok.funs.mem hb
    exact I.base.free b o ho (I.ok.frf b hb) fun z=>I.ok.exfs b z hb
theorem Inv.step {g':Array GenState} {t':Nat} {d':Drawn} {ch:List Addr} (I:Inv X pins σ H s)
    (hch:∀ b∈ch,(b∈X.ex\/X.s₀.heap.objs.size<=b)/\b≠X.env.locals/\(∀ x c,X.env.cells.lookup x=some c->c≠b)/\∀ p∈X.pn++pins,p.1≠b)
    (keep:∀ b o,b≠X.env.locals->b∉X.fs->b∉ch->s.heap.get? b=some o->H b=none->h'.get? b=some o)
    (slot:∀ b o,b≠X.env.locals->b∈X.fs->b∉ch->s.heap.get? b=some o->H b=none->∃ sl,h'.get? b=some { o with slots:=sl }) (free:∀ b o,b∉ch->s.heap.get? b=some o->H b=none->H' b=none)
    (there:∀ b o,b∉ch->s.heap.get? b=some o->∃ o',h'.get? b=some o')
    (tups:∀ b xs,H b=some (.tup xs)->H' b=some (.tup xs)) (frzs:∀ b o u,H b=some (.frz o u)->H' b=some (.frz o u)) (tbls:∀ b ps,H b=some (.tbl ps)->∃ more,H' b=some (.tbl (ps++more)))
    (ns:∀ m,s.heap.Ns X.env.locals m->h'.Ns X.env.locals m) (hok:cw X.prog X.w H' h') (hg:AllBare g') :
    Inv X pins σ H' { s with heap:=h',gens:=g',drawn:=d',toks:=t' }:=by
  have neL:∀ b o,X.s₀.heap.get? b=some o->b≠X.env.locals:=fun b o e=>Nat.ne_of_lt (Nat.lt_of_lt_of_le (Heap.lt_size e) I.ok.above)
  have neC:∀ b o,X.s₀.heap.get? b=some o->b∉X.ex->b∉ch:=fun b o e hx hb=>by
    rcases (hch b hb).1 with z | z
    · exact hx z
    · exact absurd (Nat.lt_of_lt_of_le (Heap.lt_size e) z) (Nat.lt_irrefl _)
  have cellK:∀ x c,X.env.cells.lookup x=some c->∀ v,s.heap.IsCell c v->h'.IsCell c v:=fun x c e v ⟨o,ho,hd⟩=>by
    have nch:c∉ch:=fun z=>(hch c z).2.2.1 x c e rfl
    by_cases hc:c∈X.fs
    · obtain ⟨sl,q⟩:=slot c o (I.cne x c e) hc nch ho (I.freeC x c e)
      exact ⟨_,q,hd⟩
    · exact ⟨o,keep c o (I.cne x c e) hc nch ho (I.freeC x c e),hd⟩
  refine ⟨I.ok,I.os,hg,⟨fun b o e n hb hx=>?_,fun b o e n hb hx=>?_,fun b o e n hx=>?_,fun b o e hx=>?_,fun b xs e=>tups b xs (I.base.tups b xs e),fun b o xs e=>frzs b o xs (I.base.frzs b o xs e),fun b ps e=>?_⟩,?_,fun x c e=>?_,?_,fun x c e=>?_,fun p hp=>?_,hok,I.len⟩
  · exact keep b o (neL b o e) hb (neC b o e hx) (I.base.keep b o e n hb hx) (I.base.free b o e n hx)
  · obtain ⟨sl,e1⟩:=I.base.slot b o e n hb hx
    obtain ⟨sl',e2⟩:=slot b _ (neL b o e) hb (neC b o e hx) e1 (I.base.free b o e n hx)
    exact ⟨sl',e2⟩
  · obtain ⟨o',e1⟩:=I.base.there b o e hx
    exact free b o' (neC b o e hx) e1 (I.base.free b o e n hx)
  · obtain ⟨o',e1⟩:=I.base.there b o e hx
    exact there b o' (neC b o e hx) e1
  · obtain ⟨m1,e1⟩:=I.base.tbls b ps e
    obtain ⟨m2,e2⟩:=tbls b _ e1
    exact ⟨m1++m2,by rw [e2,Array.append_assoc]⟩
  · obtain ⟨m,hn,hl⟩:=I.loc
    refine ⟨m,ns m hn,fun i x v e1 e2 e3=>?_⟩
    obtain ⟨u,r,l⟩:=hl i x v e1 e2 e3
    refine ⟨u,r,?_⟩
    rcases l with l | ⟨k,c,e,z⟩
    · exact .inl l
    · exact .inr ⟨k,c,e,cellK x c e _ z⟩
  · obtain ⟨v,z⟩:=I.cell x c e
    exact ⟨v,cellK x c e v z⟩
  · obtain ⟨m,⟨o,_,_,ho,_⟩,_⟩:=I.loc
    exact free _ o (fun z=>(hch _ z).2.1 rfl) ho I.free
  · obtain ⟨v,o,ho,hd⟩:=I.cell x c e
    exact free c o (fun z=>(hch c z).2.2.1 x c e rfl) ho (I.freeC x c e)
  · obtain ⟨e,n,ne,nf,d⟩:=I.pin p hp
    have nch:p.1∉ch:=fun z=>(hch p.1 z).2.2.2 p hp rfl
    exact ⟨keep p.1 p.2 ne nf nch e n,free p.1 p.2 nch e n,ne,nf,d⟩
theorem Inv.un {t':Nat} (I:Inv X pins σ H s) (u:Un X.fs [] H H' s.heap h') (hok:cw X.prog X.w H' h'):Inv X pins σ H' { s with heap:=h',toks:=t' }:=by
  obtain ⟨m,⟨o,es,ep,ho,r⟩,_⟩:=id I.loc
  obtain ⟨sl,hL⟩:=u.any ho I.free (by simp)
  exact I.step (g':=s.gens) (d':=s.drawn) (ch:=[]) (fun _ z=>nomatch z) (fun b o _ hb _ e n=>u.keep b o e n hb (by simp)) (fun b o _ hb _ e n=>u.slot b o e n hb (by simp)) (fun b o _ e n=>u.free b o e n (by simp)) (fun b o _ e=>u.there b o e (by simp)) u.tups u.frzs u.tbls (fun m' hm=>by
    obtain ⟨o',es',ep',ho',r'⟩:=hm
    rw [ho] at ho'; cases ho'
    exact ⟨_,es',ep',hL,r'⟩) hok I.bare
theorem Inv.call {g':Array GenState} {t':Nat} {d':Drawn} {ch:List Addr} (I:Inv X pins σ H s) (u:Un (fQ X.stack) ch H H' s.heap h') (hok:cw X.prog X.w H' h') (hg:AllBare g')
    (hch:∀ b∈ch,(b∈X.ex\/X.s₀.heap.objs.size<=b)/\b≠X.env.locals/\(∀ x c,X.env.cells.lookup x=some c->c≠b)/\∀ p∈X.pn++pins,p.1≠b) :
    Inv X pins σ H' { s with heap:=h',gens:=g',drawn:=d',toks:=t' }:=by
  obtain ⟨m,⟨o,es,ep,ho,r⟩,_⟩:=id I.loc
  obtain ⟨sl,hL⟩:=u.any ho I.free fun z=>(hch _ z).2.1 rfl
  exact I.step (ch:=ch) hch (fun b o hL hb hc e n=>u.keep b o e n (fun z=>(List.mem_cons.mp (I.stkSub b z)).elim hL hb) hc) (fun b o _ _ hc e n=>u.any e n hc) (fun b o hc e n=>u.free b o e n hc) (fun b o hc e=>u.there b o e hc) u.tups u.frzs u.tbls (fun m' hm=>by
    obtain ⟨o',es',ep',ho',r'⟩:=hm
    rw [ho] at ho'; cases ho'
    exact ⟨_,es',ep',hL,r'⟩) hok hg
theorem Inv.turned {t':Nat} {it:Addr} (I:Inv X pins σ H s) (k:∀ b o,b≠it->s.heap.get? b=some o->h'.get? b=some o) (hn:H it=none) (hL:it≠X.env.locals)
    (h1:it∈X.ex\/X.s₀.heap.objs.size<=it) (h2:∀ x c,X.env.cells.lookup x=some c->c≠it) (h3:∀ p∈X.pn++pins,p.1≠it):Inv X pins σ H { s with heap:=h',toks:=t' }:=by
  have nit:∀ b u,H b=some u->b≠it:=fun b u e z=>by rw [z,hn] at e; cases e
  refine I.step (g':=s.gens) (d':=s.drawn) (ch:=[it]) (fun b hb=>?_) (fun b o _ _ hc e _=>k b o (fun z=>hc (by simp [z])) e) (fun b o _ _ hc e _=>⟨o.slots,k b o (fun z=>hc (by simp [z])) e⟩) (fun _ _ _ _ n=>n)
    (fun b o hc e=>⟨o,k b o (fun z=>hc (by simp [z])) e⟩) (fun _ _ e=>e) (fun _ _ _ e=>e) (fun b ps e=>⟨#[],by rw [e]; simp⟩) (fun m hm=>?_) (fun b u e=>?_) I.bare
  · have e:b=it:=by simpa using hb
    subst e
    exact ⟨h1,hL,h2,h3⟩
  · obtain ⟨o,es,ep,ho,r⟩:=hm
    exact ⟨o,es,ep,k _ o (Ne.symm hL) ho,r⟩
  · refine (I.hok b u e).stay (fun c v hc q=>k c v ?_ q) (fun _ q=>q) fun _ _ q=>q
    rcases hc with z | z
    · rw [z]; exact nit b u e
    · exact nit c _ z
theorem Inv.tok (I:Inv X pins σ H s) (t:Nat):Inv X pins σ H { s with toks:=t }:=I.un (h':=s.heap) (t':=t) Un.refl I.hok
theorem Inv.kept {t':Nat} (I:Inv X pins σ H s) (k:∀ b u,s.heap.get? b=some u->h'.get? b=some u):Inv X pins σ H { s with heap:=h',toks:=t' }:=I.un (Un.kept k) (I.hok.kept k)
theorem Inv.laid {a:Addr} {o:HO} {t':Nat} (I:Inv X pins σ H s) (k:∀ b u,s.heap.get? b=some u->h'.get? b=some u) (hp:s.heap.objs.size<=a) (new:bo X.prog X.w (upd H a o) h' a o) :
    Inv X pins σ (upd H a o) { s with heap:=h',toks:=t' }:=I.un (Un.laid k hp (I.hok.fresh hp)) (I.hok.laid k hp new)
theorem Inv.write {x e:Addr} {o:HO} {t':Nat} (I:Inv X pins σ H s) (mu:so (H x)) (he:e=x\/H e=some (.own x)) (k:∀ b u,b≠e->s.heap.get? b=some u->h'.get? b=some u) (heo:∃ u,h'.get? e=some u)
    (new:bo X.prog X.w (upd H x o) h' x o):Inv X pins σ (upd H x o) { s with heap:=h',toks:=t' }:=I.un (Un.write mu he k heo) (I.hok.write mu he k heo new)
theorem Inv.weak {σ':List (Option V)} (I:Inv X pins σ H s) (hl:σ'.length=σ.length) (w:∀ (i:Nat) v,σ'[i]? = some (some v)->σ[i]? = some (some v)):Inv X pins σ' H s :=
  ⟨I.ok,I.os,I.bare,I.base,let ⟨m,hn,hl'⟩:=I.loc; ⟨m,hn,fun i x v e1 e2 e3=>hl' i x v e1 (w i v e2) e3⟩,I.cell,I.free,I.freeC,I.pin,I.hok,hl.trans I.len⟩
theorem Inv.pins_of {pins':List (Addr × Obj)} (I:Inv X pins σ H s) (h:∀ p∈pins',s.heap.get? p.1=some p.2/\H p.1=none/\p.1≠X.env.locals/\p.1∉X.fs/\∀ v,p.2.data≠.cell v):Inv X pins' σ H s :=
  ⟨I.ok,I.os,I.bare,I.base,I.loc,I.cell,I.free,I.freeC,fun p hp=>(List.mem_append.mp hp).elim (fun z=>I.pin p (List.mem_append_left _ z)) (h p),I.hok,I.len⟩
theorem mR {N:List Str} (hN:N.Nodup) {i j:Nat} {x:Str} (a:N[i]? = some x) (b:N[j]? = some x):i=j:=by
  obtain ⟨h1,e1⟩:=List.getElem?_eq_some_iff.mp a
  obtain ⟨h2,e2⟩:=List.getElem?_eq_some_iff.mp b
  exact (List.getElem_inj hN).mp (e1.trans e2.symm)
theorem lS {M:Model} {A:Around} {E:Value->Shared->Prop} {i:Nat} {x:Str} {v:V} {u:Value} {Q:Unit->Shared->Prop} (I:Inv X pins σ H s) (hN:X.N.Nodup) (hi:X.N[i]? = some x) (hx:Loc X.env.scope x) (r:RelV v u)
    (h:∀ s',Inv X pins (σ.set i (some v)) H s'->(∃ a,Heap.SameBut a s.heap s'.heap/\(a=X.env.locals\/X.env.cells.lookup x=some a))->Q () s') (hf:X.fn x=true\/X.env.scope.names.lookup x=some .local:=by first | exact .inl rfl | exact .inr rfl | assumption):wpAny M A (storeName X.env x u) Q E s:=by
  obtain ⟨m,hn,hl⟩:=id I.loc
  have hcls:(X.env.scope.kind == .class || (X.env.scope.kind == .module&&X.env.locals != X.env.globals))=false:=by rw [I.ok.kind]; rfl
  have hiσ:i < σ.length:=by rw [I.len]; exact (List.getElem?_eq_some_iff.mp hi).1
  have cne:=I.cne
  have tracked:∀ {a:Addr} {h':Heap},(∃ o,s.heap.get? a=some o/\H a=none)->Heap.SameBut a s.heap h'->cw X.prog X.w H h':=fun {a h'} ha hs b ob e=>by
    obtain ⟨_,_,hfree⟩:=ha
    refine (I.hok b ob e).stay (fun c w' hc q=>(hs.2 c ?_).trans q) (fun _ q=>q) fun _ _ q=>q
    rintro rfl
    rcases hc with rfl | hc
    · rw [hfree] at e; cases e
    · rw [hfree] at hc; cases hc
  rcases hx with hk | hk
  · refine wpAny_storeName_local hk hn (fun h' hn' hs=>?_) hcls
    obtain ⟨oL,_,_,hoL,_⟩:=id hn
    refine h _ ⟨I.ok,I.os,I.bare,⟨fun b o e n hb hx=>?_,fun b o e n hb hx=>?_,I.base.free,fun b o e hx=>?_,I.base.tups,I.base.frzs,I.base.tbls⟩,⟨_,hn',fun j y v' e1 e2 e3=>?_⟩,fun y c e=>?_,I.free,I.freeC,fun p hp=>?_,tracked ⟨oL,hoL,I.free⟩ hs,by simpa using I.len⟩ ⟨_,hs,.inl rfl⟩
    · exact (hs.2 b (Nat.ne_of_lt (Nat.lt_of_lt_of_le (Heap.lt_size e) I.ok.above))).trans (I.base.keep b o e n hb hx)
    · obtain ⟨sl,e1⟩:=I.base.slot b o e n hb hx
      exact ⟨sl,(hs.2 b (Nat.ne_of_lt (Nat.lt_of_lt_of_le (Heap.lt_size e) I.ok.above))).trans e1⟩
    · obtain ⟨o',e1⟩:=I.base.there b o e hx
      exact ⟨o',(hs.2 b (Nat.ne_of_lt (Nat.lt_of_lt_of_le (Heap.lt_size e) I.ok.above))).trans e1⟩
    · by_cases hj:j=i
      · subst hj
        rw [hi] at e1; cases e1
        rw [List.getElem?_set_self hiσ] at e2
        cases e2
        exact ⟨u,r,.inl ⟨hk,by simp⟩⟩
      · rw [List.getElem?_set_ne (Ne.symm hj)] at e2
        obtain ⟨u',r',q⟩:=hl j y v' e1 e2 e3
        refine ⟨u',r',?_⟩
        rcases q with ⟨k,e⟩ | ⟨k,c,e,z⟩
        · refine .inl ⟨k,?_⟩
          have:y≠x:=fun e=>hj (mR hN e1 (e▸hi))
          simp [this,e]
        · exact .inr ⟨k,c,e,z.sameBut hs (cne y c e)⟩
    · obtain ⟨w',z⟩:=I.cell y c e
      exact ⟨w',z.sameBut hs (cne y c e)⟩
    · obtain ⟨e,n,ne,nf,d⟩:=I.pin p hp
      exact ⟨(hs.2 p.1 ne).trans e,n,ne,nf,d⟩
  · have hfn:X.fn x=true:=by
      rcases hf with z | z
      · exact z
      · rw [z] at hk; cases hk
    obtain ⟨c,hc⟩:=I.ok.has x (.inl hk)
    obtain ⟨w',z⟩:=I.cell x c hc
    refine wpAny_storeName_cell I.ok.kind hk hc z (fun h' hc' hs=>?_)
    obtain ⟨oc,hoc,hocd⟩:=id z
    refine h { s with heap:=h' } ⟨I.ok,I.os,I.bare,⟨fun b o e n hb hx=>?_,fun b o e n hb hx=>?_,I.base.free,fun b o e hx=>?_,I.base.tups,I.base.frzs,I.base.tbls⟩,⟨m,hn.sameBut hs (Ne.symm (cne x c hc)),fun j y v' e1 e2 e3=>?_⟩,fun y c' e=>?_,I.free,I.freeC,fun p hp=>?_,tracked ⟨oc,hoc,I.freeC x c hc⟩ hs,by simpa using I.len⟩ ⟨c,hs,.inr hc⟩
    · exact (hs.2 b (Nat.ne_of_lt (Nat.lt_of_lt_of_le (Heap.lt_size e) (I.ok.cab x c hfn hc)))).trans (I.base.keep b o e n hb hx)
    · obtain ⟨sl,e1⟩:=I.base.slot b o e n hb hx
      exact ⟨sl,(hs.2 b (Nat.ne_of_lt (Nat.lt_of_lt_of_le (Heap.lt_size e) (I.ok.cab x c hfn hc)))).trans e1⟩
    · obtain ⟨o',e1⟩:=I.base.there b o e hx
      exact ⟨o',(hs.2 b (Nat.ne_of_lt (Nat.lt_of_lt_of_le (Heap.lt_size e) (I.ok.cab x c hfn hc)))).trans e1⟩
    · by_cases hj:j=i
      · subst hj
        rw [hi] at e1; cases e1
        rw [List.getElem?_set_self hiσ] at e2
        cases e2
        exact ⟨u,r,.inr ⟨.inl hk,c,hc,hc'⟩⟩
      · rw [List.getElem?_set_ne (Ne.symm hj)] at e2
        obtain ⟨u',r',q⟩:=hl j y v' e1 e2 e3
        refine ⟨u',r',?_⟩
        rcases q with q | ⟨k,c',e,z'⟩
        · exact .inl q
        · refine .inr ⟨k,c',e,z'.sameBut hs ?_⟩
          rintro rfl
          exact hj (mR hN e1 (I.ok.inj _ _ _ e hc▸hi))
    · by_cases hcc:c'=c
      · subst hcc; exact ⟨_,hc'⟩
      · obtain ⟨w2,z2⟩:=I.cell y c' e
        exact ⟨w2,z2.sameBut hs hcc⟩
    · obtain ⟨e,n,ne,nf,d⟩:=I.pin p hp
      refine ⟨(hs.2 p.1 ?_).trans e,n,ne,nf,d⟩
      intro q
      rw [q,hoc] at e
      have q':oc=p.2:=Option.some.inj e
      exact d w' (by rw [<- q']; exact hocd)
theorem m7 {M:Model} {A:Around} {E:Value->Shared->Prop} {i:Nat} {x:Str} {v:V} {u:Value} {Q:Unit->Shared->Prop} (I:Inv X pins σ H s) (hN:X.N.Nodup) (hi:X.N[i]? = some x) (hx:Loc X.env.scope x) (r:RelV v u)
    (h:∀ s',Inv X pins (σ.set i (some v)) H s'->Q () s') (hf:X.fn x=true\/X.env.scope.names.lookup x=some .local:=by first | exact .inl rfl | exact .inr rfl | assumption):wpAny M A (storeName X.env x u) Q E s :=
  lS I hN hi hx r (fun s' I' _=>h s' I') hf
theorem Inv.call' {s':Shared} {ch:List Addr} (I:Inv X pins σ H s) (ho:s'.os=s.os) (u:Un (fQ X.stack) ch H H' s.heap s'.heap) (hok:cw X.prog X.w H' s'.heap) (hg:AllBare s'.gens)
    (hch:∀ b∈ch,(b∈X.ex\/X.s₀.heap.objs.size<=b)/\b≠X.env.locals/\(∀ x c,X.env.cells.lookup x=some c->c≠b)/\∀ p∈X.pn++pins,p.1≠b):Inv X pins σ H' s':=by
  obtain ⟨h',g',d',t',o'⟩:=s'
  have e:o'=s.os:=ho
  subst e
  exact I.call (g':=g') (t':=t') (d':=d') u hok hg hch
end
noncomputable abbrev XK:=Value->Option Addr->Hp->Prop
noncomputable abbrev St:=List (Option V)
noncomputable abbrev VK:=V->Hp->Prop
noncomputable abbrev TE:=St->Hp->VK->Prop
noncomputable abbrev TT:=St->Hp->(Bool->Hp->Prop)->Prop
noncomputable abbrev TA:=St->Hp->(List V->Hp->Prop)->Prop
structure Ends where
  nx:St->Hp->Prop
  rt:VK
  bk:St->Hp->Prop:=fun _ _=>False
  ct:St->Hp->Prop:=fun _ _=>False
noncomputable abbrev TS:=Ends->St->Hp->Prop
def EP (X:Cx) (pins:List (Addr × Obj)) (σ:St) (Q:VK) (u:Value) (s':Shared):Prop:=∃ v H',Inv X pins σ H' s'/\RelV v u/\Q v H'
def TP (X:Cx) (pins:List (Addr × Obj)) (σ:St) (Q:Bool->Hp->Prop) (b:Bool) (s':Shared):Prop:=∃ H',Inv X pins σ H' s'/\Q b H'
def AP (X:Cx) (pins:List (Addr × Obj)) (σ:St) (Q:List V->Hp->Prop) (us:List Value) (s':Shared):Prop:=∃ vs H',Inv X pins σ H' s'/\Vals vs us/\Q vs H'
def SP (X:Cx) (pins:List (Addr × Obj)) (D:Ends) (f:Flow) (s':Shared):Prop :=
  match f with
  | .next=>∃ σ' H',Inv X pins σ' H' s'/\D.nx σ' H'
  | .brk=>∃ σ' H',Inv X pins σ' H' s'/\D.bk σ' H'
  | .cont=>∃ σ' H',Inv X pins σ' H' s'/\D.ct σ' H'
  | .ret u=>∃ v σ' H',Inv X pins σ' H' s'/\RelV v u/\D.rt v H'
def PE (X:Cx) (e:Expr) (t:TE):Prop :=
  ∀ (pins:List (Addr × Obj)) (s:Shared) (σ:St) (H:Hp) (Q:VK),Inv X pins σ H s->t σ H Q->wpAny (model X.prog X.w) X.A (eval e X.env) (EP X pins σ Q) X.xe s
def PT (X:Cx) (e:Expr) (t:TT):Prop :=
  ∀ (pins:List (Addr × Obj)) (s:Shared) (σ:St) (H:Hp) (Q:Bool->Hp->Prop),Inv X pins σ H s->t σ H Q->wpAny (model X.prog X.w) X.A (isTrue e X.env (eval e X.env)) (TP X pins σ Q) X.xe s
def PW (X:Cx) (e:Expr) (t:TT):Prop :=
  ∀ (whole:Sem Value) (pins:List (Addr × Obj)) (s:Shared) (σ:St) (H:Hp) (Q:Bool->Hp->Prop),Inv X pins σ H s->t σ H Q->wpAny (model X.prog X.w) X.A (isTrue e X.env whole) (TP X pins σ Q) X.xe s
theorem PW.pt {X:Cx} {e:Expr} {t:TT} (h:PW X e t):PT X e t:=h _
def PA (X:Cx) (es:List Expr) (t:TA):Prop :=
  ∀ (pos:Pos) (pins:List (Addr × Obj)) (s:Shared) (σ:St) (H:Hp) (Q:List V->Hp->Prop),Inv X pins σ H s->t σ H Q->wpAny (model X.prog X.w) X.A (spliced (backTo pos (starEach es X.env))) (AP X pins σ Q) X.xe s
def PS (X:Cx) (st:Stmt) (t:TS):Prop :=
  ∀ (pins:List (Addr × Obj)) (s:Shared) (σ:St) (H:Hp) (D:Ends),Inv X pins σ H s->t D σ H->wpAny (model X.prog X.w) X.A (exec st X.env) (SP X pins D) X.xe s
def fX (X:Cx) (st:List Stmt) (t:TS):Prop :=
  ∀ (pins:List (Addr × Obj)) (s:Shared) (σ:St) (H:Hp) (D:Ends),Inv X pins σ H s->t D σ H->wpAny (model X.prog X.w) X.A (execs st X.env) (SP X pins D) X.xe s
theorem aE {α:Type} {t:Sem α} {Q Q':α->Shared->Prop} {M:Model} {A:Around} {E:Value->Shared->Prop} {s:Shared} (h:wpAny M A t Q E s) (hQ:∀ a s,Q a s->Q' a s):wpAny M A t Q' E s:=wpAny_mono h hQ fun _ _ x=>x
end L2
namespace L2
open PySem PySem.Spec PyProof.Rows
section
variable {X:Cx}
theorem bin {a b:Expr} {ta tb:TE} (ha:PE X a ta) (hb:PE X b tb) {pins:List (Addr × Obj)} {s:Shared} {σ:St} {H:Hp} {R:V->V->Hp->Prop} (I:Inv X pins σ H s) (h:ta σ H fun x H1=>tb σ H1 fun y H2=>R x y H2)
    {α:Type} {Q:α->Shared->Prop} {f:Value->Value->Sem α}
    (hf:∀ v u s2 x y H2,Inv X pins σ H2 s2->RelV x v->RelV y u->R x y H2->wpAny (model X.prog X.w) X.A (f v u) Q X.xe s2) :
    wpAny (model X.prog X.w) X.A (eval a X.env) (fun v s₁=>wpAny (model X.prog X.w) X.A (eval b X.env) (fun u s₂=>wpAny (model X.prog X.w) X.A (f v u) Q X.xe s₂) X.xe s₁) X.xe s:=by
  refine aE (ha pins s σ H _ I h) fun v s1 ⟨x,H1,I1,r1,q1⟩=>?_
  refine aE (hb pins s1 σ H1 _ I1 q1) fun u s2 ⟨y,H2,I2,r2,q2⟩=>?_
  exact hf v u s2 x y H2 I2 r1 r2 q2
noncomputable def wR (i:Nat):TE:=fun σ H Q=>∃ v,σ[i]? = some (some v)/\Q v H
noncomputable def tC (v:V):TE:=fun _ H Q=>Q v H
theorem xC {i:Nat} {x:Str} {pos:Pos} (hN:X.N[i]? = some x) (hv:xo X.env.scope x) (hd:(x == ("__debug__" : Str))=false:=by decide) (hcd:(x == ("__classdict__" : Str))=false:=by decide):PE X (.Name x pos) (wR i):=by
  intro pins s σ H Q I h
  obtain ⟨v,e,h⟩:=h
  obtain ⟨m,hn,hl⟩:=I.loc
  obtain ⟨u,r,l⟩:=hl i x v hN e hv
  have fin:EP X pins σ Q u s:=⟨v,H,I,r,h⟩
  rcases l with ⟨hk,hm⟩ | ⟨hk,c,hc,hcell⟩
  · exact wpAny_Name (wpAny_loadName_local I.ok.kind hk hn hm fin) hd
  · rcases hk with hk | hk
    · exact wpAny_Name (wpAny_loadName_cell I.ok.kind hk hc hcell fin) hd
    · exact wpAny_Name (wpAny_loadName_free I.ok.kind hk hc hcell fin hcd) hd
theorem ar {i j pos}:PE X (.Constant (.int i) j pos) (tC (.int i)):=fun _ _ _ H _ I h=>wpAny_Constant_int ⟨.int i,H,I.tok _,⟨_,rfl⟩,h⟩
theorem bZ {b j pos}:PE X (.Constant (.bool b) j pos) (tC (.bl b)):=fun _ _ _ H _ I h=>Constant_bool ⟨.bl b,H,I,rfl,h⟩
theorem sr {x j pos}:PE X (.Constant (.str x) j pos) (tC (.str x)):=fun _ _ _ H _ I h=>Calls.Constant_str ⟨.str x,H,I.tok _,⟨_,rfl⟩,h⟩
def Gl (X:Cx) (x:Str):Prop:=X.env.kindOf x=some .globalImplicit
theorem kY {E:Value->Shared->Prop} {pins:List (Addr × Obj)} {s:Shared} {σ:St} {H:Hp} {x:Str} {u:Value} {pos:Pos} {Q:Value->Shared->Prop} (I:Inv X pins σ H s) (hg:Gl X x) (hm:X.mg x=some u) (h:Q u s)
    (hd:(x == ("__debug__" : Str))=false:=by decide):wpAny (model X.prog X.w) X.A (eval (.Name x pos) X.env) Q E s :=
  Calls.Name_function_global I.ok.kind hg (Calls.loadGlobal_global (by rw [I.ok.glob]; exact I.mod.glob.keeps I.bk) hm h) hd
theorem dM {E:Value->Shared->Prop} {pins:List (Addr × Obj)} {s:Shared} {σ:St} {H:Hp} {x:Str} {u:Value} {pos:Pos} {Q:Value->Shared->Prop} (I:Inv X pins σ H s) (hg:Gl X x) (hm:X.mg x=none) (hv:bootBuiltins x=some u) (h:Q u s)
    (hn:x≠"__name__":=by decide) (hd:(x == ("__debug__" : Str))=false:=by decide):wpAny (model X.prog X.w) X.A (eval (.Name x pos) X.env) Q E s:=by
  obtain ⟨mb,h1,h2⟩:=I.mod.blt
  exact Calls.Name_function_global I.ok.kind hg (Calls.loadGlobal_builtin (by rw [I.ok.glob]; exact I.mod.glob.keeps I.bk) hm (by rw [I.ok.blt]; exact h1.keeps I.bk) ((h2 x hn).trans hv) h) hd
theorem eW {x:Str} {v:V} {u:Value} {pos:Pos} (hg:Gl X x) (hm:X.mg x=none) (hv:bootBuiltins x=some u) (r:RelV v u) (hn:x≠"__name__":=by decide) (hd:(x == ("__debug__" : Str))=false:=by decide):PE X (.Name x pos) (tC v) :=
  fun _ _ _ H _ I h=>dM I hg hm hv ⟨v,H,I,r,h⟩ hn hd
variable {a b:Expr} {ta tb:TE} {pos:Pos}
def PC (X:Cx) (op:CmpOp) (a b:Expr) (t:TE):Prop :=
  ∀ (pins:List (Addr × Obj)) (s:Shared) (σ:St) (H:Hp) (Q:VK),Inv X pins σ H s->t σ H Q ->
    wpAny (model X.prog X.w) X.A (eval a X.env) (fun v s₁=>wpAny (model X.prog X.w) X.A (eval b X.env) (fun u s₂=>wpAny (model X.prog X.w) X.A (compareOp op v u) (EP X pins σ Q) X.xe s₂) X.xe s₁) X.xe s
theorem tJ (b:Expr) {op:CmpOp} (h:op≠.In) (h2:op≠.NotIn):behindInMarks op b=false:=by
  have e1:(op == CmpOp.In)=false:=by cases op<;>first | rfl | exact absurd rfl h
  have e2:(op == CmpOp.NotIn)=false:=by cases op<;>first | rfl | exact absurd rfl h2
  cases b<;>simp [behindInMarks,e1,e2]
noncomputable def tB (t:TE):TT:=fun σ H Q=>t σ H fun x H1=>∃ c,x = .bl c/\Q c H1
theorem xu {op:CmpOp} {t:TE} (h:PC X op a b t) (h1:behindInMarks op b=false:=by first | exact tJ _ (by decide) (by decide) | rfl):PT X (.Compare a [op] [b] pos) (tB t):=by
  intro pins s σ H Q I hw
  refine wpAny_isTrue_Compare1 (aE (h pins s σ H _ I hw) fun v s1 h1=>aE h1 fun u s2 h2=>aE h2 fun c s3 ⟨x,H1,I1,r1,q1⟩=>?_) h1
  obtain ⟨d,rfl,q⟩:=q1
  cases r1
  exact wpAny_truthy_bool ⟨H1,I1,q⟩
theorem bL {e:Expr} {t:TE} (h:PE X e t) (he:∀ whole,isTrue e X.env whole=(do let v <- whole; standAt e.pos; holding [v] (truthy v)):=by intro _; rfl):PT X e (tB t):=by
  intro pins s σ H Q I hw
  refine isTrue_plain (aE (h pins s σ H _ I hw) fun v s1 ⟨x,H1,I1,r1,q1⟩=>?_) (he _)
  obtain ⟨d,rfl,q⟩:=q1
  cases r1
  exact wpAny_truthy_bool ⟨H1,I1,q⟩
variable {tA tB':TT} {rest:List Expr}
noncomputable def y3 (t u:TT):TT:=fun σ H Q=>t σ H fun c H1=>if c=true then u σ H1 Q else Q false H1
noncomputable def zA (t u:TT):TT:=fun σ H Q=>t σ H fun c H1=>if c=true then Q true H1 else u σ H1 Q
noncomputable def zk (t:TT):TT:=fun σ H Q=>t σ H fun c H1=>Q (!c) H1
theorem kT (ha:PT X a tA):PW X (.BoolOp .And [a] pos) tA:=by
  intro wh pins s σ H Q I h
  refine isTrue_and (aE (ha pins s σ H Q I h) fun c s1 e=>?_)
  cases c with
  | true=>exact isTrue_and_nil e
  | false=>exact e
theorem dq (ha:PT X a tA):PW X (.BoolOp .Or [a] pos) tA:=by
  intro wh pins s σ H Q I h
  refine isTrue_or (aE (ha pins s σ H Q I h) fun c s1 e=>?_)
  cases c with
  | false=>exact isTrue_or_nil e
  | true=>exact e
theorem om (ha:PT X a tA) (hb:PW X (.BoolOp .And (b::rest) pos) tB'):PW X (.BoolOp .And (a::b::rest) pos) (y3 tA tB'):=by
  intro wh pins s σ H Q I h
  refine isTrue_and (aE (ha pins s σ H _ I h) fun c s1 ⟨H1,I1,q1⟩=>?_)
  cases c with
  | true=>exact hb wh pins s1 σ H1 Q I1 q1
  | false=>exact ⟨H1,I1,q1⟩
theorem dH (ha:PT X a tA) (hb:PW X (.BoolOp .Or (b::rest) pos) tB'):PW X (.BoolOp .Or (a::b::rest) pos) (zA tA tB'):=by
  intro wh pins s σ H Q I h
  refine isTrue_or (aE (ha pins s σ H _ I h) fun c s1 ⟨H1,I1,q1⟩=>?_)
  cases c with
  | true=>exact ⟨H1,I1,q1⟩
  | false=>exact hb wh pins s1 σ H1 Q I1 q1
theorem bO (ha:PT X a tA):PT X (.UnaryOp .Not a pos) (zk tA):=by
  intro pins s σ H Q I h
  exact isTrue_not (ha pins s σ H (fun c H1=>Q (!c) H1) I h)
noncomputable def yA (ta tb:TE):TE:=fun σ H Q=>ta σ H fun x H1=>∃ c,x = .bl c/\if c=true then tb σ H1 Q else Q (.bl false) H1
noncomputable def x9 (ta:TE):TE:=fun σ H Q=>ta σ H fun x H1=>∃ c,x = .bl c/\Q (.bl (!c)) H1
theorem mG {op} {t:TE} (h:PE X a t):PE X (.BoolOp op [a] pos) t:=fun pins s σ H Q I hw=>BoolOp_one (h pins s σ H Q I hw)
theorem nA (ha:PE X a ta) (hb:PE X (.BoolOp .And (b::rest) pos) tb):PE X (.BoolOp .And (a::b::rest) pos) (yA ta tb):=by
  intro pins s σ H Q I h
  refine BoolOp_and (aE (ha pins s σ H _ I h) fun v s1 ⟨x,H1,I1,r1,q1⟩=>?_)
  obtain ⟨c,rfl,q1⟩:=q1
  cases r1
  refine wpAny_truthy_bool ?_
  cases c with
  | true=>exact hb pins s1 σ H1 Q I1 q1
  | false=>exact ⟨.bl false,H1,I1,rfl,q1⟩
theorem nr (ha:PE X a ta):PE X (.UnaryOp .Not a pos) (x9 ta):=by
  intro pins s σ H Q I h
  refine UnaryOp_ (aE (ha pins s σ H _ I h) fun v s1 ⟨x,H1,I1,r1,q1⟩=>?_)
  obtain ⟨c,rfl,q1⟩:=q1
  cases r1
  exact not_of (wpAny_truthy_bool ⟨.bl (!c),H1,I1,rfl,q1⟩)
end
end L2
namespace L2
open PySem PySem.Spec PyProof.Rows
def aj (K:PySem.W.Frag) (H:Hp) (a:Addr) (xs:List V):Prop :=
  Rd H a (.lst xs) \/
    ∃ (o:Obj) (its:Array Value) (n:Nat),K.lookup a=some o/\o.cls = .type "list"/\o.dict=none/\o.data = .seq its n/\its.size<=sizeLine/\Vals xs its.toList
def cI (K:PySem.W.Frag) (H:Hp) (a:Addr) (xs:List V):Prop :=
  Rd H a (.tup xs) \/
    ∃ (o:Obj) (its:Array Value) (n:Nat),K.lookup a=some o/\o.cls = .type "tuple"/\o.data = .seq its n/\its.size<=sizeLine/\Vals xs its.toList
noncomputable def yU:Value->Option V
  | .none=>some .non
  | .bool b=>some (.bl b)
  | .int i _=>some (.int i)
  | .str x _=>some (.str x)
  | .bytes b _=>some (.byt b)
  | .float b _=>some (.flt b)
  | .ref a=>some (.ref a)
  | .type n=>some (.ty n)
  | _=>none
theorem RelV.abs {x:V} {u:Value} (r:RelV x u):yU u=some x:=by
  cases x with
  | non=>cases r; rfl
  | bl _=>cases r; rfl
  | int _=>obtain ⟨t,rfl⟩:=r; rfl
  | str _=>obtain ⟨t,rfl⟩:=r; rfl
  | byt _=>obtain ⟨t,rfl⟩:=r; rfl
  | flt _=>obtain ⟨t,rfl⟩:=r; rfl
  | ref _=>cases r; rfl
  | ty _=>cases r; rfl
theorem RelV.inj {x y:V} {u:Value} (r:RelV x u) (q:RelV y u):x=y:=Option.some.inj (r.abs.symm.trans q.abs)
theorem Vals.inj:∀ {xs ys:List V} {us:List Value},Vals xs us->Vals ys us->xs=ys
  | _,_,_,.nil,.nil=>rfl
  | _,_,_,.cons r t,.cons r' t'=>by rw [r.inj r',Vals.inj t t']
section
variable {X:Cx} {pins:List (Addr × Obj)} {σ:St} {H:Hp} {s:Shared} {a:Addr} {xs ys:List V}
theorem aj.of {K:PySem.W.Frag} (h:H a=some (.lst xs)):aj K H a xs:=.inl (.inl h)
theorem cI.of {K:PySem.W.Frag} (h:H a=some (.tup xs)):cI K H a xs:=.inl (.inl h)
theorem Inv.list (I:Inv X pins σ H s) (h:aj X.K H a xs):∃ its:List Value,Vals xs its/\PlainL s.heap a its.toArray/\xs.length<=sizeLine:=by
  rcases h with h | ⟨o,its,n,hk,hc,hd,hs,hz,r⟩
  · obtain ⟨z,its,n,r,e⟩:=h.ok I.hok
    exact ⟨its,r,⟨_,n,e,rfl,rfl,rfl⟩,z⟩
  · refine ⟨its.toList,r,⟨o,n,I.kIn a o hk,hc,hd,by simpa using hs⟩,?_⟩
    have e:=r.length
    simp only [Array.length_toList] at e
    lia
theorem Inv.tuple (I:Inv X pins σ H s) (h:cI X.K H a xs):∃ its:List Value,Vals xs its/\IsTup s.heap a its.toArray/\xs.length<=sizeLine:=by
  rcases h with h | ⟨o,its,n,hk,hc,hs,hz,r⟩
  · obtain ⟨z,its,r,p⟩:=h.ok I.hok
    exact ⟨its,r,p,z⟩
  · refine ⟨its.toList,r,⟨o,I.kIn a o hk,hc,n,by simpa using hs⟩,?_⟩
    have e:=r.length
    simp only [Array.length_toList] at e
    lia
theorem Inv.list_inj (I:Inv X pins σ H s) (h:aj X.K H a xs) (h':aj X.K H a ys):xs=ys:=by
  obtain ⟨its,r,⟨o,n,e,_,_,d⟩,_⟩:=I.list h
  obtain ⟨its',r',⟨o',n',e',_,_,d'⟩,_⟩:=I.list h'
  rw [e] at e'; cases e'
  rw [d] at d'
  injection d' with d1 _
  have:its=its':=by simpa using congrArg Array.toList d1
  subst this
  exact r.inj r'
end
noncomputable abbrev Cx.wish (X:Cx) (E:Value->Shared->Prop):Cx:={ X with xe:=E }
noncomputable abbrev Cx.nox (X:Cx):Cx:=X.wish fun _ _=>False
theorem Cx.Ok.wish {X:Cx} (ok:X.Ok) (E:Value->Shared->Prop):(X.wish E).Ok :=
  ⟨ok.mod,ok.kind,ok.glob,ok.blt,ok.above,ok.inj,ok.has,ok.cab,ok.hd,ok.frames,ok.stk,ok.exf,ok.bs,ok.bsz,ok.noex,ok.exfs,ok.funs,ok.frf⟩
theorem Cx.Ok.unwish {X:Cx} {E:Value->Shared->Prop} (ok:(X.wish E).Ok):X.Ok :=
  ⟨ok.mod,ok.kind,ok.glob,ok.blt,ok.above,ok.inj,ok.has,ok.cab,ok.hd,ok.frames,ok.stk,ok.exf,ok.bs,ok.bsz,ok.noex,ok.exfs,ok.funs,ok.frf⟩
section
variable {X:Cx} {pins:List (Addr × Obj)} {σ:St} {H:Hp} {s:Shared} {E:Value->Shared->Prop}
theorem Inv.wish (I:Inv X pins σ H s) (E:Value->Shared->Prop):Inv (X.wish E) pins σ H s:=⟨I.ok.wish E,I.os,I.bare,I.base,I.loc,I.cell,I.free,I.freeC,I.pin,I.hok,I.len⟩
theorem Inv.unwish (I:Inv (X.wish E) pins σ H s):Inv X pins σ H s:=⟨I.ok.unwish,I.os,I.bare,I.base,I.loc,I.cell,I.free,I.freeC,I.pin,I.hok,I.len⟩
theorem SP.unwish {D:Ends} {f:Flow} {s':Shared} (h:SP (X.wish E) pins D f s'):SP X pins D f s':=by
  cases f with
  | next=>obtain ⟨σ',H',I,q⟩:=h; exact ⟨σ',H',I.unwish,q⟩
  | brk=>obtain ⟨σ',H',I,q⟩:=h; exact ⟨σ',H',I.unwish,q⟩
  | cont=>obtain ⟨σ',H',I,q⟩:=h; exact ⟨σ',H',I.unwish,q⟩
  | ret u=>obtain ⟨v,σ',H',I,r,q⟩:=h; exact ⟨v,σ',H',I.unwish,r,q⟩
theorem fX.nox {st:List Stmt} {t:TS} (h:fX X.nox st t):fX X st t:=fun pins s σ H D I hw =>
  wpAny_mono (h pins s σ H D (I.wish _) hw) (fun _ _ q=>q.unwish) fun _ _ z=>False.elim z
end
section
variable {X:Cx} {st:Stmt} {rest:List Stmt} {t u:TS} {e:Expr} {te:TE} {pos:Pos}
noncomputable def yv:TS:=fun D σ H=>D.nx σ H
noncomputable def zh (t u:TS):TS:=fun D σ H=>t { D with nx:=u D } σ H
theorem aW:fX X [] yv:=fun _ _ σ H _ I h=>wpAny_execs_nil ⟨σ,H,I,h⟩
theorem aq (h1:PS X st t) (h2:fX X rest u):fX X (st::rest) (zh t u):=by
  intro pins s σ H D I h
  refine wpAny_execs_cons (aE (h1 pins s σ H { D with nx:=u D } I h) fun f s1 q=>?_)
  cases f with
  | next =>
    obtain ⟨σ',H',I',q⟩:=q
    exact h2 pins s1 σ' H' D I' q
  | ret v=>exact q
  | brk=>exact q
  | cont=>exact q
theorem ak (h1:PS X st t):fX X [st] t:=by
  intro pins s σ H D I h
  refine wpAny_execs_cons (aE (h1 pins s σ H D I h) fun f s1 q=>?_)
  cases f with
  | next=>exact wpAny_execs_nil q
  | ret v=>exact q
  | brk=>exact q
  | cont=>exact q
theorem Inv.quiet {pins:List (Addr × Obj)} {σ:St} {H:Hp} {s:Shared} (I:Inv X pins σ H s):interactive X.env=false:=by simp [interactive,I.ok.kind]
noncomputable def yk (te:TE):TS:=fun D σ H=>te σ H fun _ H1=>D.nx σ H1
theorem aX (he:PE X e te) (hs:swapsWith e none pos.line X.env=pure false:=by rfl):PS X (.Expr e pos) (yk te):=by
  intro pins s σ H D I h
  exact wpAny_Expr_any (aE (he pins s σ H _ I h) fun v s1 ⟨x,H1,I1,r1,q1⟩=>⟨σ,H1,I1,q1⟩) I.quiet hs
noncomputable def y9 (te:TE):TS:=fun D σ H=>te σ H D.rt
theorem aD (he:PE X e te):PS X (.Return (some e) pos) (y9 te):=by
  intro pins s σ H D I h
  exact wpAny_Return_some (aE (he pins s σ H _ I h) fun v s1 ⟨x,H1,I1,r1,q1⟩=>⟨x,σ,H1,I1,r1,q1⟩)
noncomputable def ze (c:TT) (t u:TS):TS:=fun D σ H=>c σ H fun b H1=>if b=true then t D σ H1 else u D σ H1
theorem bK {c:Expr} {a b:List Stmt} {tc:TT} (hc:PT X c tc) (ha:fX X a t) (hb:fX X b u):PS X (.If c a b pos) (ze tc t u):=by
  intro pins s σ H D I h
  refine wpAny_If (aE (hc pins s σ H _ I h) fun d s1 ⟨H1,I1,q1⟩=>?_)
  cases d with
  | true=>exact ha pins s1 σ H1 D I1 q1
  | false=>exact hb pins s1 σ H1 D I1 q1
noncomputable def xr:TS:=fun _ _ _=>False
theorem nE:PS X st xr:=fun _ _ _ _ _ _ h=>h.elim
end
noncomputable abbrev TG:=V->St->Hp->(St->Hp->Prop)->Prop
noncomputable abbrev lL:=List V->St->Hp->(St->Hp->Prop)->Prop
def PG (X:Cx) (target:Expr) (t:TG):Prop :=
  ∀ (pins:List (Addr × Obj)) (s:Shared) (σ:St) (H:Hp) (v:V) (u:Value) (Q:St->Hp->Prop),Inv X pins σ H s->RelV v u->t v σ H Q ->
    wpAny (model X.prog X.w) X.A (assign target X.env u) (fun _ s'=>∃ σ' H',Inv X pins σ' H' s'/\Q σ' H') X.xe s
def rz (X:Cx) (ts:List Expr) (t:lL):Prop :=
  ∀ (pins:List (Addr × Obj)) (s:Shared) (σ:St) (H:Hp) (vs:List V) (us:List Value) (Q:St->Hp->Prop),Inv X pins σ H s->Vals vs us->t vs σ H Q ->
    wpAny (model X.prog X.w) X.A (assignInOrder ((assignEach ts X.env).map (·.2)) us) (fun _ s'=>∃ σ' H',Inv X pins σ' H' s'/\Q σ' H') X.xe s
noncomputable abbrev uv:=V->V->V->Hp->(Hp->Prop)->Prop
def xt (X:Cx) (t:uv):Prop :=
  ∀ (pins:List (Addr × Obj)) (s:Shared) (σ:St) (H:Hp) (o i v:V) (ov iv u:Value) (Q:Hp->Prop),Inv X pins σ H s->RelV o ov->RelV i iv->RelV v u->t o i v H Q ->
    wpAny (model X.prog X.w) X.A (setItem ov iv u) (fun _ s'=>∃ H',Inv X pins σ H' s'/\Q H') X.xe s
section
variable {X:Cx} {pos:Pos}
noncomputable def uR (i:Nat):TG:=fun v σ H Q=>Q (σ.set i (some v)) H
theorem aF {i:Nat} {x:Str} (hN:X.N.Nodup) (hi:X.N[i]? = some x) (hx:Loc X.env.scope x) (hf:X.fn x=true\/X.env.scope.names.lookup x=some .local:=by first | exact .inl rfl | exact .inr rfl | assumption):PG X (.Name x pos) (uR i):=by
  intro pins s σ H v u Q I r h
  exact wpAny_assign_Name (m7 I hN hi hx r (fun s' I'=>⟨_,H,I',h⟩) hf)
noncomputable def yZ:lL:=fun vs σ H Q=>vs=[]/\Q σ H
noncomputable def yN (t:TG) (u:lL):lL:=fun vs σ H Q=>∃ v r,vs=v::r/\t v σ H fun σ' H'=>u r σ' H' Q
theorem dj:rz X [] yZ:=by
  intro pins s σ H vs us Q I r h
  obtain ⟨e,h⟩:=h
  subst e
  cases r
  exact assignInOrder_nil ⟨σ,H,I,h⟩
theorem aY {e:Expr} {es:List Expr} {t:TG} {u:lL} (h1:PG X e t) (h2:rz X es u)
    (hs:(assignEach (e::es) X.env).map (·.2)=assign e X.env::(assignEach es X.env).map (·.2):=by rfl):rz X (e::es) (yN t u):=by
  intro pins s σ H vs us Q I r h
  obtain ⟨v,vr,e1,h⟩:=h
  subst e1
  cases r with
  | cons r rr =>
    rw [hs]
    refine assignInOrder_cons (aE (h1 pins s σ H _ _ _ I r h) fun _ s1 ⟨σ1,H1,I1,q1⟩=>?_)
    exact h2 pins s1 σ1 H1 _ _ Q I1 rr q1
noncomputable def v9 (K:PySem.W.Frag) (n:Nat) (t:lL):TG:=fun v σ H Q=>∃ a xs,v = .ref a/\cI K H a xs/\xs.length=n/\t xs σ H Q
theorem gZ {es:List Expr} {k:Nat} {t:lL} {n:Nat} (hc:X.calm=true) (h:rz X es t)
    (hn:(assignEach es X.env).length=n:=by rfl) (hst:(assignEach es X.env).findIdx? (·.1)=none:=by rfl):PG X (.Tuple es k pos) (v9 X.K n t):=by
  intro pins s σ H v u Q I r hw
  obtain ⟨a,xs,e1,hq,hl,hw⟩:=hw
  subst e1
  cases r
  obtain ⟨its,rv,ht,hz⟩:=I.tuple hq
  refine assign_Tuple_tuple (I.ok.hd hc) ht (by simp [hn,<- hl,rv.length]) hst fun h' hx=>?_
  have I1:Inv X pins σ H { s with heap:=h' }:=I.kept (t':=s.toks) fun b o e=>hx b o (Nat.ne_of_lt (Heap.lt_size e)) e
  exact h pins _ σ H xs _ Q I1 (by simpa using rv) hw
noncomputable def zc (to ti:TE) (t:uv):TG:=fun v σ H Q=>to σ H fun o H1=>ti σ H1 fun i H2=>t o i v H2 fun H3=>Q σ H3
theorem vX {o i:Expr} {to ti:TE} {t:uv} (ho:PE X o to) (hi:PE X i ti) (hs:xt X t)
    (ha:∀ v,assign (.Subscript o i pos) X.env v=(do
      let ov <- holding [v] (eval o X.env)
      let iv <- holding [v,ov] (eval i X.env)
      standAt pos
      holding [v,ov,iv] (setItem ov iv v)
      release [v,ov,iv] []):=by intro _; rfl):PG X (.Subscript o i pos) (zc to ti t):=by
  intro pins s σ H v u Q I r h
  rw [ha]
  refine wpAny_bind (wpAny_holding (aE (ho pins s σ H _ I h) fun ov s1 ⟨x,H1,I1,r1,q1⟩=>?_))
  refine wpAny_bind (wpAny_holding (aE (hi pins s1 σ H1 _ I1 q1) fun iv s2 ⟨y,H2,I2,r2,q2⟩=>?_))
  refine wpAny_bind (wpAny_standAt (wpAny_bind (wpAny_holding (aE (hs pins s2 σ H2 x y v ov iv u _ I2 r1 r2 r q2) fun _ s3 ⟨H3,I3,q3⟩=>?_))))
  exact wpAny_release ⟨σ,H3,I3,q3⟩
noncomputable def wU (te:TE) (g:TG):TS:=fun D σ H=>te σ H fun x H1=>g x σ H1 D.nx
theorem we {tg e:Expr} {te:TE} {g:TG} (he:PE X e te) (hg:PG X tg g) (hs:swapsWithSole [tg] e pos.line X.env=pure false:=by rfl) (hw:swappedStores [tg] e X.env=pure none:=by rfl)
    (h1:(assignEach [tg] X.env).map (·.2)=[assign tg X.env]:=by rfl):PS X (.Assign [tg] e pos) (wU te g):=by
  intro pins s σ H D I h
  refine wpAny_Assign_stores (aE (he pins s σ H _ I h) fun v s1 ⟨x,H1,I1,r1,q1⟩=>?_) hs hw
  rw [h1]
  exact aE (hg pins s1 σ H1 x v _ I1 r1 q1) fun _ s2 q=>q
theorem bh {i:Nat} {x:Str} {e:Expr} {te:TE} {pos':Pos} (hN:X.N.Nodup) (hi:X.N[i]? = some x) (hx:Loc X.env.scope x) (he:PE X e te) (hs:swapsWith e (some (.Name x pos')) pos.line X.env=pure false:=by rfl) (hf:X.fn x=true\/X.env.scope.names.lookup x=some .local:=by first | exact .inl rfl | exact .inr rfl | assumption) :
    PS X (.Assign [.Name x pos'] e pos) (wU te (uR i)):=by
  intro pins s σ H D I h
  refine wpAny_Assign_Name (aE (he pins s σ H _ I h) fun v s1 ⟨y,H1,I1,r1,q1⟩=>?_) hs
  exact m7 I1 hN hi hx r1 (fun s2 I2=>⟨_,H1,I2,q1⟩) hf
end
section
variable {X:Cx} {pos:Pos}
noncomputable def wm (c:TT) (tb:TS):TS:=fun D σ H=>∃ W:Nat->St->Hp->Prop,(∃ m,W m σ H)/\∀ m σ H,W m σ H ->
  c σ H fun b H1=>if b=true then ∃ N:St->Hp->Prop,(∀ σ' H',N σ' H'->∃ m',m' < m/\W m' σ' H')/\tb { D with nx:=N,ct:=N,bk:=D.nx } σ H1 else D.nx σ H1
theorem tF {c:Expr} {body:List Stmt} {tc:TT} {tb:TS} (hp:PassesOwn (model X.prog X.w) X.A X.env X.xe) (hc:PT X c tc) (hb:fX X body tb):PS X (.While c body [] pos) (wm tc tb):=by
  intro pins s σ H D I h
  obtain ⟨W,⟨m0,w0⟩,turn⟩:=h
  refine wpAny_While (codeAny_whileLoop (fun n s'=>∃ σ' H',Inv X pins σ' H' s'/\W n σ' H') ?_ m0 ⟨σ,H,I,w0⟩)
  rintro n s1 ⟨σ1,H1,I1,w1⟩
  refine wpAny_passesOwn hp (aE (hc pins s1 σ1 H1 _ I1 (turn n σ1 H1 w1)) fun b s2 ⟨H2,I2,q2⟩=>?_)
  cases b with
  | true =>
    obtain ⟨N,hN,q2⟩:=q2
    rw [if_pos rfl]
    refine wpAny_passesOwn hp (aE (hb pins s2 σ1 H2 _ I2 q2) fun f s3 q3=>?_)
    cases f with
    | next =>
      obtain ⟨σ3,H3,I3,n3⟩:=q3
      obtain ⟨m',hm,w3⟩:=hN σ3 H3 n3
      exact ⟨m',hm,σ3,H3,I3,w3⟩
    | cont =>
      obtain ⟨σ3,H3,I3,n3⟩:=q3
      obtain ⟨m',hm,w3⟩:=hN σ3 H3 n3
      exact ⟨m',hm,σ3,H3,I3,w3⟩
    | brk=>exact q3
    | ret v=>exact q3
  | false =>
    rw [if_neg Bool.false_ne_true]
    exact wpAny_execs_nil ⟨σ1,H2,I2,q2⟩
end
structure It where
  go:Nat->Hp->Prop
  yld:Nat->Hp->V->Hp->Prop
  stop:Nat->Hp->Prop
def fM (X:Cx) (pins:List (Addr × Obj)) (H:Hp) (b:Addr):Prop :=
  H b=none/\b≠X.env.locals/\b∉X.fs/\(b∈X.ex\/X.s₀.heap.objs.size<=b)/\(∀ x c,X.env.cells.lookup x=some c->c≠b)/\∀ p∈X.pn++pins,p.1≠b
theorem Inv.fpOk {X:Cx} {pins:List (Addr × Obj)} {σ:St} {H H':Hp} {s:Shared} {b:Addr} (I:Inv X pins σ H s) (hb:s.heap.objs.size<=b) (hn:H' b=none):fM X pins H' b:=by
  refine ⟨hn,Nat.ne_of_gt (Nat.lt_of_lt_of_le I.lt hb),I.nofs hb,.inr (Nat.le_trans I.sz hb),fun x c e z=>?_,fun p hp z=>?_⟩
  · obtain ⟨v,q⟩:=I.cell x c e
    exact absurd (Nat.lt_of_lt_of_le q.lt (by rw [z]; exact hb)) (Nat.lt_irrefl _)
  · exact absurd (Nat.lt_of_lt_of_le (Heap.lt_size (I.pin p hp).1) (by rw [z]; exact hb)) (Nat.lt_irrefl _)
structure Turn (P:Program) (w:World) (K:PySem.W.Frag) (tg:Expr) (J:It) (fp:List Addr) (it:Addr) (tn:Nat->Heap->Prop):Prop where
  mem:it∈fp
  obj:∀ i h,tn i h->∀ b∈fp,∃ o,h.get? b=some o/\∀ v,o.data≠.cell v
  keep:∀ i h h',tn i h->(∀ b∈fp,∀ o,h.get? b=some o->h'.get? b=some o)->tn i h'
  item:∀ (X:Cx),X.prog=P->X.w=w->X.K=K->X.calm=true->∀ (i:Nat) (pins:List (Addr × Obj)) (s:Shared) (σ:St) (H:Hp) (E:Value->Shared->Prop),Inv X pins σ H s->(∀ b∈fp,fM X pins H b)->tn i s.heap->J.go i H ->
    wpAny (model P w) X.A (pyNext (.ref it)) (fun r s1=>∃ u,r=some u /\
      wpAny (model P w) X.A (letOwnedTupleGo tg (.ref it) u) (fun _ s2=>∃ x H',Inv X pins σ H' s2/\RelV x u/\J.yld i H x H'/\tn (i+1) s2.heap/\∀ b∈fp,H' b=none) E s1) E s
  done:∀ (X:Cx),X.prog=P->X.w=w->X.K=K->X.calm=true->∀ (i:Nat) (pins:List (Addr × Obj)) (s:Shared) (σ:St) (H:Hp) (E:Value->Shared->Prop),Inv X pins σ H s->(∀ b∈fp,fM X pins H b)->tn i s.heap->J.stop i H ->
    wpAny (model P w) X.A (pyNext (.ref it)) (fun r s1=>r=none/\Inv X pins σ H s1) E s
  self:∀ (A:Around) (i:Nat) (s:Shared) (Q:Value->Shared->Prop) (E:Value->Shared->Prop),tn i s.heap->Q (.ref it) s->wpAny (model P w) A (pyIter (.ref it)) Q E s
noncomputable abbrev TI:=St->Hp->(It->Hp->Prop)->Prop
def yR (X:Cx) (pins:List (Addr × Obj)) (σ:St) (tg:Expr) (R:It->Hp->Prop) (itv:Value) (s2:Shared):Prop :=
  ∃ (it:Addr) (fp:List Addr) (tn:Nat->Heap->Prop) (J:It) (H':Hp),itv = .ref it/\Inv X pins σ H' s2/\Turn X.prog X.w X.K tg J fp it tn/\tn 0 s2.heap/\(∀ b∈fp,fM X pins H' b)/\R J H'
def PI (X:Cx) (tg iter:Expr) (wi:TI):Prop :=
  ∀ (pins:List (Addr × Obj)) (s:Shared) (σ:St) (H:Hp) (R:It->Hp->Prop),Inv X pins σ H s->wi σ H R ->
    wpAny (model X.prog X.w) X.A (eval iter X.env) (fun v s1=>wpAny (model X.prog X.w) X.A (pyIter v) (yR X pins σ tg R) X.xe s1) X.xe s
theorem uG {M:Model} {A:Around} {E:Value->Shared->Prop} {s:Shared} {tg:Expr} {it:Addr} {u:Value} {o:Obj} {n:String} {vs:Array Value} {Q:Unit->Shared->Prop} (ho:s.heap.get? it=some o) (hc:o.cls = .type n) (hd:o.data = .fields vs)
    (hn:["enumerate","zip","dict_itemiterator","dict_reverseitemiterator","odict_iterator","itertools.zip_longest","itertools.pairwise"].contains n=false) (hQ:Q () s):wpAny M A (letOwnedTupleGo tg (.ref it) u) Q E s:=by
  unfold letOwnedTupleGo
  cases tg<;>first
    | exact wpAny_pure hQ
    | (cases u<;>first
        | exact wpAny_pure hQ
        | (refine wpAny_bind (wpAny_load ho ?_)
           rw [hc,hd]
           show wpAny M A (if (["enumerate","zip","dict_itemiterator","dict_reverseitemiterator","odict_iterator","itertools.zip_longest","itertools.pairwise"].contains n&&vs[0]? == some (rawInt _))=true then _ else _) Q E s
           rw [if_neg (by intro h; rw [hn,Bool.false_and] at h; cases h)]
           exact wpAny_pure hQ))
noncomputable def nZ (K:PySem.W.Frag) (a:Addr):It :=
  ⟨fun i H=>∃ xs x,aj K H a xs/\xs[i]? = some x,fun i H x H'=>H'=H/\∀ xs,aj K H a xs->xs[i]? = some x,fun i H=>∃ xs,aj K H a xs/\xs.length<=i⟩
noncomputable def o6 (lo:Int) (n:Nat):It:=⟨fun i _=>i < n,fun i H x H'=>H'=H/\x = .int (lo+i),fun i _=>n<=i⟩
theorem su {P:Program} {w:World} {K:PySem.W.Frag} {tg:Expr} (a it:Addr):Turn P w K tg (nZ K a) [it] it (fun i h=>h.IsListIter it a i) where
  mem:=by simp
  obj:=fun i h st b hb=>by
    have e:b=it:=by simpa using hb
    subst e
    obtain ⟨o,e,c,d⟩:=st
    exact ⟨o,e,fun v z=>by rw [d] at z; cases z⟩
  keep:=fun i h h' st k=>st.at fun o e=>k it (by simp) o e
  item:=by
    intro X hP hw hK hc i pins s σ H E I hf st hg
    subst hP hw hK
    obtain ⟨xs,x,hq,hx⟩:=hg
    obtain ⟨its,rv,p,hz⟩:=I.list hq
    obtain ⟨u,hu,ru⟩:=rv.get hx
    obtain ⟨f0,f1,f2,f3,f4,f5⟩:=hf it (by simp)
    refine wpAny_pyNext_list_item st p.isList (x:=u) (by simpa using hu) fun h' st' sb=>?_
    have I1:Inv X pins σ H { s with heap:=h' }:=I.turned (t':=s.toks) (fun b o hb e=>(sb.2 b hb).trans e) f0 f1 f3 f4 f5
    obtain ⟨o,e,c,d⟩:=id st'
    exact ⟨u,rfl,uG (s:={ s with heap:=h' }) e c d (by decide) ⟨x,H,I1,ru,⟨rfl,fun ys hy=>by rw [I.list_inj hy hq]; exact hx⟩,st',fun b hb=>(hf b hb).1⟩⟩
  done:=by
    intro X hP hw hK hc i pins s σ H E I hf st hg
    subst hP hw hK
    obtain ⟨xs,hq,hx⟩:=hg
    obtain ⟨its,rv,p,hz⟩:=I.list hq
    obtain ⟨f0,f1,f2,f3,f4,f5⟩:=hf it (by simp)
    have hl:=rv.length
    exact wpAny_pyNext_list_end (I.ok.hd hc) st p.isList (by simp; lia) fun h' eb=>⟨rfl,I.turned (t':=s.toks) (fun b o hb e=>eb b o hb e) f0 f1 f3 f4 f5⟩
  self:=fun _ _ _ _ _ st h=>wpAny_pyIter_listiter st h
theorem pH {P:Program} {w:World} {K:PySem.W.Frag} {tg:Expr} (it:Addr) (lo:Int) (n:Nat):Turn P w K tg (o6 lo n) [it] it (fun i h=>IsRangeIter h it (lo+(i:Nat)*1) ((n:Int) - (i:Nat)) 1) where
  mem:=by simp
  obj:=fun i h st b hb=>by
    have e:b=it:=by simpa using hb
    subst e
    exact ⟨_,st,fun v z=>by
      have z':Data.fields _=Data.cell v:=z
      cases z'⟩
  keep:=fun i h h' st k=>k it (by simp) _ st
  item:=by
    intro X hP hw hK hc i pins s σ H E I hf st hg
    subst hP hw hK
    obtain ⟨f0,f1,f2,f3,f4,f5⟩:=hf it (by simp)
    have W:=Walks.range (prog:=X.prog) (w:=X.w) (I.ok.hd hc) it lo 1 n
    refine W.item i s _ _ hg st fun v h' tk hv st' kk=>?_
    obtain ⟨t,rfl⟩:=hv
    have I1:Inv X pins σ H { s with heap:=h',toks:=tk }:=I.turned (fun b o hb e=>kk b o (by simpa using hb) e) f0 f1 f3 f4 f5
    refine ⟨_,rfl,uG (s:={ s with heap:=h',toks:=tk }) (n:="range_iterator") st' rfl rfl (by decide) ⟨.int (lo+i),H,I1,⟨t,?_⟩,⟨rfl,rfl⟩,st',fun b hb=>(hf b hb).1⟩⟩
    rw [Int.mul_one]
  done:=by
    intro X hP hw hK hc i pins s σ H E I hf st hg
    subst hP hw hK
    obtain ⟨f0,f1,f2,f3,f4,f5⟩:=hf it (by simp)
    exact wpAny_pyNext_range_end (I.ok.hd hc) st (by have:n<=i:=hg; lia) fun h' eb=>⟨rfl,I.turned (t':=s.toks) (fun b o hb e=>eb b o hb e) f0 f1 f3 f4 f5⟩
  self:=fun _ _ _ _ _ st h=>wpAny_pyIter_rangeiter st h
end L2
namespace L2
open PySem PySem.Spec PyProof.Rows
section
variable {X:Cx} {tg:Expr}
noncomputable def ye (K:PySem.W.Frag) (tl:TE):TI:=fun σ H R=>tl σ H fun x H1=>∃ a,x = .ref a/\(∃ xs,aj K H1 a xs)/\R (nZ K a) H1
theorem bz {l:Expr} {tl:TE} (hl:PE X l tl):PI X tg l (ye X.K tl):=by
  intro pins s σ H R I h
  refine aE (hl pins s σ H _ I h) fun v s1 ⟨x,H1,I1,r1,q1⟩=>?_
  obtain ⟨a,e,⟨xs,hq⟩,q⟩:=q1
  subst e
  cases r1
  obtain ⟨its,rv,p,hz⟩:=I1.list hq
  refine wpAny_pyIter_list p.isList ?_
  refine ⟨s1.heap.objs.size,[s1.heap.objs.size],_,_,H1,rfl,I1.kept (t':=s1.toks) fun b o e=>Heap.get?_push_of_some _ e,su a _,⟨_,Heap.get?_push_size _ rfl,rfl,rfl⟩,fun b hb=>?_,q⟩
  have e:b=s1.heap.objs.size:=by simpa using hb
  subst e
  exact I1.fpOk (Nat.le_refl _) (I1.hok.fresh (Nat.le_refl _))
theorem sX {pins:List (Addr × Obj)} {σ:St} {H:Hp} {s:Shared} {R:It->Hp->Prop} {E:Value->Shared->Prop} {lo hi:Int} {t u v:Tok} {tk:Nat} (I:Inv X pins σ H s) (h1 : -(2 ^ 62)<=lo) (h2:lo < 2 ^ 62) (h3 : -(2 ^ 62)<=hi) (h4:hi < 2 ^ 62)
    (q:R (o6 lo (hi - lo).toNat) H):wpAny (model X.prog X.w) X.A (pyIter (.ref s.heap.objs.size)) (yR X pins σ tg R) E { s with heap:=s.heap.push { cls:=.type "range",data:=.fields #[.int lo t,.int hi u,.int 1 v] },toks:=tk }:=by
  refine wpAny_pyIter_range (IsRange.new ..) (small_one h1 h2 h3 h4) ?_
  have I1:Inv X pins σ H { s with heap:=s.heap.push { cls:=.type "range",data:=.fields #[.int lo t,.int hi u,.int 1 v] },toks:=tk }:=I.kept fun b o e=>Heap.get?_push_of_some _ e
  refine ⟨(s.heap.push { cls:=.type "range",data:=.fields #[.int lo t,.int hi u,.int 1 v] }).objs.size,[(s.heap.push { cls:=.type "range",data:=.fields #[.int lo t,.int hi u,.int 1 v] }).objs.size],_,_,H,rfl,
    I1.kept (t':=tk) fun b o e=>Heap.get?_push_of_some _ e,pH _ lo (hi - lo).toNat,?_,fun b hb=>?_,q⟩
  · have e1:lo+((0:Nat):Int)*1=lo:=by simp
    have e2:(((hi - lo).toNat:Nat):Int) - ((0:Nat):Int)=Builtin.Range.rangeSize lo hi 1:=by rw [rangeSize_one]; split<;>lia
    show IsRangeIter _ _ (lo+((0:Nat):Int)*1) ((((hi - lo).toNat:Nat):Int) - ((0:Nat):Int)) 1
    rw [e1,e2]
    exact Heap.get?_push_size _ rfl
  · have e:b=(s.heap.push { cls:=.type "range",data:=.fields #[.int lo t,.int hi u,.int 1 v] }).objs.size:=by simpa using hb
    subst e
    exact I1.fpOk (Nat.le_refl _) (I1.hok.fresh (Nat.le_refl _))
noncomputable def yj (ta:TA):TI:=fun σ H R=>ta σ H fun vs H1=>∃ j:Int,vs=[.int j]/\-(2 ^ 62)<=j/\j < 2 ^ 62/\R (o6 0 j.toNat) H1
theorem dc {a:Expr} {ta:TA} {p pos:Pos} (hg:Gl X "range") (hm:X.mg "range" = none) (ha:PA X [a] ta) (hs:starEach [a] X.env=[(false,eval a X.env)]:=by rfl):PI X tg (.Call (.Name "range" p) [a] [] pos) (yj ta):=by
  intro pins s σ H R I h
  refine Call_ (dM I hg hm boot_range (PyProof.Rows.callWith_type1 (aE (ha pos pins s σ H _ I h) fun us s1 ⟨vs,H1,I1,r1,q1⟩=>?_) hs rfl))
  obtain ⟨j,e,q1,q2,q⟩:=q1
  subst e
  cases r1 with
  | cons r rr =>
    cases rr
    obtain ⟨t,rfl⟩:=r
    exact call_range_1 (sX I1 (by lia) (by lia) q1 q2 (by simpa using q))
noncomputable def zf (wi:TI) (g:TG) (tb:TS):TS:=fun D σ H=>wi σ H fun J H1=>∃ W:Nat->Nat->St->Hp->Prop,(∃ m,W 0 m σ H1)/\∀ i m σ H,W i m σ H ->
  (J.stop i H/\D.nx σ H)\/(J.go i H/\∃ N:St->Hp->Prop,(∀ σ' H',N σ' H'->∃ m',m' < m/\W (i+1) m' σ' H')/\∀ x H',J.yld i H x H'->g x σ H' fun σ2 H2=>tb { D with nx:=N,ct:=N,bk:=D.nx } σ2 H2)
noncomputable def gX (fp:List Addr) (h:Heap):List (Addr × Obj):=fp.filterMap fun b=>(h.get? b).map fun o=>(b,o)
theorem eP {fp:List Addr} {h:Heap} {b:Addr} {o:Obj} (hb:b∈fp) (e:h.get? b=some o):(b,o)∈gX fp h:=List.mem_filterMap.mpr ⟨b,hb,by rw [e]; rfl⟩
theorem sA {fp:List Addr} {h:Heap} {p:Addr × Obj} (hp:p∈gX fp h):p.1∈fp/\h.get? p.1=some p.2:=by
  obtain ⟨b,hb,e⟩:=List.mem_filterMap.mp hp
  cases q:h.get? b with
  | none=>rw [q] at e; cases e
  | some o =>
    rw [q] at e
    have e':(b,o)=p:=Option.some.inj e
    subst e'
    exact ⟨hb,q⟩
theorem Inv.pinned {pins:List (Addr × Obj)} {σ:St} {H:Hp} {s:Shared} {fp:List Addr} (I:Inv X pins σ H s) (hf:∀ b∈fp,fM X pins H b) (ho:∀ b∈fp,∃ o,s.heap.get? b=some o/\∀ v,o.data≠.cell v):Inv X (pins++gX fp s.heap) σ H s :=
  I.pins_of fun p hp=>(List.mem_append.mp hp).elim (fun z=>I.pin p (List.mem_append_right _ z)) fun z=>by
    obtain ⟨hb,e⟩:=sA z
    obtain ⟨f0,f1,f2,_⟩:=hf p.1 hb
    obtain ⟨o,e',d⟩:=ho p.1 hb
    rw [e] at e'; cases e'
    exact ⟨e,f0,f1,f2,d⟩
theorem Inv.unpinned {pins pl:List (Addr × Obj)} {σ:St} {H:Hp} {s:Shared} (I:Inv X (pins++pl) σ H s):Inv X pins σ H s:=I.pins_of fun p hp=>I.pin p (List.mem_append_right _ (List.mem_append_left _ hp))
theorem cz {iter:Expr} {body:List Stmt} {wi:TI} {g:TG} {tb:TS} {pos:Pos} (hp:PassesOwn (model X.prog X.w) X.A X.env X.xe) (hc:X.calm=true) (hi:PI X tg iter wi) (hg:PG X tg g) (hb:fX X body tb)
    (hs:∀ x,foldedSetIterable iter X.env x=pure x:=by intro _; rfl):PS X (.For tg iter body [] pos) (zf wi g tb):=by
  intro pins s σ H D I h
  refine wpAny_For (aE (hi pins s σ H _ I h) fun v s1 h1=>aE h1 fun itv s2 h2=>?_) hs
  obtain ⟨it,fp,tn,J,H2,e,I2,T,st2,f2,W,⟨m0,w0⟩,turn⟩:=h2
  subst e
  -- what stays true of the iterator's objects through the loop
  have stat:∀ {H':Hp},(∀ b∈fp,H' b=none)->∀ b∈fp,fM X pins H' b:=fun hn b hb=>⟨hn b hb,(f2 b hb).2⟩
  refine codeAny_forLoop_any (fun n s'=>∃ i σ' H',Inv X pins σ' H' s'/\tn i s'.heap/\(∀ b∈fp,H' b=none)/\W i n σ' H') ?_ m0 ⟨0,σ,H2,I2,st2,fun b hb=>(f2 b hb).1,w0⟩
  rintro n s3 ⟨i,σ3,H3,I3,st3,fr3,w3⟩
  rcases turn i n σ3 H3 w3 with ⟨stop,qn⟩ | ⟨go,N,hN,step⟩
  · refine wpAny_passesOwn hp (aE (T.done X rfl rfl rfl hc i pins s3 σ3 H3 X.xe I3 (stat fr3) st3 stop) fun r s4 ⟨hr,I4⟩=>?_)
    subst hr
    exact wpAny_execs_nil ⟨σ3,H3,I4,qn⟩
  · refine wpAny_passesOwn hp (aE (T.item X rfl rfl rfl hc i pins s3 σ3 H3 X.xe I3 (stat fr3) st3 go) fun r s4 ⟨u,hr,h4⟩=>?_)
    subst hr
    refine wpAny_passesOwn hp (aE h4 fun _ s5 ⟨x,H5,I5,r5,y5,st5,fr5⟩=>?_)
    have I5':=I5.pinned (stat fr5) (T.obj _ _ st5)
    refine wpAny_passesOwn hp (aE (hg _ s5 σ3 H5 x u _ I5' r5 (step x H5 y5)) fun _ s6 ⟨σ6,H6,I6,q6⟩=>?_)
    refine wpAny_passesOwn hp (aE (hb _ s6 σ6 H6 _ I6 q6) fun f s7 q7=>?_)
    have again:∀ {σ7:St} {H7:Hp},Inv X (pins++gX fp s5.heap) σ7 H7 s7->N σ7 H7->∃ m,m < n/\∃ i σ' H',Inv X pins σ' H' s7/\tn i s7.heap/\(∀ b∈fp,H' b=none)/\W i m σ' H':=fun {σ7 H7} I7 n7=>by
      obtain ⟨m',hm,w7⟩:=hN σ7 H7 n7
      refine ⟨m',hm,i+1,σ7,H7,I7.unpinned,T.keep _ _ _ st5 fun b hb o e=>(I7.pin (b,o) (List.mem_append_right _ (List.mem_append_right _ (eP hb e)))).1,fun b hb=>?_,w7⟩
      obtain ⟨o,e,d⟩:=T.obj _ _ st5 b hb
      exact (I7.pin (b,o) (List.mem_append_right _ (List.mem_append_right _ (eP hb e)))).2.1
    cases f with
    | next=>obtain ⟨σ7,H7,I7,n7⟩:=q7; exact again I7 n7
    | cont=>obtain ⟨σ7,H7,I7,n7⟩:=q7; exact again I7 n7
    | brk=>obtain ⟨σ7,H7,I7,q7⟩:=q7; exact ⟨σ7,H7,I7.unpinned,q7⟩
    | ret v=>obtain ⟨x7,σ7,H7,I7,r7,q7⟩:=q7; exact ⟨x7,σ7,H7,I7.unpinned,r7,q7⟩
end
theorem df {K:PySem.W.Frag} {a:Addr} {xs:List V} {g:TG} {tb:TS} {D:Ends} {σ:St} {H:Hp} (Pv:Nat->St->Hp->Prop) (h0:Pv 0 σ H) (hl:∀ i σ H,i<=xs.length->Pv i σ H->aj K H a xs)
    (hs:∀ i x σ H,xs[i]? = some x->Pv i σ H->g x σ H fun σ2 H2=>tb { D with nx:=Pv (i+1),ct:=Pv (i+1),bk:=D.nx } σ2 H2) (hd:∀ σ H,Pv xs.length σ H->D.nx σ H) :
    ∃ W:Nat->Nat->St->Hp->Prop,(∃ m,W 0 m σ H)/\∀ i m σ H,W i m σ H ->
      ((nZ K a).stop i H/\D.nx σ H)\/((nZ K a).go i H/\∃ N:St->Hp->Prop,(∀ σ' H',N σ' H'->∃ m',m' < m/\W (i+1) m' σ' H')/\∀ x H',(nZ K a).yld i H x H'->g x σ H' fun σ2 H2=>tb { D with nx:=N,ct:=N,bk:=D.nx } σ2 H2):=by
  refine ⟨fun i m σ H=>m=xs.length - i/\i<=xs.length/\Pv i σ H,⟨xs.length,by simp,Nat.zero_le _,h0⟩,?_⟩
  rintro i m σ H ⟨rfl,hi,p⟩
  have q:=hl i σ H hi p
  by_cases hlt:i < xs.length
  · refine .inr ⟨⟨xs,xs[i],q,by simp [hlt]⟩,Pv (i+1),fun σ' H' p'=>⟨xs.length - (i+1),by lia,rfl,hlt,p'⟩,fun x H' y=>?_⟩
    obtain ⟨e,y⟩:=y
    subst e
    exact hs i x σ _ (y xs q) p
  · have e:i=xs.length:=by lia
    subst e
    exact .inl ⟨⟨xs,q,Nat.le_refl _⟩,hd σ H p⟩
theorem cW {lo:Int} {n:Nat} {g:TG} {tb:TS} {D:Ends} {σ:St} {H:Hp} (Pv:Nat->St->Hp->Prop) (h0:Pv 0 σ H)
    (hs:∀ i σ H,i < n->Pv i σ H->g (.int (lo+i)) σ H fun σ2 H2=>tb { D with nx:=Pv (i+1),ct:=Pv (i+1),bk:=D.nx } σ2 H2) (hd:∀ σ H,Pv n σ H->D.nx σ H) :
    ∃ W:Nat->Nat->St->Hp->Prop,(∃ m,W 0 m σ H)/\∀ i m σ H,W i m σ H ->
      ((o6 lo n).stop i H/\D.nx σ H)\/((o6 lo n).go i H/\∃ N:St->Hp->Prop,(∀ σ' H',N σ' H'->∃ m',m' < m/\W (i+1) m' σ' H')/\∀ x H',(o6 lo n).yld i H x H'->g x σ H' fun σ2 H2=>tb { D with nx:=N,ct:=N,bk:=D.nx } σ2 H2):=by
  refine ⟨fun i m σ H=>m=n - i/\i<=n/\Pv i σ H,⟨n,by simp,Nat.zero_le _,h0⟩,?_⟩
  rintro i m σ H ⟨rfl,hi,p⟩
  by_cases hlt:i < n
  · refine .inr ⟨hlt,Pv (i+1),fun σ' H' p'=>⟨n - (i+1),by lia,rfl,hlt,p'⟩,fun x H' y=>?_⟩
    obtain ⟨e,y⟩:=y
    subst e y
    exact hs i σ _ hlt p
  · have e:i=n:=by lia
    subst e
    exact .inl ⟨Nat.le_refl _,hd σ H p⟩
end L2
namespace L2
open PySem PySem.Spec PyProof.Rows
noncomputable abbrev R2:=V->V->Hp->VK->Prop
def cF (X:Cx) (f:Value->Value->Sem Value) (r:R2):Prop :=
  ∀ (pins:List (Addr × Obj)) (s:Shared) (σ:St) (H:Hp) (x y:V) (v u:Value) (Q:VK),Inv X pins σ H s->RelV x v->RelV y u->r x y H Q ->
    wpAny (model X.prog X.w) X.A (f v u) (EP X pins σ Q) X.xe s
def xm (X:Cx) (f:Value->Sem Value) (r:V->Hp->VK->Prop):Prop :=
  ∀ (pins:List (Addr × Obj)) (s:Shared) (σ:St) (H:Hp) (x:V) (v:Value) (Q:VK),Inv X pins σ H s->RelV x v->r x H Q ->
    wpAny (model X.prog X.w) X.A (f v) (EP X pins σ Q) X.xe s
def cU (X:Cx) (f:Value) (r:List V->Hp->VK->Prop):Prop :=
  ∀ (pins:List (Addr × Obj)) (s:Shared) (σ:St) (H:Hp) (xs:List V) (us:List Value) (Q:VK),Inv X pins σ H s->Vals xs us->r xs H Q ->
    wpAny (model X.prog X.w) X.A (call f us) (EP X pins σ Q) X.xe s
noncomputable def uQ (r:R2) (ta tb:TE):TE:=fun σ H Q=>ta σ H fun x H1=>tb σ H1 fun y H2=>r x y H2 Q
noncomputable def zE (r:V->Hp->VK->Prop) (ta:TE):TE:=fun σ H Q=>ta σ H fun x H1=>r x H1 Q
noncomputable def rI (C:Int->Int->Prop) (g:Int->Int->V):R2:=fun x y H Q=>∃ i j,x = .int i/\y = .int j/\C i j/\Q (g i j) H
noncomputable def o8 (g:Int->Int->V):R2:=fun x y H Q=>∃ i j,x = .int i/\y = .int j/\Q (g i j) H
noncomputable def rU (g:Int->V):V->Hp->VK->Prop:=fun x H Q=>∃ i,x = .int i/\Q (g i) H
section
variable {X:Cx} {a b c:Expr} {ta tb tc:TE} {pos:Pos}
theorem tI (ha:PE X a ta) (hb:PE X b tb) {pins:List (Addr × Obj)} {s:Shared} {σ:St} {H:Hp} {R:V->V->Hp->Prop} (I:Inv X pins σ H s)
    (h:ta σ H fun x H1=>tb σ H1 fun y H2=>R x y H2) {Q:Value->Shared->Prop} {f:Value->Value->Sem Value}
    (hf:∀ v u s2 x y H2,Inv X pins σ H2 s2->RelV x v->RelV y u->R x y H2->wpAny (model X.prog X.w) X.A (f v u) Q X.xe s2) :
    wpAny (model X.prog X.w) X.A (eval a X.env) (fun v s₁=>wpAny (model X.prog X.w) X.A (eval b X.env) (fun u s₂=>wpAny (model X.prog X.w) X.A (f v u) Q X.xe s₂) X.xe s₁) X.xe s:=by
  refine aE (ha pins s σ H _ I h) fun v s1 ⟨x,H1,I1,r1,q1⟩=>?_
  refine aE (hb pins s1 σ H1 _ I1 q1) fun u s2 ⟨y,H2,I2,r2,q2⟩=>?_
  exact hf v u s2 x y H2 I2 r1 r2 q2
theorem ay {op:Operator} {r:R2} (ho:cF X (binaryOp op) r) (ha:PE X a ta) (hb:PE X b tb):PE X (.BinOp a op b pos) (uQ r ta tb):=by
  intro pins s σ H Q I h
  exact wpAny_BinOp (tI ha hb I h fun v u s2 x y H2 I2 rx ry q=>ho pins s2 σ H2 x y v u Q I2 rx ry q)
theorem j9 {op:UnaryOp} {r:V->Hp->VK->Prop} (ho:xm X (unaryOp op) r) (ha:PE X a ta):PE X (.UnaryOp op a pos) (zE r ta):=by
  intro pins s σ H Q I h
  exact UnaryOp_ (aE (ha pins s σ H _ I h) fun v s1 ⟨x,H1,I1,r1,q1⟩=>ho pins s1 σ H1 x v Q I1 r1 q1)
theorem vQ {f:Value->Value->Sem Value} {C:Int->Int->Prop} {g:Int->Int->Int}
    (rule:∀ (i j:Int) (t u:Tok) (s:Shared) (Q:Value->Shared->Prop) (E:Value->Shared->Prop),C i j->Q (.int (g i j) s.toks) { s with toks:=s.toks+1 }->wpAny (model X.prog X.w) X.A (f (.int i t) (.int j u)) Q E s) :
    cF X f (rI C fun i j=>.int (g i j)):=by
  intro pins s σ H x y v u Q I rx ry h
  obtain ⟨i,j,rfl,rfl,hc,q⟩:=h
  obtain ⟨t,rfl⟩:=rx
  obtain ⟨t',rfl⟩:=ry
  exact rule i j t t' s _ _ hc ⟨.int (g i j),H,I.tok _,⟨_,rfl⟩,q⟩
theorem wJ {f:Value->Value->Sem Value} {g:Int->Int->Int}
    (rule:∀ (i j:Int) (t u:Tok) (s:Shared) (Q:Value->Shared->Prop) (E:Value->Shared->Prop),Q (.int (g i j) s.toks) { s with toks:=s.toks+1 }->wpAny (model X.prog X.w) X.A (f (.int i t) (.int j u)) Q E s) :
    cF X f (o8 fun i j=>.int (g i j)):=by
  intro pins s σ H x y v u Q I rx ry h
  obtain ⟨i,j,rfl,rfl,q⟩:=h
  obtain ⟨t,rfl⟩:=rx
  obtain ⟨t',rfl⟩:=ry
  exact rule i j t t' s _ _ ⟨.int (g i j),H,I.tok _,⟨_,rfl⟩,q⟩
theorem wV {f:Value->Value->Sem Value} {g:Int->Int->Bool}
    (rule:∀ (i j:Int) (t u:Tok) (s:Shared) (Q:Value->Shared->Prop) (E:Value->Shared->Prop),Q (.bool (g i j)) s->wpAny (model X.prog X.w) X.A (f (.int i t) (.int j u)) Q E s) :
    cF X f (o8 fun i j=>.bl (g i j)):=by
  intro pins s σ H x y v u Q I rx ry h
  obtain ⟨i,j,rfl,rfl,q⟩:=h
  obtain ⟨t,rfl⟩:=rx
  obtain ⟨t',rfl⟩:=ry
  exact rule i j t t' s _ _ ⟨.bl (g i j),H,I,rfl,q⟩
def tY (i j:Int):Prop:=(-(2 ^ 64) < i/\i < 2 ^ 64)\/(-(2 ^ 64) < j/\j < 2 ^ 64)
theorem tY.ok {i j:Int} (h:tY i j):IntMulOk i j:=by
  rcases h with ⟨h1,h2⟩ | ⟨h1,h2⟩
  · exact .of_left (intBits_le_64 h1 h2)
  · exact .of_right (intBits_le_64 h1 h2)
theorem cG:cF X (binaryOp .Add) (o8 fun i j=>.int (i+j)):=wJ fun _ _ _ _ _ _ _ q=>add_int q
theorem nF:cF X (binaryOp .Sub) (o8 fun i j=>.int (i - j)):=wJ fun _ _ _ _ _ _ _ q=>sub_int q
theorem bY:cF X (binaryOp .Mult) (rI tY fun i j=>.int (i*j)):=vQ fun _ _ _ _ _ _ _ hc q=>mul_int q hc.ok
theorem bN:cF X (binaryOp .Mod) (rI (fun _ j=>0 < j) fun i j=>.int (i % j)):=vQ fun i j _ _ _ _ _ hc q=>by
  have h1:(0:Int) < j:=hc
  exact mod_int' (by lia) (by rw [Int.fmod_eq_emod_of_nonneg i (by lia)]; exact q)
theorem zI {f:Value->Sem Value} {g:Int->Int}
    (rule:∀ (i:Int) (t:Tok) (s:Shared) (Q:Value->Shared->Prop) (E:Value->Shared->Prop),Q (.int (g i) s.toks) { s with toks:=s.toks+1 }->wpAny (model X.prog X.w) X.A (f (.int i t)) Q E s) :
    xm X f (rU fun i=>.int (g i)):=by
  intro pins s σ H x v Q I rx h
  obtain ⟨i,rfl,q⟩:=h
  obtain ⟨t,rfl⟩:=rx
  exact rule i t s _ _ ⟨.int (g i),H,I.tok _,⟨_,rfl⟩,q⟩
theorem gU:xm X (unaryOp .USub) (rU fun i=>.int (-i)):=zI fun _ _ _ _ _ q=>neg_int q
end
noncomputable def wL:V->V->Bool
  | .non,.non=>true | .non,.int _=>true | .int _,.non=>true | .non,.bl _=>true | .bl _,.non=>true | .non,.str _=>true | .str _,.non=>true
  | .int _,.int _=>true | .bl _,.bl _=>true | .str _,.str _=>true | .byt _,.byt _=>true
  | .int _,.str _=>true | .str _,.int _=>true | .bl _,.str _=>true | .str _,.bl _=>true
  | _,_=>false
noncomputable def zC:R2:=fun x y H Q=>wL x y=true/\Q (.bl (decide (x=y))) H
noncomputable def zt:R2:=fun x y H Q=>wL x y=true/\Q (.bl (!decide (x=y))) H
theorem kA {i j:Int}:decide (V.int i=V.int j)=(i == j):=by
  rw [Bool.eq_iff_iff]
  simp
theorem sD {i j:Bool}:decide (V.bl i=V.bl j)=(i == j):=by
  rw [Bool.eq_iff_iff]
  simp
theorem oY {i j:Str}:decide (V.str i=V.str j)=(i == j):=by
  rw [Bool.eq_iff_iff]
  simp
theorem oV {i j:Array UInt8}:decide (V.byt i=V.byt j)=(i.toList == j.toList):=by
  rw [Bool.eq_iff_iff]
  cases i
  cases j
  simp
section
variable {X:Cx} {a b c:Expr} {ta tb tc:TE} {pos:Pos}
theorem aP {pins:List (Addr × Obj)} {σ:St} {H:Hp} {s:Shared} {Q:VK} {k k':Bool} (I:Inv X pins σ H s) (q:Q (.bl k) H) (e:k=k'):EP X pins σ Q (.bool k') s:=by
  subst e
  exact ⟨.bl k,H,I,rfl,q⟩
theorem mv:cF X (compareOp .Eq) zC:=by
  intro pins s σ H x y v u Q I rx ry h
  obtain ⟨hs,q⟩:=h
  cases x with
  | non =>
    cases rx
    cases y with
    | non=>cases ry; exact PySem.EqNone.eq_none_none (aP I q (by simp))
    | bl j=>cases ry; exact PySem.EqNone.eq_none_bool (aP I q (by simp))
    | int j=>obtain ⟨t',rfl⟩:=ry; exact PySem.EqNone.eq_none_int (aP I q (by simp))
    | str j=>obtain ⟨t',rfl⟩:=ry; exact PySem.EqNone.eq_none_str (aP I q (by simp))
    | _=>exact absurd (show false=true from hs) Bool.false_ne_true
  | bl i =>
    cases rx
    cases y with
    | non=>cases ry; exact PySem.EqNone.eq_bool_none (aP I q (by simp))
    | bl j=>cases ry; exact eq_bool (aP I q sD)
    | str j=>obtain ⟨t',rfl⟩:=ry; exact PySem.EqMixed.eq_bool_str (aP I q (by simp))
    | _=>exact absurd (show false=true from hs) Bool.false_ne_true
  | int i =>
    obtain ⟨t,rfl⟩:=rx
    cases y with
    | non=>cases ry; exact PySem.EqNone.eq_int_none (aP I q (by simp))
    | int j=>obtain ⟨t',rfl⟩:=ry; exact eq_int (aP I q kA)
    | str j=>obtain ⟨t',rfl⟩:=ry; exact PySem.EqMixed.eq_int_str (aP I q (by simp))
    | _=>exact absurd (show false=true from hs) Bool.false_ne_true
  | str i =>
    obtain ⟨t,rfl⟩:=rx
    cases y with
    | non=>cases ry; exact PySem.EqNone.eq_str_none (aP I q (by simp))
    | bl j=>cases ry; exact PySem.EqMixed.eq_str_bool (aP I q (by simp))
    | int j=>obtain ⟨t',rfl⟩:=ry; exact PySem.EqMixed.eq_str_int (aP I q (by simp))
    | str j=>obtain ⟨t',rfl⟩:=ry; exact eq_str (aP I q oY)
    | _=>exact absurd (show false=true from hs) Bool.false_ne_true
  | byt i =>
    obtain ⟨t,rfl⟩:=rx
    cases y with
    | byt j=>obtain ⟨t',rfl⟩:=ry; exact PySem.W.eq_bytes (aP I q oV)
    | _=>exact absurd (show false=true from hs) Bool.false_ne_true
  | _=>cases y<;>exact absurd (show false=true from hs) Bool.false_ne_true
theorem gx:cF X (compareOp .NotEq) zt:=by
  intro pins s σ H x y v u Q I rx ry h
  obtain ⟨hs,q⟩:=h
  cases x with
  | non =>
    cases rx
    cases y with
    | non=>cases ry; exact PySem.EqNone.ne_none_none (aP I q (by simp))
    | bl j=>cases ry; exact PySem.EqNone.ne_none_bool (aP I q (by simp))
    | int j=>obtain ⟨t',rfl⟩:=ry; exact PySem.EqNone.ne_none_int (aP I q (by simp))
    | str j=>obtain ⟨t',rfl⟩:=ry; exact PySem.EqNone.ne_none_str (aP I q (by simp))
    | _=>exact absurd (show false=true from hs) Bool.false_ne_true
  | bl i =>
    cases rx
    cases y with
    | non=>cases ry; exact PySem.EqNone.ne_bool_none (aP I q (by simp))
    | bl j=>cases ry; exact ne_bool (aP I q (congrArg not sD))
    | str j=>obtain ⟨t',rfl⟩:=ry; exact PySem.EqMixed.ne_bool_str (aP I q (by simp))
    | _=>exact absurd (show false=true from hs) Bool.false_ne_true
  | int i =>
    obtain ⟨t,rfl⟩:=rx
    cases y with
    | non=>cases ry; exact PySem.EqNone.ne_int_none (aP I q (by simp))
    | int j=>obtain ⟨t',rfl⟩:=ry; exact ne_int (aP I q (congrArg not kA))
    | str j=>obtain ⟨t',rfl⟩:=ry; exact PySem.EqMixed.ne_int_str (aP I q (by simp))
    | _=>exact absurd (show false=true from hs) Bool.false_ne_true
  | str i =>
    obtain ⟨t,rfl⟩:=rx
    cases y with
    | non=>cases ry; exact PySem.EqNone.ne_str_none (aP I q (by simp))
    | bl j=>cases ry; exact PySem.EqMixed.ne_str_bool (aP I q (by simp))
    | int j=>obtain ⟨t',rfl⟩:=ry; exact PySem.EqMixed.ne_str_int (aP I q (by simp))
    | str j=>obtain ⟨t',rfl⟩:=ry; exact ne_str (aP I q (congrArg not oY))
    | _=>exact absurd (show false=true from hs) Bool.false_ne_true
  | byt i =>
    obtain ⟨t,rfl⟩:=rx
    cases y with
    | byt j=>obtain ⟨t',rfl⟩:=ry; exact PySem.W.ne_bytes (aP I q (congrArg not oV))
    | _=>exact absurd (show false=true from hs) Bool.false_ne_true
  | _=>cases y<;>exact absurd (show false=true from hs) Bool.false_ne_true
theorem gy:cF X (compareOp .Lt) (o8 fun i j=>.bl (decide (i < j))):=wV fun _ _ _ _ _ _ _ q=>lt_int q
theorem x8:cF X (compareOp .LtE) (o8 fun i j=>.bl (decide (i<=j))):=wV fun _ _ _ _ _ _ _ q=>le_int q
theorem cF.or {f:Value->Value->Sem Value} {r r':R2} (h:cF X f r) (h':cF X f r'):cF X f (fun x y H Q=>r x y H Q\/r' x y H Q):=by
  intro pins s σ H x y v u Q I rx ry q
  rcases q with q | q
  · exact h pins s σ H x y v u Q I rx ry q
  · exact h' pins s σ H x y v u Q I rx ry q
theorem bA (b:Expr) {op:CmpOp} (h:op≠.In:=by decide) (h2:op≠.NotIn:=by decide):behindInMarks op b=false:=by
  have e1:(op == CmpOp.In)=false:=by cases op<;>first | rfl | exact absurd rfl h
  have e2:(op == CmpOp.NotIn)=false:=by cases op<;>first | rfl | exact absurd rfl h2
  cases b<;>simp [behindInMarks,e1,e2]
theorem kU {op:CmpOp} {r:R2} (ho:cF X (compareOp op) r) (ha:PE X a ta) (hb:PE X b tb) (hm:behindInMarks op b=false):PE X (.Compare a [op] [b] pos) (uQ r ta tb):=by
  intro pins s σ H Q I h
  exact wpAny_Compare1 (tI ha hb I h fun v u s2 x y H2 I2 rx ry q=>ho pins s2 σ H2 x y v u Q I2 rx ry q) hm
noncomputable def uA (t:TE):TT:=fun σ H Q=>t σ H fun x H'=>∃ k,x = .bl k/\Q k H'
theorem bj {op:CmpOp} {r:R2} (ho:cF X (compareOp op) r) (ha:PE X a ta) (hb:PE X b tb) (hm:behindInMarks op b=false):PT X (.Compare a [op] [b] pos) (uA (uQ r ta tb)):=by
  intro pins s σ H Q I h
  refine wpAny_isTrue_Compare1 (aE (ha pins s σ H _ I h) fun v s1 ⟨x,H1,I1,r1,q1⟩=>aE (hb pins s1 σ H1 _ I1 q1) fun u s2 ⟨y,H2,I2,r2,q2⟩ =>
    aE (ho pins s2 σ H2 x y v u _ I2 r1 r2 q2) fun c s3 ⟨z,H3,I3,r3,k,e,q3⟩=>?_) hm
  subst e
  cases r3
  exact wpAny_truthy_bool ⟨H3,I3,q3⟩
theorem jU:(sizeLine:Nat) < 2 ^ 63:=by rw [sizeLine_eq]; decide
theorem vals1 {x:V} {us:List Value} (r:Vals [x] us):∃ u,us=[u]/\RelV x u:=by
  cases r with
  | cons r1 r2=>cases r2; exact ⟨_,rfl,r1⟩
theorem vals2 {x y:V} {us:List Value} (r:Vals [x,y] us):∃ u w',us=[u,w']/\RelV x u/\RelV y w':=by
  cases r with
  | cons r1 r2 =>
    cases r2 with
    | cons r3 r4=>cases r4; exact ⟨_,_,rfl,r1,r3⟩
theorem lJ (hc:X.calm=true):cU X (.builtin "max") (fun xs H Q=>∃ i j,xs=[.int i,.int j]/\Q (.int (if j > i then j else i)) H):=by
  intro pins s σ H xs us Q I r h
  obtain ⟨i,j,rfl,q⟩:=h
  obtain ⟨u,w',rfl,⟨t,rfl⟩,⟨t',rfl⟩⟩:=vals2 r
  refine max_two_ints (I.ok.hd hc) fun h' tk k=>⟨_,H,I.kept k,?_,q⟩
  by_cases hj:j > i
  · rw [if_pos hj,if_pos hj]; exact ⟨_,rfl⟩
  · rw [if_neg hj,if_neg hj]; exact ⟨_,rfl⟩
theorem lK (hc:X.calm=true):cU X (.builtin "min") (fun xs H Q=>∃ i j,xs=[.int i,.int j]/\Q (.int (if j < i then j else i)) H):=by
  intro pins s σ H xs us Q I r h
  obtain ⟨i,j,rfl,q⟩:=h
  obtain ⟨u,w',rfl,⟨t,rfl⟩,⟨t',rfl⟩⟩:=vals2 r
  refine min_two_ints (I.ok.hd hc) fun h' tk k=>⟨_,H,I.kept k,?_,q⟩
  by_cases hj:j < i
  · rw [if_pos hj,if_pos hj]; exact ⟨_,rfl⟩
  · rw [if_neg hj,if_neg hj]; exact ⟨_,rfl⟩
end
end L2
namespace L2
open PySem PySem.Spec PyProof.Rows
structure kH (h:Heap) (x dx C:Addr) (mA:Str->Option Value):Prop where
  obj:h.get? x=some (PySem.W.instObj C dx)
  ns:h.Ns1 dx mA
  ne:dx≠x
theorem rL {h:Heap} {dx:Addr} {mA:Str->Option Value} (n:h.Ns1 dx mA):∃ od,h.get? dx=some od/\∀ name,PySem.W.lookIn name od=some (mA name):=by
  obtain ⟨o,es,ep,ho,hd,hk,_,hm⟩:=n
  refine ⟨o,ho,fun name=>?_⟩
  have e:=hm name
  unfold nsFind findBy at e
  rw [<- Array.find?_toList] at e
  unfold PySem.W.lookIn
  rw [hd]
  dsimp only
  split
  · rename_i y q
    rw [q] at e
    exact congrArg some e
  · rename_i q
    rw [q] at e
    have a:es.toList.any (·.refKey)=false:=by
      rw [List.any_eq_false]
      intro y hy
      obtain ⟨z,t,hkey⟩:=hk y (Array.mem_toList_iff.mp hy)
      simp [DictEntry.refKey,hkey]
    have a':¬ es.toList.any (·.refKey)=true:=by rw [a]; exact Bool.false_ne_true
    rw [if_neg a']
    exact congrArg some e
theorem kH.look {h:Heap} {x dx C:Addr} {mA:Str->Option Value} (I:kH h x dx C mA):∃ od,PySem.W.InstAt h x (PySem.W.instObj C dx) C (some od)/\∀ name,PySem.W.lookIn name od=some (mA name) :=
  let ⟨od,ho,hl⟩:=rL I.ns
  ⟨od,⟨I.obj,rfl,rfl,ho⟩,hl⟩
section
variable {prog:Program} {w:World} {A:Around} {E:Value->Shared->Prop} {s:Shared} {K:PySem.W.Frag} {x dx C f:Addr} {mA:Str->Option Value} {name:Str} {v:Value}
theorem tD {pl:Sem Bool} {Q:Value × List Value->Shared->Prop} (X:K.In s.heap) (I:kH s.heap x dx C mA) (hg:PySem.W.plainGet K C name=true)
    (hf:PySem.W.findIn K (.ref C) name=some (some (.ref f))) (ht:PySem.W.isFn K (.ref f)=true) (hv:mA name=none) (h:Q (.ref f,[.ref x]) s) :
    wpAny (model prog w) A (getMethod (.ref x) name pl) Q E s:=by
  obtain ⟨od,J,hl⟩:=I.look
  exact PySem.W.method_fn X J (PySem.W.plainGet_of hg).1 (PySem.W.plainGet_of hg).2 hf (beq_iff_eq.mp ht) (by show (PySem.W.lookIn name od).map (·.isSome)=some false; rw [hl,hv]; rfl) h
theorem uW {ns:List Str} {Q:Unit->Shared->Prop} (X:K.In s.heap) (I:kH s.heap x dx C mA)
    (hs:PySem.W.findIn K (.ref C) "__setattr__" = some (some (.builtin "object.__setattr__"))) (hp:PySem.W.plainOver K C=true) (ht:PySem.W.takerIn K C name=some none) (hh:PySem.W.hasDictIn K C=true)
    (hw:PySem.Within mA ns) (hsz:ns.length<=sizeLine)
    (h:∀ h',kH h' x dx C (fun y=>if y=name then some v else mA y)->Heap.SameBut dx s.heap h'->Q () { s with heap:=h',toks:=s.toks+2 }) :
    wpAny (model prog w) A (setAttr (.ref x) name v) Q E s:=by
  obtain ⟨od,J,hl⟩:=I.look
  refine PySem.W.set_plain X J hs (PySem.W.osa_open (s:={ s with toks:=s.toks+1 }) (r:=none) X J hp ht fun b=>?_)
  obtain ⟨cd,hc,hd'⟩:=PySem.W.any_some hh
  have hx:s.heap.get? x=some ⟨.ref C,some dx,.plain,#[]⟩:=I.obj
  refine wpAny_bind (wpAny_pure (wpAny_bind (wpAny_bind (wpAny_loadPart hx (wpAny_bind (PySem.W.Looks.here (s:={ s with toks:=s.toks+1 }) (PySem.W.looks_clsIn X hc) ?_))))))
  rw [hd']
  refine wpAny_pure (a:=some dx) (wpAny_bind (wpAny_pure (wpAny_bind ?_)))
  refine wpAny_nsSet1 (s:={ s with toks:=s.toks+1 }) I.ns fun h' hn2 hs2=>?_
  obtain ⟨oD,esD,epD,hoD,hdD,hcD⟩:=hn2.count (PySem.Within.cons name v hw)
  refine wpAny_bind (wpAny_lookBehind hoD (by rw [hdD]; exact pastItsLine_dict (Nat.le_trans hcD (by rw [List.length_cons]; lia))) ?_)
  exact wpAny_pure (h _ ⟨(hs2.2 _ (Ne.symm I.ne)).trans I.obj,hn2,I.ne⟩ hs2)
theorem tU {R:Result->Shared->Prop} {vs:List Value} {kw:List (Str × Value)} (X:K.In s.heap) (hm:PySem.W.makesIn K C=true)
    (hi:PySem.W.findIn K (.ref C) "__init__" = some (some (.ref f))) (hf:PySem.W.typeIn K (.ref f)=some (.type "function"))
    (h:codeAny (model prog w) (A.under (.builtin "type.__call__" ⟨.ref C::vs,kw⟩)) (.call (.ref f) ⟨.ref (s.heap.objs.size+1)::vs,kw⟩) (PySem.W.InitBack (s.heap.objs.size+1) R)
      { s with heap:=(s.heap.push PySem.W.emptyDict).push (PySem.W.instObj C s.heap.objs.size) }) :
    codeAny (model prog w) A (.call (.ref C) ⟨vs,kw⟩) R s:=by
  obtain ⟨hh,g,d,t,os⟩:=s
  exact PySem.W.make_core (PySem.W.makes_of X hm) (PySem.W.looks_findIn X hi) (fun self=>PySem.W.bind_fn X self hf) (.inl rfl) h
end
noncomputable def cS (f:Str) (v:V):List (Str × V)->List (Str × V)
  | []=>[(f,v)]
  | (g,x)::r=>if g=f then (g,v)::r else (g,x)::cS f v r
theorem cH (f g:Str) (v:V):∀ fs:List (Str × V),(cS f v fs).lookup g=if g=f then some v else fs.lookup g
  | []=>by
    show List.lookup g [(f,v)]=_
    by_cases h:g=f
    · have hb:(g == f)=true:=beq_iff_eq.mpr h
      simp only [List.lookup,hb,if_pos h]
    · have hb:(g == f)=false:=beq_eq_false_iff_ne.mpr h
      simp only [List.lookup,hb,if_neg h]
  | (k,x)::r=>by
    have ih:=cH f g v r
    rw [show cS f v ((k,x)::r)=(if k=f then (k,v)::r else (k,x)::cS f v r) from rfl]
    by_cases hk:k=f
    · rw [if_pos hk]
      by_cases h:g=k
      · have hb:(g == k)=true:=beq_iff_eq.mpr h
        simp only [List.lookup,hb,if_pos (h.trans hk)]
      · have hb:(g == k)=false:=beq_eq_false_iff_ne.mpr h
        simp only [List.lookup,hb,if_neg (fun e:g=f=>h (e.trans hk.symm))]
    · rw [if_neg hk]
      by_cases h:g=k
      · have hb:(g == k)=true:=beq_iff_eq.mpr h
        simp only [List.lookup,hb,if_neg (fun e:g=f=>hk (h.symm.trans e))]
      · have hb:(g == k)=false:=beq_eq_false_iff_ne.mpr h
        simp only [List.lookup,hb]
        exact ih
theorem gR (f:Str) (v:V):∀ fs:List (Str × V),f∈(cS f v fs).map (·.1)/\∀ g,g∈fs.map (·.1)->g∈(cS f v fs).map (·.1)
  | []=>⟨by simp [cS],fun g h=>by simp at h⟩
  | (k,x)::r=>by
    obtain ⟨i1,i2⟩:=gR f v r
    rw [show cS f v ((k,x)::r)=(if k=f then (k,v)::r else (k,x)::cS f v r) from rfl]
    by_cases hk:k=f
    · rw [if_pos hk]
      subst hk
      exact ⟨by simp,fun g h=>by simpa using h⟩
    · rw [if_neg hk]
      refine ⟨?_,fun g h=>?_⟩
      · rw [List.map_cons]
        exact List.mem_cons_of_mem _ i1
      · rw [List.map_cons] at h |-
        rcases List.mem_cons.mp h with e | e
        · exact List.mem_cons.mpr (.inl e)
        · exact List.mem_cons_of_mem _ (i2 g e)
theorem je (f:Str) (v:V):∀ fs:List (Str × V),(cS f v fs).length<=fs.length+1
  | []=>by simp [cS]
  | (k,x)::r=>by
    have ih:=je f v r
    rw [show cS f v ((k,x)::r)=(if k=f then (k,v)::r else (k,x)::cS f v r) from rfl]
    by_cases hk:k=f
    · rw [if_pos hk,List.length_cons,List.length_cons]; lia
    · rw [if_neg hk,List.length_cons,List.length_cons]; lia
theorem dw.some_of {v:V} {o:Option Value} (r:dw (some v) o):∃ u,o=some u/\RelV v u:=by
  cases o with
  | none=>exact (show False from r).elim
  | some u=>exact ⟨u,rfl,r⟩
theorem dw.none_of {o:Option Value} (r:dw none o):o=none:=by
  cases o with
  | none=>rfl
  | some u=>exact (show False from r).elim
section
variable {P:Program} {w:World} {H H':Hp} {h h':Heap} {a C dx:Addr} {fs fs':List (Str × V)}
theorem lA (hok:cw P w H h) (e:H a=some (.ins C dx fs)):∃ mA,kH h a dx C mA/\(∀ f,dw (fs.lookup f) (mA f))/\PySem.Within mA (fs.map (·.1))/\fs.length<=1000/\H dx=some (.own a):=by
  obtain ⟨d,z,ne,ob,mA,n,r,q⟩:=(show bo P w H h a (.ins C dx fs) from hok a _ e)
  exact ⟨mA,⟨ob,n,ne⟩,r,q,z,d⟩
end
structure gW (K:PySem.W.Frag) (C:Addr):Prop where
  pg:PySem.W.plainGet K C Str.empty=true
  hd:PySem.W.hasDictIn K C=true
  po:PySem.W.plainOver K C=true
  sa:PySem.W.findIn K (.ref C) "__setattr__" = some (some (.builtin "object.__setattr__"))
theorem gW.get {K:PySem.W.Frag} {C:Addr} (c:gW K C) (f:Str):PySem.W.plainGet K C f=true:=c.pg
def eC (K:PySem.W.Frag) (C:Addr) (f:Str):Prop:=PySem.W.findIn K (.ref C) f=some none
theorem eC.taker {K:PySem.W.Frag} {C:Addr} {f:Str} (n:eC K C f):PySem.W.takerIn K C f=some none:=by
  unfold PySem.W.takerIn
  rw [show PySem.W.findIn K (.ref C) f=some none from n]
  rfl
structure Meth (K:PySem.W.Frag) (C:Addr) (m:Str) (f:Addr):Prop where
  at_:PySem.W.findIn K (.ref C) m=some (some (.ref f))
  fn:PySem.W.isFn K (.ref f)=true
  kp:PySem.W.keepIn K (.ref f)=true
section
variable {X:Cx} {pins:List (Addr × Obj)} {σ:St} {H:Hp} {s:Shared} {a C dx:Addr} {fs:List (Str × V)} {f:Str} {v:V} {A:Around} {E:Value->Shared->Prop}
theorem jM {m:Str} {g:Addr} {pl:Sem Bool} {Q:Value × List Value->Shared->Prop} (I:Inv X pins σ H s) (e:H a=some (.ins C dx fs)) (c:gW X.K C) (k:Meth X.K C m g) (l:fs.lookup m=none)
    (h:Q (.ref g,[.ref a]) s):wpAny (model X.prog X.w) A (getMethod (.ref a) m pl) Q E s:=by
  obtain ⟨mA,O,r,_,_,_⟩:=lA I.hok e
  have hn:mA m=none:=dw.none_of (by rw [<- l]; exact r m)
  exact tD I.kIn O (c.get m) k.at_ k.fn hn h
theorem qd {y:V} {u:Value} {Q:Unit->Shared->Prop} (I:Inv X pins σ H s) (e:H a=some (.ins C dx fs)) (c:gW X.K C) (n:eC X.K C f) (hl:fs.length < 1000) (ry:RelV y u)
    (h:∀ s',Inv X pins σ (upd H a (.ins C dx (cS f y fs))) s'->Q () s'):wpAny (model X.prog X.w) A (setAttr (.ref a) f u) Q E s:=by
  obtain ⟨mA,O,r,wi,_,ho⟩:=lA I.hok e
  have hz:(fs.map (·.1)).length<=sizeLine:=by rw [List.length_map,sizeLine_eq]; lia
  refine uW I.kIn O c.sa c.po n.taker c.hd wi hz fun h' O' sb=>h _ ?_
  have hd:∃ o,h'.get? dx=some o:=let ⟨o,_,_,e',_⟩:=O'.ns; ⟨o,e'⟩
  refine I.write (x:=a) (e:=dx) (by rw [e]; exact True.intro) (.inr ho) (fun b q hb z=>(sb.2 b hb).trans z) hd ?_
  refine ⟨by rw [ao O.ne]; exact ho,?_,O.ne,O'.obj,_,O'.ns,fun g=>?_,fun g hg=>?_⟩
  · have:=je f y fs; lia
  · show dw ((cS f y fs).lookup g) (if g=f then some u else mA g)
    rw [cH]
    by_cases q:g=f
    · rw [if_pos q,if_pos q]; exact ry
    · rw [if_neg q,if_neg q]; exact r g
  · by_cases q:g=f
    · rw [q]; exact (gR f y fs).1
    · refine (gR f y fs).2 g (wi g fun z=>hg ?_)
      show (if g=f then some u else mA g)=none
      rw [if_neg q]; exact z
theorem Inv.made (I:Inv X pins σ H s):Inv X pins σ (upd (upd H s.heap.objs.size (.own (s.heap.objs.size+1))) (s.heap.objs.size+1) (.ins C s.heap.objs.size []))
    { s with heap:=(s.heap.push PySem.W.emptyDict).push (PySem.W.instObj C s.heap.objs.size) }:=by
  have e1:(s.heap.push PySem.W.emptyDict).get? s.heap.objs.size=some PySem.W.emptyDict:=Heap.get?_push_size s.heap rfl
  have e2:((s.heap.push PySem.W.emptyDict).push (PySem.W.instObj C s.heap.objs.size)).get? (s.heap.objs.size+1)=some (PySem.W.instObj C s.heap.objs.size):=by
    have:=Heap.get?_push_size (s.heap.push PySem.W.emptyDict) (o:=PySem.W.instObj C s.heap.objs.size) rfl
    rwa [Heap.size_push] at this
  have e3:(s.heap.push PySem.W.emptyDict).Ns s.heap.objs.size (fun _=>none):=⟨PySem.W.emptyDict,#[],_,e1,rfl,(fun e he=>absurd he (by simp)),fun _=>rfl⟩
  have I1:=I.laid (a:=s.heap.objs.size) (o:=.own (s.heap.objs.size+1)) (h':=s.heap.push PySem.W.emptyDict) (t':=s.toks) (fun b u q=>Heap.get?_push_of_some _ q) (Nat.le_refl _) ⟨_,e1⟩
  refine I1.laid (a:=s.heap.objs.size+1) (o:=.ins C s.heap.objs.size []) (t':=s.toks) (fun b u q=>Heap.get?_push_of_some _ q) (Nat.le_of_eq (Heap.size_push _ _)) ?_
  have ne:s.heap.objs.size≠s.heap.objs.size+1:=Nat.ne_of_lt (Nat.lt_succ_self _)
  refine ⟨by rw [ao ne,af],Nat.zero_le _,ne,e2,fun _=>none,(Heap.Ns1.of_empty e3).at fun o q=>Heap.get?_push_of_some _ q,fun _=>True.intro,fun y hy=>absurd rfl hy⟩
end
noncomputable def y8 (K:PySem.W.Frag) (ta tv:TE) (f:Str):TS:=fun D σ H=>tv σ H fun y H1=>ta σ H1 fun x H2=>∃ a C dx fs,x = .ref a/\H2 a=some (.ins C dx fs)/\gW K C/\eC K C f/\fs.length < 1000 /\
  D.nx σ (upd H2 a (.ins C dx (cS f y fs)))
section
variable {X:Cx} {o e value:Expr} {f:Str} {pos pos' tpos:Pos} {ta tv:TE}
theorem jJ (ha:PE X o ta) (hv:PE X value tv) (hs:swapsWith value (some (.Attribute o f pos')) pos.line X.env=pure false):PS X (.Assign [.Attribute o f pos'] value pos) (y8 X.K ta tv f):=by
  intro pins s σ H D I h
  refine plainObj_wpAny_Assign_Attribute (aE (hv pins s σ H _ I h) fun u s1 ⟨y,H1,I1,ry,q⟩=>aE (ha pins s1 σ H1 _ I1 q) fun ov s2 ⟨x,H2,I2,rx,a,C,dx,fs,ex,ea,c,n,l,q2⟩=>?_) hs
  subst ex
  obtain rfl:ov=Value.ref a:=rx
  exact qd I2 ea c n l ry fun s3 I3=>⟨σ,_,I3,q2⟩
theorem xU {pl:Sem Bool} {m:Str} {apos:Pos} {args:List Expr} {pins:List (Addr × Obj)} {s:Shared} {σ:St} {H:Hp} {Q:Value->Shared->Prop} {te:TE} (he:PE X e te) (I:Inv X pins σ H s)
    (h:te σ H fun x H1=>∃ a C dx fs g,x = .ref a/\H1 a=some (.ins C dx fs)/\gW X.K C/\Meth X.K C m g/\fs.lookup m=none /\
      ∀ s1,Inv X pins σ H1 s1->wpAny (model X.prog X.w) X.A (callWith pos (.ref g) [.ref a] (backTo pos (starEach args X.env)) (backToKw pos (keywordEach [] X.env))) Q X.xe s1)
    (ht:eval (.Call (.Attribute e m apos) args [] pos) X.env=(do
      let ov <- eval e X.env
      standAt apos.atName
      let (f,first) <- holding [ov] (getMethod ov m pl)
      callWith pos f first (backTo pos (starEach args X.env)) (backToKw pos (keywordEach [] X.env)))) :
    wpAny (model X.prog X.w) X.A (eval (.Call (.Attribute e m apos) args [] pos) X.env) Q X.xe s:=by
  refine PySem.W.methodCall_KW (pl:=pl) (aE (he pins s σ H _ I h) fun u s1 ⟨x,H1,I1,rx,a,C,dx,fs,g,ex,ea,c,k,l,q⟩=>?_) ht
  subst ex
  obtain rfl:u=Value.ref a:=rx
  exact jM I1 ea c k l (q s1 I1)
end
section
variable {X:Cx} {pins:List (Addr × Obj)} {σ:St} {H:Hp} {s:Shared} {A:Around} {E:Value->Shared->Prop} {Q:Value->Shared->Prop} {c:Value} {b:Bool}
inductive dU (K:PySem.W.Frag) (H:Hp):V->Value->Prop where
  | non:dU K H .non (.type "NoneType")
  | bl (x:Bool):dU K H (.bl x) (.type "bool")
  | int (i:Int):dU K H (.int i) (.type "int")
  | str (x:Str):dU K H (.str x) (.type "str")
  | flt (x:UInt64):dU K H (.flt x) (.type "float")
  | lst {a:Addr} {xs:List V} (e:H a=some (.lst xs)):dU K H (.ref a) (.type "list")
  | frz {a:Addr} {o:Obj} {xs:List V} (e:H a=some (.frz o (.lst xs))):dU K H (.ref a) (.type "list")
  | tup {a:Addr} {xs:List V} (e:H a=some (.tup xs)):dU K H (.ref a) (.type "tuple")
  | dK {a:Addr} {kvs:List (Key × V)} (e:H a=some (.dK kvs)):dU K H (.ref a) (.type "dict")
  | dT {a:Addr} {kvs:List (List Key × V)} (e:H a=some (.dT kvs)):dU K H (.ref a) (.type "dict")
  | ins {a C dx:Addr} {fs:List (Str × V)} (e:H a=some (.ins C dx fs)) (cl:gW K C) (ha:PySem.W.findIn K (.ref C) "__class__" = some (some (.builtin "object.__class__")))
      (hn:PySem.W.specialIn K (.builtin "object.__class__") "__get__" = some (some (.builtin "getset_descriptor.__get__"))) (htk:PySem.W.takesIn K (.builtin "object.__class__")=some true)
      (hm:PySem.W.mroIn K C (.type "object")=some true):dU K H (.ref a) (.ref C)
theorem rM {x:V} {u t:Value} (I:Inv X pins σ H s) (rx:RelV x u) (ty:dU X.K H x t) (e:PySem.W.kitOne X.K t c=some b) (h:∀ tk,Q (.bool b) { s with toks:=tk }) :
    wpAny (model X.prog X.w) A (call (.builtin "isinstance") [u,c]) Q E s:=by
  cases ty with
  | non=>cases (show u=Value.none from rx); exact PySem.W.kia_one PySem.W.kitx_none I.kIn True.intro e (fun z=>nomatch z) h
  | bl y=>cases (show u=Value.bool y from rx); exact PySem.W.kia_one PySem.W.kitx_bool I.kIn True.intro e (fun z=>nomatch z) h
  | int i=>obtain ⟨t,q⟩:=(show ∃ t,u=Value.int i t from rx); cases q; exact PySem.W.kia_one PySem.W.kitx_int I.kIn True.intro e (fun z=>nomatch z) h
  | str y=>obtain ⟨t,q⟩:=(show ∃ t,u=Value.str y t from rx); cases q; exact PySem.W.kia_one PySem.W.kitx_str I.kIn True.intro e (fun z=>nomatch z) h
  | flt y=>obtain ⟨t,q⟩:=(show ∃ t,u=Value.float y t from rx); cases q; exact PySem.W.kia_one PySem.W.kitx_float I.kIn True.intro e (fun z=>nomatch z) h
  | @lst a xs ea =>
    cases (show u=Value.ref a from rx)
    obtain ⟨_,_,n,_,h1⟩:=(show bo X.prog X.w H s.heap a (.lst xs) from I.hok a _ ea)
    exact PySem.W.kia_one PySem.W.kitx_list I.kIn ⟨_,h1,rfl⟩ e (fun z=>nomatch z) h
  | @frz a ob xs ea =>
    cases (show u=Value.ref a from rx)
    obtain ⟨_,_,_,n,_,h1⟩:=(show bo X.prog X.w H s.heap a (.frz ob (.lst xs)) from I.hok a _ ea)
    exact PySem.W.kia_one PySem.W.kitx_list I.kIn ⟨_,h1,rfl⟩ e (fun z=>nomatch z) h
  | @tup a xs ea =>
    cases (show u=Value.ref a from rx)
    obtain ⟨_,_,_,p⟩:=(show bo X.prog X.w H s.heap a (.tup xs) from I.hok a _ ea)
    obtain ⟨o,h1,h2,_⟩:=p
    exact PySem.W.kia_one PySem.W.kitx_tuple I.kIn ⟨o,h1,h2⟩ e (fun z=>nomatch z) h
  | @dK a kvs ea =>
    cases (show u=Value.ref a from rx)
    obtain ⟨_,_,vs,_,p⟩:=(show bo X.prog X.w H s.heap a (.dK kvs) from I.hok a _ ea)
    obtain ⟨o,es,ep,h1,h2,_⟩:=p
    exact PySem.W.kia_one PySem.W.kitx_dict I.kIn ⟨o,h1,h2.1⟩ e (fun z=>nomatch z) h
  | @dT a kvs ea =>
    cases (show u=Value.ref a from rx)
    obtain ⟨_,_,xs,_,o,es,ep,h1,h2,_⟩:=(show bo X.prog X.w H s.heap a (.dT kvs) from I.hok a _ ea)
    exact PySem.W.kia_one PySem.W.kitx_dict I.kIn ⟨o,h1,h2.1⟩ e (fun z=>nomatch z) h
  | @ins a C dx fs ea cl ha hn htk hm =>
    cases (show u=Value.ref a from rx)
    obtain ⟨mA,O,_⟩:=lA I.hok ea
    obtain ⟨od,J,_⟩:=O.look
    exact PySem.W.kia_one (PySem.W.kitx_own (cl.get _) cl.hd ha hn htk hm) I.kIn J e (fun z=>nomatch z) h
end
end L2
namespace L2
open PySem PySem.Spec PyProof.Rows
structure bD (k:Nat) (A:Around):Prop where
  hd:A.handled=none
  dp:A.depth+3*k+5 < recursionLimit
  un:A.units+16*k+200 < cLine
theorem bD.mono {j k:Nat} {A:Around} (r:bD k A) (h:j<=k):bD j A:=⟨r.hd,by have:=r.dp; lia,by have:=r.un; lia⟩
theorem bD.deeper {k:Nat} {A:Around} (r:bD (k+1) A) (env:Env):bD k (A.deeper env) :=
  ⟨r.hd,by have:=r.dp; show A.depth+1+3*k+5 < _; lia,by have:=r.un; show A.units+3+16*k+200 < _; lia⟩
theorem qB {A:Around} {C:Addr} {us:List Value} {kw:List (Str × Value)}:(A.under (.builtin "type.__call__" ⟨.ref C::us,kw⟩)).depth=A.depth+1:=by
  first | rfl | simp [Around.under,Code.weight,Code.isCreation,Code.isGuard,Code.isCaller,Code.frames,Code.isFrame,guardIds]
theorem qC {A:Around} {C:Addr} {us:List Value} {kw:List (Str × Value)}:(A.under (.builtin "type.__call__" ⟨.ref C::us,kw⟩)).units=A.units+1:=by
  first | rfl | simp [Around.under,Code.cUnits,Code.frames,Code.isFrame]
theorem bD.make {k:Nat} {A:Around} (r:bD (k+1) A) (C:Addr) (us:List Value) (kw:List (Str × Value)):bD k (A.under (.builtin "type.__call__" ⟨.ref C::us,kw⟩)) :=
  ⟨r.hd,by have:=r.dp; rw [qB]; lia,by have:=r.un; rw [qC]; lia⟩
theorem bD.depth {k:Nat} {A:Around} (r:bD k A):A.depth < recursionLimit:=by have:=r.dp; lia
theorem bD.units {k:Nat} {A:Around} (r:bD k A):A.units+64 < cLine:=by have:=r.un; lia
noncomputable def tS:TA:=fun _ H Q=>Q [] H
noncomputable def yL (ta:TE) (tr:TA):TA:=fun σ H Q=>ta σ H fun x H1=>tr σ H1 fun xs H2=>Q (x::xs) H2
section
variable {X:Cx} {e:Expr} {es:List Expr} {te:TE} {t:TA} {pos:Pos}
theorem ae:PA X [] tS:=fun _ _ _ _ H Q I h=>Calls.spliced_nil ⟨[],H,I,.nil,h⟩
theorem aa (ha:PE X e te) (hr:PA X es t) (hs:starEach (e::es) X.env=(false,eval e X.env)::starEach es X.env:=by rfl):PA X (e::es) (yL te t):=by
  intro pos pins s σ H Q I h
  rw [hs]
  show wpAny _ _ (spliced ((false,eval e X.env)::backTo pos (starEach es X.env))) _ _ s
  refine Calls.spliced_cons (aE (ha pins s σ H _ I h) fun u s1 ⟨x,H1,I1,r1,q1⟩=>?_)
  exact aE (hr pos pins s1 σ H1 _ I1 q1) fun us s2 ⟨xs,H2,I2,r2,q2⟩=>⟨x::xs,H2,I2,.cons r1 r2,q2⟩
noncomputable def yY (t:TA):TE:=fun σ H Q=>t σ H fun xs H1=>xs.length<=sizeLine/\∀ p,H1 p=none->Q (.ref p) (upd H1 p (.tup xs))
noncomputable def y0 (t:TA):TE:=fun σ H Q=>t σ H fun xs H1=>xs.length<=sizeLine/\∀ p,H1 p=none->Q (.ref p) (upd H1 p (.lst xs))
theorem hW {x1} (h:PA X es t):PE X (.Tuple es x1 pos) (yY t):=by
  intro pins s σ H Q I hq
  refine wpAny_Tuple_spliced (aE (h pos pins s σ H _ I hq) fun us s1 ⟨xs,H1,I1,r,z,q⟩=>⟨by rw [<- r.length]; exact z,?_⟩)
  have hf:H1 s1.heap.objs.size=none:=I1.hok.fresh (Nat.le_refl _)
  refine ⟨.ref s1.heap.objs.size,upd H1 s1.heap.objs.size (.tup xs),I1.laid (t':=s1.toks) (fun b u e=>Heap.get?_push_of_some _ e) (Nat.le_refl _) ?_,rfl,q _ hf⟩
  exact ⟨z,us,r,⟨_,Heap.get?_push_size _ rfl,rfl,_,rfl⟩⟩
theorem cq (h:PA X es t):PE X (.List es pos) (y0 t):=by
  intro pins s σ H Q I hq
  refine wpAny_List_spliced (aE (h pos pins s σ H _ I hq) fun us s1 ⟨xs,H1,I1,r,z,q⟩=>⟨by rw [<- r.length]; exact z,?_⟩)
  have hf:H1 s1.heap.objs.size=none:=I1.hok.fresh (Nat.le_refl _)
  refine ⟨.ref s1.heap.objs.size,upd H1 s1.heap.objs.size (.lst xs),I1.laid (t':=s1.toks) (fun b u e=>Heap.get?_push_of_some _ e) (Nat.le_refl _) ?_,rfl,q _ hf⟩
  exact ⟨z,us,0,r,Heap.get?_push_size _ rfl⟩
end
noncomputable abbrev Sp:=List V->Hp->VK->XK->Prop
noncomputable abbrev fR:=List Env->Hp->Shared->XK->Value->Shared->Prop
structure ju (P:Program) (w:World) (K:PySem.W.Frag) (mg:Str->Option Value) (base:Heap) (A:Around) (outer:List Env) (s:Shared) (H:Hp):Prop where
  frames:A.frames=some outer
  mod:Mod K mg base
  bs:∀ b o,base.get? b=some o->s.heap.get? b=some o/\H b=none
  bsz:base.objs.size<=s.heap.objs.size
  funs:s.heap.FunFrames base outer
  frf:∀ b∈fQ outer,H b=none
  hok:cw P w H s.heap
  bare:AllBare s.gens
def CE (outer:List Env) (P:Program) (w:World) (H:Hp) (s:Shared) (Q:VK) (u:Value) (s':Shared):Prop :=
  ∃ v H',s'.os=s.os/\AllBare s'.gens/\Un (fQ outer) [] H H' s.heap s'.heap/\cw P w H' s'.heap/\RelV v u/\Q v H'
def CR (CX:fR) (outer:List Env) (P:Program) (w:World) (H:Hp) (s:Shared) (Q:VK) (E:XK) (r:Result) (s':Shared):Prop :=
  match r with
  | .ok (.ret u)=>CE outer P w H s Q u s'
  | .ok _=>False
  | .error e=>CX outer H s E e s'
structure aL (P:Program) (w:World) (K:PySem.W.Frag) (mg:Str->Option Value) (base:Heap) (CX:fR) (k:Nat) (f:Addr) (fd:FuncData) (ps:List Str) (sp:Sp):Prop where
  len:∀ vs H Q E,sp vs H Q E->vs.length=ps.length
  run:∀ (A:Around) (outer:List Env) (s:Shared) (H:Hp) (args:Args) (us:List Value) (vs:List V) (Q:VK) (E:XK),bD k A->ju P w K mg base A outer s H->BindsTo s fd args (ps.zip us)->Vals vs us->sp vs H Q E ->
    codeAny (model P w) A (.call (.ref f) args) (CR CX outer P w H s Q E) s
theorem ju.make {P:Program} {w:World} {K:PySem.W.Frag} {mg:Str->Option Value} {base:Heap} {A:Around} {outer:List Env} {s:Shared} {H:Hp} (e:ju P w K mg base A outer s H) (C:Addr) (us:List Value) (kw:List (Str × Value)) :
    ju P w K mg base (A.under (.builtin "type.__call__" ⟨.ref C::us,kw⟩)) outer s H:=⟨by first | exact e.frames | (simpa [Around.under,Code.envs,Code.isFrame,pushEnvs] using e.frames),e.mod,e.bs,e.bsz,e.funs,e.frf,e.hok,e.bare⟩
section
variable {X:Cx} {pins:List (Addr × Obj)} {σ:St} {H:Hp} {s s':Shared}
theorem Inv.env0 (I:Inv X pins σ H s):ju X.prog X.w X.K X.mg X.base X.A X.stack s H :=
  ⟨I.ok.frames,I.ok.mod,I.bs,Nat.le_trans I.ok.bsz I.sz,I.stack,I.stkFree,I.hok,I.bare⟩
theorem Inv.after {Q:VK} {u:Value} (I:Inv X pins σ H s) (h:CE X.stack X.prog X.w H s Q u s'):EP X pins σ Q u s':=by
  obtain ⟨v,H',os,bare,un,hok,r,q⟩:=h
  obtain ⟨hh,g,d,t,os'⟩:=s'
  obtain rfl:os'=s.os:=os
  exact ⟨v,H',I.call (h':=hh) (g':=g) (d':=d) (t':=t) (ch:=[]) un hok bare (fun b z=>absurd z (by simp)),r,q⟩
end
noncomputable def qF (sp:Sp) (dvs:List V) (E:XK) (t:TA):TE:=fun σ H Q=>t σ H fun vs H1=>sp (vs++dvs) H1 Q E
noncomputable def uM (C:Addr) (m:Str) (sp:Sp) (dvs:List V) (E:XK) (ta:TE) (t:TA):TE:=fun σ H Q=>ta σ H fun x H1=>∃ a dx fs,x = .ref a/\H1 a=some (.ins C dx fs)/\fs.lookup m=none /\
  t σ H1 fun vs H2=>sp (x::(vs++dvs)) H2 Q E
noncomputable def uC (C:Addr) (sp:Sp) (dvs:List V) (E:XK) (t:TA):TE:=fun σ H Q=>t σ H fun vs H1=>∀ x dx,H1 x=none->H1 dx=none->dx≠x ->
  sp (.ref x::(vs++dvs)) (upd (upd H1 dx (.own x)) x (.ins C dx [])) (fun v H2=>v = .non/\Q (.ref x) H2) E
def Binds (K:PySem.W.Frag) (fd:FuncData) (ps:List Str) (ds:List Value):Prop :=
  ∀ (s:Shared) (us:List Value),K.In s.heap->(us++ds).length=ps.length->BindsTo s fd ⟨us,[]⟩ (ps.zip (us++ds))
theorem Binds.all {K:PySem.W.Frag} {fd:FuncData} {ps:List Str} (h:∀ us:List Value,us.length=ps.length->bindArgs fd ⟨us,[]⟩=pure (ps.zip us)):Binds K fd ps []:=fun s us _ hl=>by
  rw [List.append_nil] at hl |-
  exact .of_eq (h us hl)
def Passes (CX:fR) (X:Cx) (E:XK):Prop:=∀ (pins:List (Addr × Obj)) (σ:St) (H:Hp) (s:Shared) (e:Value) (s':Shared),Inv X pins σ H s->CX X.stack H s E e s'->X.xe e s'
section
variable {X:Cx} {CX:fR} {k:Nat} {f C:Addr} {fd:FuncData} {ps:List Str} {sp:Sp} {dvs:List V} {ds:List Value} {E:XK} {x m:Str} {p pos apos:Pos} {e o:Expr} {es:List Expr} {ta:TE} {t:TA}
theorem mC {pins:List (Addr × Obj)} {σ:St} {H:Hp} {s:Shared} {Q:VK} {us:List Value} {vs:List V} (F:aL X.prog X.w X.K X.mg X.base CX k f fd ps sp) (hr:bD k X.A) (hb:Binds X.K fd ps ds) (hd:Vals dvs ds) (hx:Passes CX X E)
    (I:Inv X pins σ H s) (r:Vals vs us) (h:sp (vs++dvs) H Q E):wpAny (model X.prog X.w) X.A (call (.ref f) us) (EP X pins σ Q) X.xe s:=by
  have r2:Vals (vs++dvs) (us++ds):=r.append hd
  have hl:(us++ds).length=ps.length:=by rw [<- r2.length]; exact F.len _ _ _ _ h
  refine wpAny_call (codeAny_mono (F.run X.A X.stack s H ⟨us,[]⟩ (us++ds) (vs++dvs) Q E hr I.env0 (hb s us I.kIn hl) r2 h) fun r s' hq=>?_)
  cases r with
  | error e=>exact hx pins σ H s e s' I hq
  | ok fl =>
    cases fl with
    | ret u=>exact I.after hq
    | next=>exact False.elim hq
    | brk=>exact False.elim hq
    | cont=>exact False.elim hq
theorem vj (F:aL X.prog X.w X.K X.mg X.base CX k f fd ps sp) (hr:bD k X.A) (hg:Gl X x) (hm:X.mg x=some (.ref f)) (hk:PySem.W.keepIn X.K (.ref f)=true) (hb:Binds X.K fd ps ds) (hd:Vals dvs ds) (hx:Passes CX X E)
    (ha:PA X (e::es) t) (hdb:(x == ("__debug__" : Str))=false:=by decide) (he:starEach (e::es) X.env=(false,eval e X.env)::starEach es X.env:=by rfl) (hpl:(backTo pos (starEach es X.env)).any (·.1)=false:=by rfl) :
    PE X (.Call (.Name x p) (e::es) [] pos) (qF sp dvs E t):=by
  intro pins s σ H Q I h
  refine wpAny_Call_Name_kw (kY I hg hm ?_ hdb)
  refine PySem.W.callWith_K (h₀:=X.base) I.ok.mod.kin hk (aE (ha pos pins s σ H _ I h) fun us s1 ⟨vs,H1,I1,r,q⟩=>⟨I1.kIn,?_⟩) he hpl
  exact mC F hr hb hd hx I1 r q
theorem vE {pl:Sem Bool} (he:PE X o ta) (c:gW X.K C) (hm:Meth X.K C m f) (F:aL X.prog X.w X.K X.mg X.base CX k f fd ps sp) (hr:bD k X.A) (hb:Binds X.K fd ps ds) (hd:Vals dvs ds) (hx:Passes CX X E) (ha:PA X (e::es) t)
    (hst:starEach (e::es) X.env=(false,eval e X.env)::starEach es X.env:=by rfl) (hpl:(backTo pos (starEach es X.env)).any (·.1)=false:=by rfl)
    (ht:eval (.Call (.Attribute o m apos) (e::es) [] pos) X.env=(do
      let ov <- eval o X.env
      standAt apos.atName
      let (f,first) <- holding [ov] (getMethod ov m pl)
      callWith pos f first (backTo pos (starEach (e::es) X.env)) (backToKw pos (keywordEach [] X.env))):=by rfl) :
    PE X (.Call (.Attribute o m apos) (e::es) [] pos) (uM C m sp dvs E ta t):=by
  intro pins s σ H Q I h
  refine PySem.W.methodCall_KW (pl:=pl) (aE (he pins s σ H _ I h) fun u s1 ⟨x,H1,I1,rx,a,dx,fs,ex,ea,l,q⟩=>?_) ht
  subst ex
  obtain rfl:u=Value.ref a:=rx
  refine jM I1 ea c hm l ?_
  refine PySem.W.callWith_K (first:=[.ref a]) (h₀:=X.base) I.ok.mod.kin hm.kp (aE (ha pos pins s1 σ H1 _ I1 q) fun us s2 ⟨vs,H2,I2,r,q2⟩=>⟨I2.kIn,?_⟩) hst hpl
  exact mC (us:=.ref a::us) (vs:=.ref a::vs) F hr hb hd hx I2 (.cons rfl r) q2
structure Mk (K:PySem.W.Frag) (C f:Addr):Prop where
  makes:PySem.W.makesIn K C=true
  init:PySem.W.findIn K (.ref C) "__init__" = some (some (.ref f))
  fn:PySem.W.isFn K (.ref f)=true
  kp:PySem.W.keepIn K (.ref C)=true
theorem tm {pins:List (Addr × Obj)} {σ:St} {H:Hp} {s:Shared} {Q:VK} {us:List Value} {vs:List V} (M:Mk X.K C f) (F:aL X.prog X.w X.K X.mg X.base CX k f fd ps sp) (hr:bD (k+1) X.A) (hb:Binds X.K fd ps ds) (hd:Vals dvs ds)
    (hx:Passes CX X E) (I:Inv X pins σ H s) (r:Vals vs us)
    (h:∀ x dx,H x=none->H dx=none->dx≠x->sp (.ref x::(vs++dvs)) (upd (upd H dx (.own x)) x (.ins C dx [])) (fun v H2=>v = .non/\Q (.ref x) H2) E) :
    wpAny (model X.prog X.w) X.A (call (.ref C) us) (EP X pins σ Q) X.xe s:=by
  have hq:=h (s.heap.objs.size+1) s.heap.objs.size (I.hok.fresh (Nat.le_succ _)) (I.hok.fresh (Nat.le_refl _)) (Nat.ne_of_lt (Nat.lt_succ_self _))
  have I2:=Inv.made (C:=C) I
  have r2:Vals (V.ref (s.heap.objs.size+1)::(vs++dvs)) (Value.ref (s.heap.objs.size+1)::(us++ds)):=.cons rfl (r.append hd)
  have hl:(Value.ref (s.heap.objs.size+1)::us++ds).length=ps.length:=by
    have e:=r2.length
    rw [F.len _ _ _ _ hq] at e
    exact e.symm
  refine wpAny_call (tU (f:=f) I.kIn M.makes M.init (beq_iff_eq.mp M.fn) (codeAny_mono (F.run _ X.stack _ _ ⟨Value.ref (s.heap.objs.size+1)::us,[]⟩ (Value.ref (s.heap.objs.size+1)::(us++ds)) _ _ E (hr.make C us [])
    (I2.env0.make C us []) (hb _ (Value.ref (s.heap.objs.size+1)::us) I2.kIn hl) r2 hq) fun r s' hq'=>?_))
  cases r with
  | error e=>exact hx pins σ _ _ e s' I2 hq'
  | ok fl =>
    cases fl with
    | ret u =>
      obtain ⟨v,H',I3,rv,ev,q3⟩:=I2.after hq'
      subst ev
      exact ⟨rv,⟨V.ref (s.heap.objs.size+1),H',I3,rfl,q3⟩⟩
    | next=>exact False.elim hq'
    | brk=>exact False.elim hq'
    | cont=>exact False.elim hq'
theorem tT (M:Mk X.K C f) (F:aL X.prog X.w X.K X.mg X.base CX k f fd ps sp) (hr:bD (k+1) X.A) (hg:Gl X x) (hm:X.mg x=some (.ref C)) (hb:Binds X.K fd ps ds) (hd:Vals dvs ds) (hx:Passes CX X E)
    (hdb:(x == ("__debug__" : Str))=false:=by decide):PE X (.Call (.Name x p) [] [] pos) (uC C sp dvs E tS):=by
  intro pins s σ H Q I h
  refine wpAny_Call_Name_kw (kY I hg hm ?_ hdb)
  exact PySem.W.callWith_K0 I.kIn M.kp (tm (us:=[]) M F hr hb hd hx I .nil h)
end
section
variable {X:Cx} {CX:fR} {k:Nat} {f C:Addr} {fd:FuncData} {ps ks:List Str} {sp:Sp} {E:XK} {x m:Str} {p pos apos kpos:Pos} {e o:Expr} {es:List Expr} {kws:List Keyword} {te ta:TE} {t tk:TA} {nm:Option Str}
variable {g:List Value->List Value->List Value} {gV:List V->List V->List V}
end
structure aC (N P:List Str) (sc:Scope):Prop where
  kind:sc.kind = .function
  co:sc.isCoroutine=false
  gen:sc.isGenerator=false
  nd:N.Nodup
  pre:N.take P.length=P
  par:∀ x∈P,sc.names.lookup x=some .local\/sc.names.lookup x=some .cell
  nofree:∀ y∈sc.names,y.2≠.free
theorem lM {kindOf:Str->Option NameKind} {x:Str}:∀ {binds:List (Str × Value)} {m:Str->Option Value},(∀ v,(x,v)∉binds)->bindL kindOf binds m x=m x
  | [],_,_=>rfl
  | (n,v)::r,m,h=>by
    unfold bindL
    rw [lM fun w hw=>h w (List.mem_cons_of_mem _ hw)]
    split
    · have:x≠n:=by rintro rfl; exact h v List.mem_cons_self
      simp [this]
    · rfl
theorem lQ {kindOf:Str->Option NameKind} {x:Str}:∀ {binds:List (Str × Value)} {m:Str->Option Value},(∀ v,(x,v)∉binds)->bindC kindOf binds m x=m x
  | [],_,_=>rfl
  | (n,v)::r,m,h=>by
    unfold bindC
    rw [lQ fun w hw=>h w (List.mem_cons_of_mem _ hw)]
    split
    · rfl
    · have:x≠n:=by rintro rfl; exact h v List.mem_cons_self
      simp [this]
theorem lN {kindOf:Str->Option NameKind} {x:Str} {v:Value}:∀ {P:List Str} {vs:List Value} {i:Nat} {m:Str->Option Value},P.Nodup->P[i]? = some x->vs[i]? = some v->kindOf x=some .local ->
    bindL kindOf (P.zip vs) m x=some v
  | [],_,_,_,_,h,_,_=>by simp at h
  | _::_,[],_,_,_,_,h,_=>by simp at h
  | p::P,w::vs,0,m,nd,h1,h2,hk=>by
    simp at h1 h2; subst h1; subst h2
    show bindL kindOf ((p,w)::P.zip vs) m p=_
    unfold bindL
    rw [lM fun v hv=>(List.nodup_cons.mp nd).1 (List.of_mem_zip hv).1,if_pos hk]
    simp
  | p::P,w::vs,i+1,m,nd,h1,h2,hk=>by
    show bindL kindOf ((p,w)::P.zip vs) m x=_
    unfold bindL
    exact lN (i:=i) (List.nodup_cons.mp nd).2 (by simpa using h1) (by simpa using h2) hk
theorem lD {kindOf:Str->Option NameKind} {x:Str} {v:Value}:∀ {P:List Str} {vs:List Value} {i:Nat} {m:Str->Option Value},P.Nodup->P[i]? = some x->vs[i]? = some v->kindOf x≠some .local ->
    bindC kindOf (P.zip vs) m x=some v
  | [],_,_,_,_,h,_,_=>by simp at h
  | _::_,[],_,_,_,_,h,_=>by simp at h
  | p::P,w::vs,0,m,nd,h1,h2,hk=>by
    simp at h1 h2; subst h1; subst h2
    show bindC kindOf ((p,w)::P.zip vs) m p=_
    unfold bindC
    rw [lQ fun v hv=>(List.nodup_cons.mp nd).1 (List.of_mem_zip hv).1,if_neg hk]
    simp
  | p::P,w::vs,i+1,m,nd,h1,h2,hk=>by
    show bindC kindOf ((p,w)::P.zip vs) m x=_
    unfold bindC
    exact lD (i:=i) (List.nodup_cons.mp nd).2 (by simpa using h1) (by simpa using h2) hk
noncomputable def start (N:List Str) (vs:List V):St:=vs.map some++List.replicate (N.length - vs.length) none
noncomputable def kZ (CX:fR) (P:Program) (w:World) (K:PySem.W.Frag) (mg:Str->Option Value) (base:Heap) (N:List Str) (qual:Str) (scope:Scope) (f:Addr) (cd:Value) (A:Around) (outer:List Env) (s:Shared) (H:Hp) (E:XK):Cx where
  prog:=P
  w:=w
  K:=K
  mg:=mg
  base:=base
  A:=A.deeper (envOfC qual scope s.heap.objs.size f cd)
  N:=N
  s₀:=s
  H₀:=H
  env:=envOfC qual scope s.heap.objs.size f cd
  outer:=outer
  stack:=envOfC qual scope s.heap.objs.size f cd::outer
  ex:=[]
  calm:=true
  fn:=fun _=>true
  pn:=[]
  xe:=fun e s'=>wpAny (model P w) (A.deeper (envOfC qual scope s.heap.objs.size f cd)) (leaving (envOfC qual scope s.heap.objs.size f cd) e) (fun _ s''=>CX outer H s E e s'') (fun e' s''=>CX outer H s E e' s'') s'
theorem mU {sc:Scope} {n:Nat} {x:Str} (h:sc.names.lookup x=some .cell):∃ c,(cellsFrom n sc.names []).lookup x=some c:=by
  have q:=PySem.W.cellsFrom_some sc.names n [] (.inl h)
  exact Option.isSome_iff_exists.mp q
theorem rO {CX:fR} {P:Program} {w:World} {K:PySem.W.Frag} {mg:Str->Option Value} {base:Heap} {N ps:List Str} {qual:Str} {scope:Scope} {f:Addr} {cd:Value} {A:Around} {outer:List Env} {s s1:Shared} {H:Hp} {E:XK} {us:List Value} {vs:List V}
    (S:aC N ps scope) (hd:A.handled=none) (e0:ju P w K mg base A outer s H) (hl:vs.length=ps.length) (r:Vals vs us)
    (x:InCallC s s.heap.objs.size (bindL (envOfC qual scope s.heap.objs.size f cd).kindOf (ps.zip us) fun _=>none) (cellsFrom (s.heap.objs.size+1) scope.names []) (bindC (envOfC qual scope s.heap.objs.size f cd).kindOf (ps.zip us) fun _=>none) s1) :
    Inv (kZ CX P w K mg base N qual scope f cd A outer s H E) [] (start N vs) H s1:=by
  have hpl:ps.length<=N.length:=by have:=congrArg List.length S.pre; rw [List.length_take] at this; lia
  obtain ⟨h1,tk,rfl,hk⟩:=x.done
  have noA:∀ b:Addr,b∉(kZ CX P w K mg base N qual scope f cd A outer s H E).ex:=fun b z=>absurd (show b∈([]:List Addr) from z) (by simp)
  refine ⟨⟨e0.mod,S.kind,rfl,rfl,Nat.le_refl _,fun y z c h1 h2=>?_,fun y hy=>?_,fun y c _ h=>?_,fun _=>hd,Around.frames_deeper e0.frames,.inr ⟨rfl,rfl⟩,fun b z=>absurd z (noA b),e0.bs,e0.bsz,fun b _ _=>noA b,fun b z=>absurd z (noA b),e0.funs,e0.frf⟩,
    rfl,e0.bare,Un.kept hk,⟨_,x.toInCall.ns,fun i y v h1 h2 h3=>?_⟩,fun y c h=>⟨_,x.cell y c h⟩,e0.hok.fresh (Nat.le_refl _),fun y c h=>?_,fun p hp=>absurd (show p∈([]:List (Addr × Obj)) from hp) (by simp),e0.hok.kept hk,?_⟩
  · exact name_of_addr x.apart (PySem.mem_of_lookup h1) (PySem.mem_of_lookup h2)
  · have hy:scope.names.lookup y=some .cell\/scope.names.lookup y=some .free:=hy
    rcases hy with hy | hy
    · exact mU hy
    · exact absurd rfl (S.nofree _ (PySem.mem_of_lookup hy))
  · exact Nat.le_of_lt (x.above y c (PySem.mem_of_lookup h))
  · have hi:i < vs.length:=by
      unfold start at h2
      by_cases hi:i < vs.length
      · exact hi
      · rw [List.getElem?_append_right (by simpa using hi)] at h2
        rw [List.getElem?_replicate] at h2
        split at h2<;>cases h2
    have ha:vs[i]? = some v:=by
      unfold start at h2
      rw [List.getElem?_append_left (by simpa using hi),List.getElem?_map] at h2
      cases e:vs[i]? with
      | none=>rw [e] at h2; cases h2
      | some a=>rw [e] at h2; cases h2; rfl
    obtain ⟨u,hu,rv⟩:=r.get ha
    have hp:ps[i]? = some y:=by
      rw [<- S.pre,List.getElem?_take_of_lt (by lia)]; exact h1
    have ndP:ps.Nodup:=by rw [<- S.pre]; exact S.nd.sublist (List.take_sublist _ _)
    refine ⟨u,rv,?_⟩
    rcases S.par y (List.mem_of_getElem? hp) with k | k
    · exact .inl ⟨k,lN ndP hp hu k⟩
    · obtain ⟨c,e⟩:=mU (n:=s.heap.objs.size+1) k
      refine .inr ⟨.inl k,c,e,?_⟩
      have q:=x.cell y c e
      rw [lD ndP hp hu (by show scope.names.lookup y≠_; rw [k]; decide)] at q
      exact q
  · exact e0.hok.fresh (Nat.le_of_lt (x.above y c (PySem.mem_of_lookup h)))
  · unfold start
    show _=N.length
    rw [List.length_append,List.length_map,List.length_replicate]
    lia
theorem yu {CX:fR} {P:Program} {w:World} {K:PySem.W.Frag} {mg:Str->Option Value} {base:Heap} {k:Nat} {f:Addr} {name qual:Str} {params:Arguments} {body:List Stmt} {scope:Scope} {dV kV doc pm cdv ct oc:Value} {an od:Option Addr}
    {osl:Array (Option Value)} {N ps:List Str} {sp:Sp} (lk:K.lookup f=some ⟨oc,od,.func (PySem.W.fnOf name qual params body scope dV kV doc pm an cdv ct),osl⟩) (hcd:PySem.W.codeIn K cdv qual=true) (S:aC N ps scope)
    (len:∀ vs H Q E,sp vs H Q E->vs.length=ps.length)
    (hbody:∀ (A:Around) (outer:List Env) (s:Shared) (H:Hp) (vs:List V) (Q:VK) (E:XK),bD k (A.deeper (envOfC qual scope s.heap.objs.size f cdv))->sp vs H Q E ->
      ∃ t,fX (kZ CX P w K mg base N qual scope f cdv A outer s H E) body t/\t { nx:=fun _ H'=>Q .non H',rt:=Q } (start N vs) H) :
    aL P w K mg base CX (k+1) f (PySem.W.fnOf name qual params body scope dV kV doc pm an cdv ct) ps sp:=by
  refine ⟨len,fun A outer s H args us vs Q E hr e0 hb r hsp=>?_⟩
  have hl:=len _ _ _ _ hsp
  have KX:K.In s.heap:=e0.mod.kin.keeps fun b o e=>(e0.bs b o e).1
  have lim:s.heap.NoLimit:=e0.mod.nolimit.keeps fun b o e=>(e0.bs b o e).1
  have hkind:∀ y∈ps.zip us,scope.names.lookup y.1=some .local\/(scope.names.lookup y.1=some .cell/\((cellsFrom (s.heap.objs.size+1) scope.names []).lookup y.1).isSome=true):=fun ⟨n,v⟩ hy=>by
    rcases S.par n (List.of_mem_zip hy).1 with q | q
    · exact .inl q
    · exact .inr ⟨q,PySem.W.cellsFrom_some _ _ _ (.inl q)⟩
  refine codeAny_call_function hr.depth (KX _ _ lk) rfl S.co S.gen rfl (PySem.W.codeRec_of KX hcd) (hb _ _ _ _ ?_)
  refine wpAny_newFunctionEnv_cells S.kind hkind fun env he s1 x=>?_
  subst he
  refine ⟨lim.keeps x.toInCall.keep,codeAny_func ?_⟩
  obtain ⟨t,ht,hq⟩:=hbody A outer s H vs Q E (hr.deeper _) hsp
  have I:Inv (kZ CX P w K mg base N qual scope f cdv A outer s H E) [] (start N vs) H s1:=rO S hr.hd e0 hl r x
  refine wpAny_mono (ht [] s1 (start N vs) H _ I hq) (fun fl s' hs=>?_) fun e s' hs=>hs
  have fin:∀ {σ':St} {H':Hp} {v:V} {u:Value},Inv (kZ CX P w K mg base N qual scope f cdv A outer s H E) [] σ' H' s'->RelV v u->Q v H'->CE outer P w H s Q u s' :=
    fun {σ' H' v u} J rv q=>⟨v,H',J.os,J.bare,J.base,J.hok,rv,q⟩
  cases fl with
  | ret u =>
    obtain ⟨v,σ',H',J,rv,q⟩:=hs
    exact fin J rv q
  | next =>
    obtain ⟨σ',H',J,q⟩:=hs
    exact fin (v:=V.non) (u:=Value.none) J rfl q
  | brk =>
    obtain ⟨_,_,_,q⟩:=hs
    exact False.elim q
  | cont =>
    obtain ⟨_,_,_,q⟩:=hs
    exact False.elim q
end L2
namespace L2
open PySem PySem.Spec PyProof.Rows
section
variable {X:Cx} {x:Str} {p pos:Pos} {e:Expr} {es:List Expr} {t:TA} {id T:String} {r:List V->Hp->VK->Prop}
noncomputable def yO (r:List V->Hp->VK->Prop) (t:TA):TE:=fun σ H Q=>t σ H fun vs H1=>r vs H1 Q
theorem aw (hc:cU X (.builtin id) r) (hg:Gl X x) (hm:X.mg x=none) (hv:bootBuiltins x=some (.builtin id)) (ha:PA X (e::es) t) (hn:x≠"__name__":=by decide) (hdb:(x == ("__debug__" : Str))=false:=by decide)
    (he:starEach (e::es) X.env=(false,eval e X.env)::starEach es X.env:=by rfl) (hpl:(backTo pos (starEach es X.env)).any (·.1)=false:=by rfl):PE X (.Call (.Name x p) (e::es) [] pos) (yO r t):=by
  intro pins s σ H Q I h
  refine wpAny_Call_Name_kw (dM I hg hm hv ?_ hn hdb)
  exact PyProof.Rows.callWith_builtin1 (aE (ha pos pins s σ H _ I h) fun us s1 ⟨vs,H1,I1,r1,q1⟩=>hc pins s1 σ H1 vs us Q I1 r1 q1) he hpl
theorem rP (hc:cU X (.type T) r) (hg:Gl X x) (hm:X.mg x=none) (hv:bootBuiltins x=some (.type T)) (ha:PA X (e::es) t) (hn:x≠"__name__":=by decide) (hdb:(x == ("__debug__" : Str))=false:=by decide)
    (he:starEach (e::es) X.env=(false,eval e X.env)::starEach es X.env:=by rfl) (hpl:(backTo pos (starEach es X.env)).any (·.1)=false:=by rfl):PE X (.Call (.Name x p) (e::es) [] pos) (yO r t):=by
  intro pins s σ H Q I h
  refine wpAny_Call_Name_kw (dM I hg hm hv ?_ hn hdb)
  exact PyProof.Rows.callWith_type1 (aE (ha pos pins s σ H _ I h) fun us s1 ⟨vs,H1,I1,r1,q1⟩=>hc pins s1 σ H1 vs us Q I1 r1 q1) he hpl
end
end L2
namespace HT
open PySem PyProof.Rows
section
open PySem.SeqAt
open PySem.AutoSeq1 (wpAny_loadPart')
open PySem.MeetsSeq PySem.MeetsSeq2 PySem.MeetsSeq3
end
section
variable {prog:Program} {w:World} {A:Around} {E:Value->Shared->Prop} {s:Shared}
noncomputable def sIx (n d:Nat):Option Int->Nat
  | none=>d
  | some v=>if v < 0 then (v+(n:Int)).toNat else min v.toNat n
theorem sIx_none (n d:Nat):sIx n d none=d:=rfl
theorem sIx_nat (n d k:Nat):sIx n d (some (k:Int))=min k n:=by
  show (if (k:Int) < 0 then ((k:Int)+(n:Int)).toNat else min (k:Int).toNat n)=min k n
  rw [if_neg (by lia),Int.toNat_natCast]
end
end HT
namespace L2
open PySem PySem.Spec PyProof.Rows
noncomputable abbrev TO:=St->Hp->(Option Int->Hp->Prop)->Prop
def PO (X:Cx) (e:Option Expr) (t:TO):Prop :=
  ∀ (pins:List (Addr × Obj)) (s:Shared) (σ:St) (H:Hp) (Q:Option Int->Hp->Prop),Inv X pins σ H s->t σ H Q ->
    wpAny (model X.prog X.w) X.A (evalPart e X.env) (fun u s'=>∃ o H',Inv X pins σ H' s'/\IsPart u o/\Q o H') X.xe s
noncomputable def vi:TO:=fun _ H Q=>Q none H
noncomputable def yD (t:TE):TO:=fun σ H Q=>t σ H fun x H1=>∃ i,x = .int i/\Q (some i) H1
theorem intsAre_of {ns:List Int}:∀ {us:List Value},Vals (ns.map V.int) us->IntsAre us ns:=by
  induction ns with
  | nil=>intro us r; rw [List.map_nil] at r; cases r; exact .nil
  | cons n ns ih =>
    intro us r
    rw [List.map_cons] at r
    cases r with
    | cons r1 r2 =>
      obtain ⟨t,e⟩:=r1
      subst e
      exact .cons n t (ih r2)
section
variable {X:Cx} {e:Expr} {te:TE} {lo hi:Option Expr} {tl th:TO} {pos p2:Pos}
theorem iu:PO X none vi:=by
  intro pins s σ H Q I h
  rw [evalPart_none]
  exact wpAny_pure ⟨none,H,I,.none,h⟩
theorem iT (h:PE X e te):PO X (some e) (yD te):=by
  intro pins s σ H Q I hw
  rw [evalPart_some]
  refine aE (h pins s σ H _ I hw) fun u s1 ⟨x,H1,I1,r1,q1⟩=>?_
  obtain ⟨i,rfl,q⟩:=q1
  obtain ⟨t,rfl⟩:=r1
  exact ⟨some i,H1,I1,.int i t,q⟩
def xG (X:Cx) (r:V->Option Int->Option Int->Hp->VK->Prop):Prop :=
  ∀ (pins:List (Addr × Obj)) (s:Shared) (σ:St) (H:Hp) (x:V) (v vl vu:Value) (lo hi:Option Int) (sl:Addr) (Q:VK),Inv X pins σ H s->RelV x v->s.heap.IsSliceOf sl vl vu .none->IsPart vl lo->IsPart vu hi->r x lo hi H Q ->
    ∃ T id,typeLookup (.type T) "__getitem__" = pure (some (.builtin id))/\s.TypeIs v T/\wpAny (model X.prog X.w) X.A (getItem v (.ref sl)) (EP X pins σ Q) X.xe s
noncomputable def zu (r:V->Option Int->Option Int->Hp->VK->Prop) (te:TE) (tl th:TO):TE:=fun σ H Q=>te σ H fun x H1=>tl σ H1 fun l H2=>th σ H2 fun u H3=>r x l u H3 Q
theorem gi {r:V->Option Int->Option Int->Hp->VK->Prop} (hr:xG X r) (he:PE X e te) (hl:PO X lo tl) (hu:PO X hi th):PE X (.Subscript e (.Slice lo hi none p2) pos) (zu r te tl th):=by
  intro pins s σ H Q I h
  refine Subscript_ (aE (he pins s σ H _ I h) fun v s1 ⟨x,H1,I1,r1,q1⟩=>?_)
  refine wpAny_Slice (aE (hl pins s1 σ H1 _ I1 q1) fun vl s2 ⟨l,H2,I2,pl,q2⟩=>aE (hu pins s2 σ H2 _ I2 q2) fun vu s3 ⟨u,H3,I3,pu,q3⟩=>?_)
  rw [evalPart_none]
  refine wpAny_pure ?_
  have I4:Inv X pins σ H3 { s3 with heap:=s3.heap.push { cls:=.type "slice",data:=.fields #[vl,vu,.none] } }:=I3.kept (t':=s3.toks) fun b ob q=>Heap.get?_push_of_some _ q
  obtain ⟨T,id,hT,ht,hg⟩:=hr pins { s3 with heap:=s3.heap.push { cls:=.type "slice",data:=.fields #[vl,vu,.none] } } σ H3 x v vl vu l u s3.heap.objs.size Q I4 r1 (Heap.IsSliceOf.new ..) pl pu q3
  show wpAny (model X.prog X.w) X.A (subscriptTail e (.Slice lo hi none p2) v (.ref s3.heap.objs.size)) (EP X pins σ Q) X.xe { s3 with heap:=s3.heap.push { cls:=.type "slice",data:=.fields #[vl,vu,.none] } }
  exact tail_any (ops:=[.ref s3.heap.objs.size,v]) ht hT hg (by with_unfolding_all rfl)
noncomputable def de (xs:List V) (lo hi:Option Int):List V:=(xs.drop (HT.sIx xs.length 0 lo)).take (HT.sIx xs.length xs.length hi - HT.sIx xs.length 0 lo)
theorem oq (xs:List V) (lo hi:Option Int):(de xs lo hi).length<=xs.length:=by
  unfold de
  rw [List.length_take,List.length_drop]
  lia
end
end L2
namespace L2
open PySem PySem.Spec PyProof.Rows
noncomputable def gP (n:Nat) (i:Int):Option Nat:=if 0<=i then (if i < n then some i.toNat else none) else if -(n:Int)<=i then some (i+n).toNat else none
noncomputable def dm {α:Type} (xs:List α) (i:Int):Option α:=(gP xs.length i).bind fun j=>xs[j]?
theorem pA {n:Nat} {i:Int} {j:Nat} (h:gP n i=some j):seqIndex? i n=some j/\j < n/\-(n:Int)<=i/\i < n:=by
  unfold gP at h
  by_cases h0:0<=i
  · rw [if_pos h0] at h
    by_cases h1:i < n
    · rw [if_pos h1] at h
      have e:i.toNat=j:=Option.some.inj h
      exact ⟨by rw [seqIndex_of h0 h1,e],by lia,by lia,h1⟩
    · rw [if_neg h1] at h; cases h
  · rw [if_neg h0] at h
    by_cases h1 : -(n:Int)<=i
    · rw [if_pos h1] at h
      have e:(i+n).toNat=j:=Option.some.inj h
      exact ⟨by rw [seqIndex_neg (by lia) h1,e],by lia,h1,by lia⟩
    · rw [if_neg h1] at h; cases h
theorem oK {α:Type} {xs:List α} {i:Int} {v:α} (h:dm xs i=some v):∃ j,seqIndex? i xs.length=some j/\xs[j]? = some v/\j < xs.length/\-(xs.length:Int)<=i/\i < xs.length:=by
  unfold dm at h
  cases e:gP xs.length i with
  | none=>rw [e] at h; cases h
  | some j =>
    rw [e] at h
    obtain ⟨h1,h2,h3,h4⟩:=pA e
    exact ⟨j,h1,h,h2,h3,h4⟩
theorem eV {α:Type} {xs:List α} {j:Nat} {v:α} (h:xs[j]? = some v):dm xs (j:Int)=some v:=by
  have hj:j < xs.length:=(List.getElem?_eq_some_iff.mp h).1
  have e:gP xs.length (j:Int)=some j:=by
    unfold gP
    rw [if_pos (by lia),if_pos (by lia)]; simp
  unfold dm; rw [e]; exact h
theorem ny {α:Type} (xs:List α) (v:α):dm (xs++[v]) (-1)=some v:=by
  have hl:(xs++[v]).length=xs.length+1:=by simp
  have e:gP (xs++[v]).length (-1)=some xs.length:=by
    unfold gP
    rw [hl,if_neg (by decide),if_pos (by lia)]
    congr 1
    lia
  unfold dm
  rw [e]
  show (xs++[v])[xs.length]? = some v
  simp
def vA (b:Expr):Prop:=∀ o i,subscripted b false o i=operate [o,i] (getItem o i)
def uz (X:Cx) (r:R2):Prop :=
  ∀ (value slice:Expr) (pins:List (Addr × Obj)) (s:Shared) (σ:St) (H:Hp) (x y:V) (v u:Value) (Q:VK),Inv X pins σ H s->RelV x v->RelV y u->r x y H Q ->
    subscripted slice false v u=operate [v,u] (getItem v u)->wpAny (model X.prog X.w) X.A (subscriptTail value slice v u) (EP X pins σ Q) X.xe s
def zv (X:Cx) (id:String) (r:V->List V->Hp->VK->Prop):Prop :=
  ∀ (pins:List (Addr × Obj)) (s:Shared) (σ:St) (H:Hp) (x:V) (xs:List V) (v:Value) (us:List Value) (Q:VK),Inv X pins σ H s->RelV x v->Vals xs us->r x xs H Q ->
    wpAny (model X.prog X.w) X.A (call (.builtin id) (v::us)) (EP X pins σ Q) X.xe s
section
variable {X:Cx} {a b:Expr} {ta tb:TE} {pos:Pos}
theorem br {r:R2} (hr:uz X r) (ha:PE X a ta) (hb:PE X b tb) (hs:vA b):PE X (.Subscript a b pos) (uQ r ta tb):=by
  intro pins s σ H Q I h
  exact Subscript_ (tI ha hb I h fun v u s2 x y H2 I2 rx ry q=>hr a b pins s2 σ H2 x y v u Q I2 rx ry q (hs _ _))
noncomputable def wy (K:PySem.W.Frag):R2:=fun x y H Q=>∃ p xs i v,x = .ref p/\y = .int i/\aj K H p xs/\dm xs i=some v/\Q v H
noncomputable def zl (K:PySem.W.Frag):R2:=fun x y H Q=>∃ p xs i v,x = .ref p/\y = .int i/\cI K H p xs/\dm xs i=some v/\Q v H
theorem aR:uz X (wy X.K):=by
  intro value slice pins s σ H x y v u Q I rx ry h hs
  obtain ⟨p,xs,i,z,rfl,rfl,hq,he,q⟩:=h
  cases rx
  obtain ⟨t,rfl⟩:=ry
  obtain ⟨its,r,pl,hz⟩:=I.list hq
  obtain ⟨j,h1,h2,h3,h4,h5⟩:=oK he
  obtain ⟨w,ew,rw'⟩:=r.get h2
  have hl:=r.length
  have hn:=jU
  have fin:EP X pins σ Q w s:=⟨z,H,I,rw',q⟩
  by_cases h0:0<=i
  · have hj:i.toNat=j:=by
      rw [seqIndex_of h0 h5] at h1
      exact Option.some.inj h1
    exact item_listR pl.isList h0 (by lia) (by rw [hj]; simpa using ew) fin hs
  · have hj:(i+(its.toArray.size:Int)).toNat=j:=by
      rw [seqIndex_neg (by lia) h4] at h1
      rw [List.size_toArray,<- hl]
      exact Option.some.inj h1
    exact subscriptTail_builtinR (x:=w) pl.isList.typeIs slot_list_getitem.lookup
      (wpAny_getItem_list_neg (Q:=fun r s'=>r=w/\EP X pins σ Q r s') pl.isList (by lia) (by rw [List.size_toArray]<;>lia) (by lia) (by rw [hj]; simpa using ew) ⟨rfl,fin⟩) hs
theorem rk:uz X (zl X.K):=by
  intro value slice pins s σ H x y v u Q I rx ry h hs
  obtain ⟨p,xs,i,z,rfl,rfl,hq,he,q⟩:=h
  cases rx
  obtain ⟨t,rfl⟩:=ry
  obtain ⟨its,r,pl,hz⟩:=I.tuple hq
  obtain ⟨j,h1,h2,h3,h4,h5⟩:=oK he
  obtain ⟨w,ew,rw'⟩:=r.get h2
  have hl:=r.length
  have hn:=jU
  have fin:EP X pins σ Q w s:=⟨z,H,I,rw',q⟩
  exact subscriptTail_builtinR (x:=w) pl.typeIs slot_tuple_getitem.lookup
    (getItem_tuple (j:=j) (Q:=fun r s'=>r=w/\EP X pins σ Q r s') pl (by lia) (by lia) (by rw [List.size_toArray,<- hl]; exact h1) (by simpa using ew) ⟨rfl,fin⟩) hs
theorem p9 (its:List Value) (n j:Nat) (u:Value):Obj.mapSeq (·.setIfInBounds j u) { cls:=.type "list",data:=.seq its.toArray n }={ cls:=.type "list",data:=.seq (its.set j u).toArray n }:=by
  simp [Obj.mapSeq]
theorem Inv.lst {pins:List (Addr × Obj)} {σ:St} {H:Hp} {s:Shared} {p:Addr} {xs:List V} (I:Inv X pins σ H s) (h:H p=some (.lst xs)) :
    ∃ (its:List Value) (n:Nat),Vals xs its/\s.heap.get? p=some { cls:=.type "list",data:=.seq its.toArray n }/\xs.length<=sizeLine:=by
  obtain ⟨z,its,n,r,e⟩:=I.hok p _ h
  exact ⟨its,n,r,e,z⟩
theorem Inv.lstUpd {pins:List (Addr × Obj)} {σ:St} {H:Hp} {s:Shared} {p:Addr} {xs ys:List V} {its its':List Value} {n n':Nat} {f:Obj->Obj} (I:Inv X pins σ H s) (h:H p=some (.lst xs))
    (ho:s.heap.get? p=some { cls:=.type "list",data:=.seq its.toArray n }) (hf:f { cls:=.type "list",data:=.seq its.toArray n }={ cls:=.type "list",data:=.seq its'.toArray n' }) (r:Vals ys its') (hz:ys.length<=sizeLine) (t:Nat) :
    Inv X pins σ (upd H p (.lst ys)) { s with heap:=s.heap.update p f,toks:=t }:=by
  have e:(s.heap.update p f).get? p=some { cls:=.type "list",data:=.seq its'.toArray n' }:=by
    rw [Heap.get?_update_self f ho (by rw [hf]<;>rfl),hf]
  refine I.write (x:=p) (e:=p) (by rw [h]; trivial) (.inl rfl) (fun b u hb q=>(Heap.get?_update_other _ _ (Ne.symm hb)).trans q) ⟨_,e⟩ ?_
  exact ⟨hz,its',n',r,e⟩
noncomputable def yp:V->V->V->Hp->(Hp->Prop)->Prop:=fun o i v H Q=>∃ p xs k j,o = .ref p/\i = .int k/\H p=some (.lst xs)/\gP xs.length k=some j/\Q (upd H p (.lst (xs.set j v)))
theorem set_list:xt X yp:=by
  intro pins s σ H o i v ov iv u Q I ro ri rv h
  obtain ⟨p,xs,k,j,rfl,rfl,hp,hj,q⟩:=h
  cases ro
  obtain ⟨t,rfl⟩:=ri
  obtain ⟨its,n,r,ho,hz⟩:=I.lst hp
  obtain ⟨h1,h2,h3,h4⟩:=pA hj
  have hl:=r.length
  have hn:=jU
  have I':Inv X pins σ (upd H p (.lst (xs.set j v))) { s with heap:=s.heap.update p (Obj.mapSeq (·.setIfInBounds j u)) } :=
    I.lstUpd hp ho (p9 its n j u) (r.set rv j) (by rw [List.length_set]; exact hz) s.toks
  by_cases h0:0<=k
  · have hk:k.toNat=j:=by
      rw [seqIndex_of h0 h4] at h1
      exact Option.some.inj h1
    exact PySem.W.ki_setAt ho h0 (by lia) (by rw [List.size_toArray,<- hl]; exact h4) (by rw [hk]; exact ⟨_,I',q⟩)
  · have hk:(k+(its.toArray.size:Int)).toNat=j:=by
      rw [seqIndex_neg (by lia) h3] at h1
      rw [List.size_toArray,<- hl]
      exact Option.some.inj h1
    exact PySem.W.ki_setBack ho (by lia) (by rw [List.size_toArray,<- hl]; exact h3) (by lia) (by rw [hk]; exact ⟨_,I',q⟩)
theorem nR (lo hi:Option Int) (n:Nat):(sliceBounds lo hi none n).1=((HT.sIx n 0 lo:Nat):Int)/\(sliceBounds lo hi none n).2.1=((HT.sIx n n hi:Nat):Int)/\(sliceBounds lo hi none n).2.2=1:=by
  refine ⟨?_,?_,rfl⟩
  · cases lo with
    | none=>simp [sliceBounds,HT.sIx]
    | some i =>
      simp only [sliceBounds,HT.sIx,Option.getD_none,show (1:Int) > 0 by decide,if_true]
      by_cases h:i < 0
      · simp only [h,if_true]<;>lia
      · simp only [h,if_false]<;>lia
  · cases hi with
    | none=>simp [sliceBounds,HT.sIx]
    | some i =>
      simp only [sliceBounds,HT.sIx,Option.getD_none,show (1:Int) > 0 by decide,if_true]
      by_cases h:i < 0
      · simp only [h,if_true]<;>lia
      · simp only [h,if_false]<;>lia
theorem me (its:List Value) (lo hi:Option Int):slicePick its.toArray lo hi none=((its.drop (HT.sIx its.length 0 lo)).take (HT.sIx its.length its.length hi - HT.sIx its.length 0 lo)).toArray:=by
  obtain ⟨h1,h2,h3⟩:=nR lo hi its.toArray.size
  unfold slicePick
  rw [h1,h2,h3]
  simp only [sliceRange_one,pick_run,List.size_toArray]<;>rfl
noncomputable def wK (K:PySem.W.Frag):V->Option Int->Option Int->Hp->VK->Prop:=fun x lo hi H Q=>∃ a xs,x = .ref a/\aj K H a xs/\∀ p,H p=none->Q (.ref p) (upd H p (.lst (de xs lo hi)))
theorem iP:xG X (wK X.K):=by
  intro pins s σ H x v vl vu lo hi sl Q I rx hs pl pu h
  obtain ⟨a,xs,rfl,hx,q⟩:=h
  cases rx
  obtain ⟨its,r,ht,hz⟩:=I.list hx
  have hlen:=r.length
  refine ⟨"list",_,slot_list_getitem.lookup,ht.isList.typeIs,?_⟩
  refine wpAny_getItem_list_slice ht.isList hs pl pu .none (by simp) ?_ (by rw [List.size_toArray]<;>lia)
  rw [me,<- hlen]
  refine ⟨.ref s.heap.objs.size,_,I.laid (t':=s.toks) (o:=.lst (de xs lo hi)) (fun b ob q=>Heap.get?_push_of_some _ q) (Nat.le_refl _) ?_,rfl,q _ (I.hok.fresh (Nat.le_refl _))⟩
  exact ⟨Nat.le_trans (oq xs lo hi) hz,_,0,(r.drop (HT.sIx xs.length 0 lo)).take (HT.sIx xs.length xs.length hi - HT.sIx xs.length 0 lo),Heap.get?_push_size _ rfl⟩
noncomputable def eL:V->Bool
  | .non=>true
  | .bl _=>true
  | .int _=>true
  | .str _=>true
  | _=>false
noncomputable def gN:V->V->Bool
  | .non,.non=>true
  | .bl a,.bl b=>a == b
  | .bl a,.int b=>(if a then 1 else 0) == b
  | .int a,.bl b=>a == (if b then 1 else 0)
  | .int a,.int b=>a == b
  | .str a,.str b=>a == b
  | _,_=>false
theorem r9 {A:Around} {s:Shared} {y x:V} {u v:Value} (ry:RelV y u) (rx:RelV x v) (fy:eL y=true) (fx:eL x=true):SeqAt.EqAt A s u v (gN y x):=by
  cases y with
  | non =>
    cases ry
    cases x with
    | non=>cases rx; exact SeqAt.EqAt.same _
    | bl b=>cases rx; exact SeqAt.EqAt.none_bool b
    | int b=>obtain ⟨t,rfl⟩:=rx; exact SeqAt.EqAt.none_int b t
    | str b=>obtain ⟨t,rfl⟩:=rx; exact SeqAt.EqAt.none_str b t
    | _=>exact absurd (show false=true from fx) Bool.false_ne_true
  | bl a =>
    cases ry
    cases x with
    | non=>cases rx; exact SeqAt.EqAt.bool_none a
    | bl b=>cases rx; exact SeqAt.EqAt.bool_bool a b
    | int b=>obtain ⟨t,rfl⟩:=rx; exact SeqAt.EqAt.bool_int a b t
    | str b=>obtain ⟨t,rfl⟩:=rx; exact SeqAt.EqAt.bool_str a b t
    | _=>exact absurd (show false=true from fx) Bool.false_ne_true
  | int a =>
    obtain ⟨t',rfl⟩:=ry
    cases x with
    | non=>cases rx; exact SeqAt.EqAt.int_none a t'
    | bl b=>cases rx; exact SeqAt.EqAt.int_bool a t' b
    | int b=>obtain ⟨t,rfl⟩:=rx; exact SeqAt.EqAt.int_int a t' b t
    | str b=>obtain ⟨t,rfl⟩:=rx; exact SeqAt.EqAt.int_str a t' b t
    | _=>exact absurd (show false=true from fx) Bool.false_ne_true
  | str a =>
    obtain ⟨t',rfl⟩:=ry
    cases x with
    | non=>cases rx; exact SeqAt.EqAt.str_none a t'
    | bl b=>cases rx; exact SeqAt.EqAt.str_bool a t' b
    | int b=>obtain ⟨t,rfl⟩:=rx; exact SeqAt.EqAt.str_int a t' b t
    | str b=>obtain ⟨t,rfl⟩:=rx; exact SeqAt.EqAt.str_str a t' b t
    | _=>exact absurd (show false=true from fx) Bool.false_ne_true
  | _=>exact absurd (show false=true from fy) Bool.false_ne_true
theorem aB:cU X (.builtin "len") (fun xs H Q=>∃ p ys,xs=[.ref p]/\(aj X.K H p ys\/cI X.K H p ys)/\Q (.int ys.length) H):=by
  intro pins s σ H xs us Q I r h
  obtain ⟨p,ys,rfl,hq,q⟩:=h
  obtain ⟨u,rfl,rx⟩:=vals1 r
  cases rx
  have hn:=jU
  rcases hq with hq | hq
  · obtain ⟨its,r',pl,hz⟩:=I.list hq
    have hlen:=r'.length
    exact Calls.call_len_list pl.isList (by simp only [List.size_toArray]<;>lia) ⟨.int ys.length,H,I.tok _,⟨s.toks+1,by rw [List.size_toArray,hlen]⟩,q⟩
  · obtain ⟨its,r',pl,hz⟩:=I.tuple hq
    have hlen:=r'.length
    exact len_tuple pl (by simp only [List.size_toArray]<;>lia) ⟨.int ys.length,H,I.tok _,⟨s.toks+1,by rw [List.size_toArray,hlen]⟩,q⟩
theorem nB:cU X (.type "list") (fun xs H Q=>∃ p ys,xs=[.ref p]/\(aj X.K H p ys\/cI X.K H p ys)/\∀ l,H l=none->Q (.ref l) (upd H l (.lst ys))):=by
  intro pins s σ H xs us Q I r h
  obtain ⟨p,ys,rfl,hq,q⟩:=h
  obtain ⟨u,rfl,rx⟩:=vals1 r
  cases rx
  have fin:∀ (its:List Value),Vals ys its->ys.length<=sizeLine->∀ (h':Heap) (c':Nat),(∀ b o',s.heap.get? b=some o'->h'.get? b=some o') ->
      h'.get? s.heap.objs.size=some { cls:=.type "list",dict:=none,data:=.seq its.toArray c',slots:=#[] }->EP X pins σ Q (.ref s.heap.objs.size) { s with heap:=h' }:=fun its r' hz h' c' kp e =>
    ⟨.ref s.heap.objs.size,_,I.laid (t':=s.toks) kp (Nat.le_refl _) (show bo X.prog X.w _ h' _ (.lst ys) from ⟨hz,its,c',r',e⟩),rfl,q _ (I.hok.fresh (Nat.le_refl _))⟩
  rcases hq with hq | hq
  · obtain ⟨its,r',pl,hz⟩:=I.list hq
    have hlen:=r'.length
    obtain ⟨o,ho,hc,n,hd⟩:=pl.isList
    exact call_list_seq p (.inl rfl) ho hc hd (fun h' c' kp e=>fin its r' hz h' c' kp e) (by simp only [List.size_toArray]<;>lia)
  · obtain ⟨its,r',pl,hz⟩:=I.tuple hq
    have hlen:=r'.length
    obtain ⟨o,ho,hc,n,hd⟩:=pl
    exact call_list_seq p (.inr rfl) ho hc hd (fun h' c' kp e=>fin its r' hz h' c' kp e) (by simp only [List.size_toArray]<;>lia)
def yT (K:PySem.W.Frag) (T:String) (x:V) (H:Hp):Prop:=match x with
  | .str _=>T = "str"
  | .int _=>T = "int"
  | .ref p=>(T = "list"/\∃ xs,aj K H p xs)\/(T = "tuple"/\∃ o,K.lookup p=some o/\o.cls = .type "tuple"/\o.dict=none) \/
      (T = "dict"/\((∃ kvs,H p=some (.dK kvs))\/∃ kvs,H p=some (.dT kvs)))\/(T = "set"/\∃ S n,H p=some (.set S n))
  | _=>False
theorem xF {pins:List (Addr × Obj)} {σ:St} {H:Hp} {s:Shared} {T:String} {x:V} {v:Value} (I:Inv X pins σ H s) (r:RelV x v) (ty:yT X.K T x H) :
    s.TypeIs v T/\∀ a,v = .ref a->∃ ob,s.heap.get? a=some ob/\ob.dict=none:=by
  cases x with
  | str z =>
    obtain ⟨t,rfl⟩:=r
    cases (show T = "str" from ty)
    exact ⟨typeIs_str s z t,fun _ e=>nomatch e⟩
  | int i =>
    obtain ⟨t,rfl⟩:=r
    cases (show T = "int" from ty)
    exact ⟨typeIs_int s i t,fun _ e=>nomatch e⟩
  | ref p =>
    cases r
    rcases ty with ⟨rfl,xs,hq⟩ | ⟨rfl,o,hk,hc,hd⟩ | ⟨rfl,hk⟩ | ⟨rfl,S,n,hk⟩
    · obtain ⟨its,_,pl,_⟩:=I.list hq
      refine ⟨pl.isList.typeIs,fun a e=>?_⟩
      cases e
      obtain ⟨o,n,e,c,hd,_⟩:=pl
      exact ⟨o,e,hd⟩
    · refine ⟨⟨o,I.kIn p o hk,hc⟩,fun a e=>?_⟩
      cases e
      exact ⟨o,I.kIn _ o hk,hd⟩
    · have z:∃ o,s.heap.get? p=some o/\o.ExactDict:=by
        rcases hk with ⟨kvs,hk⟩ | ⟨kvs,hk⟩
        · obtain ⟨_,_,_,_,o,_,_,e,ex,_⟩:=I.hok p _ hk
          exact ⟨o,e,ex⟩
        · obtain ⟨_,_,_,_,o,_,_,e,ex,_⟩:=I.hok p _ hk
          exact ⟨o,e,ex⟩
      obtain ⟨o,e,ex⟩:=z
      refine ⟨⟨o,e,ex.1⟩,fun a e2=>?_⟩
      cases e2
      exact ⟨o,e,ex.2.1⟩
    · obtain ⟨o,_,_,_,e,ex,_⟩:=I.hok p _ hk
      refine ⟨⟨o,e,ex.1⟩,fun a e2=>?_⟩
      cases e2
      exact ⟨o,e,ex.2.1⟩
  | _=>exact False.elim ty
noncomputable def zG (K:PySem.W.Frag) (T:String) (r:V->List V->Hp->VK->Prop) (to:TE) (t:TA):TE:=fun σ H Q=>to σ H fun x H1=>yT K T x H1/\t σ H1 fun xs H2=>r x xs H2 Q
variable {o e:Expr} {es:List Expr} {to:TE} {t:TA} {name:Str} {apos cpos:Pos} {T id:String} {r:V->List V->Hp->VK->Prop}
theorem di (pa:PlainAttrs T) (slot:Slot T name id) (hty:typeOf (.builtin id)=pure (.type "method_descriptor")) (hm:zv X id r) (ho:PE X o to) (ha:PA X (e::es) t)
    (hbase:attributeBase o name X.env (eval o X.env)=eval o X.env:=by rfl)
    (hfew:((backTo cpos (starEach (e::es) X.env)).all (fun x=>!x.1)&&(backToKw cpos (keywordEach [] X.env)).all (fun x=>x.1.isSome)
      && decide ((e::es).length+([]:List Keyword).length+(if ([]:List Keyword).isEmpty then 0 else 1) < 30))=true:=by rfl)
    (hline:(apos.endLine == cpos.line)=true:=by rfl) (hs:starEach (e::es) X.env=(false,eval e X.env)::starEach es X.env:=by rfl) (hplain:(backTo cpos (starEach es X.env)).any (·.1)=false:=by rfl) :
    PE X (.Call (.Attribute o name apos) (e::es) [] cpos) (zG X.K T r to t):=by
  intro pins s σ H Q I h
  refine wpAny_Call_method_late hbase hfew hline rfl (aE (ho pins s σ H _ I h) fun v s1 ⟨x,H1,I1,r1,ty,q1⟩=>?_)
  obtain ⟨h1,h2⟩:=xF I1 r1 ty
  refine ⟨T,id,pa,slot,hty,h1,h2,?_⟩
  have hA:=ha cpos pins s1 σ H1 _ I1 q1
  rw [hs] at hA |-
  refine Calls.callWith_builtin (by show (false || (backTo cpos (starEach es X.env)).any (·.1))=false; rw [hplain]<;>rfl) (Calls.evalArgs_plain ?_)
  exact aE hA fun us s2 ⟨vs,H2,I2,r2,q2⟩=>hm pins s2 σ H2 x vs v us Q I2 r1 r2 q2
end
end L2
namespace L2
open PySem PySem.Spec PyProof.Rows
def ux (X:Cx) (id:String) (r:V->List V->Hp->VK->Prop):Prop :=
  ∀ (pins:List (Addr × Obj)) (s:Shared) (σ:St) (H:Hp) (x:V) (xs:List V) (v:Value) (us:List Value) (Q:VK),Inv X pins σ H s->RelV x v->Vals xs us->r x xs H Q ->
    wpAny (model X.prog X.w) X.A (call (.builtin id) (v::us)) (EP X pins σ Q) X.xe s
theorem Vals.one:∀ {x:V} {us:List Value},Vals [x] us->∃ u,us=[u]/\RelV x u
  | _,_,.cons r .nil=>⟨_,rfl,r⟩
section
variable {X:Cx} {pins:List (Addr × Obj)} {σ:St} {H:Hp} {s:Shared} {l b:Addr} {xs ys zs:List V}
theorem Inv.lset {its its':List Value} {n:Nat} {f:Array Value->Array Value} {t':Nat} (I:Inv X pins σ H s) (hH:H l=some (.lst xs))
    (e:s.heap.get? l=some { cls:=.type "list",data:=.seq its.toArray n }) (hf:f its.toArray=its'.toArray) (hv:Vals ys its') (hz:ys.length<=sizeLine) :
    Inv X pins σ (upd H l (.lst ys)) { s with heap:=s.heap.update l (Obj.mapSeq f),toks:=t' }:=by
  have q:=PySem.IsL.update e f
  rw [hf] at q
  refine I.write (x:=l) (e:=l) (by rw [hH]; exact trivial) (.inl rfl) (fun b' u hb hu=>(Heap.get?_update_other s.heap (Obj.mapSeq f) (Ne.symm hb)).trans hu) ⟨_,q⟩ ?_
  exact ⟨hz,its',_,hv,q⟩
theorem Inv.lnew {its:List Value} {t':Nat} (I:Inv X pins σ H s) (hv:Vals ys its) (hz:ys.length<=sizeLine) :
    Inv X pins σ (upd H s.heap.objs.size (.lst ys)) { s with heap:=s.heap.push { cls:=.type "list",data:=.seq its.toArray },toks:=t' } :=
  I.laid (fun _ _ q=>Heap.get?_push_of_some _ q) (Nat.le_refl _) ⟨hz,its,0,hv,Heap.get?_push_size _ rfl⟩
theorem Inv.fresh (I:Inv X pins σ H s):H s.heap.objs.size=none:=I.hok.fresh (Nat.le_refl _)
theorem Inv.lstM (I:Inv X pins σ H s) (hH:H l=some (.lst xs)):xs.length<=sizeLine/\∃ (its:List Value) (n:Nat),Vals xs its/\xs.length=its.length/\s.heap.get? l=some { cls:=.type "list",data:=.seq its.toArray n }:=by
  obtain ⟨z,its,n,r,e⟩:=I.hok l _ hH
  exact ⟨z,its,n,r,r.length,e⟩
theorem mP {n:Nat} (h:n<=sizeLine):Builtin.List.listTooLong n=false:=by
  unfold Builtin.List.listTooLong
  exact decide_eq_false (by lia)
end
section
variable {X:Cx}
noncomputable def vo:V->List V->Hp->VK->Prop:=fun x vs H Q=>∃ l xs y,x = .ref l/\vs=[y]/\H l=some (.lst xs)/\xs.length < sizeLine/\Q .non (upd H l (.lst (xs++[y])))
theorem bE:ux X "list.append" vo:=by
  intro pins s σ H x vs v us Q I rx rv h
  obtain ⟨l,xs,y,rfl,rfl,hH,hz,q⟩:=h
  cases rx
  obtain ⟨u,rfl,ru⟩:=rv.one
  obtain ⟨z,its,n,r,hl,e⟩:=I.lstM hH
  refine call_meets F.slot_list_append ⟨_,e,rfl⟩ F.entry_list_append (F.args_list_append_2 _ _) (PySem.list_append l its.toArray n u (by rw [List.size_toArray]; lia)) ⟨e,?_⟩
  refine ⟨.non,_,I.lset (its':=its++[u]) hH e (by simp) (r.append (.cons ru .nil)) ?_,rfl,q⟩
  rw [List.length_append,List.length_singleton]
  lia
noncomputable def oQ:V->List V->Hp->VK->Prop:=fun x vs H Q=>∃ l b xs zs,x = .ref l/\vs=[.ref b]/\H l=some (.lst xs)/\H b=some (.lst zs)/\xs.length+zs.length<=sizeLine/\Q .non (upd H l (.lst (xs++zs)))
theorem qQ:ux X "list.extend" oQ:=by
  intro pins s σ H x vs v us Q I rx rv h
  obtain ⟨l,b,xs,zs,rfl,rfl,hH,hB,hz,q⟩:=h
  cases rx
  obtain ⟨u,rfl,ru⟩:=rv.one
  cases ru
  obtain ⟨z,its,n,r,hl,e⟩:=I.lstM hH
  obtain ⟨z2,its2,n2,r2,hl2,e2⟩:=I.lstM hB
  have hsz:its.toArray.size+its2.toArray.size<=sizeLine:=by rw [List.size_toArray,List.size_toArray]; lia
  have hlong:¬ (!its.toArray.isEmpty&&Builtin.List.listTooLong (its.toArray.size+its2.toArray.size))=true:=by
    rw [mP hsz,Bool.and_false]
    exact Bool.false_ne_true
  refine call_meets F.slot_list_extend ⟨_,e,rfl⟩ F.entry_list_extend (F.args_list_extend_2 _ _)
    (AutoSeq1.list_extend_list_list_0 l its.toArray n b its2.toArray n2 hlong (by rw [List.size_toArray]; lia) (by lia)) ⟨e,e2,?_⟩
  refine ⟨.non,_,I.lset (its':=its++its2) hH e (by simp) (r.append r2) ?_,rfl,q⟩
  rw [List.length_append]
  lia
noncomputable def zd:R2:=fun x y H Q=>∃ l b xs zs,x = .ref l/\y = .ref b/\H l=some (.lst xs)/\H b=some (.lst zs)/\xs.length+zs.length<=sizeLine/\∀ p,H p=none->Q (.ref p) (upd H p (.lst (xs++zs)))
theorem nW:cF X (binaryOp .Add) zd:=by
  intro pins s σ H x y v u Q I rx ry h
  obtain ⟨l,b,xs,zs,rfl,rfl,hH,hB,hz,q⟩:=h
  cases rx
  cases ry
  obtain ⟨z,its,n,r,hl,e⟩:=I.lstM hH
  obtain ⟨z2,its2,n2,r2,hl2,e2⟩:=I.lstM hB
  refine PySem.P.add_list e e2 ?_ (by rw [List.size_toArray,List.size_toArray]; lia)
  have ea:its.toArray++its2.toArray=(its++its2).toArray:=by simp
  rw [ea]
  exact ⟨.ref _,_,I.lnew (t':=s.toks) (r.append r2) (by rw [List.length_append]; lia),rfl,q _ I.fresh⟩
end
section
variable {prog:Program} {w:World} {A:Around} {E:Value->Shared->Prop} {s:Shared}
set_option maxRecDepth 100000 in
end
section
variable {X:Cx}
end
end L2
namespace Att
open PySem PySem.W PySem.Calls PyProof.Rows
theorem jK {P:Params} {h:Heap}:∀ (ns:List Int) (vs:List Value),WellAll P h vs (ns.map WData.int)->IntsAre vs ns:=by
  intro ns
  induction ns with
  | nil =>
    intro vs w
    rw [List.map_nil] at w
    cases w
    exact .nil
  | cons n ns ih =>
    intro vs w
    rw [List.map_cons] at w
    cases w with
    | cons a b =>
      cases a
      exact .cons _ _ (ih _ b)
theorem qW {l:OpenLaw} {n:Nat} (hn:l.most=some n) {P:Params} {h:Heap} {args:List WData} {vals:List Value}
    (hpre:l.row.toRowW.claim.pre args=true) (hwl:WellAll P h vals args) :
    ∃ a vs ns,vals=[Value.ref a]/\args=[WData.list (ns.map WData.int)]/\h.get? a=some { cls:=.type "list",data:=.seq vs.toArray }/\IntsAre vs ns/\ns.length<=n:=by
  have hsh:WShape.hasAll [] args [.list .int]=true:=(pre_splitW hpre).1
  have hc:l.pre.holds [] { args:=args }=true:=(pre_splitW hpre).2
  obtain ⟨d,r,rfl,h1,h2⟩:=hasAllW_cons hsh
  obtain rfl:=hasAllW_nil h2
  obtain ⟨xs,rfl,h3⟩:=hasW_list h1
  obtain ⟨ns,rfl⟩:=items_int h3
  have hlen:ns.length<=n:=by
    unfold OpenLaw.pre at hc
    have h4:(WTm.not (.lt (.lit (.int (n:Int))) (.len (.arg 0)))).holds [] { args:=[.list (ns.map .int)] }=true:=by
      have h4:=(holds_andW hc).1
      rw [hn] at h4
      exact h4
    have h5:=condW_of h4 (w_not (w_lt w_lit (w_len_list (w_arg rfl))))
    rw [List.length_map] at h5
    refine Nat.le_of_not_lt fun q=>?_
    have q':(n:Int) < ((ns.length:Nat):Int):=by lia
    first
      | (rw [decide_eq_true q'] at h5; exact absurd h5 (by decide))
      | (simp at h5; lia)
  cases hwl with
  | cons w1 w2 =>
    cases w2
    cases w1 with
    | list ho hall=>exact ⟨_,_,ns,rfl,rfl,ho,jK ns _ hall,hlen⟩
theorem qT (l:OpenLaw) (args:List WData):l.row.toRowW.claim.post args (.bool true) args=true :=
  postW_of (r:=l.row.toRowW) (X:=(true == true))
    (show WShape.has [] (.bool true) .bool=true by first | rfl | decide | simp [WShape.has,WShape.arms,WShape.armsAll])
    (show (WTm.eq .res (.lit (.bool true))).value [] { args:=args,res:=some (.bool true),after:=args }=some (.bool (true == true)) from w_eq_bool (w_res rfl) w_lit) rfl
theorem attach_call {l:OpenLaw} {n:Nat} {q:Program} {loose:List Str} {XP:(Str->Option Value)->Heap->Prop} {YP:World->Heap->Prop} {d:DefRec}
    (hn:l.most=some n) (hdf:d.params.defaults=[])
    (call:∀ (w:World) (s₀ s₁:Shared) (mg mb:Str->Option Value) (fa:Addr) (o:Obj) (pm cd doc:Value) (a:Addr) (vs:List Value) (ns:List Int),
      Ground q loose [] XP w s₀ mg mb s₁.heap->YP w s₁.heap ->
      s₁.heap.get? fa=some o->o.data = .func (docDef d.name d.params d.body d.scope pm cd doc)->s₁.heap.CodeRec cd d.name->mg d.name=some (.ref fa) ->
      s₁.heap.get? a=some { cls:=.type "list",data:=.seq vs.toArray }->IntsAre vs ns->ns.length<=n->s₁.gens = #[] ->
      codeAny (model l.prog w) callerA (.call (.ref fa) ⟨[.ref a],[]⟩) (fun r s'=>r = .ok (.ret (.bool true))/\OldK s₁.heap s'.heap/\s'.os=s₁.os/\AllBare s'.gens) s₁) :
    WalkO q loose XP YP l.row.toRowW d [] (fun f vs=>PySem.call f vs):=by
  intro w s₀ s₁ mg mb G Y fa o pm cd doc dV kV ho hd hcd hD hmg hg args vals as hpre hlay hrd hwl hlo
  obtain rfl:dV = .none:=Dflts.none hD hdf
  obtain rfl:kV = .none:=Dflts.noKw hD
  obtain ⟨a,vs,ns,rfl,rfl,hobj,hints,hlen⟩:=qW hn hpre hwl
  refine enter_call (codeAny_mono (call w s₀ s₁ mg mb fa o pm cd doc a vs ns G Y ho (fd_plain hd) hcd hmg hobj hints hlen hg) fun r s' hq=>?_)
  obtain ⟨rfl,h2,h3,h4⟩:=hq
  exact ⟨.inl ⟨.bool true,.bool true,[],rfl,fun _=>rfl,.bool true,qT l _,fun _=>⟨List.Pairwise.nil,fun _ hm=>(nomatch hm)⟩⟩,h2,h3,h4⟩
section
variable {prog:Program} {w:World} {A:Around} {E:Value->Shared->Prop} {s:Shared} {K:Frag}
noncomputable def ledger (h:Heap) (L d:Addr):List (Addr × Obj):=(List.range h.objs.size).filterMap fun a=>if a=L\/a=d then none else (h.get? a).map fun o=>(a,o)
end
end Att
namespace L2
open PySem PySem.Spec PyProof.Rows
theorem lO:∀ {vs:List Value} {ns:List Int},IntsAre vs ns->Vals (ns.map V.int) vs
  | _,_,.nil=>.nil
  | _,_,.cons n t h=>.cons ⟨t,rfl⟩ (lO h)
def qt (H:Hp):Prop:=∀ b,H b=none\/∃ o xs,H b=some (.frz o (.lst xs))
theorem uw {P:Program} {w:World} {K:PySem.W.Frag} {mg mb:Str->Option Value} {CX:fR} {k:Nat} {fa a:Addr} {fd:FuncData} {x:Str} {sp:Sp} {s₁:Shared} {vs:List Value} {ns:List Int}
    (KX:K.In s₁.heap) (hns:s₁.heap.Ns mainGlobals mg) (hb:s₁.heap.Ns builtinsNs mb) (hbb:∀ x:Str,x≠"__name__"->mb x=bootBuiltins x) (hlim:s₁.heap.NoLimit) (hg:s₁.gens = #[])
    (ha:s₁.heap.get? a=some { cls:=.type "list",data:=.seq vs.toArray }) (hi:IntsAre vs ns) (hl:ns.length<=sizeLine) (hr:bD k callerA)
    (F:∀ base:Heap,K.In base->base.Ns mainGlobals mg->aL P w K mg base CX k fa fd [x] sp) (hbind:∀ (s:Shared) (u:Value),BindsTo s fd ⟨[u],[]⟩ [(x,u)])
    (hsp:∀ H:Hp,qt H->aj K H a (ns.map V.int)->sp [.ref a] H (fun v _=>v = .bl true) fun _ _ _=>False)
    (hCX:∀ H e s',CX [] H s₁ (fun _ _ _=>False) e s'->False) :
    codeAny (model P w) callerA (.call (.ref fa) ⟨[.ref a],[]⟩) (fun r s'=>r = .ok (.ret (.bool true))/\OldK s₁.heap s'.heap/\s'.os=s₁.os/\AllBare s'.gens) s₁:=by
  have rv:=lO hi
  have lenV:=hi.length
  -- from an abstract heap in which nothing but the script may be tracked
  have core:∀ H:Hp,qt H->aj K H a (ns.map V.int)->cw P w H s₁.heap->(∀ b,H b≠none->b=a)->(H a≠none->K.lookup a=none) ->
      codeAny (model P w) callerA (.call (.ref fa) ⟨[.ref a],[]⟩) (fun r s'=>r = .ok (.ret (.bool true))/\OldK s₁.heap s'.heap/\s'.os=s₁.os/\AllBare s'.gens) s₁:=by
    intro H hO hS hok hA hK
    have base_of:∀ {b:Addr} {o:Obj},s₁.heap.get? b=some o->H b=none->(gj s₁.heap H).get? b=some o:=fun e n=>tq e n
    have noA:∀ {b:Addr} {o:Obj} {es:Array DictEntry} {ep:Nat},s₁.heap.get? b=some o->o.data = .dict es ep->H b=none:=fun {b o es ep} e d=>by
      cases q:H b with
      | none=>rfl
      | some u =>
        have e':b=a:=hA b (by rw [q]; simp)
        subst e'
        rw [ha] at e; cases e
        have d':Data.seq vs.toArray _=Data.dict es ep:=d
        cases d'
    have nsK:∀ {b:Addr} {m:Str->Option Value},s₁.heap.Ns b m->(gj s₁.heap H).Ns b m:=fun {b m} ⟨o,es,ep,e,d,r⟩=>⟨o,es,ep,base_of e (noA e d),d,r⟩
    have hKb:K.In (gj s₁.heap H):=fun b o e=>base_of (KX b o e) (by
      cases q:H b with
      | none=>rfl
      | some u =>
        have e':b=a:=hA b (by rw [q]; simp)
        subst e'
        rw [hK (by rw [q]; simp)] at e; cases e)
    have hM:Mod K mg (gj s₁.heap H):=⟨hKb,nsK hns,⟨mb,nsK hb,hbb⟩,let ⟨mc,h1,h2⟩:=hlim; ⟨mc,nsK h1,h2⟩⟩
    have e0:ju P w K mg (gj s₁.heap H) callerA [] s₁ H:=⟨rfl,hM,fun b o e=>uU e,Nat.le_of_eq (rl _ _),trivial,fun b hb=>absurd (show b∈([]:List Addr) from hb) (by simp),hok,.of_eq hg⟩
    refine codeAny_mono ((F _ hKb (nsK hns)).run callerA [] s₁ H ⟨[.ref a],[]⟩ [.ref a] [.ref a] _ _ hr e0 (hbind s₁ (.ref a)) (.cons rfl .nil) (hsp H hO hS)) fun r s' h=>?_
    cases r with
    | error e=>exact (hCX H e s' h).elim
    | ok fl =>
      cases fl with
      | next=>exact False.elim h
      | brk=>exact False.elim h
      | cont=>exact False.elim h
      | ret u =>
        obtain ⟨v,H',os,bare,un,hok',r',q⟩:=h
        have q':v = .bl true:=q
        subst q'
        obtain rfl:u=Value.bool true:=r'
        refine ⟨rfl,OldK.of_keep fun b o e=>?_,os,bare⟩
        cases q:H b with
        | none=>exact un.keep b o e q (by intro z; exact absurd (show b∈([]:List Addr) from z) (by simp)) (by simp)
        | some u =>
          rcases hO b with z | ⟨ob,xs,z⟩
          · rw [q] at z; cases z
          · have z2:=un.frzs b ob _ z
            obtain ⟨e1,_⟩:=hok b _ z
            obtain ⟨e2,_⟩:=hok' b _ z2
            rw [e] at e1; cases e1
            exact e2
  cases hk:K.lookup a with
  | some o =>
    -- the script is one of the module's own objects
    have e:=KX a o hk
    rw [ha] at e
    cases e
    refine core (fun _=>none) (fun _=>.inl rfl) (.inr ⟨_,vs.toArray,_,hk,rfl,rfl,rfl,by rw [List.size_toArray,lenV]; exact hl,by simpa using rv⟩) (fun b u z=>by have z':(none:Option HO)=some u:=z; cases z') (fun b z=>absurd rfl z) fun z=>absurd rfl z
  | none =>
    refine core (fun b=>if b=a then some (.frz { cls:=.type "list",data:=.seq vs.toArray } (.lst (ns.map V.int))) else none) (fun b=>?_) (.inl (.inr ⟨{ cls:=.type "list",data:=.seq vs.toArray },if_pos rfl⟩)) (fun b u z=>?_) (fun b z=>?_) fun _=>hk
    · by_cases hb:b=a
      · exact .inr ⟨_,_,if_pos hb⟩
      · exact .inl (if_neg hb)
    · by_cases hb:b=a
      · have z':=(if_pos hb).symm.trans z
        cases z'
        subst hb
        exact ⟨ha,by rw [List.length_map]; exact hl,vs,_,rv,ha⟩
      · have z':=(if_neg hb).symm.trans z
        cases z'
    · by_cases hb:b=a
      · exact hb
      · exact absurd (if_neg hb) z
end L2
namespace L2
open PySem PySem.Spec PyProof.Rows
noncomputable abbrev zL {K:PySem.W.Frag} {h:Heap} (_:K.In h):PySem.W.Frag:=K
theorem walk_of {l:W.OpenLaw} {n k:Nat} {q:Program} {loose:List Str} {XP:(Str->Option Value)->Heap->Prop} {YP:World->Heap->Prop} {d:DefRec} {K:Params->W.Frag} {CX:World->fR} {sp:World->Sp} {x:Str}
    (hn:l.most=some n) (hn2:n<=sizeLine) (hdf:d.params.defaults=[]) (hr:bD k callerA)
    (hY:∀ (w:World) (h:Heap),YP w h->(K w.params).In h)
    (F:∀ (w:World) (mg:Str->Option Value) (fa:Addr) (h:Heap),(K w.params).In h->h.Ns mainGlobals mg->mg d.name=some (.ref fa) ->
      ∃ fd:FuncData,(∀ (s:Shared) (u:Value),BindsTo s fd ⟨[u],[]⟩ [(x,u)]) /\
        ∀ base:Heap,(K w.params).In base->base.Ns mainGlobals mg->aL l.prog w (K w.params) mg base (CX w) k fa fd [x] (sp w))
    (hsp:∀ (w:World) (H:Hp) (a:Addr) (ns:List Int),ns.length<=n->qt H->aj (K w.params) H a (ns.map V.int)->sp w [.ref a] H (fun v _=>v = .bl true) fun _ _ _=>False)
    (hCX:∀ (w:World) (H:Hp) (s:Shared) (e:Value) (s':Shared),CX w [] H s (fun _ _ _=>False) e s'->False) :
    W.WalkO q loose XP YP l.row.toRowW d [] (fun f vs=>PySem.call f vs):=by
  refine Att.attach_call hn hdf fun w s₀ s₁ mg mb fa o pm cd doc a vs ns G Y ho hd hcd hmg hobj hints hlen hg=>?_
  have KX:=hY w _ Y
  obtain ⟨fd,hb,hF⟩:=F w mg fa _ KX G.T.g hmg
  exact uw KX G.T.g G.T.b G.T.builtins G.T.nolimit hg hobj hints (Nat.le_trans hlen hn2) hr hF hb (fun H hO hS=>hsp w H a ns hlen hO hS) fun H e s'=>hCX w H s₁ e s'
end L2
namespace L2
open PySem PySem.Spec PyProof.Rows
noncomputable def inClass (s:Stmt) (j:Nat):Stmt:=match s with
  | .ClassDef _ _ _ body _ _ _ _ _ _ _=>body.getD j (.Pass ⟨0,0,0,0⟩)
  | _=>.Pass ⟨0,0,0,0⟩
noncomputable def aA (s:Stmt):Arguments:=match s with
  | .FunctionDef _ a _ _ _ _ _ _ _ _=>a
  | _=>{ posonlyargs:=[],args:=[],vararg:=none,kwonlyargs:=[],kw_defaults:=[],kwarg:=none,defaults:=[] }
noncomputable def az (s:Stmt):List Stmt:=match s with
  | .FunctionDef _ _ b _ _ _ _ _ _ _=>b
  | _=>[]
noncomputable def ah (s:Stmt):Scope:=match s with
  | .FunctionDef _ _ _ _ _ _ sc _ _ _=>sc
  | _=>{ kind:=.function,names:=[],isGenerator:=false,isCoroutine:=false }
noncomputable abbrev bC:fR:=fun _ _ _ _ _ _=>False
noncomputable abbrev E0:XK:=fun _ _ _=>False
structure bG (K:W.Frag) (x qual:Str) (st:Stmt) (f:Addr) (fd:FuncData):Prop where
  ex:∃ (oc:Value) (od:Option Addr) (kV doc pm:Value) (an:Option Addr) (cdv ct:Value) (osl:Array (Option Value)),
    fd=W.fnOf x qual (aA st) (az st) (ah st) .none kV doc pm an cdv ct/\K.lookup f=some ⟨oc,od,.func fd,osl⟩/\W.codeIn K cdv qual=true
  kp:W.keepIn K (.ref f)=true
section
variable {P:Program} {w:World} {K:W.Frag} {mg:Str->Option Value} {base:Heap}
theorem bG.ok {x qual:Str} {st:Stmt} {f:Addr} {fd:FuncData} {N ps:List Str} {k:Nat} {sp:Sp} (F:bG K x qual st f fd) (S:aC N ps (ah st)) (len:∀ vs H Q E,sp vs H Q E->vs.length=ps.length)
    (hbody:∀ (cdv:Value) (A:Around) (outer:List Env) (s:Shared) (H:Hp) (vs:List V) (Q:VK) (E:XK),bD k (A.deeper (envOfC qual (ah st) s.heap.objs.size f cdv))->sp vs H Q E ->
      ∃ t,fX (kZ bC P w K mg base N qual (ah st) f cdv A outer s H E).nox (az st) t/\t { nx:=fun _ H'=>Q .non H',rt:=Q } (start N vs) H):aL P w K mg base bC (k+1) f fd ps sp:=by
  obtain ⟨oc,od,kV,doc,pm,an,cdv,ct,osl,rfl,lk,hcd⟩:=F.ex
  refine yu lk hcd S len fun A outer s H vs Q E hr hsp=>?_
  obtain ⟨t,h,q⟩:=hbody cdv A outer s H vs Q E hr hsp
  exact ⟨t,h.nox,q⟩
theorem bG.binds {x qual:Str} {st:Stmt} {f:Addr} {fd:FuncData} {ps:List Str} (F:bG K x qual st f fd)
    (h:∀ (kV doc pm:Value) (an:Option Addr) (cdv ct:Value) (us:List Value),us.length=ps.length->bindArgs (W.fnOf x qual (aA st) (az st) (ah st) .none kV doc pm an cdv ct) ⟨us,[]⟩=pure (ps.zip us)):Binds K fd ps []:=by
  obtain ⟨oc,od,kV,doc,pm,an,cdv,ct,osl,rfl,lk,hcd⟩:=F.ex
  exact .all (h kV doc pm an cdv ct)
theorem aK {x qual:Str} {st:Stmt} {f:Addr} {oc:Value} {od an:Option Addr} {osl:Array (Option Value)} {kV doc pm cdv ct:Value} (l:K.lookup f=some ⟨oc,od,.func (W.fnOf x qual (aA st) (az st) (ah st) .none kV doc pm an cdv ct),osl⟩)
    (c:W.codeIn K cdv qual=true) (k:W.keepIn K (.ref f)=true):bG K x qual st f (W.fnOf x qual (aA st) (az st) (ah st) .none kV doc pm an cdv ct):=⟨⟨oc,od,kV,doc,pm,an,cdv,ct,osl,rfl,l,c⟩,k⟩
end
theorem yb {A:Around} {k:Nat} (hr:bD k A):A.units+1 < cLine:=Nat.lt_of_le_of_lt (Nat.add_le_add_left (by decide:1<=64) _) hr.units
section
variable {X:Cx}
theorem pv (i:Nat) {x:Str} {pos:Pos} (hN:X.N[i]? = some x:=by rfl) (hv:xo X.env.scope x:=by first | exact Or.inl rfl | exact Or.inr (Or.inl rfl) | exact Or.inr (Or.inr rfl)) (hd:(x == ("__debug__" : Str))=false:=by decide)
    (hcd:(x == ("__classdict__" : Str))=false:=by decide):PE X (.Name x pos) (wR i):=xC hN hv hd hcd
end
theorem bB {A B:Prop} (h:B):if false=true then A else B:=by
  rw [if_neg Bool.false_ne_true]
  exact h
theorem cp {A B:Prop} (h:A):if true=true then A else B:=by
  rw [if_pos rfl]
  exact h
theorem uu {c A B:Prop} [Decidable c] (h1:c->A) (h2:¬ c->B):if c then A else B:=by
  by_cases h:c
  · rw [if_pos h]
    exact h1 h
  · rw [if_neg h]
    exact h2 h
theorem gk {c A B:Prop} [Decidable c] (hc:c) (h:B):if (!decide c)=true then A else B:=by
  rw [decide_eq_true hc]
  exact bB h
def ag (H H':Hp):Prop:=∀ b o,H b=some o->H' b=some o
theorem ag.refl (H:Hp):ag H H:=fun _ _ h=>h
theorem ag.trans {H H1 H2:Hp} (a:ag H H1) (b:ag H1 H2):ag H H2:=fun c o h=>b c o (a c o h)
theorem ag.free {H H':Hp} (e:ag H H') {l:Addr} (h:H' l=Option.none):H l=Option.none:=by
  cases q:H l with
  | none=>rfl
  | some o =>
    rw [e l o q] at h
    cases h
theorem ag.seq {K:W.Frag} {H H':Hp} {a:Addr} {xs:List V} (e:ag H H') (h:aj K H a xs):aj K H' a xs:=by
  rcases h with (h | ⟨o,h⟩) | h
  · exact .inl (.inl (e _ _ h))
  · exact .inl (.inr ⟨o,e _ _ h⟩)
  · exact .inr h
end L2
set_option Elab.async false
set_option linter.all false
set_option maxRecDepth 100000
set_option maxHeartbeats 4000000
namespace L2
open PySem PySem.Spec PyProof.Rows
section
variable {X:Cx}
def xW (i j:Int):Prop:=0 < j/\j.natAbs.log2 < 9000
theorem cV:cF X (binaryOp .FloorDiv) (rI xW fun i j=>.int (i / j)):=vQ fun i j _ _ _ _ _ hc q=>by
  have h1:(0:Int) < j:=hc.1
  exact floordiv_int (by lia) (by rw [Int.fdiv_eq_ediv_of_nonneg i (by lia)]; exact q) (.inl (PyProof.noPylong_of_log2 hc.2))
theorem cR:cU X (.builtin "isinstance") (fun xs H Q=>∃ x c cv t b,xs=[x,c]/\(∀ u,RelV c u->u=cv)/\dU X.K H x t/\W.kitOne X.K t cv=some b/\Q (.bl b) H):=by
  intro pins s σ H xs us Q I r h
  obtain ⟨x,c,cv,t,b,rfl,hcv,ty,e,q⟩:=h
  obtain ⟨u,w',rfl,r1,r2⟩:=vals2 r
  rw [hcv w' r2]
  exact rM I r1 ty e fun tk=>⟨.bl b,H,I.tok _,rfl,q⟩
theorem iA {n:String}:∀ u,RelV (.ty n) u->u=Value.type n:=fun _ h=>h
end
theorem md {α β:Type} {l:List α} {f:α->β->Sem (ForInStep β)} (g:β->α->β) (c:β) (h:∀ x∈l,∀ c,f x c=pure (.yield (g c x))) :
    forIn l c f=pure (l.foldl g c):=by
  induction l generalizing c with
  | nil=>rfl
  | cons x l ih =>
    rw [List.forIn_cons,h x List.mem_cons_self,pure_bind]
    exact ih _ fun y hy=>h y (List.mem_cons_of_mem _ hy)
noncomputable def m6 (cells:List (Str × Addr)) (names:List (Str × NameKind)) (acc:List (Str × Addr)):List (Str × Addr) :=
  names.foldl (fun cs y=>if y.2 == .free then (y.1,(cells.lookup y.1).getD 0)::cs else cs) acc
theorem p8 {scope:Scope} {env:Env} (h:∀ y∈scope.names,y.2 = .free->∃ c,env.cells.lookup y.1=some c):closureFor scope env=pure (m6 env.cells scope.names []):=by
  simp only [closureFor]
  rw [md (fun cs y=>if y.2 == .free then (y.1,(env.cells.lookup y.1).getD 0)::cs else cs) [] fun x hx c=>?_]
  · rfl
  · obtain ⟨n,k⟩:=x
    by_cases hk:k = .free
    · subst hk
      obtain ⟨a,ea⟩:=h (n,.free) hx rfl
      have ea':env.cells.lookup n=some a:=ea
      simp only [beq_self_eq_true,if_true,cellOf,ea',pure_bind,Option.getD_some]
    · have hb:(k == NameKind.free)=false:=by simpa using hk
      simp only [hb,Bool.false_eq_true,if_false]
theorem lookup_mem {α:Type}:∀ {l:List (Str × α)} {x:Str} {c:α},l.lookup x=some c->(x,c)∈l
  | [],_,_,h=>by simp at h
  | (y,d)::r,x,c,h=>by
    rw [List.lookup_cons] at h
    cases hx:x == y with
    | true =>
      rw [hx] at h
      have e:x=y:=by simpa using hx
      subst e
      cases h
      exact List.mem_cons_self
    | false =>
      rw [hx] at h
      exact List.mem_cons_of_mem _ (lookup_mem h)
theorem mem_lookup {α:Type}:∀ {l:List (Str × α)} {x:Str} {c:α},(x,c)∈l->∃ d,l.lookup x=some d
  | [],_,_,h=>by cases h
  | (y,d)::r,x,c,h=>by
    rw [List.lookup_cons]
    cases hx:x == y with
    | true=>exact ⟨d,rfl⟩
    | false =>
      rcases List.mem_cons.mp h with e | h
      · cases e; simp at hx
      · exact mem_lookup h
theorem jv {cells:List (Str × Addr)}:∀ {names:List (Str × NameKind)} {acc:List (Str × Addr)} {p:Str × Addr},p∈m6 cells names acc↔p∈acc\/((p.1,NameKind.free)∈names/\p.2=(cells.lookup p.1).getD 0)
  | [],acc,p=>by simp [m6]
  | (n,k)::r,acc,p=>by
    show p∈m6 cells r (if k == .free then (n,(cells.lookup n).getD 0)::acc else acc)↔_
    rw [jv (names:=r)]
    by_cases hk:k = .free
    · subst hk
      simp only [beq_self_eq_true,if_true,List.mem_cons]
      constructor
      · rintro ((rfl | h) | h)
        · exact .inr ⟨.inl rfl,rfl⟩
        · exact .inl h
        · exact .inr ⟨.inr h.1,h.2⟩
      · rintro (h | ⟨h | h,e⟩)
        · exact .inl (.inr h)
        · obtain ⟨a,b⟩:=p
          cases h
          exact .inl (.inl (by rw [show b=_ from e]))
        · exact .inr ⟨h,e⟩
    · have hb:(k == NameKind.free)=false:=by simpa using hk
      simp only [hb,Bool.false_eq_true,if_false,List.mem_cons]
      constructor
      · rintro (h | h)
        · exact .inl h
        · exact .inr ⟨.inr h.1,h.2⟩
      · rintro (h | ⟨h | h,e⟩)
        · exact .inl h
        · cases h; exact absurd rfl hk
        · exact .inr ⟨h,e⟩
theorem fI {scope:Scope} {env:Env} {x:Str} {k:NameKind} (h:(relabel scope env).names.lookup x=some k):∃ k',(x,k')∈scope.names/\(k'=k\/(k' = .free/\k = .cell)):=by
  have m:=lookup_mem h
  unfold relabel at m
  obtain ⟨⟨n,k'⟩,hm,e⟩:=List.mem_map.mp m
  dsimp only at e
  split at e
  · rename_i hc
    rw [Bool.and_eq_true,Bool.and_eq_true] at hc
    have e1:n=x:=congrArg Prod.fst e
    have e2:NameKind.cell=k:=congrArg Prod.snd e
    subst e1 e2
    exact ⟨k',hm,.inr ⟨by simpa using hc.1.1,rfl⟩⟩
  · have e1:n=x:=congrArg Prod.fst e
    have e2:k'=k:=congrArg Prod.snd e
    subst e1 e2
    exact ⟨k',hm,.inl rfl⟩
noncomputable def cf (X:Cx) (scope:Scope) (N:List Str) (cl:List (Str × Addr)) (C:Addr) (s:Shared) (H:Hp) (fp:List Addr) (xe:Value->Shared->Prop):Cx :=
  { X with N:=N,s₀:=s,H₀:=H,env:=compEnvC scope cl C X.env,outer:=X.stack,stack:=X.stack,ex:=fp,fn:=fun _=>false,pn:=[],xe:=xe }
inductive eE (X:Cx) (scope:Scope):List Str->List (Option Nat)->Prop where
  | nil:eE X scope [] []
  | own {x:Str} {N:List Str} {ix:List (Option Nat)} (r:eE X scope N ix):eE X scope (x::N) (none::ix)
  | cap {x:Str} {j:Nat} {N:List Str} {ix:List (Option Nat)} (h1:X.N[j]? = some x) (h2:X.env.kindOf x=some .cell) (h3:(relabel scope X.env).names.lookup x=some .cell) (r:eE X scope N ix):eE X scope (x::N) (some j::ix)
noncomputable def d4 (ix:List (Option Nat)) (σ:St):St:=ix.map fun o=>match o with
  | none=>none
  | some j=>(σ[j]?).getD none
theorem eE.get {X:Cx} {scope:Scope} {σ:St}:∀ {N:List Str} {ix:List (Option Nat)},eE X scope N ix->∀ (i:Nat) (x:Str) (v:V),N[i]? = some x->(d4 ix σ)[i]? = some (some v) ->
    ∃ j:Nat,X.N[j]? = some x/\σ[j]? = some (some v)/\X.env.kindOf x=some .cell/\(relabel scope X.env).names.lookup x=some .cell
  | _,_,.nil,i,x,v,h,_=>by simp at h
  | _,_,.own r,0,x,v,_,h=>by simp [d4] at h
  | _,_,.own r,i+1,x,v,h1,h2=>r.get i x v (by simpa using h1) (by simpa [d4] using h2)
  | _,_,.cap (j:=j) e1 e2 e3 r,0,x,v,h1,h2=>by
    simp at h1
    subst h1
    refine ⟨j,e1,?_,e2,e3⟩
    simp only [d4,List.map_cons,List.getElem?_cons_zero,Option.some.injEq] at h2
    cases q:σ[j]? with
    | none=>rw [q] at h2; cases h2
    | some o=>rw [q] at h2; simp only [Option.getD_some] at h2; rw [h2]
  | _,_,.cap e1 e2 e3 r,i+1,x,v,h1,h2=>r.get i x v (by simpa using h1) (by simpa [d4] using h2)
theorem eE.length {X:Cx} {scope:Scope} {N:List Str} {ix:List (Option Nat)} (h:eE X scope N ix):ix.length=N.length:=by
  induction h with
  | nil=>rfl
  | own _ ih=>simp [ih]
  | cap _ _ _ _ ih=>simp [ih]
def Ext (a b:St):Prop:=b.length=a.length/\∀ (i:Nat) v,a[i]? = some (some v)->b[i]? = some (some v)
theorem Ext.set {a:St} {i:Nat} {v:V} (h:a[i]? = some none):Ext a (a.set i (some v)):=by
  refine ⟨by simp,fun j w e=>?_⟩
  by_cases hj:j=i
  · subst hj; rw [h] at e; cases e
  · rw [List.getElem?_set_ne (Ne.symm hj)]; exact e
theorem Ext.trans {a b c:St} (h:Ext a b) (h':Ext b c):Ext a c:=⟨h'.1.trans h.1,fun i v e=>h'.2 i v (h.2 i v e)⟩
def r8 (X:Cx) (ifs:List Expr) (t:TT):Prop :=
  ∀ (pins:List (Addr × Obj)) (s:Shared) (σ:St) (H:Hp) (Q:Bool->Hp->Prop),Inv X pins σ H s->t σ H Q ->
    wpAny (model X.prog X.w) X.A (forIn ifs true fun c r=>if r=true then do let ok <- isTrue c X.env (eval c X.env); pure (ForInStep.yield ok) else pure (ForInStep.yield r)) (TP X pins σ Q) X.xe s
noncomputable def uP:TT:=fun _ H Q=>Q true H
theorem dh {X:Cx}:r8 X [] uP:=fun pins s σ H Q I h=>wpAny_tests_nil ⟨H,I,h⟩
theorem kS {X:Cx} {c:Expr} {t:TT} (h:PT X c t):r8 X [c] t:=fun pins s σ H Q I q=>wpAny_tests_one (h pins s σ H Q I q)
def qE (J:It) (g:TG) (tt:TT) (te:TE) (σ0:St) (D:Addr) (Q:VK) (H1:Hp):Prop:=∃ W:Nat->Nat->List V->Hp->Prop,(∃ m,W 0 m [] (upd H1 D (.lst [])))/\∀ i m ys H,W i m ys H ->
  (J.stop i H/\Q (.ref D) H)\/(J.go i H/\∀ x H',J.yld i H x H'->g x σ0 H' fun σ2 H2=>Ext σ0 σ2/\tt σ2 H2 fun b H3 =>
    if b=true then te σ2 H3 fun v H4=>H4 D=some (.lst ys)/\ys.length < sizeLine/\∃ m',m' < m/\W (i+1) m' (ys++[v]) (upd H4 D (.lst (ys++[v]))) else ∃ m',m' < m/\W (i+1) m' ys H3)
noncomputable def pW (wi:TI) (g:TG) (tt:TT) (te:TE) (ix:List (Option Nat)):TE:=fun σ H Q=>wi σ H fun J H1=>∀ D,H1 D=none->qE J g tt te (d4 ix σ) D Q H1
section
variable {prog:Program} {w:World} {A:Around} {R:Result->Shared->Prop} {s:Shared}
theorem qI {elt target iter:Expr} {ifs:List Expr} {scope:Scope} {pos:Pos} {it acc:Value} {env:Env} (I:Nat->Shared->Prop)
    (turn:∀ n s,I n s->wpAny (model prog w) A (pyNext it) (fun r s₁=>match r with
      | none=>R (.ok .next) s₁
      | some v=>wpAny (model prog w) A (letOwnedTupleGo target it v) (fun _ s₁'=>wpAny (model prog w) A (assign target env v) (fun _ s₂ =>
          wpAny (model prog w) A (forIn ifs true fun c r=>if r=true then do let ok <- isTrue c env (eval c env); pure (ForInStep.yield ok) else pure (ForInStep.yield r)) (fun ok s₃ =>
            if ok=true then wpAny (model prog w) A (eval elt env) (fun x s₄ =>
              wpAny (model prog w) A (call (.builtin "list.append") [acc,x]) (fun _ s₅=>∃ m,m < n/\I m s₅) (notedBy (model prog w) A env fun e s'=>R (.error e) s') s₄) (notedBy (model prog w) A env fun e s'=>R (.error e) s') s₃
            else ∃ m,m < n/\I m s₃) (notedBy (model prog w) A env fun e s'=>R (.error e) s') s₂) (notedBy (model prog w) A env fun e s'=>R (.error e) s') s₁') (notedBy (model prog w) A env fun e s'=>R (.error e) s') s₁) (notedBy (model prog w) A env fun e s'=>R (.error e) s') s)
    (n:Nat) (h:I n s):codeAny (model prog w) A (.compLoop (.ListComp elt [⟨target,iter,ifs,0⟩] scope pos) 0 it acc env) R s:=by
  refine codeAny_loop rfl I (fun n s hI=>?_) n h
  show wpAny _ A ((compTurn (.ListComp elt [⟨target,iter,ifs,0⟩] scope pos) 0 it acc env).onRaise (fun x=>do noteFrame x env; theTreesLotGoes x)) _ _ s
  refine wpAny_noted ?_
  rw [compTurn_list]
  refine wpAny_bind (wpAny_standAt (wpAny_bind (wpAny_mono (turn n s hI) (fun r s₁ h₁=>?_) fun _ _ h'=>h')))
  cases r with
  | none=>exact wpAny_pure h₁
  | some v =>
    refine wpAny_bind (wpAny_mono h₁ (fun _ s₁' h₁'=>?_) fun _ _ h'=>h')
    refine wpAny_bind (wpAny_mono h₁' (fun _ s₂ h₂=>wpAny_bind (wpAny_mono h₂ (fun ok s₃ h₃=>?_) fun _ _ h'=>h')) fun _ _ h'=>h')
    cases ok with
    | false=>exact wpAny_pure ⟨rfl,h₃⟩
    | true =>
      exact wpAny_bind (wpAny_bind (wpAny_mono h₃ (fun x s₄ h₄=>wpAny_bind (wpAny_mono h₄ (fun _ s₅ h₅=>wpAny_pure (wpAny_pure ⟨rfl,h₅⟩)) fun _ _ h'=>h')) fun _ _ h'=>h'))
end
section
variable {X:Cx}
noncomputable def m9 (sc:Scope):Bool:=sc.names.all fun y=>y.2 != .cell
noncomputable def freeOk (sc:Scope) (env:Env):Bool:=sc.names.all fun y=>y.2 != .free || env.kindOf y.1 == some .cell
noncomputable def namesOk (sc:Scope):Bool:=sc.names.all fun y=>y.2 != .local || sc.names.lookup y.1 == some .local
structure gw (X:Cx) (pins:List (Addr × Obj)) (σ:St) (H:Hp) (C:Addr) (s:Shared):Prop where
  inv:Inv X pins σ H s
  ns:∃ m,s.heap.Ns C m
  free:H C=none
  loc:C≠X.env.locals
  young:X.s₀.heap.objs.size<=C
  cell:∀ x c,X.env.cells.lookup x=some c->c≠C
  pin:∀ p∈X.pn++pins,p.1≠C
theorem gw.gone {pins:List (Addr × Obj)} {σ:St} {H:Hp} {C:Addr} {s:Shared} (B:gw X pins σ H C s) {h':Heap} (hs:Heap.SameBut C s.heap h'):Inv X pins σ H { s with heap:=h' } :=
  B.inv.turned (t':=s.toks) (it:=C) (fun b o hb e=>hs.extBut b o hb e) B.free B.loc (.inr B.young) B.cell B.pin
theorem lU {elt tg iter:Expr} {ifs:List Expr} {scope:Scope} {pos pos':Pos} {N:List Str} {ix:List (Option Nat)} {wi:TI} {g:TG} {tt:TT} {te:TE} {use:Option (Value->Sem Unit)} {Qv:Value->Shared->Prop}
    (hc:X.calm=true) (hi:PI X tg iter wi) (hk:scope.kind = .function) (hcell0:m9 scope=true) (hfree0:freeOk scope X.env=true) (hnames0:namesOk scope=true) (caps:eE X scope N ix)
    (hg:∀ cl C s H fp xe,PG (cf X scope N cl C s H fp xe) tg g) (ht:∀ cl C s H fp xe,r8 (cf X scope N cl C s H fp xe) ifs tt) (he:∀ cl C s H fp xe,PE (cf X scope N cl C s H fp xe) elt te)
    (hs:∀ x,foldedSetIterable iter X.env x=pure x)
    {pins:List (Addr × Obj)} {s:Shared} {σ:St} {H:Hp} {Q:VK} (I:Inv X pins σ H s) (h:pW wi g tt te ix σ H Q)
    (fin:∀ (C D:Addr) (H6:Hp) (s6:Shared),gw X pins σ H6 C s6->Q (.ref D) H6->compPost (model X.prog X.w) X.A X.xe use Qv (.ref D) C (.ok .next) s6) :
    wpAny (model X.prog X.w) X.A (comprehension (.ListComp elt [⟨tg,iter,ifs,0⟩] scope pos) scope X.env pos' (newList []) false (eval iter X.env) use) Qv X.xe s:=by
  have hcell:∀ y∈scope.names,y.2≠.cell:=fun y hy e=>by
    have:=List.all_eq_true.mp hcell0 y hy
    rw [e] at this; exact absurd this (by decide)
  have hfree:∀ y∈scope.names,y.2 = .free->X.env.kindOf y.1=some .cell:=fun y hy e=>by
    have:=List.all_eq_true.mp hfree0 y hy
    rw [e] at this; simpa using this
  have hnames:∀ y∈scope.names,y.2 = .local->scope.names.lookup y.1=some .local:=fun y hy e=>by
    have:=List.all_eq_true.mp hnames0 y hy
    rw [e] at this; simpa using this
  have hcl:∀ y∈scope.names,y.2 = .free->∃ c,X.env.cells.lookup y.1=some c:=fun y hy e=>I.ok.has y.1 (.inl (hfree y hy e))
  refine wpAny_comprehension_free (use:=use) rfl hs (p8 hcl) hk hnames ?_
  generalize ecl:m6 X.env.cells scope.names []=cl
  -- the cells of the block are the def's
  have cl1:∀ x c,cl.lookup x=some c->X.env.cells.lookup x=some c:=fun x c e=>by
    have m:=lookup_mem e
    rw [<- ecl] at m
    rcases jv.mp m with z | ⟨z,z'⟩
    · cases z
    · obtain ⟨a,ea⟩:=hcl _ z rfl
      have ea':X.env.cells.lookup x=some a:=ea
      have z2:c=(X.env.cells.lookup x).getD 0:=z'
      rw [ea',Option.getD_some] at z2
      rw [ea',z2]
  have cl2:∀ x,(x,NameKind.free)∈scope.names->∃ c,cl.lookup x=some c:=fun x hx=>by
    have m:(x,(X.env.cells.lookup x).getD 0)∈cl:=by rw [<- ecl]; exact jv.mpr (.inr ⟨hx,rfl⟩)
    exact mem_lookup m
  refine aE (hi pins s σ H _ I h) fun v s1 h1=>aE h1 fun itv s2 h2=>?_
  obtain ⟨it,fp,tn,J,H2,e,I2,T,st2,f2,body⟩:=h2
  subst e
  refine wpAny_newObj_type (wpAny_newFunctionEnv hcell (by intro y hy; simp at hy) (fun h₁ hns₁ hsb₁=>?_) hk)
  dsimp only at hns₁ hsb₁ |-
  have hD:H2 s2.heap.objs.size=none:=I2.hok.fresh (Nat.le_refl _)
  obtain ⟨W,⟨m0,w0⟩,turn⟩:=body _ hD
  have I3:Inv X pins σ (upd H2 s2.heap.objs.size (.lst [])) { s2 with heap:=s2.heap.push { cls:=.type "list",dict:=none,data:=.seq ([]:List Value).toArray } } :=
    I2.laid (t':=s2.toks) (fun b o e=>Heap.get?_push_of_some _ e) (Nat.le_refl _) ⟨Nat.zero_le _,[],0,.nil,Heap.get?_push_size _ rfl⟩
  generalize hs3:({ s2 with heap:=s2.heap.push { cls:=.type "list",dict:=none,data:=.seq ([]:List Value).toArray } }:Shared)=s3 at I3
  have es3:s2.heap.push { cls:=.type "list",dict:=none,data:=.seq ([]:List Value).toArray }=s3.heap:=by rw [<- hs3]
  rw [es3] at hns₁ hsb₁ |-
  generalize hD':s2.heap.objs.size=D at *
  generalize hH3:upd H2 D (.lst [])=H3 at *
  have szC:s3.heap.objs.size=D+1:=by rw [<- es3,Heap.size_push,hD']
  -- what was,is
  have old:∀ b o,s3.heap.get? b=some o->h₁.get? b=some o:=fun b o e=>hsb₁.extBut b o (Nat.ne_of_lt (Heap.lt_size e)) (Heap.get?_push_of_some _ e)
  have fpl:∀ b∈fp,b < D:=fun b hb=>by
    obtain ⟨o,e,_⟩:=T.obj 0 _ st2 b hb
    rw [<- hD']; exact Heap.lt_size e
  have fpD:∀ b∈fp,H3 b=none:=fun b hb=>by
    rw [<- hH3,ao (Nat.ne_of_lt (fpl b hb))]; exact (f2 b hb).1
  have fstk:∀ b∈fp,b∉fQ X.stack:=fun b hb z=>by
    obtain ⟨_,f1,f3,_⟩:=f2 b hb
    rcases List.mem_cons.mp (I2.stkSub b z) with e | e
    · exact f1 e
    · exact f3 e
  let E':Value->Shared->Prop:=notedBy (model X.prog X.w) X.A (compEnvC scope cl s3.heap.objs.size X.env) fun e s'=>compPost (model X.prog X.w) X.A X.xe use Qv (.ref D) s3.heap.objs.size (.error e) s'
  have ok':(cf X scope N cl s3.heap.objs.size s3 H3 fp E').Ok:=by
    refine { mod:=I.ok.mod,kind:=?_,glob:=I.ok.glob,blt:=I.ok.blt,above:=Nat.le_refl _,inj:=?_,has:=?_,cab:=?_,hd:=I.ok.hd,frames:=I.ok.frames,stk:=.inl rfl,exf:=?_,bs:=I3.bs,bsz:=?_,noex:=?_,exfs:=fstk,funs:=I3.stack,frf:=I3.stkFree }
    · show (relabel scope X.env).kind = .function
      exact hk
    · exact fun x y c e1 e2=>I.ok.inj x y c (cl1 x c e1) (cl1 y c e2)
    · intro x hx
      have hx':(relabel scope X.env).names.lookup x=some .cell\/(relabel scope X.env).names.lookup x=some .free:=hx
      have:(x,NameKind.free)∈scope.names:=by
        rcases hx' with e | e
        · obtain ⟨k',hm,z | ⟨z,_⟩⟩:=fI e
          · subst z; exact absurd rfl (hcell _ hm)
          · subst z; exact hm
        · obtain ⟨k',hm,z | ⟨z,z'⟩⟩:=fI e
          · subst z; exact hm
          · cases z'
      exact cl2 x this
    · intro x c z; cases z
    · intro b hb
      refine ⟨fun z=>?_,fun x c e=>(f2 b hb).2.2.2.2.1 x c (cl1 x c e)⟩
      have lt:=fpl b hb
      have z':b=s3.heap.objs.size:=z
      rw [z',szC] at lt
      exact absurd lt (Nat.not_lt.mpr (Nat.le_succ D))
    · exact Nat.le_trans I3.ok.bsz I3.sz
    · intro b o e hb
      rcases (f2 b hb).2.2.2.1 with z | z
      · exact I.ok.noex b o e z
      · exact absurd (Nat.lt_of_lt_of_le (Heap.lt_size e) (Nat.le_trans I.ok.bsz z)) (Nat.lt_irrefl _)
  have I4:∀ tk,Inv (cf X scope N cl s3.heap.objs.size s3 H3 fp E') [] (d4 ix σ) H3 { s3 with heap:=h₁,toks:=tk }:=fun tk=>by
    refine ⟨ok',rfl,I3.bare,Un.kept old,⟨_,hns₁,fun i x v e1 e2 e3=>?_⟩,fun x c e=>?_,?_,fun x c e=>I3.freeC x c (cl1 x c e),fun p hp=>(by cases hp),I3.hok.kept old,?_⟩
    · obtain ⟨j,j1,j2,j3,j4⟩:=caps.get i x v e1 e2
      obtain ⟨m,hn,hl⟩:=I3.loc
      obtain ⟨u,r,l⟩:=hl j x v j1 j2 (.inr (.inl j3))
      refine ⟨u,r,.inr ⟨.inl j4,?_⟩⟩
      rcases l with ⟨l,_⟩ | ⟨_,c,ec,hcell⟩
      · have l':X.env.kindOf x=some .local:=l
        rw [j3] at l'; cases l'
      · obtain ⟨k',hm,z | ⟨z,_⟩⟩:=fI j4
        · subst z; exact absurd rfl (‹∀ y∈scope.names,y.2≠.cell› _ hm)
        · subst z
          obtain ⟨c',ec'⟩:=cl2 x hm
          have:=cl1 x c' ec'
          rw [ec] at this; cases this
          obtain ⟨o,ho,hd⟩:=hcell
          exact ⟨c,ec',o,old _ _ ho,hd⟩
    · obtain ⟨v,o,ho,hd⟩:=I3.cell x c (cl1 x c e)
      exact ⟨v,o,old _ _ ho,hd⟩
    · exact I3.hok.fresh (Nat.le_refl _)
    · show (d4 ix σ).length=N.length
      rw [<- caps.length]; simp [d4]
  have st4:tn 0 h₁:=T.keep 0 _ _ st2 fun b hb o e=>old b o (by rw [<- es3]; exact Heap.get?_push_of_some _ e)
  -- the block's end
  have fin6:∀ (s6:Shared) (H6:Hp),Inv (cf X scope N cl s3.heap.objs.size s3 H3 fp E') [] (d4 ix σ) H6 s6->Q (.ref D) H6 ->
      compPost (model X.prog X.w) X.A X.xe use Qv (.ref D) s3.heap.objs.size (.ok .next) s6:=fun s6 H6 I6 q=>by
    obtain ⟨m,hn,_⟩:=I6.loc
    refine fin s3.heap.objs.size D H6 s6 ⟨I3.call' (s':=s6) (ch:=fp) I6.os I6.base I6.hok I6.bare ?_,⟨m,hn⟩,I6.free,?_,I3.sz,?_,?_⟩ q
    · intro b hb
      obtain ⟨_,f1,_,f3,f4,f5⟩:=f2 b hb
      exact ⟨f3,f1,f4,f5⟩
    · exact Nat.ne_of_gt I3.lt
    · intro x c e z
      obtain ⟨v,o,ho,_⟩:=I3.cell x c e
      exact absurd (Heap.lt_size ho) (by rw [z]; exact Nat.lt_irrefl _)
    · intro p hp z
      exact absurd (Heap.lt_size (I3.pin p hp).1) (by rw [z]; exact Nat.lt_irrefl _)
  -- the loop
  have loop:∀ s4:Shared,s4={ s3 with heap:=h₁,toks:=s2.toks+([]:List (Str × Value)).length } ->
      codeAny (model X.prog X.w) X.A (.compLoop (.ListComp elt [⟨tg,iter,ifs,0⟩] scope pos) 0 (.ref it) (.ref D) (compEnvC scope cl s3.heap.objs.size X.env)) (compPost (model X.prog X.w) X.A X.xe use Qv (.ref D) s3.heap.objs.size) s4:=by
    rintro s4 rfl
    refine qI (fun n s'=>∃ i ys H',Inv (cf X scope N cl s3.heap.objs.size s3 H3 fp E') [] (d4 ix σ) H' s'/\tn i s'.heap/\(∀ b∈fp,H' b=none)/\W i n ys H') ?_ m0 ⟨0,[],H3,I4 _,st4,fpD,w0⟩
    rintro n s5 ⟨i,ys,H5,I5,st5,fr5,w5⟩
    have stat:∀ {H':Hp},(∀ b∈fp,H' b=none)->∀ b∈fp,fM (cf X scope N cl s3.heap.objs.size s3 H3 fp E') [] H' b:=fun hn b hb=>by
      refine ⟨hn b hb,fun z=>?_,fstk b hb,.inl hb,fun x c e=>(f2 b hb).2.2.2.2.1 x c (cl1 x c e),fun p hp=>(by cases hp)⟩
      have lt:=fpl b hb
      have z':b=s3.heap.objs.size:=z
      rw [z',szC] at lt
      exact absurd lt (Nat.not_lt.mpr (Nat.le_succ D))
    rcases turn i n ys H5 w5 with ⟨stop,q⟩ | ⟨go,step⟩
    · refine aE (T.done (cf X scope N cl s3.heap.objs.size s3 H3 fp E') rfl rfl rfl hc i [] s5 _ H5 E' I5 (stat fr5) st5 stop) fun r s6 ⟨hr,I6⟩=>?_
      subst hr
      exact fin6 s6 H5 I6 q
    · refine aE (T.item (cf X scope N cl s3.heap.objs.size s3 H3 fp E') rfl rfl rfl hc i [] s5 _ H5 E' I5 (stat fr5) st5 go) fun r s6 ⟨u,hr,h6⟩=>?_
      subst hr
      refine aE h6 fun _ s7 ⟨x,H7,I7,r7,y7,st7,fr7⟩=>?_
      have I7':=I7.pinned (stat fr7) (T.obj _ _ st7)
      refine aE (hg cl s3.heap.objs.size s3 H3 fp E' _ s7 _ H7 x u _ I7' r7 (step x H7 y7)) fun _ s8 ⟨σ8,H8,I8,ext,q8⟩=>?_
      have again:∀ {σ9:St} {H9:Hp} {s9:Shared} {m':Nat} {zs:List V},Ext (d4 ix σ) σ9->Inv (cf X scope N cl s3.heap.objs.size s3 H3 fp E') ([]++gX fp s7.heap) σ9 H9 s9->m' < n->W (i+1) m' zs H9 ->
          ∃ m,m < n/\∃ i ys H',Inv (cf X scope N cl s3.heap.objs.size s3 H3 fp E') [] (d4 ix σ) H' s9/\tn i s9.heap/\(∀ b∈fp,H' b=none)/\W i m ys H':=fun {σ9 H9 s9 m' zs} ex I9 hm w9=>by
        refine ⟨m',hm,i+1,zs,H9,(I9.unpinned).weak ex.1.symm ex.2,T.keep _ _ _ st7 fun b hb o e=>(I9.pin (b,o) (List.mem_append_right _ (List.mem_append_right _ (eP hb e)))).1,fun b hb=>?_,w9⟩
        obtain ⟨o,e,d⟩:=T.obj _ _ st7 b hb
        exact (I9.pin (b,o) (List.mem_append_right _ (List.mem_append_right _ (eP hb e)))).2.1
      refine aE (ht cl s3.heap.objs.size s3 H3 fp E' _ s8 σ8 H8 _ I8 q8) fun ok s9 ⟨H9,I9,q9⟩=>?_
      cases ok with
      | false =>
        obtain ⟨m',hm,w9⟩:=q9
        exact again ext I9 hm w9
      | true =>
        refine aE (he cl s3.heap.objs.size s3 H3 fp E' _ s9 σ8 H9 _ I9 q9) fun u10 s10 ⟨v10,H10,I10,r10,hDl,hlt,m',hm,w10⟩=>?_
        refine aE (bE (X:=cf X scope N cl s3.heap.objs.size s3 H3 fp E') _ s10 σ8 H10 (.ref D) [v10] (.ref D) [u10] (fun _ H'=>H'=upd H10 D (.lst (ys++[v10]))) I10 rfl (.cons r10 .nil) ⟨D,ys,v10,rfl,rfl,hDl,hlt,rfl⟩) fun _ s11 ⟨_,H11,I11,_,e11⟩=>?_
        subst e11
        exact again ext I11 hm w10
  exact codeAny_compStart_list (loop _ (by rw [<- hs3])) (T.self _ 0 _ _ _ st4 (loop _ (by rw [<- hs3])))
theorem dC {elt tg iter:Expr} {ifs:List Expr} {scope:Scope} {pos:Pos} {N:List Str} {ix:List (Option Nat)} {wi:TI} {g:TG} {tt:TT} {te:TE}
    (hc:X.calm=true) (hi:PI X tg iter wi) (hk:scope.kind = .function) (hcell0:m9 scope=true) (hfree0:freeOk scope X.env=true) (hnames0:namesOk scope=true) (caps:eE X scope N ix)
    (hg:∀ cl C s H fp xe,PG (cf X scope N cl C s H fp xe) tg g) (ht:∀ cl C s H fp xe,r8 (cf X scope N cl C s H fp xe) ifs tt) (he:∀ cl C s H fp xe,PE (cf X scope N cl C s H fp xe) elt te)
    (hs:∀ x,foldedSetIterable iter X.env x=pure x:=by intro _; rfl) :
    PE X (.ListComp elt [⟨tg,iter,ifs,0⟩] scope pos) (pW wi g tt te ix):=by
  intro pins s σ H Q I h
  rw [eval_ListComp]
  refine lU (use:=none) hc hi hk hcell0 hfree0 hnames0 caps hg ht he hs I h fun C D H6 s6 B q=>?_
  obtain ⟨m,hn⟩:=B.ns
  exact ⟨m,hn,fun h' hsb=>⟨.ref D,H6,B.gone hsb,rfl,q⟩⟩
noncomputable def xY (i:Nat) (te:TE):TS:=fun D σ H=>te σ H fun x H1=>D.nx (σ.set i (some x)) H1
theorem eQ {i:Nat} {y:Str} {py:Pos} {spos:Pos} {elt tg iter:Expr} {ifs:List Expr} {scope:Scope} {pos:Pos} {N:List Str} {ix:List (Option Nat)} {wi:TI} {g:TG} {tt:TT} {te:TE}
    (hN:X.N.Nodup) (hi':X.N[i]? = some y) (hx:Loc X.env.scope y) (hsw:swapsWith (.ListComp elt [⟨tg,iter,ifs,0⟩] scope pos) (some (.Name y py)) spos.line X.env=pure true)
    (hc:X.calm=true) (hi:PI X tg iter wi) (hk:scope.kind = .function) (hcell0:m9 scope=true) (hfree0:freeOk scope X.env=true) (hnames0:namesOk scope=true) (caps:eE X scope N ix)
    (hg:∀ cl C s H fp xe,PG (cf X scope N cl C s H fp xe) tg g) (ht:∀ cl C s H fp xe,r8 (cf X scope N cl C s H fp xe) ifs tt) (he:∀ cl C s H fp xe,PE (cf X scope N cl C s H fp xe) elt te)
    (hs:∀ x,foldedSetIterable iter X.env x=pure x:=by intro _; rfl) (hf:X.fn y=true\/X.env.scope.names.lookup y=some .local:=by first | exact .inl rfl | exact .inr rfl | assumption) :
    PS X (.Assign [.Name y py] (.ListComp elt [⟨tg,iter,ifs,0⟩] scope pos) spos) (xY i (pW wi g tt te ix)):=by
  intro pins s σ H D I h
  rw [exec_Assign_Name_used _ _ _ _ hsw]
  refine wpAny_bind (wpAny_standAt (wpAny_bind ?_))
  show wpAny _ X.A (do let _ <- comprehension (.ListComp elt [⟨tg,iter,ifs,0⟩] scope pos) scope X.env _ (newList []) false (eval iter X.env) (some (assign (.Name y py) X.env))) _ _ s
  refine wpAny_bind (wpAny_mono (lU (use:=some (assign (.Name y py) X.env)) (Qv:=fun _ s'=>SP X pins D .next s') hc hi hk hcell0 hfree0 hnames0 caps hg ht he hs I h fun C a H6 s6 B q=>?_) (fun _ s' hq=>wpAny_pure (wpAny_pure hq)) fun _ _ e=>e)
  obtain ⟨m,hn⟩:=B.ns
  show wpAny _ X.A (assign (.Name y py) X.env (.ref a)) _ _ s6
  refine wpAny_assign_Name (lS B.inv hN hi' hx (v:=.ref a) rfl (fun s7 I7 ⟨z,hz,hz'⟩=>?_) hf)
  have hzC:C≠z:=by
    rcases hz' with e | e
    · rw [e]; exact B.loc
    · exact fun w=>B.cell y z e w.symm
  refine ⟨m,hn.sameBut hz hzC,fun h' hsb=>?_⟩
  have B7:gw X pins (σ.set i (some (.ref a))) H6 C s7:=⟨I7,⟨m,hn.sameBut hz hzC⟩,B.free,B.loc,B.young,B.cell,B.pin⟩
  exact ⟨_,H6,B7.gone hsb,q⟩
theorem sC {K:W.Frag} {a:Addr} {xs:List V} {g:TG} {tt:TT} {te:TE} {σ0:St} {H:Hp} {D:Addr} {Q:VK} (f:V->V) (hz:xs.length<=sizeLine) (hx:aj K H a xs) (hD:H D=none)
    (hs:∀ (i:Nat) (x:V) (H':Hp) (R:VK) (R0:Hp->Prop),xs[i]? = some x->(∀ b,b≠D->H' b=H b)->R (f x) H'->g x σ0 H' fun σ2 H2=>Ext σ0 σ2/\tt σ2 H2 fun b H3=>if b=true then te σ2 H3 R else R0 H3)
    (hq:Q (.ref D) (upd H D (.lst (xs.map f)))) :
    qE (nZ K a) g tt te σ0 D Q H:=by
  have stays:∀ ys:List V,aj K (upd H D (.lst ys)) a xs:=fun ys=>by
    have sm:ag H (upd H D (.lst ys)):=fun b u q=>by rw [ao (au q hD)]; exact q
    exact sm.seq hx
  refine ⟨fun i m ys H'=>m=xs.length - i/\i<=xs.length/\ys=(xs.take i).map f/\H'=upd H D (.lst ys),⟨xs.length,by simp,Nat.zero_le _,by simp,rfl⟩,?_⟩
  rintro i m ys H' ⟨rfl,hi,rfl,rfl⟩
  by_cases hlt:i < xs.length
  · refine .inr ⟨⟨xs,xs[i],stays _,by simp [hlt]⟩,fun x H'' y=>?_⟩
    obtain ⟨e,y⟩:=y
    subst e
    have ex:=y xs (stays _)
    refine hs i x _ _ _ ex (fun b hb=>ao hb) ⟨af,by simp; lia,xs.length - (i+1),by lia,rfl,hlt,?_,?_⟩
    · rw [List.take_add_one,ex,List.map_append]; rfl
    · rw [kz]
  · have e:i=xs.length:=by lia
    subst e
    refine .inl ⟨⟨xs,stays _,Nat.le_refl _⟩,?_⟩
    rw [List.take_length]
    exact hq
end
end L2
set_option Elab.async false
set_option linter.all false
set_option maxRecDepth 100000
set_option maxHeartbeats 4000000
namespace L2
open PySem PySem.Spec PyProof.Rows
section
variable {P:Program} {w:World} {H:Hp} {h h':Heap} {a:Addr} {o:HO}
end
def Tr (h:Heap) (e T:Addr) (cls:Value):Prop:=∃ oe vs oT ts a0,h.get? e=some oe/\oe.cls=cls/\vs[0]? = some a0/\oe.data = .fields vs/\vs[1]? = some (.ref T)/\T≠e/\h.get? T=some oT/\oT.data = .fields ts/\ts[3]? = some Value.none
section
variable {M:Model} {A:Around} {E:Value->Shared->Prop} {s:Shared} {Q:Unit->Shared->Prop} {base:Heap} {env:Env} {outer l:List Env} {L e T:Addr} {cls:Value}
end
section
variable {X:Cx} {pins:List (Addr × Obj)} {σ:St} {H:Hp} {s:Shared} {h':Heap} {ch:List Addr}
structure qA (X:Cx) (pins:List (Addr × Obj)) (H:Hp) (b:Addr):Prop where
  new:X.s₀.heap.get? b=none
  free:H b=none
  loc:b≠X.env.locals
  cell:∀ x c,X.env.cells.lookup x=some c->c≠b
  pin:∀ p∈X.pn++pins,p.1≠b
end
noncomputable def xE (P:Program) (w:World):fR:=fun outer H s E e s'=>∃ (ea T:Addr) (cls:Value) (H':Hp),e = .ref ea/\s.heap.get? ea=none/\s.heap.get? T=none/\H' ea=none/\H' T=none/\Tr s'.heap ea T cls /\
  s'.os=s.os/\AllBare s'.gens/\Un (fQ outer) [] H H' s.heap s'.heap/\cw P w H' s'.heap/\E cls none H'
theorem mj {P:Program} {w:World} {X:Cx}:Passes (xE P w) X E0:=fun _ _ _ _ _ _ _ ⟨_,_,_,_,_,_,_,_,_,_,_,_,_,_,q⟩=>q.elim
section
variable {P:Program} {w:World} {K:W.Frag} {mg:Str->Option Value} {base:Heap} {N:List Str} {qual:Str} {scope:Scope} {f:Addr} {cd:Value} {A:Around} {outer:List Env} {s:Shared} {H:Hp} {E:XK}
end
section
variable {P:Program} {w:World} {K:W.Frag} {mg:Str->Option Value} {base:Heap}
theorem aL.up {CX:fR} {k:Nat} {f:Addr} {fd:FuncData} {ps:List Str} {sp:Sp} (F:aL P w K mg base bC k f fd ps sp):aL P w K mg base CX k f fd ps sp :=
  ⟨F.len,fun A outer s H args us vs Q E hr he hb hv hs=>codeAny_mono (F.run A outer s H args us vs Q E hr he hb hv hs) fun r s' q=>by
    cases r with
    | error e=>exact False.elim q
    | ok fl=>cases fl<;>exact q⟩
end
section
variable {X:Cx} {pins:List (Addr × Obj)} {σ:St} {H:Hp} {s:Shared} {e:Addr}
end
end L2
set_option Elab.async false
set_option linter.all false
set_option maxRecDepth 100000
set_option maxHeartbeats 4000000
namespace L2
open PySem PySem.Spec PyProof.Rows
structure Def (P:Program) (w:World) (K:W.Frag) (mg:Str->Option Value) (base:Heap) (x:Str) (ps:List Str) (k:Nat) (sp:Sp) (f:Addr) (fd:FuncData):Prop where
  ok:aL P w K mg base (xE P w) k f fd ps sp
  b:Binds K fd ps []
  kp:W.keepIn K (.ref f)=true
  m:mg x=some (.ref f)
section
variable {X:Cx} {f:Addr} {fd:FuncData} {ps:List Str} {sp:Sp} {x:Str} {p pos:Pos} {e:Expr} {es:List Expr} {t:TA} {j k:Nat}
theorem aG (D:Def X.prog X.w X.K X.mg X.base x ps j sp f fd) (hr:bD k X.A) (ha:PA X (e::es) t) (hjk:j<=k:=by decide) (hg:Gl X x:=by rfl)
    (hdb:(x == ("__debug__" : Str))=false:=by decide) (he:starEach (e::es) X.env=(false,eval e X.env)::starEach es X.env:=by rfl) (hpl:(backTo pos (starEach es X.env)).any (·.1)=false:=by rfl) :
    PE X (.Call (.Name x p) (e::es) [] pos) (qF sp [] E0 t):=vj D.ok (hr.mono hjk) hg D.m D.kp D.b .nil mj ha hdb he hpl
end
theorem cD:bootBuiltins "isinstance" = some (.builtin "isinstance"):=by decide +kernel
theorem wG:bootBuiltins "int" = some (.type "int"):=by decide +kernel
theorem vI:bootBuiltins "bool" = some (.type "bool"):=by decide +kernel
theorem eX:bootBuiltins "list" = some (.type "list"):=by decide +kernel
theorem tO:bootBuiltins "tuple" = some (.type "tuple"):=by decide +kernel
theorem qR:bootBuiltins "min" = some (.builtin "min"):=by decide +kernel
theorem rY:bootBuiltins "max" = some (.builtin "max"):=by decide +kernel
theorem bt:bootBuiltins "len" = some (.builtin "len"):=by decide +kernel
theorem ag.upd {H H':Hp} (h:ag H H') {p:Addr} (n:H p=none) (o:HO):ag H (L2.upd H' p o):=fun b u q=>by
  rw [ao (au q n)]; exact h b u q
theorem ag.new {H H':Hp} (h:ag H H') {p:Addr} (n:H' p=none) (o:HO):ag H (L2.upd H' p o):=h.trans fun b u q=>by
  rw [ao (au q n)]; exact q
theorem sz {n:Nat} (h:n<=1000000):n<=sizeLine:=Nat.le_trans h (by decide)
theorem eI {n:Nat} (h:n<=1000000):n < sizeLine:=Nat.lt_of_le_of_lt h (by decide)
theorem oF {K:W.Frag}:W.kitOne K (.type "int") (.type "int")=some true:=by rfl
theorem eD {K:W.Frag}:W.kitOne K (.type "list") (.type "list")=some true:=by rfl
theorem mT {K:W.Frag}:W.kitOne K (.type "int") (.type "bool")=some false:=by rfl
theorem dF {ns:List Int} {i:Int} (h0:0<=i) (h1:i < (ns.length:Int)):dm (ns.map V.int) i=some (.int (ns.getD i.toNat 0)):=by
  have hk:i.toNat < ns.length:=by lia
  have ek:i=((i.toNat:Nat):Int):=by lia
  have q:dm (ns.map V.int) ((i.toNat:Nat):Int)=some (.int (ns.getD i.toNat 0)):=eV (by rw [List.getElem?_map,List.getD_eq_getElem?_getD,List.getElem?_eq_getElem hk]<;>rfl)
  rw [<- ek] at q
  exact q
end L2
namespace L2
open PySem PySem.Spec PyProof.Rows
theorem jZ {σ:St} {H:Hp} {F:Bool->Hp->Prop} (h:F true H):uP σ H F:=h
theorem ji {X:Cx} {K:W.Frag} (h:X.K=K):uz X (wy K):=h▸aR
theorem pm {j:Int} (h:0 < j):0 < j:=h
noncomputable def dy (ns:List Int) (lo hi:Option Int):List Int:=(ns.drop (HT.sIx ns.length 0 lo)).take (HT.sIx ns.length ns.length hi - HT.sIx ns.length 0 lo)
theorem gz (ns:List Int) (lo hi:Option Int):de (ns.map V.int) lo hi=(dy ns lo hi).map V.int:=by
  unfold de dy
  rw [List.length_map,List.map_take,List.map_drop]
theorem fU {ns:List Int} {i:Nat} {x:V} (h:(ns.map V.int)[i]? = some x):∃ c,x = .int c:=by
  rw [List.getElem?_map] at h
  cases e:ns[i]? with
  | none=>rw [e] at h; cases h
  | some c=>rw [e] at h; cases h; exact ⟨c,rfl⟩
end L2
namespace L2
open PySem PySem.Spec PyProof.Rows
theorem g5 {c A B:Prop} [Decidable c] (hc:c) (h:A):if decide c=true then A else B:=by rw [decide_eq_true hc]; exact cp h
theorem hV {c A B:Prop} [Decidable c] (hc:¬ c) (h:B):if decide c=true then A else B:=by rw [decide_eq_false hc]; exact bB h
theorem vC {n:Nat} {i:Int} (h0:0<=i) (h1:i < n):gP n i=some i.toNat:=by unfold gP; rw [if_pos h0,if_pos h1]
theorem ot (ns:List Int) (lo hi:Option Int):(dy ns lo hi).length<=ns.length:=by
  unfold dy; rw [List.length_take,List.length_drop]; lia
theorem sG (ns:List Int) {t:Int} (h:0<=t):dy ns (some t) none=ns.drop t.toNat:=by
  unfold dy
  have e1:HT.sIx ns.length 0 (some t)=min t.toNat ns.length:=by
    show (if t < 0 then _ else _)=_
    rw [if_neg (by lia)]
  rw [e1,HT.sIx_none]
  by_cases hl:t.toNat<=ns.length
  · rw [Nat.min_eq_left hl]; exact List.take_of_length_le (by simp)
  · rw [Nat.min_eq_right (by lia),List.drop_eq_nil_of_le (Nat.le_refl _),List.drop_eq_nil_of_le (by lia)]; simp
end L2
namespace Ck
noncomputable def uJ:Nat->List Int
  | 0=>[1]
  | k+1=>uJ k++[((List.range (k+1)).map fun j=>(uJ k).getD j 0*(uJ k).getD (k - j) 0).sum]
noncomputable def sh (k:Nat):Int:=(uJ k).getD k 0
end Ck
namespace Ck
noncomputable def r:Nat->Nat->Int
  | 0,_=>1
  | _+1,0=>0
  | u+1,d+1=>if d < u then 0 else r u (d+1)+r (u+1) d
noncomputable def row (n u:Nat):List Int:=(List.range (n+1 - u)).map fun i=>r u (u+i)
noncomputable def pw (a:Int):Nat->Int
  | 0=>1
  | k+1=>pw a k*a
end Ck
namespace Ck
noncomputable def uF:Nat->List Nat->Bool
  | k,[]=>k == 0
  | k,c::t=>if c=40 then uF (k+1) t else if c=41 then (match k with | 0=>false | k+1=>uF k t) else false
noncomputable def lt:List Nat->List Nat->Bool
  | c::s,e::t=>if c=e then lt s t else c == 40
  | _,_=>false
end Ck
set_option Elab.async false
set_option linter.all false
set_option maxRecDepth 100000
set_option maxHeartbeats 4000000
namespace Ck
open PySem
noncomputable def ix (n d:Nat):Option Int->Nat
  | none=>d
  | some v=>if v < 0 then (v+(n:Int)).toNat else min v.toNat n
end Ck
set_option Elab.async false
set_option linter.all false
set_option maxRecDepth 100000
set_option maxHeartbeats 4000000
namespace Ck
open PySem L2
end Ck
namespace L2
open PySem
theorem rD (ns:List Int):dy ns (some 1) none=ns.drop 1:=by
  unfold dy
  have e1:HT.sIx ns.length 0 (some 1)=min 1 ns.length:=HT.sIx_nat _ _ 1
  rw [e1,HT.sIx_none]
  cases ns with
  | nil=>rfl
  | cons a r =>
    have e2:min 1 (a::r).length=1:=by simp
    rw [e2]
    exact List.take_of_length_le (by simp)
end L2
namespace Ck
open PySem L2
end Ck
namespace L2
open PySem PySem.Spec PyProof.Rows
end L2
namespace Ck
open PySem L2
end Ck
set_option Elab.async false
set_option linter.all false
set_option maxRecDepth 100000
set_option maxHeartbeats 4000000
namespace L2
open PySem PySem.Spec PyProof.Rows
section
variable {X:Cx} {tg:Expr}
end
noncomputable def jh:List V->List V->Bool
  | [],[]=>true
  | x::xs,y::ys=>gN x y&&jh xs ys
  | _,_=>false
theorem kq:∀ {xs ys:List V},xs.length≠ys.length->jh xs ys=false
  | [],[],h=>absurd rfl h
  | [],_::_,_=>rfl
  | _::_,[],_=>rfl
  | x::xs,y::ys,h=>by
    rw [jh,kq (xs:=xs) (ys:=ys) (by simpa using h),Bool.and_false]
theorem kW:∀ {xs ys:List V},xs.length=ys.length->(List.range xs.length).all (fun j=>gN (xs.getD j .non) (ys.getD j .non))=jh xs ys
  | [],[],_=>rfl
  | x::xs,y::ys,h=>by
    rw [jh,<- kW (xs:=xs) (ys:=ys) (by simpa using h),List.length_cons,List.range_succ_eq_map,List.all_cons,List.all_map]
    rfl
noncomputable def vO (K:W.Frag) (neg:Bool):R2:=fun x y H Q=>∃ a b xs ys,x = .ref a/\y = .ref b/\aj K H a xs/\aj K H b ys/\xs.all eL=true/\ys.all eL=true/\Q (.bl (if neg then !jh xs ys else jh xs ys)) H
section
variable {X:Cx}
theorem items_eqAt {A:Around} {s:Shared} {xs ys:List V} {us vs:List Value} (r:Vals xs us) (r':Vals ys vs) (fx:xs.all eL=true) (fy:ys.all eL=true) :
    ∀ j (h1:j < us.toArray.size) (h2:j < vs.toArray.size),SeqAt.EqAt A s us.toArray[j] vs.toArray[j] (gN (xs.getD j .non) (ys.getD j .non)):=fun j h1 h2=>by
  have l1:=r.length
  have l2:=r'.length
  have h1':j < us.length:=by simpa using h1
  have h2':j < vs.length:=by simpa using h2
  obtain ⟨u,eu,ru⟩:=r.get (List.getElem?_eq_getElem (show j < xs.length by lia))
  obtain ⟨v,ev,rv⟩:=r'.get (List.getElem?_eq_getElem (show j < ys.length by lia))
  have e1:us.toArray[j]=u:=by
    rw [List.getElem?_eq_getElem h1'] at eu
    simpa using eu
  have e2:vs.toArray[j]=v:=by
    rw [List.getElem?_eq_getElem h2'] at ev
    simpa using ev
  rw [e1,e2]
  have g1:xs.getD j .non=xs[j]'(by lia):=by rw [List.getD_eq_getElem?_getD,List.getElem?_eq_getElem (show j < xs.length by lia)]; rfl
  have g2:ys.getD j .non=ys[j]'(by lia):=by rw [List.getD_eq_getElem?_getD,List.getElem?_eq_getElem (show j < ys.length by lia)]; rfl
  rw [g1,g2]
  exact r9 ru rv (List.all_eq_true.mp fx _ (List.getElem_mem _)) (List.all_eq_true.mp fy _ (List.getElem_mem _))
theorem ql (hu:X.A.units < cLine):cF X (compareOp .Eq) (vO X.K false):=by
  intro pins s σ H x y v u Q I rx ry h
  obtain ⟨a,b,xs,ys,rfl,rfl,ha,hb,fx,fy,q⟩:=h
  cases rx
  cases ry
  obtain ⟨us,r,pl,hz⟩:=I.list ha
  obtain ⟨vs,r',pl',hz'⟩:=I.list hb
  have l1:=r.length
  have l2:=r'.length
  by_cases hl:xs.length=ys.length
  · refine SeqAt.eq_listAt (e:=fun j=>gN (xs.getD j .non) (ys.getD j .non)) pl.isList pl'.isList (by simp; lia) hu (items_eqAt r r' fx fy) ⟨.bl _,H,I,rfl,?_⟩
    rw [show us.toArray.size=xs.length by simp; lia,kW hl]
    exact q
  · refine SeqAt.eq_list_lengthsAt pl.isList pl'.isList (by simp; lia) hu ⟨.bl false,H,I,rfl,?_⟩
    rw [<- kq hl]
    exact q
theorem pT (hu:X.A.units < cLine):cF X (compareOp .NotEq) (vO X.K true):=by
  intro pins s σ H x y v u Q I rx ry h
  obtain ⟨a,b,xs,ys,rfl,rfl,ha,hb,fx,fy,q⟩:=h
  cases rx
  cases ry
  obtain ⟨us,r,pl,hz⟩:=I.list ha
  obtain ⟨vs,r',pl',hz'⟩:=I.list hb
  have l1:=r.length
  have l2:=r'.length
  by_cases hl:xs.length=ys.length
  · refine SeqAt.RcNeAt.lists (e:=fun j=>gN (xs.getD j .non) (ys.getD j .non)) pl.isList pl'.isList (by simp; lia) hu (items_eqAt r r' fx fy) _ _ _ _ ⟨.bl _,H,I,rfl,?_⟩
    rw [show us.toArray.size=xs.length by simp; lia,kW hl]
    exact q
  · refine SeqAt.RcNeAt.lists_lengths pl.isList pl'.isList (by simp; lia) hu _ _ _ _ ⟨.bl true,H,I,rfl,?_⟩
    have z:=kq hl
    rw [z] at q
    exact q
end
end L2
set_option Elab.async false
set_option linter.all false
set_option maxRecDepth 100000
set_option maxHeartbeats 4000000
namespace L2
open PySem PySem.Spec PyProof.Rows PySem.W Builtin Builtin.ObjectAttr Builtin.Getset_descriptor
section
variable {K:Frag} {e C:Addr} {M:Model} {h:Heap} {prog:Program} {w:World} {A:Around} {E:Value->Shared->Prop} {s:Shared}
end
section
variable {K:Frag} {e C:Addr} {M:Model} {h:Heap} {prog:Program} {w:World} {A:Around} {E:Value->Shared->Prop} {s:Shared}
end
section
variable {X:Cx}
theorem yP {A:Around} {k:Nat} (hr:bD k A):A.units < cLine:=Nat.lt_of_succ_lt (yb hr)
end
end L2
namespace Ck
open PySem L2
end Ck
set_option Elab.async false
set_option linter.all false
set_option maxRecDepth 100000
set_option maxHeartbeats 4000000
namespace L2
open PySem PySem.Spec PyProof.Rows
structure bS (P:Program) (w:World) (K:W.Frag) (mg:Str->Option Value) (base:Heap) (ps:List Str) (k:Nat) (sp:Sp) (f:Addr) (fd:FuncData):Prop where
  ok:aL P w K mg base (xE P w) k f fd ps sp
  b:Binds K fd ps []
section
variable {X:Cx} {C f:Addr} {fd:FuncData} {ps:List Str} {sp:Sp} {m:Str} {apos pos:Pos} {o e:Expr} {es:List Expr} {ta:TE} {t:TA} {j k:Nat}
theorem iG {pl:Sem Bool} (ho:PE X o ta) (c:gW X.K C) (hm:Meth X.K C m f) (D:bS X.prog X.w X.K X.mg X.base ps j sp f fd) (hr:bD k X.A) (ha:PA X (e::es) t) (hjk:j<=k:=by decide)
    (hst:starEach (e::es) X.env=(false,eval e X.env)::starEach es X.env:=by rfl) (hpl:(backTo pos (starEach es X.env)).any (·.1)=false:=by rfl)
    (ht:eval (.Call (.Attribute o m apos) (e::es) [] pos) X.env=(do
      let ov <- eval o X.env
      standAt apos.atName
      let (f,first) <- holding [ov] (getMethod ov m pl)
      callWith pos f first (backTo pos (starEach (e::es) X.env)) (backToKw pos (keywordEach [] X.env))):=by rfl) :
    PE X (.Call (.Attribute o m apos) (e::es) [] pos) (uM C m sp [] E0 ta t):=vE ho c hm D.ok (hr.mono hjk) D.b .nil mj ha hst hpl ht
end
structure mJ (K:W.Frag) (C:Addr) (m:Str) (f:Addr):Prop where
  hg:W.specialIn K (.ref C) "__getattribute__" = some (some (.builtin "type.__getattribute__"))
  rd:W.readsIn K C (.type "type")=true
  at_:W.findCls K (.ref C) (.type "type") m=some (.val (.ref f))
  kp:W.keepIn K (.ref f)=true
section
variable {X:Cx} {C f:Addr} {fd:FuncData} {ps:List Str} {sp:Sp} {x m:Str} {p apos pos:Pos} {e:Expr} {es:List Expr} {t:TA} {j k:Nat}
theorem qu {pl:Sem Bool} (hm:X.mg x=some (.ref C)) (M:mJ X.K C m f) (D:bS X.prog X.w X.K X.mg X.base ps j sp f fd) (hr:bD k X.A) (ha:PA X (e::es) t) (hjk:j<=k:=by decide) (hg:Gl X x:=by rfl)
    (hdb:(x == ("__debug__" : Str))=false:=by decide) (hst:starEach (e::es) X.env=(false,eval e X.env)::starEach es X.env:=by rfl) (hpl:(backTo pos (starEach es X.env)).any (·.1)=false:=by rfl)
    (ht:eval (.Call (.Attribute (.Name x p) m apos) (e::es) [] pos) X.env=(do
      let ov <- eval (.Name x p) X.env
      standAt apos.atName
      let (f,first) <- holding [ov] (getMethod ov m pl)
      callWith pos f first (backTo pos (starEach (e::es) X.env)) (backToKw pos (keywordEach [] X.env))):=by rfl) :
    PE X (.Call (.Attribute (.Name x p) m apos) (e::es) [] pos) (qF sp [] E0 t):=by
  intro pins s σ H Q I h
  refine W.methodCall_KW (pl:=pl) (kY I hg hm ?_ hdb) ht
  refine W.method_cls I.kIn M.hg (W.cls_value I.kIn M.rd M.at_ rfl ?_)
  have I1:Inv X pins σ H { s with toks:=s.toks+1 }:=I.tok _
  refine W.callWith_K (first:=[]) (h₀:=X.base) I.ok.mod.kin M.kp (aE (ha pos pins _ σ H _ I1 h) fun us s2 ⟨vs,H2,I2,r,q2⟩=>⟨I2.kIn,?_⟩) hst hpl
  exact mC D.ok (hr.mono hjk) D.b .nil mj I2 r q2
end
section
variable {X:Cx} {C f:Addr} {fd:FuncData} {ps:List Str} {sp:Sp} {x:Str} {p pos:Pos} {j k:Nat}
theorem jN (M:Mk X.K C f) (hm:X.mg x=some (.ref C)) (D:bS X.prog X.w X.K X.mg X.base ps j sp f fd) (hr:bD k X.A) (hjk:j+1<=k:=by decide) (hg:Gl X x:=by rfl) (hdb:(x == ("__debug__" : Str))=false:=by decide) :
    PE X (.Call (.Name x p) [] [] pos) (uC C sp [] E0 tS):=tT M D.ok (hr.mono hjk) hg hm D.b .nil mj hdb
end
end L2
namespace L2
open PySem
noncomputable def below (N:Nat) (sp:Nat->Sp):Sp:=fun vs H Q E=>∃ m,m < N/\sp m vs H Q E
end L2
set_option Elab.async false
set_option linter.all false
set_option maxRecDepth 100000
set_option maxHeartbeats 4000000
namespace L2
open PySem PySem.Spec PyProof.Rows
inductive bg (K:W.Frag) (H:Hp):Nat->V->V->Bool->Prop
  | flat {n:Nat} {x y:V} (fx:eL x=true) (fy:eL y=true):bg K H n x y (gN x y)
  | same {n:Nat} {a:Addr}:bg K H n (.ref a) (.ref a) true
  | lst {n:Nat} {a b:Addr} {xs ys:List V} {e:Nat->Bool} (ne:a≠b) (ha:aj K H a xs) (hb:aj K H b ys) (hl:xs.length=ys.length)
      (hi:∀ j x y,xs[j]? = some x->ys[j]? = some y->bg K H n x y (e j)):bg K H (n+1) (.ref a) (.ref b) ((List.range xs.length).all e)
  | lstN {n:Nat} {a b:Addr} {xs ys:List V} (ne:a≠b) (ha:aj K H a xs) (hb:aj K H b ys) (hl:xs.length≠ys.length):bg K H (n+1) (.ref a) (.ref b) false
  | tup {n:Nat} {a b:Addr} {xs ys:List V} {e:Nat->Bool} (ne:a≠b) (ha:cI K H a xs) (hb:cI K H b ys)
      (hi:∀ j x y,xs[j]? = some x->ys[j]? = some y->bg K H n x y (e j)):bg K H (n+1) (.ref a) (.ref b) ((List.range (min xs.length ys.length)).all e&&xs.length == ys.length)
theorem bg.lstT {K:W.Frag} {H:Hp} {n:Nat} {a b:Addr} {xs ys:List V} (ne:a≠b) (ha:aj K H a xs) (hb:aj K H b ys) (hl:xs.length=ys.length) (hi:∀ (j:Nat) (x y:V),xs[j]? = some x->ys[j]? = some y->bg K H n x y true):bg K H (n+1) (.ref a) (.ref b) true:=by
  have h:=bg.lst (e:=fun _=>true) ne ha hb hl hi
  have e (k:Nat):(List.range k).all (fun _=>true)=true:=List.all_eq_true.mpr fun _ _=>rfl
  rw [e] at h
  exact h
section
variable {X:Cx} {pins:List (Addr × Obj)} {σ:St} {H:Hp} {s:Shared}
theorem cM {xs:List V} {us:List Value} (r:Vals xs us) {j:Nat} (h:j < us.toArray.size):∃ x,xs[j]? = some x/\RelV x us.toArray[j]:=by
  have h':j < us.length:=by simpa using h
  have hx:j < xs.length:=by rw [r.length]; exact h'
  obtain ⟨u,eu,ru⟩:=r.get (List.getElem?_eq_getElem hx)
  rw [List.getElem?_eq_getElem h'] at eu
  exact ⟨_,List.getElem?_eq_getElem hx,by
    have:us.toArray[j]=u:=by simpa using eu
    rw [this]; exact ru⟩
theorem bg.at_ {n:Nat} {x y:V} {b:Bool} (d:bg X.K H n x y b):∀ {A:Around} {u v:Value},A.units+n < cLine->Inv X pins σ H s->RelV x u->RelV y v->SeqAt.EqAt A s u v b:=by
  induction d with
  | flat fx fy=>intro A u v _ I ru rv; exact r9 ru rv fx fy
  | same =>
    intro A u v _ I ru rv
    cases (show u=Value.ref _ from ru)
    cases (show v=Value.ref _ from rv)
    exact SeqAt.EqAt.same _
  | @lst n a b xs ys e ne ha hb hl hi ih =>
    intro A u v hu I ru rv
    cases (show u=Value.ref _ from ru)
    cases (show v=Value.ref _ from rv)
    obtain ⟨us,r,pl,_⟩:=I.list ha
    obtain ⟨vs,r',pl',_⟩:=I.list hb
    have l1:=r.length
    have l2:=r'.length
    have z:=SeqAt.RcAt.lists (A:=A) (e:=e) pl.isList pl'.isList (by simp; lia) (by lia) fun j h1 h2=>by
      obtain ⟨x,ex,rx⟩:=cM r h1
      obtain ⟨y,ey,ry⟩:=cM r' h2
      exact ih j x y ex ey (A:=A.in1) (by show A.units+1+n < cLine; lia) I rx ry
    rw [show us.toArray.size=xs.length by simp; lia] at z
    exact .of_refs ne z
  | @lstN n a b xs ys ne ha hb hl =>
    intro A u v hu I ru rv
    cases (show u=Value.ref _ from ru)
    cases (show v=Value.ref _ from rv)
    obtain ⟨us,r,pl,_⟩:=I.list ha
    obtain ⟨vs,r',pl',_⟩:=I.list hb
    have l1:=r.length
    have l2:=r'.length
    exact .of_refs ne (SeqAt.RcAt.lists_lengths pl.isList pl'.isList (by simp; lia) (by lia))
  | @tup n a b xs ys e ne ha hb hi ih =>
    intro A u v hu I ru rv
    cases (show u=Value.ref _ from ru)
    cases (show v=Value.ref _ from rv)
    obtain ⟨us,r,pl,_⟩:=I.tuple ha
    obtain ⟨vs,r',pl',_⟩:=I.tuple hb
    have l1:=r.length
    have l2:=r'.length
    have z:=SeqAt.RcAt.tuples (A:=A) (e:=e) pl pl' (by lia) fun j h1 h2=>by
      obtain ⟨x,ex,rx⟩:=cM r h1
      obtain ⟨y,ey,ry⟩:=cM r' h2
      exact ih j x y ex ey (A:=A.in1) (by show A.units+1+n < cLine; lia) I rx ry
    rw [show us.toArray.size=xs.length by simp; lia,show vs.toArray.size=ys.length by simp; lia] at z
    exact .of_refs ne z
noncomputable def w4 (K:W.Frag) (neg:Bool):R2:=fun x y H Q=>∃ n b,n<=100/\bg K H n x y b/\(∃ a c,x = .ref a/\y = .ref c/\a≠c)/\Q (.bl (if neg then !b else b)) H
theorem sN (hu:X.A.units+100 < cLine):cF X (compareOp .Eq) (w4 X.K false):=by
  intro pins s σ H x y u v Q I ru rv h
  obtain ⟨n,b,hn,d,⟨a,c,rfl,rfl,hne⟩,q⟩:=h
  cases (show u=Value.ref _ from ru)
  cases (show v=Value.ref _ from rv)
  cases d with
  | flat fx _=>cases fx
  | same=>exact absurd rfl hne
  | @lst n _ _ xs ys e ne ha hb hl hi =>
    obtain ⟨us,r,pl,_⟩:=I.list ha
    obtain ⟨vs,r',pl',_⟩:=I.list hb
    have l1:=r.length
    have l2:=r'.length
    refine SeqAt.eq_listAt (e:=e) pl.isList pl'.isList (by simp; lia) (by lia) (fun j h1 h2=>?_) ⟨.bl _,H,I,rfl,?_⟩
    · obtain ⟨x,ex,rx⟩:=cM r h1
      obtain ⟨y,ey,ry⟩:=cM r' h2
      exact (hi j x y ex ey).at_ (A:=X.A.in1) (by show X.A.units+1+n < cLine; lia) I rx ry
    · rw [show us.toArray.size=xs.length by simp; lia]; exact q
  | @lstN n _ _ xs ys ne ha hb hl =>
    obtain ⟨us,r,pl,_⟩:=I.list ha
    obtain ⟨vs,r',pl',_⟩:=I.list hb
    have l1:=r.length
    have l2:=r'.length
    exact SeqAt.eq_list_lengthsAt pl.isList pl'.isList (by simp; lia) (by lia) ⟨.bl false,H,I,rfl,q⟩
  | @tup n _ _ xs ys e ne ha hb hi =>
    obtain ⟨us,r,pl,_⟩:=I.tuple ha
    obtain ⟨vs,r',pl',_⟩:=I.tuple hb
    have l1:=r.length
    have l2:=r'.length
    refine SeqAt.eq_tupleAt (e:=e) pl pl' (by lia) (fun j h1 h2=>?_) ⟨.bl _,H,I,rfl,?_⟩
    · obtain ⟨x,ex,rx⟩:=cM r h1
      obtain ⟨y,ey,ry⟩:=cM r' h2
      exact (hi j x y ex ey).at_ (A:=X.A.in1) (by show X.A.units+1+n < cLine; lia) I rx ry
    · rw [show us.toArray.size=xs.length by simp; lia,show vs.toArray.size=ys.length by simp; lia]; exact q
theorem rX (hu:X.A.units+100 < cLine):cF X (compareOp .NotEq) (w4 X.K true):=by
  intro pins s σ H x y u v Q I ru rv h
  obtain ⟨n,b,hn,d,⟨a,c,rfl,rfl,hne⟩,q⟩:=h
  cases (show u=Value.ref _ from ru)
  cases (show v=Value.ref _ from rv)
  cases d with
  | flat fx _=>cases fx
  | same=>exact absurd rfl hne
  | @lst n _ _ xs ys e ne ha hb hl hi =>
    obtain ⟨us,r,pl,_⟩:=I.list ha
    obtain ⟨vs,r',pl',_⟩:=I.list hb
    have l1:=r.length
    have l2:=r'.length
    refine SeqAt.RcNeAt.lists (e:=e) pl.isList pl'.isList (by simp; lia) (by lia) (fun j h1 h2=>?_) _ _ _ _ ⟨.bl _,H,I,rfl,?_⟩
    · obtain ⟨x,ex,rx⟩:=cM r h1
      obtain ⟨y,ey,ry⟩:=cM r' h2
      exact (hi j x y ex ey).at_ (A:=X.A.in1) (by show X.A.units+1+n < cLine; lia) I rx ry
    · rw [show us.toArray.size=xs.length by simp; lia]; exact q
  | @lstN n _ _ xs ys ne ha hb hl =>
    obtain ⟨us,r,pl,_⟩:=I.list ha
    obtain ⟨vs,r',pl',_⟩:=I.list hb
    have l1:=r.length
    have l2:=r'.length
    exact SeqAt.RcNeAt.lists_lengths pl.isList pl'.isList (by simp; lia) (by lia) _ _ _ _ ⟨.bl true,H,I,rfl,q⟩
  | @tup n _ _ xs ys e ne ha hb hi =>
    obtain ⟨us,r,pl,_⟩:=I.tuple ha
    obtain ⟨vs,r',pl',_⟩:=I.tuple hb
    have l1:=r.length
    have l2:=r'.length
    refine SeqAt.RcNeAt.tuples (e:=e) pl pl' (by lia) (fun j h1 h2=>?_) _ _ _ _ ⟨.bl _,H,I,rfl,?_⟩
    · obtain ⟨x,ex,rx⟩:=cM r h1
      obtain ⟨y,ey,ry⟩:=cM r' h2
      exact (hi j x y ex ey).at_ (A:=X.A.in1) (by show X.A.units+1+n < cLine; lia) I rx ry
    · rw [show us.toArray.size=xs.length by simp; lia,show vs.toArray.size=ys.length by simp; lia]; exact q
theorem gv {A:Around} {k:Nat} (hr:bD k A):A.units+100 < cLine:=Nat.lt_of_le_of_lt (by lia) hr.un
end
end L2
set_option Elab.async false
set_option linter.all false
set_option maxRecDepth 100000
set_option maxHeartbeats 4000000
namespace L2
open PySem PySem.Spec PyProof.Rows
section
variable {X:Cx}
end
section
variable {X:Cx} {pins:List (Addr × Obj)} {σ:St} {H:Hp} {s:Shared} {h':Heap}
theorem Inv.trackO {e:Addr} {o':HO} (I:Inv X pins σ H s) (o:qA X pins H e) (new:bo X.prog X.w (upd H e o') s.heap e o'):Inv X pins σ (upd H e o') s:=by
  have ne:∀ b u,H b=some u->b≠e:=fun b u q z=>by rw [z,o.free] at q; cases q
  refine ⟨I.ok,I.os,I.bare,⟨I.base.keep,I.base.slot,fun b ob q n hx=>?_,I.base.there,fun b xs q=>?_,fun b ob u q=>?_,fun b ps q=>?_⟩,I.loc,I.cell,?_,fun x c q=>?_,fun p hp=>?_,fun b u q=>?_,I.len⟩
  · rw [ao (fun z=>by rw [z,o.new] at q; cases q)]; exact I.base.free b ob q n hx
  · have:=I.base.tups b xs q
    rw [ao (ne _ _ this)]; exact this
  · have:=I.base.frzs b ob u q
    rw [ao (ne _ _ this)]; exact this
  · obtain ⟨m,z⟩:=I.base.tbls b ps q
    exact ⟨m,by rw [ao (ne _ _ z)]; exact z⟩
  · rw [ao (Ne.symm o.loc)]; exact I.free
  · rw [ao (o.cell x c q)]; exact I.freeC x c q
  · obtain ⟨z,n,r⟩:=I.pin p hp
    exact ⟨z,by rw [ao (o.pin p hp)]; exact n,r⟩
  · by_cases z:b=e
    · subst z; rw [af] at q; cases q; exact new
    · rw [ao z] at q
      exact (I.hok b u q).stay (fun _ _ _ x=>x) (fun c x=>by rw [ao (ne _ _ x)]; exact x) fun c xs x=>by rw [ao (ne _ _ x)]; exact x
theorem Inv.turned2 {t':Nat} {e it:Addr} (I:Inv X pins σ H s) (k:∀ b o,b≠e->b≠it->s.heap.get? b=some o->h'.get? b=some o) (he:∃ o,h'.get? e=some o) (hi:∃ o,h'.get? it=some o) (f1:fM X pins H e) (f2:fM X pins H it) :
    Inv X pins σ H { s with heap:=h',toks:=t' }:=by
  have nit:∀ b u,H b=some u->b≠e/\b≠it:=fun b u q=>⟨fun z=>(by rw [z,f1.1] at q; cases q),fun z=>(by rw [z,f2.1] at q; cases q)⟩
  have sp:∀ b,b∉[e,it]->b≠e/\b≠it:=fun b hb=>⟨fun z=>hb (by simp [z]),fun z=>hb (by simp [z])⟩
  refine I.step (g':=s.gens) (d':=s.drawn) (ch:=[e,it]) (fun b hb=>?_) (fun b o _ _ hc q _=>k b o (sp b hc).1 (sp b hc).2 q) (fun b o _ _ hc q _=>⟨o.slots,k b o (sp b hc).1 (sp b hc).2 q⟩) (fun _ _ _ _ n=>n)
    (fun b o hc q=>⟨o,k b o (sp b hc).1 (sp b hc).2 q⟩) (fun _ _ q=>q) (fun _ _ _ q=>q) (fun b ps q=>⟨#[],by rw [q]; simp⟩) (fun m hm=>?_) (fun b u q=>?_) I.bare
  · rcases List.mem_cons.mp hb with z | z
    · rw [z]; exact ⟨f1.2.2.2.1,f1.2.1,f1.2.2.2.2.1,f1.2.2.2.2.2⟩
    · rw [show b=it by simpa using z]; exact ⟨f2.2.2.2.1,f2.2.1,f2.2.2.2.2.1,f2.2.2.2.2.2⟩
  · obtain ⟨o,es,ep,ho,r⟩:=hm
    exact ⟨o,es,ep,k _ o (Ne.symm f1.2.1) (Ne.symm f2.2.1) ho,r⟩
  · refine (I.hok b u q).stay (fun c v hc q'=>?_) (fun _ q=>q) fun _ _ q=>q
    have:c≠e/\c≠it:=by
      rcases hc with z | z
      · rw [z]; exact nit b u q
      · exact nit c _ z
    exact k c v this.1 this.2 q'
end
noncomputable def qP (K:W.Frag) (l:Addr):It :=
  ⟨fun i H=>∃ xs x,aj K H l xs/\xs[i]? = some x,fun i H v H'=>∃ T x,H T=none/\(∀ xs,aj K H l xs->xs[i]? = some x)/\v = .ref T/\H'=upd H T (.tup [.int i,x]),fun i H=>∃ xs,aj K H l xs/\xs.length<=i⟩
theorem rK {P:Program} {w:World} {K:W.Frag} {elts:List Expr} {k0:Nat} {tp:Pos} (e it l:Addr) (hei:e≠it) :
    Turn P w K (.Tuple elts k0 tp) (qP K l) [e,it] e (fun i h=>(∃ old,IsEnum h e it i old)/\h.IsListIter it l i) where
  mem:=by simp
  obj:=fun i h st b hb=>by
    obtain ⟨⟨old,he⟩,o,ho,c,d⟩:=st
    rcases List.mem_cons.mp hb with z | z
    · rw [z]
      exact ⟨_,he,fun v z=>by
        have z':Data.fields _=Data.cell v:=z
        cases z'⟩
    · rw [show b=it by simpa using z]
      exact ⟨o,ho,fun v z=>by rw [d] at z; cases z⟩
  keep:=fun i h h' st k=>⟨let ⟨old,he⟩:=st.1; ⟨old,k e (by simp) _ he⟩,st.2.at fun o q=>k it (by simp) o q⟩
  item:=by
    intro X hP hw hK hc i pins s σ H E I hf st hg
    subst hP hw hK
    obtain ⟨xs,x,hq,hx⟩:=hg
    obtain ⟨its,rv,p,hz⟩:=I.list hq
    obtain ⟨u,hu,ru⟩:=rv.get hx
    obtain ⟨⟨old,he⟩,hit⟩:=st
    have fe:=hf e (by simp)
    have fi:=hf it (by simp)
    refine wpAny_pyNext_enum_item he hit p.isList (x:=u) (by simpa using hu) hei fun h1 ho hit1 hT hsz hk=>?_
    refine ⟨_,rfl,wpAny_letOwnedTupleGo_enum ho fun h2 he2 sb=>?_⟩
    have nT:s.heap.get? s.heap.objs.size=none:=Heap.get?_none_of_le (Nat.le_refl _)
    have elt:e < s.heap.objs.size:=Heap.lt_size he
    have ilt:it < s.heap.objs.size:=by obtain ⟨_,q,_⟩:=hit; exact Heap.lt_size q
    have hit2:h2.IsListIter it l (i+1):=hit1.at fun o q=>(sb.2 it (Ne.symm hei)).trans q
    have k2:∀ b o,b≠e->b≠it->s.heap.get? b=some o->h2.get? b=some o:=fun b o b1 b2 q=>(sb.2 b b1).trans (hk b o b1 b2 q)
    have I2:Inv X pins σ H { s with heap:=h2,toks:=s.toks+1 }:=I.turned2 k2 ⟨_,he2⟩ (by obtain ⟨o,q,_⟩:=hit2; exact ⟨o,q⟩) fe fi
    have oT:qA X pins H s.heap.objs.size:=by
      have fT:fM X pins H s.heap.objs.size:=I.fpOk (Nat.le_refl _) (I.hok.fresh (Nat.le_refl _))
      exact ⟨Heap.get?_none_of_le I.sz,fT.1,fT.2.1,fT.2.2.2.2.1,fT.2.2.2.2.2⟩
    have hT2:h2.get? s.heap.objs.size=some { cls:=.type "tuple",data:=.seq #[.int i s.toks,u] }:=(sb.2 _ (Nat.ne_of_gt elt)).trans hT
    have I3:=I2.trackO (o':=.tup [.int i,x]) oT ⟨sz (n:=2) (by decide),[.int i s.toks,u],.cons ⟨_,rfl⟩ (.cons ru .nil),_,hT2,rfl,_,rfl⟩
    refine ⟨.ref s.heap.objs.size,_,I3,rfl,⟨_,x,oT.free,fun ys hy=>by rw [I.list_inj hy hq]; exact hx,rfl,rfl⟩,⟨⟨_,by simpa using he2⟩,hit2⟩,fun b hb=>?_⟩
    rcases List.mem_cons.mp hb with z | z
    · rw [z,ao (Nat.ne_of_lt elt)]; exact fe.1
    · rw [show b=it by simpa using z,ao (Nat.ne_of_lt ilt)]; exact fi.1
  done:=by
    intro X hP hw hK hc i pins s σ H E I hf st hg
    subst hP hw hK
    obtain ⟨xs,hq,hx⟩:=hg
    obtain ⟨its,rv,p,hz⟩:=I.list hq
    obtain ⟨⟨old,he⟩,hit⟩:=st
    have hl:=rv.length
    obtain ⟨f0,f1,f2,f3,f4,f5⟩:=hf it (by simp)
    refine wpAny_pyNext_enum_end (I.ok.hd hc) he hit p.isList (Array.getElem?_eq_none (by simp; lia)) fun h2 eb=>⟨rfl,?_⟩
    exact I.turned (t':=s.toks) (fun b o hb q=>eb b o hb q) f0 f1 f3 f4 f5
  self:=fun _ _ _ _ _ st h=>by
    obtain ⟨⟨old,he⟩,_⟩:=st
    exact wpAny_pyIter_enum he h
noncomputable def xX (K:W.Frag) (ta:TA):TI:=fun σ H R=>ta σ H fun vs H1=>∃ l,vs=[.ref l]/\(∃ xs,aj K H1 l xs)/\R (qP K l) H1
section
variable {X:Cx}
theorem u4 {elts:List Expr} {k0:Nat} {tp:Pos} {a:Expr} {ta:TA} {p pos:Pos} (hg:Gl X "enumerate") (hm:X.mg "enumerate" = none) (ha:PA X [a] ta) (hs:starEach [a] X.env=[(false,eval a X.env)]:=by rfl) :
    PI X (.Tuple elts k0 tp) (.Call (.Name "enumerate" p) [a] [] pos) (xX X.K ta):=by
  intro pins s σ H R I h
  refine Call_ (dM I hg hm boot_enumerate (PyProof.Rows.callWith_type1 (aE (ha pos pins s σ H _ I h) fun us s1 ⟨vs,H1,I1,r1,q1⟩=>?_) hs rfl))
  obtain ⟨l,rfl,⟨xs,hq⟩,q⟩:=q1
  obtain ⟨u,rfl,ru⟩:=vals1 r1
  cases ru
  obtain ⟨its,rv,pl,hz⟩:=I1.list hq
  refine call_enumerate_list pl.isList fun h2 he hit hsz hk=>?_
  have I2:Inv X pins σ H1 { s1 with heap:=h2 }:=I1.kept (t':=s1.toks) hk
  refine wpAny_pyIter_enum he ⟨_,[s1.heap.objs.size+1,s1.heap.objs.size],_,_,H1,rfl,I2,rK _ s1.heap.objs.size l (Nat.succ_ne_self _),⟨⟨_,he⟩,hit⟩,fun b hb=>?_,q⟩
  rcases List.mem_cons.mp hb with z | z
  · rw [z]; exact I1.fpOk (Nat.le_succ _) (I1.hok.fresh (Nat.le_succ _))
  · rw [show b=s1.heap.objs.size by simpa using z]; exact I1.fpOk (Nat.le_refl _) (I1.hok.fresh (Nat.le_refl _))
theorem sZ {K:W.Frag} {l:Addr} {xs:List V} {g:TG} {tb:TS} {D:Ends} {σ:St} {H:Hp} (Pv:Nat->St->Hp->Prop) (h0:Pv 0 σ H) (hl:∀ i σ H,i<=xs.length->Pv i σ H->aj K H l xs)
    (hs:∀ i x σ H T,xs[i]? = some x->Pv i σ H->H T=none->g (.ref T) σ (upd H T (.tup [.int i,x])) fun σ2 H2=>tb { D with nx:=Pv (i+1),ct:=Pv (i+1),bk:=D.nx } σ2 H2) (hd:∀ σ H,Pv xs.length σ H->D.nx σ H) :
    ∃ W:Nat->Nat->St->Hp->Prop,(∃ m,W 0 m σ H)/\∀ i m σ H,W i m σ H ->
      ((qP K l).stop i H/\D.nx σ H)\/((qP K l).go i H/\∃ N:St->Hp->Prop,(∀ σ' H',N σ' H'->∃ m',m' < m/\W (i+1) m' σ' H')/\∀ x H',(qP K l).yld i H x H'->g x σ H' fun σ2 H2=>tb { D with nx:=N,ct:=N,bk:=D.nx } σ2 H2):=by
  refine ⟨fun i m σ H=>m=xs.length - i/\i<=xs.length/\Pv i σ H,⟨xs.length,by simp,Nat.zero_le _,h0⟩,?_⟩
  rintro i m σ H ⟨rfl,hi,p⟩
  have q:=hl i σ H hi p
  by_cases hlt:i < xs.length
  · refine .inr ⟨⟨xs,_,q,List.getElem?_eq_getElem hlt⟩,Pv (i+1),fun σ' H' p'=>⟨xs.length - (i+1),by lia,rfl,hlt,p'⟩,fun v H' y=>?_⟩
    obtain ⟨T,x,nT,hx,rfl,rfl⟩:=y
    exact hs i x σ H T (hx xs q) p nT
  · have e:i=xs.length:=by lia
    subst e
    exact .inl ⟨⟨xs,q,Nat.le_refl _⟩,hd σ H p⟩
end
end L2
set_option Elab.async false
set_option linter.all false
set_option maxRecDepth 100000
set_option maxHeartbeats 4000000
namespace Ck
open PySem L2
inductive Tree where
  | int (i:Int)
  | lst (l:List Tree)
  | tup (l:List Tree)
mutual
noncomputable def Rep (H:Hp):Tree->V->Prop
  | .int i,v=>v = .int i
  | .lst ts,v=>∃ a xs,v = .ref a/\H a=some (.lst xs)/\ts.length<=1000000/\fw H ts xs
  | .tup ts,v=>∃ a xs,v = .ref a/\H a=some (.tup xs)/\ts.length<=1000000/\fw H ts xs
noncomputable def fw (H:Hp):List Tree->List V->Prop
  | [],xs=>xs=[]
  | t::ts,xs=>∃ v vs,xs=v::vs/\Rep H t v/\fw H ts vs
end
mutual
noncomputable def dep:Tree->Nat
  | .int _=>0
  | .lst ts=>ue ts+1
  | .tup ts=>ue ts+1
noncomputable def ue:List Tree->Nat
  | []=>0
  | t::ts=>max (dep t) (ue ts)
end
mutual
theorem Rep.same {H H':Hp} (s:ag H H'):∀ (t:Tree) {v:V},Rep H t v->Rep H' t v
  | .int i,v,h=>by unfold Rep at h |-; exact h
  | .lst ts,v,h=>by
    unfold Rep at h |-
    obtain ⟨a,xs,e,ha,hl,r⟩:=h
    exact ⟨a,xs,e,s _ _ ha,hl,fw.same s ts r⟩
  | .tup ts,v,h=>by
    unfold Rep at h |-
    obtain ⟨a,xs,e,ha,hl,r⟩:=h
    exact ⟨a,xs,e,s _ _ ha,hl,fw.same s ts r⟩
theorem fw.same {H H':Hp} (s:ag H H'):∀ (ts:List Tree) {xs:List V},fw H ts xs->fw H' ts xs
  | [],xs,h=>by unfold fw at h |-; exact h
  | t::ts,xs,h=>by
    unfold fw at h |-
    obtain ⟨v,vs,e,r,rs⟩:=h
    exact ⟨v,vs,e,Rep.same s t r,fw.same s ts rs⟩
end
noncomputable abbrev Pair:=Int × Int
def bQ (H:Hp) (xs:List V) (ps:List Pair):Prop:=Paired (fun (v:V) (p:Pair)=>∃ t,v = .ref t/\H t=some (.tup [.int p.1,.int p.2])) xs ps
theorem bQ.same {H H':Hp} {xs:List V} {ps:List Pair} (h:bQ H xs ps) (s:ag H H'):bQ H' xs ps:=Paired.mapP h fun v p ⟨t,e,q⟩=>⟨t,e,s _ _ q⟩
theorem bQ.length {H:Hp} {xs:List V} {ps:List Pair} (h:bQ H xs ps):xs.length=ps.length:=Paired.length h
theorem bQ.get {H:Hp}:∀ {xs:List V} {ps:List Pair},bQ H xs ps->∀ {i:Nat} {x:V},xs[i]? = some x->∃ p t,ps[i]? = some p/\x = .ref t/\H t=some (.tup [.int p.1,.int p.2])
  | _,_,.nil,i,x,e=>by cases e
  | _,_,.cons r t,0,x,e=>by
    obtain ⟨a,e1,e2⟩:=r
    rw [List.getElem?_cons_zero] at e
    cases e
    exact ⟨_,a,rfl,e1,e2⟩
  | _,_,.cons r t,i+1,x,e=>by
    obtain ⟨p,a,h1,h2,h3⟩:=bQ.get t (i:=i) (by simpa using e)
    exact ⟨p,a,by simpa using h1,h2,h3⟩
theorem bQ.snoc {H:Hp}:∀ {xs:List V} {ps:List Pair} {t:Addr} {p:Pair},bQ H xs ps->H t=some (.tup [.int p.1,.int p.2])->bQ H (xs++[.ref t]) (ps++[p])
  | _,_,t,p,.nil,h=>.cons ⟨t,rfl,h⟩ .nil
  | _,_,t,p,.cons r s,h=>.cons r (bQ.snoc s h)
theorem bQ.updL {H:Hp} {xs:List V} {ps:List Pair} {a:Addr} {l:List V} (h:bQ H xs ps) (ha:H a=some (.lst l)) (o:HO):bQ (upd H a o) xs ps :=
  Paired.mapP h fun v p ⟨t,e,q⟩=>⟨t,e,(ao (uB q ha (by intro z; cases z))).trans q⟩
theorem bQ.updN {H:Hp} {xs:List V} {ps:List Pair} {a:Addr} (h:bQ H xs ps) (ha:H a=none) (o:HO):bQ (upd H a o) xs ps :=
  Paired.mapP h fun v p ⟨t,e,q⟩=>⟨t,e,(ao (au q ha)).trans q⟩
def cJ (H:Hp) (a:Addr) (ps:List Pair):Prop:=∃ xs,H a=some (.lst xs)/\bQ H xs ps
theorem cJ.same {H H':Hp} {a:Addr} {ps:List Pair} (h:cJ H a ps) (s:ag H H'):cJ H' a ps:=let ⟨xs,e,r⟩:=h; ⟨xs,s _ _ e,r.same s⟩
theorem cJ.len {H:Hp} {a:Addr} {ps:List Pair} (h:cJ H a ps):∃ xs,H a=some (.lst xs)/\xs.length=ps.length/\bQ H xs ps:=let ⟨xs,e,r⟩:=h; ⟨xs,e,r.length,r⟩
end Ck
namespace L2
open PySem
theorem jD {K:W.Frag}:W.kitOne K (.type "tuple") (.type "tuple")=some true:=by rfl
end L2
set_option Elab.async false
set_option linter.all false
set_option maxRecDepth 100000
set_option maxHeartbeats 4000000
namespace Ck
open PySem L2
theorem yS (xs:List V) (k:Nat):de xs (some (k:Int)) none=xs.drop k:=by
  unfold de
  rw [HT.sIx_nat,HT.sIx_none]
  rw [List.take_of_length_le (by rw [List.length_drop]; lia)]
  by_cases h:k<=xs.length
  · rw [show min k xs.length=k by lia]
  · rw [List.drop_eq_nil_of_le (show xs.length<=k by lia),List.drop_eq_nil_of_le (by lia)]
theorem vf (xs:List V) (k:Nat):de xs none (some (k:Int))=xs.take k:=by
  unfold de
  rw [HT.sIx_nat,HT.sIx_none,List.drop_zero,Nat.sub_zero]
  by_cases h:k<=xs.length
  · rw [show min k xs.length=k by lia]
  · rw [List.take_of_length_le (by lia),List.take_of_length_le (by lia)]
theorem uK {c A B:Prop} [Decidable c] (hc:¬ c) (h:A):if (!decide c)=true then A else B:=by
  rw [decide_eq_false hc]
  exact cp h
end Ck
set_option Elab.async false
set_option linter.all false
set_option maxRecDepth 100000
set_option maxHeartbeats 4000000
namespace L2
open PySem PySem.Spec PyProof.Rows PySem.SeqAt
section
variable {X:Cx}
theorem fV {K:W.Frag} {es:List Expr} {k:Nat} {t:lL} {n:Nat} {pos:Pos} (hK:X.K=K) (hc:X.calm=true) (h:rz X es t)
    (hn:(assignEach es X.env).length=n:=by rfl) (hst:(assignEach es X.env).findIdx? (·.1)=none:=by rfl):PG X (.Tuple es k pos) (v9 K n t):=by
  subst hK
  exact gZ hc h hn hst
theorem bX {K:W.Frag} {a:Addr} {xs:List V} {g:TG} {tt:TT} {te:TE} {σ0:St} {H:Hp} {D:Addr} {Q:VK} (Pv:Nat->List V->Hp->Prop) (hz:xs.length<=sizeLine)
    (h0:Pv 0 [] (upd H D (.lst []))) (hl:∀ i ys H',i<=xs.length->Pv i ys H'->aj K H' a xs/\ys.length<=i)
    (hs:∀ (i:Nat) (x:V) (ys:List V) (H':Hp) (R:VK) (R0:Hp->Prop),xs[i]? = some x->Pv i ys H'->(∀ v H3,H3 D=some (.lst ys)->Pv (i+1) (ys++[v]) (upd H3 D (.lst (ys++[v])))->R v H3)->(∀ H3,Pv (i+1) ys H3->R0 H3) ->
      g x σ0 H' fun σ2 H2=>Ext σ0 σ2/\tt σ2 H2 fun b H3=>if b=true then te σ2 H3 R else R0 H3)
    (hq:∀ ys H',Pv xs.length ys H'->Q (.ref D) H') :
    qE (nZ K a) g tt te σ0 D Q H:=by
  refine ⟨fun i m ys H'=>m=xs.length - i/\i<=xs.length/\Pv i ys H',⟨xs.length,by simp,Nat.zero_le _,h0⟩,?_⟩
  rintro i m ys H' ⟨rfl,hi,p⟩
  obtain ⟨sq,ly⟩:=hl i ys H' hi p
  by_cases hlt:i < xs.length
  · refine .inr ⟨⟨xs,xs[i],sq,by simp [hlt]⟩,fun x H'' y=>?_⟩
    obtain ⟨e,y⟩:=y
    subst e
    have ex:=y xs sq
    refine hs i x ys _ _ _ ex p (fun v H3 hD p'=>⟨hD,by lia,xs.length - (i+1),by lia,rfl,hlt,p'⟩) fun H3 p'=>⟨xs.length - (i+1),by lia,rfl,hlt,p'⟩
  · have e:i=xs.length:=by lia
    subst e
    exact .inl ⟨⟨xs,sq,Nat.le_refl _⟩,hq ys H' p⟩
end
end L2
namespace Ck
open PySem L2
end Ck
namespace Ck
open PySem L2
structure jA (fs:List (Str × V)) (w:Str) (l:Int):Prop where
  word:fs.lookup ("word" : Str)=some (.str w)
  least:fs.lookup ("least" : Str)=some (.int l)
  no:∀ m:Str,m≠("word" : Str)->m≠("least" : Str)->fs.lookup m=none
theorem oN (w:Str) (l:Int):jA (cS ("least" : Str) (.int l) (cS ("word" : Str) (.str w) [])) w l :=
  ⟨by rw [cH,if_neg (by decide),cH,if_pos rfl],by rw [cH,if_pos rfl],fun m a b=>by rw [cH,if_neg b,cH,if_neg a]; rfl⟩
noncomputable def up (d:Int) (p:Pair):Pair:=(p.1+d,p.2+d)
theorem bQ.app {H:Hp}:∀ {xs ys:List V} {ps qs:List Pair},bQ H xs ps->bQ H ys qs->bQ H (xs++ys) (ps++qs)
  | _,_,_,_,.nil,h=>h
  | _,_,_,_,.cons r t,h=>.cons r (bQ.app t h)
end Ck
namespace Ck
open PySem L2
theorem gQ (ns:List Int):(ns.map V.int).all eL=true:=by
  rw [List.all_eq_true]
  intro x hx
  obtain ⟨n,_,rfl⟩:=List.mem_map.mp hx
  rfl
end Ck
namespace Ck
open PySem L2
end Ck
set_option Elab.async false
set_option linter.all false
set_option maxRecDepth 100000
set_option maxHeartbeats 4000000
namespace Ck
open PySem L2
inductive St:List Int->Int->Prop
  | nil:St [] 0
  | snoc {rs:List Int} {a n:Int}:St rs a->a<=n->n<=(rs.length:Int)->St (rs++[n]) n
end Ck
set_option Elab.async false
set_option linter.all false
set_option maxRecDepth 100000
set_option maxHeartbeats 4000000
namespace Ck
open PySem L2
end Ck
namespace Ck
open PySem L2
end Ck
set_option Elab.async false
set_option linter.all false
set_option maxRecDepth 100000
set_option maxHeartbeats 4000000
namespace L2
open PySem PySem.Spec PyProof.Rows
theorem c0:bootBuiltins "sorted" = some (.builtin "sorted"):=by decide +kernel
theorem vR:bootBuiltins "all" = some (.builtin "all"):=by decide +kernel
theorem gq:∀ {us:List Value} {ns:List Int},IntsAre us ns->Vals (ns.map V.int) us
  | _,_,.nil=>.nil
  | _,_,.cons n t h=>.cons ⟨t,rfl⟩ (gq h)
section
variable {X:Cx}
theorem jc:cU X (.builtin "sorted") (fun xs H Q=>∃ (p:Addr) (ns:List Int),xs=[.ref p]/\aj X.K H p (ns.map V.int)/\ns.length < 64/\∀ (q:Addr) (ms:List Int),H q=none->ms.Perm ns->ms.Pairwise (·<=·)->Q (.ref q) (upd H q (.lst (ms.map V.int)))):=by
  intro pins s σ H xs us Q I r h
  obtain ⟨p,ns,rfl,hl,h64,q⟩:=h
  obtain ⟨u,rfl,ru⟩:=vals1 r
  cases ru
  obtain ⟨its,r',pl,hz⟩:=I.list hl
  have hi:IntsAre its ns:=intsAre_of r'
  refine sorted_ints pl.isList hi (by rw [hi.length]; exact h64) fun out ms ho hp hs=>?_
  obtain ⟨e,he⟩:=sortedAll_at s.heap its out
  have lm:(ms.map V.int).length<=sizeLine:=by rw [List.length_map,hp.length_eq]; exact sz (by lia)
  exact ⟨.ref _,_,I.laid (t':=s.toks) (o:=.lst (ms.map V.int)) (fun b u e=>sortedAll_old e) (Nat.le_succ _) ⟨lm,out.toList,e,gq ho,by simpa [seqObj] using he⟩,rfl,q _ ms (I.hok.fresh (Nat.le_succ _)) hp hs⟩
theorem pE {bs:List Bool}:∀ {us:List Value},Vals (bs.map V.bl) us->us=bs.map Value.bool:=by
  induction bs with
  | nil=>intro us r; rw [List.map_nil] at r; cases r; rfl
  | cons b bs ih =>
    intro us r
    rw [List.map_cons] at r
    cases r with
    | cons h t=>rw [ih t,List.map_cons]; cases (show _=Value.bool b from h); rfl
theorem all_range (bs:List Bool):(List.range bs.length).all (fun i=>bs.getD i false)=bs.all id:=by
  induction bs with
  | nil=>rfl
  | cons b bs ih =>
    rw [List.length_cons,List.range_succ_eq_map,List.all_cons,List.all_map,List.all_cons]
    have:((fun i=>(b::bs).getD i false) ∘ Nat.succ)=fun i=>bs.getD i false:=by funext i; rfl
    rw [this,ih]
    rfl
theorem tN (hc:X.calm=true):cU X (.builtin "all") (fun xs H Q=>∃ (p:Addr) (bs:List Bool),xs=[.ref p]/\aj X.K H p (bs.map V.bl)/\Q (.bl (bs.all id)) H):=by
  intro pins s σ H xs us Q I r h
  obtain ⟨p,bs,rfl,hl,q⟩:=h
  obtain ⟨u,rfl,ru⟩:=vals1 r
  cases ru
  obtain ⟨its,r',pl,hz⟩:=I.list hl
  have ei:=pE r'
  have hlt:p < s.heap.objs.size:=by obtain ⟨_,e,_⟩:=pl.isList; exact Heap.lt_size e
  refine call_all_walk (wpAny_pyIter_list pl.isList ⟨_,_,_,_,_,_,fun i=>bs.getD i false,rfl,Walks.list (A:=X.A.in1) (I.ok.hd hc) _ p (Nat.ne_of_lt hlt) its.toArray,⟨⟨_,Heap.get?_push_size _ rfl,rfl,rfl⟩,pl.isList.push _⟩,?_,fun h' tk hk=>⟨.bl _,H,I.kept (old_kept hk),rfl,?_⟩⟩)
  · intro i v s' Q' E' hP hQ
    have hb:bs[i]? = some (bs.getD i false)/\v = .bool (bs.getD i false):=by
      have hP':its[i]? = some v:=by simpa using hP
      rw [ei,List.getElem?_map] at hP'
      cases hb:bs[i]? with
      | none=>rw [hb] at hP'; cases hP'
      | some b =>
        rw [hb] at hP'
        have e1:bs.getD i false=b:=by rw [List.getD_eq_getElem?_getD,hb]; rfl
        rw [e1]
        exact ⟨rfl,(Option.some.inj hP').symm⟩
    rw [hb.2]
    exact wpAny_truthy_bool hQ
  · have e1:its.toArray.size=bs.length:=by rw [ei]; simp
    rw [e1,all_range]
    exact q
end
end L2
namespace Ck
open PySem L2
end Ck
set_option Elab.async false
set_option linter.all false
set_option maxRecDepth 100000
set_option maxHeartbeats 4000000
namespace L2
open PySem PySem.Spec PyProof.Rows PySem.W
noncomputable def pw {α:Type} (n:Nat) (lt:Nat->Nat->Bool):KasT α->(α->Prop)->Prop
  | .ret a,Q=>Q a
  | .ask i j k,Q=>i < n/\j < n/\pw n lt (k (lt i j)) Q
theorem eY {α β:Type} {n:Nat} {lt:Nat->Nat->Bool} {f:α->KasT β} {Q:β->Prop}:∀ {t:KasT α},pw n lt t (fun a=>pw n lt (f a) Q)->pw n lt (t.bind f) Q
  | .ret _,h=>h
  | .ask _ _ _,h=>⟨h.1,h.2.1,eY h.2.2⟩
theorem dW {α:Type} {n:Nat} {lt:Nat->Nat->Bool} {Q Q':α->Prop} (m:∀ a,Q a->Q' a):∀ {t:KasT α},pw n lt t Q->pw n lt t Q'
  | .ret a,h=>m a h
  | .ask _ _ _,h=>⟨h.1,h.2.1,dW m h.2.2⟩
theorem uD {α:Type} {n:Nat} {lt:Nat->Nat->Bool} {Q:α->Prop} {s:Shared} {cmp:Nat->Nat->(Bool->Shared->Prop)->Shared->Prop}
    (hc:∀ (i j:Nat) (C:Bool->Shared->Prop),i < n->j < n->C (lt i j) s->cmp i j C s):∀ {t:KasT α},pw n lt t Q->t.kasWp cmp (fun a s'=>s'=s/\Q a) s
  | .ret _,h=>⟨rfl,h⟩
  | .ask i j k,h=>hc i j (fun b s'=>(k b).kasWp cmp (fun a s'=>s'=s/\Q a) s') h.1 h.2.1 (uD hc h.2.2)
structure gp (lt:Nat->Nat->Bool):Prop where
  asym:∀ a b,lt a b=true->lt b a=false
  ntr:∀ a b c,lt b a=false->lt c b=false->lt c a=false
noncomputable abbrev gA (p:Array Nat) (k:Nat):Nat:=p.getD k 0
def cP (n:Nat) (p:Array Nat):Prop:=p.toList.Perm (List.range n)
theorem cP.size {n:Nat} {p:Array Nat} (h:cP n p):p.size=n:=by
  have:=h.length_eq
  rw [List.length_range] at this
  simpa using this
theorem cP.lt {n:Nat} {p:Array Nat} (h:cP n p) (hn:0 < n) (k:Nat):gA p k < n:=by
  unfold gA
  by_cases hk:k < p.size
  · have e:p.getD k 0=p[k]:=by simp [hk]
    rw [e]
    exact List.mem_range.mp (h.mem_iff.mp (Array.getElem_mem_toList hk))
  · have e:p.getD k 0=0:=by simp [hk]
    rw [e]; exact hn
theorem g6 {p:Array Nat} {i j:Nat} (hj:j<=p.size) (k:Nat):gA (kas_rev p i j) k=if i<=k/\k < j then gA p (i+j - 1 - k) else gA p k:=by
  unfold gA kas_rev
  rw [Array.getD_eq_getD_getElem?,getElem?_mirror_all hj k]
  split
  · rw [<- Array.getD_eq_getD_getElem?]
  · rw [<- Array.getD_eq_getD_getElem?]
theorem xy {p:Array Nat} {src d:Nat} (hs:src < p.size) (hd:d<=src) (k:Nat):gA (bubble p src d) k=if k=src - d then gA p src else if src - d < k/\k<=src then gA p (k - 1) else gA p k:=by
  unfold gA
  rw [Array.getD_eq_getD_getElem?,getElem?_bubble hs d hd k]
  split
  · simp [hs]
  · split
    · rw [<- Array.getD_eq_getD_getElem?]
    · rw [<- Array.getD_eq_getD_getElem?]
theorem cP.rev {n:Nat} {p:Array Nat} (h:cP n p) (i j:Nat):cP n (kas_rev p i j):=(Array.perm_iff_toList_perm.mp (mirror_perm p i j _)).trans h
theorem cP.bub {n:Nat} {p:Array Nat} (h:cP n p) (i j:Nat):cP n (bubble p i j):=(Array.perm_iff_toList_perm.mp (bubble_perm p i j)).trans h
section
variable {n:Nat} {lt:Nat->Nat->Bool} (O:gp lt)
def eJ (lt:Nat->Nat->Bool) (p:Array Nat) (k:Nat):Prop:=∀ i j,i<=j->j < k->lt (gA p j) (gA p i)=false
def fN (lt:Nat->Nat->Bool) (p:Array Nat) (k:Nat):Prop:=∀ i j,i<=j->j < k->lt (gA p i) (gA p j)=false
def j7 (lt:Nat->Nat->Bool) (a b:Nat):Prop:=lt a b=false/\lt b a=false
include O
theorem gp.irr (a:Nat):lt a a=false:=by
  cases h:lt a a with
  | false=>rfl
  | true=>exact h.symm.trans (O.asym a a h)
theorem gp.alk (a:Nat):j7 lt a a:=⟨O.irr a,O.irr a⟩
theorem gp.alkT {a b c:Nat} (x:j7 lt a b) (y:j7 lt b c):j7 lt a c:=⟨O.ntr c b a y.1 x.1,O.ntr a b c x.2 y.2⟩
theorem gp.up {a b c:Nat} (x:lt a b=true) (y:lt c b=false):lt a c=true:=by
  cases h:lt a c with
  | true=>rfl
  | false=>exact (x.symm.trans (O.ntr b c a y h)).symm▸rfl
theorem eJ.one (p:Array Nat):eJ lt p 1:=fun i j h1 h2=>by
  have e:i=j:=by lia
  subst e
  exact O.irr _
theorem fN.one (p:Array Nat):fN lt p 1:=fun i j h1 h2=>by
  have e:i=j:=by lia
  subst e
  exact O.irr _
theorem eJ.snoc {p:Array Nat} {m:Nat} (h1:1<=m) (h:eJ lt p m) (c:lt (gA p m) (gA p (m - 1))=false):eJ lt p (m+1):=fun i j ij jm=>by
  by_cases hj:j < m
  · exact h i j ij hj
  · have e:j=m:=by lia
    subst e
    by_cases hi:i=j
    · subst hi; exact O.irr _
    · exact O.ntr _ _ _ (h i (j - 1) (by lia) (by lia)) c
theorem fN.snoc {p:Array Nat} {m:Nat} (h1:1<=m) (h:fN lt p m) (c:lt (gA p (m - 1)) (gA p m)=false):fN lt p (m+1):=fun i j ij jm=>by
  by_cases hj:j < m
  · exact h i j ij hj
  · have e:j=m:=by lia
    subst e
    by_cases hi:i=j
    · subst hi; exact O.irr _
    · exact O.ntr _ _ _ c (h i (j - 1) (by lia) (by lia))
theorem fN.alk {p p':Array Nat} {m:Nat} (h:fN lt p m) (e:∀ k,k < m->j7 lt (gA p' k) (gA p k)):fN lt p' m:=fun i j ij jm =>
  O.ntr _ _ _ (e j jm).2 (O.ntr _ _ _ (h i j ij jm) (e i (by lia)).1)
theorem nU {p:Array Nat} (hp:cP n p) {N:Nat} (hN:N<=n):∀ (f m:Nat),1<=m->m+f=N->eJ lt p m->pw n lt (kas_asc p f m) (fun r=>m<=r/\r<=N/\eJ lt p r/\(r < N->lt (gA p r) (gA p (r - 1))=true))
  | 0,m,h1,h2,h=>⟨Nat.le_refl _,by lia,h,fun z=>absurd z (by lia)⟩
  | f+1,m,h1,h2,h=>by
    refine ⟨hp.lt (by lia) _,hp.lt (by lia) _,?_⟩
    show pw n lt (if lt (gA p m) (gA p (m - 1))=true then _ else _) _
    cases c:lt (gA p m) (gA p (m - 1)) with
    | true =>
      rw [if_pos rfl]
      exact ⟨Nat.le_refl _,by lia,h,fun _=>c⟩
    | false =>
      rw [if_neg (by decide)]
      exact dW (fun r hr=>⟨by lia,hr.2⟩) (nU hp hN f (m+1) (by lia) (by lia) (h.snoc O h1 c))
theorem iy {N:Nat} (hN:N<=n):∀ (f:Nat) (p:Array Nat) (m q:Nat),cP n p->q+1<=m->m+f=N->fN lt p m->(∀ i,m - 1 - q<=i->i < m->j7 lt (gA p i) (gA p (m - 1))) ->
    pw n lt (kas_desc f p m q) (fun r=>cP n r.1/\r.2.2+1<=r.2.1/\r.2.1<=N/\fN lt r.1 r.2.1/\∀ i,r.2.1 - 1 - r.2.2<=i->i < r.2.1->j7 lt (gA r.1 i) (gA r.1 (r.2.1 - 1)))
  | 0,p,m,q,hp,hq,h2,h,al=>⟨hp,hq,by show m<=N; lia,h,al⟩
  | f+1,p,m,q,hp,hq,h2,h,al=>by
    have hs:=hp.size
    refine ⟨hp.lt (by lia) _,hp.lt (by lia) _,?_⟩
    show pw n lt (if lt (gA p m) (gA p (m - 1))=true then _ else _) _
    cases c:lt (gA p m) (gA p (m - 1)) with
    | true =>
      rw [if_pos rfl]
      by_cases q0:q > 0
      · rw [if_pos q0]
        have e:∀ k,gA (kas_rev p (m - (q+1)) m) k=if m - (q+1)<=k/\k < m then gA p (m - (q+1)+m - 1 - k) else gA p k:=fun k=>g6 (by lia) k
        have ek:∀ k,k < m->j7 lt (gA (kas_rev p (m - (q+1)) m) k) (gA p k):=fun k hk=>by
          rw [e k]
          split
          · have z1:=al (m - (q+1)+m - 1 - k) (by lia) (by lia)
            have z2:=al k (by lia) hk
            exact O.alkT z1 ⟨z2.2,z2.1⟩
          · exact O.alk _
        have em:gA (kas_rev p (m - (q+1)) m) m=gA p m:=by rw [e m,if_neg (by lia)]
        refine iy hN f _ (m+1) 0 (hp.rev _ _) (by lia) (by lia) ((h.alk O ek).snoc O (by lia) ?_) (fun i i1 i2=>?_)
        · rw [em]
          have:=(ek (m - 1) (by lia)).1
          exact O.ntr _ _ _ (O.asym _ _ c) this
        · have:i=m:=by lia
          subst this
          exact O.alk _
      · rw [if_neg q0]
        refine iy hN f p (m+1) 0 hp (by lia) (by lia) (h.snoc O (by lia) (O.asym _ _ c)) (fun i i1 i2=>?_)
        have:i=m:=by lia
        subst this
        exact O.alk _
    | false =>
      rw [if_neg (by decide)]
      refine ⟨hp.lt (by lia) _,hp.lt (by lia) _,?_⟩
      show pw n lt (if lt (gA p (m - 1)) (gA p m)=true then _ else _) _
      cases d:lt (gA p (m - 1)) (gA p m) with
      | true =>
        rw [if_pos rfl]
        exact ⟨hp,hq,by show m<=N; lia,h,al⟩
      | false =>
        rw [if_neg (by decide)]
        refine iy hN f p (m+1) (q+1) hp (by lia) (by lia) (h.snoc O (by lia) d) (fun i i1 i2=>?_)
        by_cases hi:i < m
        · exact O.alkT (al i (by lia) hi) ⟨d,c⟩
        · have:i=m:=by lia
          subst this
          exact O.alk _
def wj (n:Nat) (lt:Nat->Nat->Bool) (N:Nat) (r:Nat × Array Nat):Prop:=cP n r.2/\eJ lt r.2 r.1/\1<=r.1/\r.1<=N
theorem oo {N:Nat} (hN:N<=n) {p:Array Nat} {m:Nat} (hp:cP n p) (h1:1<=m) (hm:m<=N) (h:fN lt p m):pw n lt (kas_tail3 m N p) (wj n lt N):=by
  have hs:=hp.size
  have e:∀ k,k < m->gA (kas_rev p 0 m) k=gA p (m - 1 - k):=fun k hk=>by
    rw [g6 (by lia),if_pos (by lia),Nat.zero_add]
  refine eY (dW (fun r hr=>?_) (nU O (hp.rev 0 m) hN (N - m) m h1 (by lia) (fun i j ij jm=>?_)))
  · exact ⟨hp.rev 0 m,hr.2.2.1,by show 1<=r; lia,hr.2.1⟩
  · rw [e i (by lia),e j jm]
    exact h _ _ (by lia) (by lia)
theorem jg {N:Nat} (hN:N<=n) {p:Array Nat} {m:Nat} (hp:cP n p) (h1:1<=m) (hm:m+1<=N) (h:fN lt p m) (c:lt (gA p m) (gA p (m - 1))=true):pw n lt (kas_descPart m N p) (wj n lt N):=by
  refine eY (dW (fun r hr=>?_) (iy O hN (N - (m+1)) p (m+1) 0 hp (by lia) (by lia) (h.snoc O h1 (O.asym _ _ c)) (fun i i1 i2=>?_)))
  · obtain ⟨p',m',q'⟩:=r
    obtain ⟨ok,hq,hl,fa,al⟩:=hr
    have hs:=ok.size
    dsimp only at hs hq hl fa al |-
    by_cases q0:q' > 0
    · rw [if_pos q0]
      refine oo O hN (ok.rev _ _) (by lia) hl (fa.alk O fun k hk=>?_)
      rw [g6 (by lia)]
      split
      · have z1:=al (m' - (q'+1)+m' - 1 - k) (by lia) (by lia)
        have z2:=al k (by lia) hk
        exact O.alkT z1 ⟨z2.2,z2.1⟩
      · exact O.alk _
    · rw [if_neg q0]
      exact oo O hN ok (by lia) hl fa
  · have:i=m:=by lia
    subst this
    exact O.alk _
theorem tW {N:Nat} (hN:N<=n) (hN1:1<=N) {p:Array Nat} (hp:cP n p):pw n lt (kas_count N p) (wj n lt N):=by
  have hs:=hp.size
  refine eY (dW (fun m hm=>?_) (nU O hp hN (N - 1) 1 (Nat.le_refl _) (by lia) (eJ.one O p)))
  obtain ⟨m1,mN,ri,st⟩:=hm
  by_cases e:m=N
  · subst e
    rw [if_pos (by simp)]
    exact ⟨hp,ri,m1,Nat.le_refl _⟩
  · rw [if_neg (by simpa using e)]
    have c:=st (by lia)
    by_cases m2:m > 1
    · rw [if_pos m2]
      refine ⟨hp.lt (by lia) _,hp.lt (by lia) _,?_⟩
      show pw n lt (if lt (gA p 0) (gA p (m - 1))=true then _ else _) _
      cases d:lt (gA p 0) (gA p (m - 1)) with
      | true =>
        rw [if_pos rfl]
        exact ⟨hp,ri,m1,mN⟩
      | false =>
        rw [if_neg (by decide)]
        have al:∀ i,i < m->j7 lt (gA p i) (gA p 0):=fun i hi=>⟨ri 0 i (by lia) hi,O.ntr _ _ _ (ri i (m - 1) (by lia) (by lia)) d⟩
        have e:∀ k,k < m->gA (kas_rev p 0 m) k=gA p (m - 1 - k):=fun k hk=>by
          rw [g6 (by lia),if_pos (by lia),Nat.zero_add]
        refine jg O hN (hp.rev _ _) m1 (by lia) (fun i j ij jm=>?_) ?_
        · rw [e i (by lia),e j jm]
          have z1:=al (m - 1 - i) (by lia)
          have z2:=al (m - 1 - j) (by lia)
          exact (O.alkT z1 ⟨z2.2,z2.1⟩).1
        · rw [g6 (by lia),if_neg (by lia),e (m - 1) (by lia),show m - 1 - (m - 1)=0 by lia]
          exact O.up c d
    · rw [if_neg m2]
      have em:m=1:=by lia
      subst em
      exact jg O hN hp (Nat.le_refl _) (by lia) (fN.one O p) c
theorem jn {p:Array Nat} (hp:cP n p) {k:Nat} (hk:k < n) (h:eJ lt p k):∀ (f l r:Nat),l<=r->r<=k->r - l<=f->(∀ i,i < l->lt (gA p k) (gA p i)=false)->(∀ i,r<=i->i < k->lt (gA p k) (gA p i)=true) ->
    pw n lt (kas_place p k f l r) (fun l'=>l'<=k/\(∀ i,i < l'->lt (gA p k) (gA p i)=false)/\∀ i,l'<=i->i < k->lt (gA p k) (gA p i)=true)
  | 0,l,r,h1,h2,h3,a,b=>⟨by lia,a,fun i i1 i2=>b i (by lia) i2⟩
  | f+1,l,r,h1,h2,h3,a,b=>by
    show pw n lt (if l ≥ r then _ else _) _
    by_cases e:l ≥ r
    · rw [if_pos e]
      exact ⟨by lia,a,fun i i1 i2=>b i (by lia) i2⟩
    · rw [if_neg e]
      refine ⟨hp.lt (by lia) _,hp.lt (by lia) _,?_⟩
      show pw n lt (if lt (gA p k) (gA p ((l+r) / 2))=true then _ else _) _
      cases c:lt (gA p k) (gA p ((l+r) / 2)) with
      | true =>
        rw [if_pos rfl]
        exact jn hp hk h f l ((l+r) / 2) (by lia) (by lia) (by lia) a fun i i1 i2=>O.up c (h _ i i1 i2)
      | false =>
        rw [if_neg (by decide)]
        exact jn hp hk h f ((l+r) / 2+1) r (by lia) h2 (by lia) (fun i hi=>O.ntr _ _ _ (h i ((l+r) / 2) (by lia) (by lia)) c) b
theorem qV:∀ (f:Nat) (p:Array Nat) (k:Nat),cP n p->k+f=n->eJ lt p k->pw n lt (kas_bin f p k) (fun p'=>cP n p'/\eJ lt p' n)
  | 0,p,k,hp,hk,h=>by
    have:k=n:=by lia
    subst this
    exact ⟨hp,h⟩
  | f+1,p,k,hp,hk,h=>by
    have hs:=hp.size
    refine eY (dW (fun l hl=>?_) (jn O hp (by lia) h k 0 k (by lia) (Nat.le_refl _) (by lia) (fun i hi=>absurd hi (by lia)) (fun i i1 i2=>absurd i1 (by lia))))
    obtain ⟨lk,lo,hi⟩:=hl
    refine qV f _ (k+1) (hp.bub _ _) (by lia) (fun i j ij jk=>?_)
    have e:=fun x=>xy (p:=p) (src:=k) (d:=k - l) (by lia) (by lia) x
    rw [e i,e j,show k - (k - l)=l by lia]
    by_cases j1:j=l
    · subst j1
      rw [if_pos rfl]
      by_cases i1:i=j
      · rw [if_pos i1]; exact O.irr _
      · rw [if_neg i1,if_neg (by lia)]
        exact lo i (by lia)
    · rw [if_neg j1]
      by_cases j2:l < j/\j<=k
      · rw [if_pos j2]
        by_cases i1:i=l
        · rw [if_pos i1]
          exact O.asym _ _ (hi (j - 1) (by lia) (by lia))
        · rw [if_neg i1]
          by_cases i2:l < i/\i<=k
          · rw [if_pos i2]
            exact h _ _ (by lia) (by lia)
          · rw [if_neg i2]
            exact h _ _ (by lia) (by lia)
      · rw [if_neg j2,if_neg (by lia),if_neg (by lia)]
        exact h _ _ ij (by lia)
theorem uV (h2:1<=n):pw n lt (kas_sort n) (fun p=>cP n p/\eJ lt p n):=by
  refine eY (dW (fun r hr=>?_) (tW O (Nat.le_refl n) h2 (p:=List.toArray (List.range n)) (by unfold cP; simp)))
  obtain ⟨m,p⟩:=r
  obtain ⟨ok,ri,m1,mn⟩:=hr
  dsimp only at ok ri m1 mn |-
  by_cases e:m < n
  · rw [if_pos e,Nat.max_eq_left m1]
    exact qV O (n - m) p m ok (by lia) ri
  · rw [if_neg e]
    have:m=n:=by lia
    subst this
    exact ⟨ok,ri⟩
end
end L2
set_option Elab.async false
set_option linter.all false
set_option maxRecDepth 100000
set_option maxHeartbeats 4000000
namespace L2
open PySem PySem.Spec PyProof.Rows PySem.W Ck
section
variable {prog:Program} {w:World} {A:Around} {E:Value->Shared->Prop} {s:Shared}
def qw (prog:Program) (w:World) (A:Around) (vs:List Value) (lt:Nat->Nat->Bool) (s1:Shared):Prop :=
  ∀ (Q:SortKind->Shared->Prop),(∀ κ,(∀ (i j:Nat) (C:Bool->Shared->Prop),i < vs.length->j < vs.length->C (lt i j) s1->kas_ask prog w A κ vs i j C s1)->Q κ s1)->wpAny (model prog w) A (keyKind' vs.toArray) Q (fun _ _=>False) s1
noncomputable def d9 (vs:List Value) (p:Array Nat):List Value:=p.toList.map fun i=>vs.getD i Value.none
theorem rA (vs:List Value):d9 vs (List.toArray (List.range vs.length))=vs:=by
  unfold d9
  refine List.ext_getElem (by simp) fun i h1 h2=>?_
  simp [h2]
theorem uX (vs:List Value):(vs.toArray.zip vs.toArray).map (·.2)=vs.toArray:=by
  refine Array.ext (by simp) fun i h1 h2=>?_
  simp
theorem tG {a:Addr} {vs:List Value} {n:Nat} {P:PySem.Fin->Shared->Prop} {lt:Nat->Nat->Bool} (O:gp lt) (ho:s.heap.get? a=some (seqObj "list" vs.toArray n)) (h64:vs.length < 64)
    (hk:∀ h6:Heap,(∀ b o,b≠a->s.heap.get? b=some o->h6.get? b=some o)->2<=vs.length->qw prog w A vs lt { s with heap:=h6 })
    (fin:∀ p:Array Nat,cP vs.length p->eJ lt p vs.length->P (.done (.ret .none)) { s with heap:=sortedHeap s.heap a vs (d9 vs p).toArray }):wpAny (model prog w) A (Builtin.«list.sort» ⟨[.ref a],[]⟩) P E s:=by
  have ha:a < s.heap.objs.size:=Heap.lt_size ho
  have hz:vs.length<=sizeLine:=by rw [sizeLine_eq]; lia
  obtain ⟨e1,ho1⟩:∃ e,(s.heap.update a (Obj.mapSeq fun _=>(#[]:Array Value))).get? a=some (seqObj "list" #[] e):=⟨_,get?_update_seq ho _⟩
  have keep:∀ b o,(s.heap.update a (Obj.mapSeq fun _=>(#[]:Array Value))).get? b=some o->(((s.heap.update a (Obj.mapSeq fun _=>(#[]:Array Value))).push (seqObj "tuple" vs.toArray 0)).push (seqObj "list" #[] 0)).get? b=some o:=fun b o e=>Heap.get?_push_of_some _ (Heap.get?_push_of_some _ e)
  have old:∀ b o,b≠a->s.heap.get? b=some o->(((s.heap.update a (Obj.mapSeq fun _=>(#[]:Array Value))).push (seqObj "tuple" vs.toArray 0)).push (seqObj "list" #[] 0)).get? b=some o:=fun b o hb e=>keep b o (by rw [Heap.get?_update_ne _ _ _ _ hb]; exact e)
  have ho6:=keep _ _ ho1
  rw [list_sort_plain]
  refine wpAny_bind (listItems_at ho rfl (wpAny_bind (listUpdate_at ho rfl (wpAny_bind (seqEpoch_at ho1 rfl (wpAny_bind (wpAny_newTuple (wpAny_bind (wpAny_newList (wpAny_holding ?_) (Nat.zero_le _))) hz)))) (by rw [List.size_toArray]; exact hz) (Nat.zero_le _))))
  show wpAny (model prog w) A _ P E { s with heap:=((s.heap.update a (Obj.mapSeq fun _=>(#[]:Array Value))).push (seqObj "tuple" vs.toArray 0)).push (seqObj "list" #[] 0) }
  dsimp only
  by_cases h2:vs.toArray.size < 2
  · rw [if_pos h2,if_pos h2]
    refine wpAny_bind (wpAny_pure ?_)
    rw [StateT.run_pure]
    refine wpAny_bind (wpAny_pure ?_)
    dsimp only
    have ez:(arrOf (SortSt.mk' general' (vs.toArray.zip vs.toArray) #[] 7 none)).map (·.2)=vs.toArray:=uX vs
    rw [ez]
    refine wpAny_bind (seqEpoch_at ho6 rfl (wpAny_bind (listUpdate_at ho6 rfl ?_ (Nat.zero_le _) (by rw [List.size_toArray]; lia))))
    simp only [bne_self_eq_false,Bool.false_eq_true,if_false]
    have f:=fin (List.toArray (List.range vs.length)) (by unfold cP; simp) (fun i j ij jl=>by
      rw [List.size_toArray] at h2
      have e:i=j:=by lia
      subst e
      exact O.irr _)
    rw [rA] at f
    exact wpAny_pure f
  · rw [if_neg h2,if_neg h2]
    rw [List.size_toArray] at h2
    refine wpAny_bind (wpAny_mono (hk _ old (by lia) _ fun κ ask=>?_) (fun _ _ q=>q) fun _ _ x=>x.elim)
    refine wpAny_bind (wpAny_mono (kat_run (ks:=vs) (Q:=fun st' s'=>∃ p:Array Nat,p.size=vs.length/\arrOf st'=p.map (kas_item (vs.toArray.zip vs.toArray))/\failedOf st'=none/\s'=_/\cP vs.length p/\eJ lt p vs.length) rfl (by lia) h64
      (fun p' st' s' a1 a2 a3 a4=>⟨p',a1,a2,a3,a4⟩) (uD ask (uV O (by lia)))) ?_ fun _ _ e=>e)
    rintro ⟨⟨⟩,st'⟩ s' ⟨p,hp,har,hf,rfl,ok,ri⟩
    dsimp only
    rw [kat_snds rfl har]
    refine wpAny_bind (seqEpoch_at ho6 rfl (wpAny_bind (listUpdate_at ho6 rfl ?_ (Nat.zero_le _) (by rw [List.size_toArray,List.length_map,Array.length_toList,hp]; lia))))
    rw [hf]
    simp only [bne_self_eq_false,Bool.false_eq_true,if_false]
    exact wpAny_pure (fin p ok ri)
theorem jI {l:Addr} {vs:List Value} {Q:Value->Shared->Prop} {lt:Nat->Nat->Bool} (O:gp lt) (hl:s.heap.IsList l vs.toArray) (h64:vs.length < 64)
    (hk:∀ h6:Heap,(∀ b o,s.heap.get? b=some o->h6.get? b=some o)->2<=vs.length->qw prog w A.in1.in1 vs lt { s with heap:=h6 })
    (fin:∀ p:Array Nat,cP vs.length p->eJ lt p vs.length->Q (.ref (s.heap.objs.size+1)) { s with heap:=sortedAll s.heap vs (d9 vs p).toArray }):wpAny (model prog w) A (call (.builtin "sorted") [.ref l]) Q E s:=by
  have hz:vs.length<=sizeLine:=by rw [sizeLine_eq]; lia
  have hsz:((s.heap.push (seqObj "list" #[] 0)).update s.heap.objs.size (Obj.mapSeq (·++vs.toArray))).objs.size=s.heap.objs.size+1:=by rw [Heap.size_update,size_push']
  have hoL:(((s.heap.push (seqObj "list" #[] 0)).update s.heap.objs.size (Obj.mapSeq (·++vs.toArray))).push (seqObj "list" vs.toArray 0)).get? (s.heap.objs.size+1)=some (seqObj "list" vs.toArray 0):=by rw [<- hsz]; exact Heap.get?_push_size _ rfl
  have keep:∀ b o,s.heap.get? b=some o->(((s.heap.push (seqObj "list" #[] 0)).update s.heap.objs.size (Obj.mapSeq (·++vs.toArray))).push (seqObj "list" vs.toArray 0)).get? b=some o:=fun b o q=>by
    have hlt:b < s.heap.objs.size:=Heap.lt_size q
    refine Heap.get?_push_of_some _ ?_
    rw [Heap.get?_update_ne _ _ _ _ (Nat.ne_of_lt hlt)]
    exact Heap.get?_push_of_some _ q
  refine Calls.call_function_entry kind_sorted plain_sorted entry_sorted (args_sorted1 _) ?_
  unfold Builtin.«sorted»
  refine wpAny_bind (m:=checkCount "sorted" 1 1 _) (wpAny_pure (wpAny_bind (collect_list hl (wpAny_bind (wpAny_newList ?_ hz)) hz)))
  show wpAny _ _ _ _ _ { s with heap:=((s.heap.push (seqObj "list" #[] 0)).update s.heap.objs.size (Obj.mapSeq (·++vs.toArray))).push (seqObj "list" vs.toArray 0) }
  rw [hsz]
  refine wpAny_bind (wpAny_holding (wpAny_call_entry slot_list_sort ⟨_,hoL,rfl⟩ entry_list_sort (tG (s:={ s with heap:=((s.heap.push (seqObj "list" #[] 0)).update s.heap.objs.size (Obj.mapSeq (·++vs.toArray))).push (seqObj "list" vs.toArray 0) }) O hoL h64 (fun h6 old=>hk h6 fun b o q=>old b o (Nat.ne_of_lt (Nat.lt_succ_of_lt (Heap.lt_size q))) (keep b o q)) fun p ok ri=>⟨_,rfl,?_⟩) (args_list_sort _)))
  exact wpAny_pure ⟨_,rfl,fin p ok ri⟩
noncomputable def mW (p q:Pair):Bool:=decide (p.1 < q.1) || (decide (p.1=q.1)&&decide (p.2 < q.2))
def cc (p q:Pair):Prop:=p.1 < q.1\/(p.1=q.1/\p.2<=q.2)
theorem jV {p q:Pair}:mW q p=false↔cc p q:=by
  unfold mW cc
  simp only [Bool.or_eq_false_iff,Bool.and_eq_false_iff,decide_eq_false_iff_not]
  lia
theorem vc {p q:Pair}:mW p q=true↔¬ cc q p:=by
  rw [<- jV]
  simp
theorem zq (ps:List Pair):gp fun i j=>mW (ps.getD i (0,0)) (ps.getD j (0,0)) where
  asym a b h:=by
    rw [vc] at h
    rw [jV]
    unfold cc at h |-
    lia
  ntr a b c h1 h2:=by
    rw [jV] at h1 h2 |-
    unfold cc at h1 h2 |-
    lia
def gJ (h:Heap) (vs:List Value) (ps:List Pair):Prop:=Paired (fun (v:Value) (p:Pair)=>∃ a t u,v = .ref a/\IsTup h a #[.int p.1 t,.int p.2 u]) vs ps
theorem gJ.get {h:Heap}:∀ {vs:List Value} {ps:List Pair},gJ h vs ps->∀ {i:Nat},i < vs.length->∃ a t u,vs.getD i Value.none = .ref a/\IsTup h a #[.int (ps.getD i (0,0)).1 t,.int (ps.getD i (0,0)).2 u]
  | _,_,.nil,i,e=>absurd e (by simp)
  | _,_,.cons r t,0,e=>r
  | _,_,.cons r t,i+1,e=>by
    have:=gJ.get t (i:=i) (by simpa using e)
    simpa using this
theorem gJ.tups {h:Heap}:∀ {vs:List Value} {ps:List Pair},gJ h vs ps->∃ fs:List Value,KatTups h vs fs/\fs.length=vs.length/\∀ v∈fs,∃ i t,v = .int i t
  | _,_,.nil=>⟨[],.nil,rfl,fun v hv=>by cases hv⟩
  | _,_,.cons (b:=p) r t=>by
    obtain ⟨fs,k,l,al⟩:=gJ.tups t
    obtain ⟨a,t',u,rfl,o,ho,hc,n,hd⟩:=r
    refine ⟨.int p.1 t'::fs,.cons ho hc hd rfl k,by simp [l],fun v hv=>?_⟩
    rcases List.mem_cons.mp hv with rfl | hv
    · exact ⟨_,_,rfl⟩
    · exact al v hv
theorem yM {vs:List Value} {ps:List Pair} {s1:Shared} (r:gJ s1.heap vs ps) (h2:2<=vs.length):qw prog w A vs (fun i j=>mW (ps.getD i (0,0)) (ps.getD j (0,0))) s1:=by
  intro Q q
  obtain ⟨fs,k,l,al⟩:=r.tups
  refine kat_kind (T:=.type "int") k (by lia) (fun v hv=>?_) (by decide) (q _ fun i j C hi hj hc=>?_)
  · obtain ⟨i,t,rfl⟩:=al v hv
    exact Looks.of_pure rfl
  · obtain ⟨a,t,u,e1,o1,g1,c1,n1,d1⟩:=r.get hi
    obtain ⟨b,t',u',e2,o2,g2,c2,n2,d2⟩:=r.get hj
    unfold kas_ask
    rw [e1,e2]
    have hc:C (mW (ps.getD i (0,0)) (ps.getD j (0,0))) s1:=hc
    generalize ps.getD i (0,0)=p at hc d1
    generalize ps.getD j (0,0)=q' at hc d2
    obtain ⟨x1,y1⟩:=p
    obtain ⟨x2,y2⟩:=q'
    unfold mW at hc
    dsimp only at hc d1 d2
    refine kat_lt g1 d1 g2 d2 (kat_cons (wpAny_eqBool_int ?_))
    by_cases ex:x1=x2
    · subst ex
      rw [show (x1 == x1)=true from by simp]
      refine kat_yes (kat_cons (wpAny_eqBool_int ?_))
      by_cases ey:y1=y2
      · subst ey
        rw [show (y1 == y1)=true from by simp]
        refine kat_yes (kat_nil ?_)
        have e:(decide (x1 < x1) || decide (x1=x1)&&decide (y1 < y1))=false:=by simp
        rw [e] at hc
        exact hc
      · rw [show (y1 == y2)=false from by simpa using ey]
        refine kat_no (kat_one _ _ (wpAny_lt_int ?_))
        have e:(decide (x1 < x1) || decide (x1=x1)&&decide (y1 < y2))=decide (y1 < y2):=by simp
        rw [e] at hc
        exact hc
    · rw [show (x1 == x2)=false from by simpa using ex]
      refine kat_no (oneLt_int ?_)
      have e:(decide (x1 < x2) || decide (x1=x2)&&decide (y1 < y2))=decide (x1 < x2):=by simp [ex]
      rw [e] at hc
      exact hc
end
section
variable {X:Cx}
theorem rf {pins:List (Addr × Obj)} {σ:St} {H:Hp} {s:Shared} (I:Inv X pins σ H s):∀ {us:List V} {ps:List Pair} {vs:List Value},bQ H us ps->Vals us vs->gJ s.heap vs ps
  | _,_,_,.nil,.nil=>.nil
  | _,_,_,.cons r t,.cons rv tv=>by
    obtain ⟨a,rfl,ha⟩:=r
    cases rv
    obtain ⟨its,r',tu,_⟩:=I.tuple (cI.of ha)
    refine .cons ⟨a,?_⟩ (rf I t tv)
    cases r' with
    | cons x1 r2 =>
      cases r2 with
      | cons x2 r3 =>
        cases r3
        obtain ⟨t1,rfl⟩:=x1
        obtain ⟨t2,rfl⟩:=x2
        exact ⟨t1,t2,rfl,tu⟩
theorem gJ.mono {h h':Heap} (k:∀ b o,h.get? b=some o->h'.get? b=some o):∀ {vs:List Value} {ps:List Pair},gJ h vs ps->gJ h' vs ps
  | _,_,.nil=>.nil
  | _,_,.cons r t=>by
    obtain ⟨a,t1,t2,e,o,ho,hc,n,hd⟩:=r
    exact .cons ⟨a,t1,t2,e,o,k _ _ ho,hc,n,hd⟩ (gJ.mono k t)
theorem dI {α β:Type} {R:α->β->Prop} {as:List α} {bs:List β} (h:Paired R as bs) (da:α) (db:β):∀ is:List Nat,(∀ i∈is,i < as.length)->Paired R (is.map fun i=>as.getD i da) (is.map fun i=>bs.getD i db)
  | [],_=>.nil
  | i::is,hi=>by
    refine .cons ?_ (dI h da db is fun j hj=>hi j (List.mem_cons_of_mem _ hj))
    have hl:=hi i (List.mem_cons_self ..)
    have go:∀ {as:List α} {bs:List β},Paired R as bs->∀ i,i < as.length->R (as.getD i da) (bs.getD i db):=by
      intro as bs h
      induction h with
      | nil=>intro i hi; simp at hi
      | cons r t ih =>
        intro i hi
        cases i with
        | zero=>simpa using r
        | succ i=>simpa using ih i (by simpa using hi)
    exact go h i hl
theorem g9 {α:Type} (d:α) (l:List α) {is:List Nat} (h:is.Perm (List.range l.length)):(is.map fun i=>l.getD i d).Perm l:=by
  refine (h.map _).trans ?_
  have e:(List.range l.length).map (fun i=>l.getD i d)=l:=List.ext_getElem (by simp) fun i h1 h2=>by simp [h2]
  rw [e]
theorem dG:cU X (.builtin "sorted") (fun xs H Q=>∃ (p:Addr) (ps:List Pair),xs=[.ref p]/\cJ H p ps/\ps.length < 64/\∀ (q:Addr) (qs:List Pair) (H':Hp),ag H H'->H q=none->cJ H' q qs->qs.Perm ps->qs.Pairwise cc->Q (.ref q) H'):=by
  intro pins s σ H xs us Q I r h
  obtain ⟨p,ps,rfl,⟨ws,hl,pr⟩,h64,q⟩:=h
  obtain ⟨u,rfl,ru⟩:=vals1 r
  cases ru
  obtain ⟨its,r',pl,hz⟩:=I.list (aj.of hl)
  have lw:=pr.length
  have li:ws.length=its.length:=r'.length
  have pv:=rf I pr r'
  refine jI (zq ps) pl.isList (by lia) (fun h6 old h2=>yM (s1:={ s with heap:=h6 }) (pv.mono old) h2) fun g ok ri=>?_
  obtain ⟨e,he⟩:=sortedAll_at s.heap its (d9 its g).toArray
  have hb:∀ i∈g.toList,i < its.length:=fun i hi=>List.mem_range.mp (ok.mem_iff.mp hi)
  have lg:g.toList.length=its.length:=by rw [ok.length_eq,List.length_range]
  have hz2:(g.toList.map fun i=>ws.getD i V.non).length<=sizeLine:=by rw [List.length_map,lg]; exact sz (by lia)
  have vs2:Vals (g.toList.map fun i=>ws.getD i V.non) (d9 its g):=dI r' V.non Value.none g.toList (fun i hi=>by rw [li]; exact hb i hi)
  have pr2:bQ H (g.toList.map fun i=>ws.getD i V.non) (g.toList.map fun i=>ps.getD i (0,0)):=dI pr V.non (0,0) g.toList (fun i hi=>by rw [li]; exact hb i hi)
  have fr:H (s.heap.objs.size+1)=none:=I.hok.fresh (Nat.le_succ _)
  refine ⟨.ref _,_,I.laid (t':=s.toks) (o:=.lst (g.toList.map fun i=>ws.getD i V.non)) (fun b u e=>sortedAll_old e) (Nat.le_succ _) ⟨hz2,d9 its g,e,vs2,by simpa [seqObj] using he⟩,rfl,?_⟩
  refine q _ _ _ (ag.new (ag.refl H) fr _) fr ⟨_,af,pr2.updN fr _⟩ (g9 (0,0) ps (by rw [<- lw,li]; exact ok)) ?_
  rw [List.pairwise_map]
  have gs:g.size=its.length:=by rw [<- lg]; simp
  refine List.pairwise_iff_getElem.mpr fun i j hi hj hij=>?_
  have:=ri i j (by lia) (by rw [<- gs]; simpa using hj)
  rw [jV] at this
  unfold gA at this
  simpa [show i < g.size by simpa using hi,show j < g.size by simpa using hj] using this
end
end L2
set_option Elab.async false
set_option linter.all false
set_option maxRecDepth 100000
set_option maxHeartbeats 4000000
namespace L2
open PySem PySem.Spec PyProof.Rows PySem.W
section
variable {prog:Program} {w:World} {A:Around} {E:Value->Shared->Prop} {s:Shared} {R:Result->Shared->Prop} {d:Value} {it:Addr} {fp wr:List Addr} {n:Nat} {P:Nat->Value->Prop} {St:Nat->Heap->Prop}
end
section
variable {X:Cx} {e:Expr} {es:List Expr} {kws:List Keyword} {p pos:Pos} {t tk:TA} {x:Str} {id:String} {ks:List Str} {r:List V->List V->Hp->VK->Prop}
end
end L2
set_option Elab.async false
set_option linter.all false
set_option maxRecDepth 100000
set_option maxHeartbeats 4000000
namespace L2
open PySem PySem.Spec PyProof.Rows
section
variable {X:Cx}
end
theorem bg.two {K:W.Frag} {H:Hp} {n:Nat} {a b:Addr} {x1 y1 x2 y2:Int} (ne:a≠b) (ha:H a=some (.tup [.int x1,.int y1])) (hb:H b=some (.tup [.int x2,.int y2])):bg K H (n+1) (.ref a) (.ref b) (decide (x1=x2)&&decide (y1=y2)):=by
  have h:=bg.tup (n:=n) (e:=fun j=>if j=0 then decide (x1=x2) else decide (y1=y2)) ne (cI.of (K:=K) ha) (cI.of (K:=K) hb) (fun j x y ex ey=>by
    match j,ex,ey with
    | 0,ex,ey =>
      have e1:V.int x1=x:=by simpa using ex
      have e2:V.int x2=y:=by simpa using ey
      rw [<- e1,<- e2,if_pos rfl]
      have z:=bg.flat (K:=K) (H:=H) (n:=n) (x:=V.int x1) (y:=V.int x2) rfl rfl
      exact z
    | 1,ex,ey =>
      have e1:V.int y1=x:=by simpa using ex
      have e2:V.int y2=y:=by simpa using ey
      rw [<- e1,<- e2,if_neg (by decide)]
      have z:=bg.flat (K:=K) (H:=H) (n:=n) (x:=V.int y1) (y:=V.int y2) rfl rfl
      exact z
    | j+2,ex,ey=>simp at ex)
  have e:((List.range (min [V.int x1,V.int y1].length [V.int x2,V.int y2].length)).all (fun j=>if j=0 then decide (x1=x2) else decide (y1=y2))&&decide ([V.int x1,V.int y1].length=[V.int x2,V.int y2].length))=(decide (x1=x2)&&decide (y1=y2)):=by
    simp [List.range_succ]
  first
    | (rw [e] at h; exact h)
    | (simp [List.range_succ] at h; exact h)
end L2
namespace Ck
open PySem L2
def Cut (n:Nat) (p:Pair):Prop:=0<=p.1/\p.1+1 < p.2/\p.2<=(n:Int)+1/\¬ (p.1=0/\p.2=(n:Int)+1)
structure yQ (n:Nat) (ps:List Pair):Prop where
  cut:∀ p∈ps,Cut n p
  ris:ps.Pairwise cc
  len:ps.length<=n
theorem um {p q:Pair} (h:cc p q) (h':cc q p):p=q:=by
  unfold cc at h h'
  exact Prod.ext (by lia) (by lia)
theorem t8 {ps qs:List Pair} (hp:ps.Pairwise cc) (hq:qs.Pairwise cc) (h:ps.Perm qs):ps=qs :=
  List.Perm.eq_of_pairwise (le:=cc) (fun _ _ _ _ h1 h2=>um h1 h2) hp hq h
noncomputable def ym (i j:Nat):List Pair:=(if i=0 then [] else [(0,(i:Int)+1)])++(if j=0 then [] else [((i:Int)+1,(i:Int)+(j:Int)+2)])
noncomputable def yC (i j:Nat) (ps qs:List Pair):List Pair:=ps++ym i j++qs.map (up ((i:Int)+1))
section
variable {i j:Nat} {ps qs:List Pair} (hp:yQ i ps) (hq:yQ j qs)
include hp hq
variable {cs:List Pair} (hc:cs.Perm (yC i j ps qs)) (hs:cs.Pairwise cc)
include hc hs
end
end Ck
set_option Elab.async false
set_option linter.all false
set_option maxRecDepth 100000
set_option maxHeartbeats 4000000
namespace Ck
open PySem L2
end Ck
set_option Elab.async false
set_option linter.all false
set_option maxRecDepth 100000
set_option maxHeartbeats 4000000
namespace Ck
open PySem L2
end Ck
namespace Ck
open PySem L2
noncomputable def steps (ws:List Int):List Int:=(List.range (ws.length - 1)).map fun (i:Nat)=>(ws.getD (i+1) 0 - ws.getD i 0) % ((ws.length:Int)+1)
end Ck
set_option Elab.async false
set_option linter.all false
set_option maxRecDepth 100000
set_option maxHeartbeats 4000000
namespace L2
open PySem PySem.W
end L2
namespace Ck
open PySem L2
theorem ne_int {a b:Int} (h:a≠b):¬ V.int a=V.int b:=fun z=>h (by injection z)
end Ck
namespace Ck
end Ck
set_option Elab.async false
set_option linter.all false
set_option maxRecDepth 100000
set_option maxHeartbeats 4000000
namespace Ck
open PySem L2
noncomputable def inR (es:List Int):Bool:=es.all fun e=>decide (0<=e)&&decide (e<=(es.length:Int))
end Ck
namespace Ck
open PySem L2
theorem kA (a b:Int):decide (V.int a=V.int b)=decide (a=b):=by
  by_cases h:a=b
  · rw [decide_eq_true h,decide_eq_true (by rw [h])]
  · rw [decide_eq_false h,decide_eq_false (ne_int h)]
end Ck
namespace Ck
end Ck
namespace Ck
open PySem L2
end Ck
set_option Elab.async false
set_option linter.all false
set_option maxRecDepth 100000
set_option maxHeartbeats 4000000
namespace L2
open PySem PySem.Spec PyProof.Rows
theorem mz:∀ {xs:List V} {us:List Value},us.length=xs.length->(∀ (j:Nat) v,us[j]? = some v->∃ x,xs[j]? = some x/\RelV x v)->Vals xs us
  | [],us,hl,_=>by
    have:us=[]:=List.eq_nil_of_length_eq_zero hl
    subst this
    exact .nil
  | x::xs,[],hl,_=>by simp at hl
  | x::xs,u::us,hl,k=>by
    obtain ⟨y,e1,r⟩:=k 0 u rfl
    have:x=y:=by simpa using e1
    subst this
    exact .cons r (mz (by simpa using hl) fun j w e=>by
      obtain ⟨y,f1,f2⟩:=k (j+1) w (by simpa using e)
      exact ⟨y,by simpa using f1,f2⟩)
noncomputable def d0 (i:Int) (n:Nat):List V:=((List.range n).map fun (k:Nat)=>i+(k:Int)).map V.int
section
variable {X:Cx}
theorem list_range {pins:List (Addr × Obj)} {σ:St} {H:Hp} {s:Shared} {Q:VK} {lo hi:Int} {t u v:Tok} {tk:Nat} (hc:X.calm=true) (I:Inv X pins σ H s) (h1 : -(2 ^ 62)<=lo) (h2:lo < 2 ^ 62) (h3 : -(2 ^ 62)<=hi) (h4:hi < 2 ^ 62) (hz:(hi - lo).toNat<=1000000)
    (q:∀ l,H l=none->Q (.ref l) (upd H l (.lst (d0 lo (hi - lo).toNat)))):wpAny (model X.prog X.w) X.A (call (.type "list") [.ref s.heap.objs.size]) (EP X pins σ Q) X.xe { s with heap:=s.heap.push { cls:=.type "range",data:=.fields #[.int lo t,.int hi u,.int 1 v] },toks:=tk }:=by
  have I1:Inv X pins σ H { s with heap:=s.heap.push { cls:=.type "range",data:=.fields #[.int lo t,.int hi u,.int 1 v] },toks:=tk }:=I.kept fun b o e=>Heap.get?_push_of_some _ e
  refine call_list_range (n:=(hi - lo).toNat) (I.ok.hd hc) (IsRange.new ..) (small_one h1 h2 h3 h4) (by rw [rangeSize_one]; split<;>lia) (by lia) fun h' tk' acc' c' hk he hacc=>?_
  have hl:acc'.toList.length=(d0 lo (hi - lo).toNat).length:=by unfold d0; simpa using hacc.1
  refine ⟨.ref _,_,I1.laid (t':=tk') (o:=.lst (d0 lo (hi - lo).toNat)) hk (Nat.le_refl _) ⟨?_,acc'.toList,c',mz hl fun j w e=>?_,he⟩,rfl,q _ (I1.hok.fresh (Nat.le_refl _))⟩
  · unfold d0
    rw [List.length_map,List.length_map,List.length_range]
    exact sz (by lia)
  · obtain ⟨t',e2⟩:=hacc.2 j w (by simpa using e)
    have hj:j < (hi - lo).toNat:=by
      have:=(List.getElem?_eq_some_iff.mp e).1
      rw [hl] at this
      unfold d0 at this
      simpa using this
    refine ⟨.int (lo+(j:Int)),?_,t',by rw [e2,Int.mul_one]⟩
    unfold d0
    rw [List.getElem?_map,List.getElem?_map,List.getElem?_range hj]
    rfl
noncomputable def zo (ta:TA):TE:=fun σ H Q=>ta σ H fun vs H1=>∃ j:Int,vs=[.int j]/\-(2 ^ 62)<=j/\j < 2 ^ 62/\j.toNat<=1000000/\∀ l,H1 l=none->Q (.ref l) (upd H1 l (.lst (d0 0 j.toNat)))
theorem xS {a:Expr} {ta:TA} {p p2 pos pos2:Pos} (hc:X.calm=true) (hgl:Gl X "list") (hml:X.mg "list" = none) (hg:Gl X "range") (hm:X.mg "range" = none) (ha:PA X [a] ta) (hs:starEach [a] X.env=[(false,eval a X.env)]:=by rfl)
    (he:starEach [.Call (.Name "range" p) [a] [] pos] X.env=[(false,eval (.Call (.Name "range" p) [a] [] pos) X.env)]:=by rfl) :
    PE X (.Call (.Name "list" p2) [.Call (.Name "range" p) [a] [] pos] [] pos2) (zo ta):=by
  intro pins s σ H Q I h
  refine wpAny_Call_Name_kw (dM I hgl hml eX ?_ (by decide) (by decide))
  refine PyProof.Rows.callWith_type1 ?_ he rfl
  rw [he]
  show wpAny _ _ (spliced ((false,eval (.Call (.Name "range" p) [a] [] pos) X.env)::backTo pos2 [])) _ _ s
  refine Calls.spliced_cons (Call_ (dM I hg hm boot_range (PyProof.Rows.callWith_type1 (aE (ha pos pins s σ H _ I h) fun us s1 ⟨vs,H1,I1,r1,q1⟩=>?_) hs rfl)))
  obtain ⟨j,e,b1,b2,b3,q⟩:=q1
  subst e
  cases r1 with
  | cons r rr =>
    cases rr
    obtain ⟨t,rfl⟩:=r
    exact call_range_1 (Calls.spliced_nil (list_range hc I1 (by lia) (by lia) b1 b2 (by simpa using b3) (by simpa using q)))
end
end L2
namespace L2
open PySem PySem.Spec PyProof.Rows
end L2
namespace L2
open PySem PySem.Spec PyProof.Rows
end L2
set_option Elab.async false
set_option linter.all false
set_option maxRecDepth 100000
set_option maxHeartbeats 4000000
namespace Ck
open PySem L2
noncomputable def cg (n:Nat):List Int:=(List.range n).map fun (k:Nat)=>(k:Int)
theorem jw (n:Nat):cg (n+1)=cg n++[(n:Int)]:=by unfold cg; rw [List.range_succ,List.map_append]; rfl
theorem dZ (n:Nat):(cg n).length=n:=by unfold cg; simp
theorem dB {n:Nat} {m:Int}:m∈cg n↔0<=m/\m < (n:Int):=by
  unfold cg
  rw [List.mem_map]
  constructor
  · rintro ⟨k,hk,rfl⟩
    have:=List.mem_range.mp hk
    lia
  · intro h
    exact ⟨m.toNat,List.mem_range.mpr (by lia),by lia⟩
theorem qX (n:Nat):(cg n).Pairwise (· < ·):=by
  unfold cg
  rw [List.pairwise_map]
  exact List.pairwise_lt_range.imp fun h=>by lia
noncomputable def cA (ns:List Int):Bool:=ns.isPerm (cg ns.length)
theorem cZ (ns:List Int):cA ns=true↔ns.Perm (cg ns.length):=List.isPerm_iff
theorem nL {ns ms:List Int} (hp:ms.Perm ns) (hs:ms.Pairwise (·<=·)):cA ns=decide (ms=cg ns.length):=by
  rw [Bool.eq_iff_iff,cZ,decide_eq_true_iff]
  constructor
  · intro h
    exact List.Perm.eq_of_pairwise (le:=(·<=·)) (fun a b _ _ h1 h2=>Int.le_antisymm h1 h2) hs ((qX _).imp Int.le_of_lt) (hp.trans h)
  · intro h
    rw [<- h]
    exact hp.symm
noncomputable def stk (row:List Int) (k p:Nat):List Int:=(cg p).filter fun m=>!decide (m∈row.take k)
end Ck
namespace Ck
open PySem L2
theorem jy:∀ as bs:List Int,jh (as.map V.int) (bs.map V.int)=decide (as=bs)
  | [],[]=>rfl
  | [],b::bs=>rfl
  | a::as,[]=>rfl
  | a::as,b::bs=>by
    rw [List.map_cons,List.map_cons]
    show (gN (.int a) (.int b)&&jh (as.map V.int) (bs.map V.int))=_
    rw [jy as bs]
    have e:gN (.int a) (.int b)=decide (a=b):=by
      show (a == b)=_
      by_cases h:a=b
      · subst h; simp
      · simp [h]
    rw [e]
    by_cases h1:a=b<;>by_cases h2:as=bs<;>simp [h1,h2]
theorem lX (n:Nat):d0 0 n=(cg n).map V.int:=by
  unfold d0 cg
  refine congrArg (List.map V.int) (List.map_congr_left fun k _=>?_)
  show (0:Int)+(k:Int)=(k:Int)
  lia
end Ck
set_option Elab.async false
set_option linter.all false
set_option maxRecDepth 100000
set_option maxHeartbeats 4000000
namespace Ck
open PySem L2
noncomputable def zJ (n:Nat):List Int:=(List.range n).map fun (k:Nat)=>1+(k:Int)
end Ck
namespace Ck
end Ck
namespace Ck
end Ck
set_option Elab.async false
set_option linter.all false
set_option maxRecDepth 100000
set_option maxHeartbeats 4000000
namespace L2
open PySem PySem.Spec PyProof.Rows PySem.SeqAt
section
variable {X:Cx}
theorem sP {K:W.Frag} (hK:X.K=K):xG X (wK K):=by
  subst hK
  exact iP
end
end L2
namespace Ck
open PySem L2
end Ck
namespace L2
open PySem
theorem dO {A:Around} {k:Nat} (hr:bD k A):A.units+1 < cLine:=Nat.lt_of_le_of_lt (by lia) hr.un
end L2
namespace Ck
open PySem L2
end Ck
set_option Elab.async false
set_option linter.all false
set_option maxRecDepth 100000
set_option maxHeartbeats 4000000
namespace L2
open PySem PySem.Spec PyProof.Rows
section
variable {X:Cx}
end
end L2
namespace Ck
open PySem L2
end Ck
namespace L2
open PySem PySem.Spec PyProof.Rows PyProof
end L2
set_option Elab.async false
set_option linter.all false
set_option maxRecDepth 100000
set_option maxHeartbeats 4000000
namespace Ck
open PySem L2
inductive Bt where
  | leaf
  | node (l r:Bt)
noncomputable def Bt.size:Bt->Nat
  | .leaf=>0
  | .node l r=>l.size+r.size+1
noncomputable def brk:Bt->List Nat
  | .leaf=>[]
  | .node l r=>40::(brk l++41::brk r)
noncomputable def pre (n j:Nat):Int:=((List.range j).map fun i=>sh i*sh (n - 1 - i)).sum
end Ck
set_option Elab.async false
set_option linter.all false
set_option maxRecDepth 100000
set_option maxHeartbeats 4000000
namespace L2
open PySem PySem.Spec PyProof.Rows
theorem pJ (l b:Addr) (us vs:Array Value) (n m:Nat) (d:Option Addr) (sl:Array (Option Value)) (h0:¬(!us.isEmpty&&Builtin.List.listTooLong (us.size+vs.size))=true) (h1:us.size<=sizeLine) (h2:us.size+vs.size<=sizeLine+1) :
    Meets (Builtin.«list.extend» ⟨[.ref l,.ref b],[]⟩) (fun _ R s=>s.heap.get? l=some { cls:=.type "list",dict:=none,data:=.seq us n,slots:=#[] } /\
      s.heap.get? b=some { cls:=.type "tuple",dict:=d,data:=.seq vs m,slots:=sl } /\
      R (.ok (.ret Value.none)) { s with heap:=s.heap.update l (Obj.mapSeq fun x=>x++vs),toks:=s.toks }) :=
  .of_wp fun prog w A R s h=>by
    obtain ⟨hp,g,dr,tk,os⟩:=s
    obtain ⟨hl,hb,h⟩:=h
    have f2:=AutoSeq1.sub_tuple_tuple
    have f3:=AutoSeq1.sub_list_list
    have f4:=AutoSeq1.sub_tuple_list
    have f5:=AutoSeq1.sub_list_tuple
    have h2':(us++vs).size<=sizeLine+1:=by rw [Array.size_append]; exact h2
    wp_walk using (wpAny_updateSeq hl rfl (hz:=h1) (_hz':=h2')),AutoSeq1.wpAny_loadPart' hl,AutoSeq1.wpAny_loadPart' hb
    exact ⟨_,rfl,h⟩
section
variable {X:Cx}
noncomputable def uH (K:W.Frag):V->List V->Hp->VK->Prop:=fun x vs H Q=>∃ l b xs zs,x = .ref l/\vs=[.ref b]/\H l=some (.lst xs)/\cI K H b zs/\xs.length+zs.length<=sizeLine/\Q .non (upd H l (.lst (xs++zs)))
theorem u5:ux X "list.extend" (uH X.K):=by
  intro pins s σ H x vs v us Q I rx rv h
  obtain ⟨l,b,xs,zs,rfl,rfl,hH,hB,hz,q⟩:=h
  cases rx
  obtain ⟨u,rfl,ru⟩:=rv.one
  cases ru
  obtain ⟨z,its,n,r,hl,e⟩:=I.lstM hH
  obtain ⟨its2,r2,⟨⟨oc,od,dt,os⟩,e2,c2,m2,d2⟩,z2⟩:=I.tuple hB
  dsimp only at c2 d2
  subst c2 d2
  have l1:=r.length
  have l2:=r2.length
  have hsz:its.toArray.size+its2.toArray.size<=sizeLine:=by rw [List.size_toArray,List.size_toArray]; lia
  have hlong:¬ (!its.toArray.isEmpty&&Builtin.List.listTooLong (its.toArray.size+its2.toArray.size))=true:=by
    rw [mP hsz,Bool.and_false]
    exact Bool.false_ne_true
  refine call_meets F.slot_list_extend ⟨_,e,rfl⟩ F.entry_list_extend (F.args_list_extend_2 _ _) (pJ l b its.toArray its2.toArray n m2 od os hlong (by rw [List.size_toArray]; lia) (by lia)) ⟨e,e2,?_⟩
  refine ⟨.non,_,I.lset (its':=its++its2) hH e (by simp) (r.append r2) ?_,rfl,q⟩
  rw [List.length_append]
  lia
variable {X:Cx} {o e:Expr} {es:List Expr} {to:TE} {t:TA} {name:Str} {apos cpos:Pos} {T id:String} {r:V->List V->Hp->VK->Prop}
end
section
variable {X:Cx}
end
end L2
namespace Ck
open PySem L2
theorem eqT {b:Bool} {A B:Prop} (h:b=true) (x:A):if (if false=true then !b else b)=true then A else B:=by subst h; exact x
theorem zH {b:Bool} {A B:Prop} (h:b=false) (x:B):if (if false=true then !b else b)=true then A else B:=by subst h; exact x
theorem bg.void {K:W.Frag} {H:Hp} {n:Nat} {a b:Addr} {xs:List V} (ne:a≠b) (ha:aj K H a xs) (hb:aj K H b []):bg K H (n+1) (.ref a) (.ref b) (decide (xs=[])):=by
  cases xs with
  | nil=>exact bg.lstT ne ha hb rfl (fun j x y hx _=>by cases hx)
  | cons x xs=>exact bg.lstN ne ha hb (by simp)
noncomputable def zK (ts:List Bt):Nat:=(ts.map Bt.size).sum
end Ck
set_option Elab.async false
set_option linter.all false
set_option maxRecDepth 100000
set_option maxHeartbeats 4000000
namespace Lg
open PySem PyProof.Rows
noncomputable def o7:Bool->Keyed->Array Keyed->Nat->Nat->Nat->StateT SortSt Sem (Option Nat):=sortPriv% PySem.Builtin.gallop
noncomputable def ku (left:Bool) (key:Keyed) (arr:Array Keyed) (base i:Nat):StateT SortSt Sem (Option Bool):=elem' arr (base+i) >>= fun x=>if left then lt' x key else lt' key x >>= fun r=>pure (r.map (!·))
noncomputable def bJ (left:Bool) (k a:Int):Bool:=if left then decide (a < k) else !decide (k < a)
section
variable {prog:Program} {w:World} {A:Around} {E:Value->Shared->Prop} {s:Shared}
theorem IntKeys.at {xs:Array Keyed} (h:IntKeys xs) {i:Nat} (hi:i < xs.size):∃ t q,xs[i]? = some (.int (K xs i) t,q):=by
  have hm:xs[i]∈xs.toList:=by simp
  obtain ⟨n,t,hn⟩:=h _ hm
  refine ⟨t,xs[i].2,?_⟩
  have e:xs[i]? = some xs[i]:=getElem?_pos _ i hi
  have e2:xs[i]=(.int n t,xs[i].2):=Prod.ext hn rfl
  unfold K
  rw [e,e2]
  rfl
theorem j5 {st:SortSt} {a b:Int} {t u:Tok} {p q:Value} {Q:Option Bool->SortSt->Prop} (hk:kindOf st=oneType') (h:Q (some (decide (a < b))) st):wpS (model prog w) A E s (lt' (.int a t,p) (.int b u,q)) Q st:=by
  rw [lt'_eq]
  refine wpS_bind (wpS_get ?_)
  rw [hk,keyLt'_oneType]
  refine wpS_bind (wpS_lift (wpAny_attempt (oneLt_int ⟨rfl,?_⟩)))
  exact wpS_pure h
theorem av {st:SortSt} {xs:Array Keyed} {i:Nat} {p:Keyed} {Q:Keyed->SortSt->Prop} (e:xs[i]? = some p) (h:Q p st):wpS (model prog w) A E s (elem' xs i) Q st:=by
  rw [elem'_eq,e]
  exact wpS_pure h
theorem eO {st:SortSt} {left:Bool} {k:Int} {t:Tok} {p:Value} {arr:Array Keyed} {base i:Nat} {Q:Option Bool->SortSt->Prop} (hk:kindOf st=oneType') (hI:IntKeys arr) (hi:base+i < arr.size)
    (h:Q (some (bJ left k (K arr (base+i)))) st):wpS (model prog w) A E s (ku left (.int k t,p) arr base i) Q st:=by
  obtain ⟨t',q',e⟩:=IntKeys.at hI hi
  unfold ku
  refine wpS_bind (av e ?_)
  cases left with
  | true=>exact j5 hk h
  | false=>exact wpS_bind (j5 hk (wpS_pure h))
theorem tP {left:Bool} {k a b:Int} (h:a<=b) (hb:bJ left k b=true):bJ left k a=true:=by
  cases left with
  | true=>have hb:=of_decide_eq_true hb; exact decide_eq_true (Int.lt_of_le_of_lt h hb)
  | false =>
    have hb:(!decide (k < b))=true:=hb
    show (!decide (k < a))=true
    simp at hb |-
    lia
theorem aZ {st:SortSt} {left:Bool} {k:Int} {t:Tok} {p:Value} {arr:Array Keyed} {base n hint:Nat} {Q:Option Nat->SortSt->Prop} (hk:kindOf st=oneType') (hI:IntKeys arr) (hz:base+n<=arr.size) (hh:hint < n)
    (hs:∀ i j,i<=j->j < n->K arr (base+i)<=K arr (base+j))
    (h:∀ m,m<=n->(∀ i,i < m->bJ left k (K arr (base+i))=true)->(∀ i,m<=i->i < n->bJ left k (K arr (base+i))=false)->Q (some m) st) :
    wpS (model prog w) A E s (o7 left (.int k t,p) arr base n hint) Q st:=by
  have dn:∀ i j,i<=j->j < n->bJ left k (K arr (base+j))=true->bJ left k (K arr (base+i))=true:=fun i j h1 h2 h3=>tP (hs i j h1 h2) h3
  have up:∀ i j,i<=j->j < n->bJ left k (K arr (base+i))=false->bJ left k (K arr (base+j))=false:=fun i j h1 h2 h3=>by
    cases e:bJ left k (K arr (base+j)) with
    | false=>rfl
    | true=>rw [dn i j h1 h2 e] at h3; cases h3
  have fin:∀ lo hi:Nat,lo<=hi->hi<=n->(∀ i,i < lo->bJ left k (K arr (base+i))=true)->(∀ i,hi<=i->i < n->bJ left k (K arr (base+i))=false) ->
      ∀ (f:(Option (Option Nat) × Nat × Nat)->StateT SortSt Sem (Option Nat)),(∀ m,f (none,m,m)=pure (some m)) ->
      wpS (model prog w) A E s (forIn [0:n] ((none,lo,hi):Option (Option Nat) × Nat × Nat) (fun _ c=>do
        if c.2.1 ≥ c.2.2 then pure (ForInStep.done (none,c.2.1,c.2.2)) else do
          let x <- ku left (.int k t,p) arr base (c.2.1+(c.2.2 - c.2.1) / 2)
          match x with
          | some more=>if more=true then pure (ForInStep.yield (none,c.2.1+(c.2.2 - c.2.1) / 2+1,c.2.2)) else pure (ForInStep.yield (none,c.2.1,c.2.1+(c.2.2 - c.2.1) / 2))
          | _=>pure (ForInStep.done (some none,c.2.1,c.2.2))) >>= f) Q st:=by
    intro lo hi hlh hhn hlo hhi f hf
    refine wpS_bind (wpS_mono (wpS_forRange (I:=fun x c st'=>st'=st/\∃ l r,c=(none,l,r)/\l<=r/\r<=n/\r - l<=n - x/\(∀ i,i < l->bJ left k (K arr (base+i))=true)/\(∀ i,r<=i->i < n->bJ left k (K arr (base+i))=false))
      (Q:=fun c st'=>st'=st/\∃ m,c=(none,m,m)/\m<=n/\(∀ i,i < m->bJ left k (K arr (base+i))=true)/\(∀ i,m<=i->i < n->bJ left k (K arr (base+i))=false)) ?step ?fin ⟨rfl,lo,hi,rfl,hlh,hhn,by lia,hlo,hhi⟩) ?post)
    case post =>
      rintro c st' ⟨rfl,m,rfl,hm,a1,a2⟩
      rw [hf]
      exact wpS_pure (h m hm a1 a2)
    case fin =>
      rintro c st' ⟨rfl,l,r,rfl,h1,h2,h3,a1,a2⟩
      have:l=r:=by lia
      subst this
      exact ⟨rfl,l,rfl,h2,a1,a2⟩
    case step =>
      rintro x c st' _ hx ⟨rfl,l,r,rfl,h1,h2,h3,a1,a2⟩
      dsimp only
      by_cases hge:l ≥ r
      · rw [if_pos hge]
        have:l=r:=by lia
        subst this
        exact wpS_pure ⟨rfl,l,rfl,h2,a1,a2⟩
      · rw [if_neg hge]
        refine wpS_bind (eO hk hI (by lia) ?_)
        cases e:bJ left k (K arr (base+(l+(r - l) / 2))) with
        | true =>
          dsimp only
          rw [if_pos rfl]
          exact wpS_pure ⟨rfl,_,_,rfl,by lia,h2,by lia,fun i hi=>dn i _ (by lia) (by lia) e,a2⟩
        | false =>
          dsimp only
          rw [if_neg (by decide)]
          exact wpS_pure ⟨rfl,_,_,rfl,by lia,by lia,by lia,a1,fun i h4 h5=>up _ i h4 h5 e⟩
  unfold o7
  change wpS _ _ _ _ (bind _ _) _ _
  dsimp only
  refine wpS_bind (eO hk hI (by lia) ?_)
  cases e:bJ left k (K arr (base+hint)) with
  | true =>
    dsimp only
    rw [if_pos rfl]
    refine wpS_bind (wpS_mono (wpS_forRange (I:=fun x c st'=>st'=st/\∃ l o,c=(none,l,o)/\l < o/\l < n - hint/\x+1<=o/\bJ left k (K arr (base+(hint+l)))=true)
      (Q:=fun c st'=>st'=st/\∃ l o,c=(none,l,o)/\l < o/\l < n - hint/\bJ left k (K arr (base+(hint+l)))=true/\(n - hint<=o\/(o < n - hint/\bJ left k (K arr (base+(hint+o)))=false))) ?step1 ?fin1 ⟨rfl,0,1,rfl,by lia,by lia,by lia,e⟩) ?post1)
    case post1 =>
      rintro c st' ⟨rfl,l,o,rfl,h1,h2,h3,h4⟩
      dsimp only
      refine fin (hint+l+1) (hint+min o (n - hint)) (by lia) (by lia) (fun i hi=>dn i (hint+l) (by lia) (by lia) h3) (fun i h5 h6=>?_) _ (fun m=>rfl)
      rcases h4 with h4 | ⟨h4,h7⟩
      · lia
      · exact up (hint+o) i (by lia) h6 h7
    case fin1 =>
      rintro c st' ⟨rfl,l,o,rfl,h1,h2,h3,h4⟩
      exact ⟨rfl,l,o,rfl,h1,h2,h4,.inl (by lia)⟩
    case step1 =>
      rintro x c st' _ hx ⟨rfl,l,o,rfl,h1,h2,h3,h4⟩
      dsimp only
      by_cases hge:o ≥ n - hint
      · rw [if_pos hge]
        exact wpS_pure ⟨rfl,l,o,rfl,h1,h2,h4,.inl hge⟩
      · rw [if_neg hge]
        refine wpS_bind (eO hk hI (by lia) ?_)
        cases e2:bJ left k (K arr (base+(hint+o))) with
        | true =>
          dsimp only
          rw [if_neg (by decide)]
          exact wpS_pure ⟨rfl,o,2*o+1,rfl,by lia,by lia,by lia,e2⟩
        | false =>
          dsimp only
          rw [if_pos (by decide)]
          exact wpS_pure ⟨rfl,l,o,rfl,h1,h2,h4,.inr ⟨by lia,e2⟩⟩
  | false =>
    dsimp only
    rw [if_neg (by decide)]
    refine wpS_bind (wpS_mono (wpS_forRange (I:=fun x c st'=>st'=st/\∃ l o,c=(none,l,o)/\l < o/\l<=hint/\x+1<=o/\bJ left k (K arr (base+(hint - l)))=false)
      (Q:=fun c st'=>st'=st/\∃ l o,c=(none,l,o)/\l < o/\l<=hint/\bJ left k (K arr (base+(hint - l)))=false/\(hint+1<=o\/(o<=hint/\bJ left k (K arr (base+(hint - o)))=true))) ?step2 ?fin2 ⟨rfl,0,1,rfl,by lia,by lia,by lia,e⟩) ?post2)
    case post2 =>
      rintro c st' ⟨rfl,l,o,rfl,h1,h2,h3,h4⟩
      dsimp only
      refine fin (hint+1 - min o (hint+1)) (hint - l) (by lia) (by lia) (fun i hi=>?_) (fun i h5 h6=>up (hint - l) i h5 h6 h3) _ (fun m=>rfl)
      rcases h4 with h4 | ⟨h4,h7⟩
      · lia
      · exact dn i (hint - o) (by lia) (by lia) h7
    case fin2 =>
      rintro c st' ⟨rfl,l,o,rfl,h1,h2,h3,h4⟩
      exact ⟨rfl,l,o,rfl,h1,h2,h4,.inl (by lia)⟩
    case step2 =>
      rintro x c st' _ hx ⟨rfl,l,o,rfl,h1,h2,h3,h4⟩
      dsimp only
      by_cases hge:o ≥ hint+1
      · rw [if_pos hge]
        exact wpS_pure ⟨rfl,l,o,rfl,h1,h2,h4,.inl hge⟩
      · rw [if_neg hge]
        refine wpS_bind (eO hk hI (by lia) ?_)
        cases e2:bJ left k (K arr (base+(hint - o))) with
        | true =>
          dsimp only
          rw [if_pos rfl]
          exact wpS_pure ⟨rfl,l,o,rfl,h1,h2,h4,.inr ⟨by lia,e2⟩⟩
        | false =>
          dsimp only
          rw [if_neg (by decide)]
          exact wpS_pure ⟨rfl,o,2*o+1,rfl,by lia,by lia,by lia,e2⟩
end
noncomputable abbrev key (p:Keyed):Int:=numOf p.1
theorem gM {xs:Array Keyed} {i:Nat} {p:Keyed} (h:xs[i]? = some p):K xs i=key p:=by unfold K; rw [h]
def bR (xs:Array Keyed):Prop:=∀ i j,i<=j->j < xs.size->K xs i<=K xs j
structure Mg (a b out:Array Keyed) (ia ib:Nat):Prop where
  ha:ia<=a.size
  hb:ib<=b.size
  perm:(out.toList++(a.toList.drop ia++b.toList.drop ib)).Perm (a.toList++b.toList)
  srt:(out.toList.map key).Pairwise (·<=·)
  lea:∀ x∈out.toList,∀ i,ia<=i->i < a.size->key x<=K a i
  leb:∀ x∈out.toList,∀ j,ib<=j->j < b.size->key x<=K b j
def Fin (a b R:Array Keyed):Prop:=R.toList.Perm (a.toList++b.toList)/\(R.toList.map key).Pairwise (·<=·)
variable {a b out:Array Keyed} {ia ib:Nat}
theorem pD {xs:Array Keyed} {i:Nat} {p:Keyed} (h:xs[i]? = some p):xs.toList.drop i=p::xs.toList.drop (i+1):=by
  have hi:i < xs.size:=by
    rcases Nat.lt_or_ge i xs.size with z | z
    · exact z
    · rw [Array.getElem?_eq_none z] at h; cases h
  have hi':i < xs.toList.length:=by simpa using hi
  rw [List.drop_eq_getElem_cons hi']
  congr 1
  rw [Array.getElem?_eq_getElem hi] at h
  simpa using h
theorem Mg.pushA (m:Mg a b out ia ib) (sa:bR a) (sb:bR b) {p:Keyed} (e:a[ia]? = some p) (hi:ia < a.size) (le:ib < b.size->K a ia<=K b ib):Mg a b (out.push p) (ia+1) ib:=by
  have kp:=gM e
  refine ⟨hi,m.hb,?_,?_,?_,?_⟩
  · have h:=m.perm
    rw [pD e] at h
    rw [Array.toList_push,List.append_assoc]
    exact h
  · rw [Array.toList_push,List.map_append,List.pairwise_append]
    refine ⟨m.srt,List.pairwise_singleton _ _,fun x hx y hy=>?_⟩
    obtain ⟨z,hz,rfl⟩:=List.mem_map.mp hx
    have hy:y=key p:=by simpa using hy
    rw [hy,<- kp]
    exact m.lea z hz ia (Nat.le_refl _) hi
  · intro x hx i h1 h2
    rw [Array.toList_push,List.mem_append] at hx
    rcases hx with hx | hx
    · exact m.lea x hx i (by lia) h2
    · have:x=p:=by simpa using hx
      rw [this,<- kp]
      exact sa ia i (by lia) h2
  · intro x hx j h1 h2
    rw [Array.toList_push,List.mem_append] at hx
    rcases hx with hx | hx
    · exact m.leb x hx j h1 h2
    · have:x=p:=by simpa using hx
      rw [this,<- kp]
      exact Int.le_trans (le (by lia)) (sb ib j h1 h2)
theorem sH (o:List Keyed) (x:Keyed) (r u:List Keyed):(o++[x]++(r++u)).Perm (o++(r++x::u)):=by
  rw [List.append_assoc]
  refine List.Perm.append_left o ?_
  show (x::(r++u)).Perm (r++x::u)
  exact List.perm_middle.symm
theorem Mg.pushB (m:Mg a b out ia ib) (sa:bR a) (sb:bR b) {p:Keyed} (e:b[ib]? = some p) (hi:ib < b.size) (le:ia < a.size->K b ib<=K a ia):Mg a b (out.push p) ia (ib+1):=by
  have kp:=gM e
  refine ⟨m.ha,hi,?_,?_,?_,?_⟩
  · have h:=m.perm
    rw [pD e] at h
    rw [Array.toList_push]
    exact (sH _ _ _ _).trans h
  · rw [Array.toList_push,List.map_append,List.pairwise_append]
    refine ⟨m.srt,List.pairwise_singleton _ _,fun x hx y hy=>?_⟩
    obtain ⟨z,hz,rfl⟩:=List.mem_map.mp hx
    have hy:y=key p:=by simpa using hy
    rw [hy,<- kp]
    exact m.leb z hz ib (Nat.le_refl _) hi
  · intro x hx i h1 h2
    rw [Array.toList_push,List.mem_append] at hx
    rcases hx with hx | hx
    · exact m.lea x hx i h1 h2
    · have:x=p:=by simpa using hx
      rw [this,<- kp]
      exact Int.le_trans (le (by lia)) (sa ia i h1 h2)
  · intro x hx j h1 h2
    rw [Array.toList_push,List.mem_append] at hx
    rcases hx with hx | hx
    · exact m.leb x hx j (by lia) h2
    · have:x=p:=by simpa using hx
      rw [this,<- kp]
      exact sb ib j (by lia) h2
theorem nI {xs:Array Keyed} {i k:Nat} {p:Keyed} (e:xs[i+k]? = some p):xs.extract i (i+k+1)=(xs.extract i (i+k)).push p:=by
  have hi:i+k < xs.size:=by
    rcases Nat.lt_or_ge (i+k) xs.size with z | z
    · exact z
    · rw [Array.getElem?_eq_none z] at e; cases e
  rw [Array.getElem?_eq_getElem hi] at e
  apply Array.ext'
  rw [Array.toList_push,Array.toList_extract,Array.toList_extract]
  simp only [List.extract_eq_take_drop]
  rw [show i+k+1 - i=k+1 by lia,show i+k - i=k by lia]
  have hl:k < (xs.toList.drop i).length:=by simp; lia
  rw [List.take_succ_eq_append_getElem hl]
  congr 2
  simp
  simpa using e
theorem Mg.takeA (m:Mg a b out ia ib) (sa:bR a) (sb:bR b):∀ k,ia+k<=a.size->(∀ i,i < k->ib < b.size->K a (ia+i)<=K b ib)->Mg a b (out++a.extract ia (ia+k)) (ia+k) ib
  | 0,_,_=>by
    have e:a.extract ia (ia+0) = #[]:=by simp; lia
    rw [e,Array.append_empty]
    exact m
  | k+1,h1,h2=>by
    have ih:=Mg.takeA m sa sb k (by lia) (fun i hi=>h2 i (by lia))
    have e:a[ia+k]? = some a[ia+k]:=Array.getElem?_eq_getElem (by lia)
    have e2:=nI e
    rw [show ia+(k+1)=ia+k+1 by lia,e2,Array.append_push]
    exact ih.pushA sa sb e (by lia) (h2 k (by lia))
theorem Mg.takeB (m:Mg a b out ia ib) (sa:bR a) (sb:bR b):∀ k,ib+k<=b.size->(∀ i,i < k->ia < a.size->K b (ib+i)<=K a ia)->Mg a b (out++b.extract ib (ib+k)) ia (ib+k)
  | 0,_,_=>by
    have e:b.extract ib (ib+0) = #[]:=by simp; lia
    rw [e,Array.append_empty]
    exact m
  | k+1,h1,h2=>by
    have ih:=Mg.takeB m sa sb k (by lia) (fun i hi=>h2 i (by lia))
    have e:b[ib+k]? = some b[ib+k]:=Array.getElem?_eq_getElem (by lia)
    have e2:=nI e
    rw [show ib+(k+1)=ib+k+1 by lia,e2,Array.append_push]
    exact ih.pushB sa sb e (by lia) (h2 k (by lia))
theorem Mg.fin (m:Mg a b out a.size b.size):Fin a b out:=by
  refine ⟨?_,m.srt⟩
  have h:=m.perm
  rw [List.drop_eq_nil_of_le (by simp),List.drop_eq_nil_of_le (by simp),List.append_nil,List.append_nil] at h
  exact h
theorem Mg.doneB (m:Mg a b out ia ib) (sa:bR a) (sb:bR b) (h:ib=b.size):Fin a b (out++a.extract ia a.size++b.extract ib b.size):=by
  subst h
  have h1:=m.takeA sa sb (a.size - ia) (by have:=m.ha; lia) (fun i _ z=>by lia)
  rw [show ia+(a.size - ia)=a.size by have:=m.ha; lia] at h1
  have e:b.extract b.size b.size = #[]:=by simp
  rw [e,Array.append_empty]
  exact h1.fin
theorem Mg.doneA (m:Mg a b out ia ib) (sa:bR a) (sb:bR b) (h:ia=a.size):Fin a b (out++a.extract ia a.size++b.extract ib b.size):=by
  subst h
  have e:a.extract a.size a.size = #[]:=by simp
  rw [e,Array.append_empty]
  have h1:=m.takeB sa sb (b.size - ib) (by have:=m.hb; lia) (fun i _ z=>by lia)
  rw [show ib+(b.size - ib)=b.size by have:=m.hb; lia] at h1
  exact h1.fin
theorem Mg.last (m:Mg a b out ia ib) (sa:bR a) (sb:bR b) (h:ia+1=a.size) (top:∀ j,j < b.size->K b j<=K a ia):Fin a b (out++b.extract ib b.size++a.extract ia a.size):=by
  have h1:=m.takeB sa sb (b.size - ib) (by have:=m.hb; lia) (fun i _ z=>top _ (by lia))
  rw [show ib+(b.size - ib)=b.size by have:=m.hb; lia] at h1
  have h2:=h1.takeA sa sb (a.size - ia) (by lia) (fun i _ z=>by lia)
  rw [show ia+(a.size - ia)=a.size by lia] at h2
  exact h2.fin
section
variable {prog:Program} {w:World} {A:Around} {E:Value->Shared->Prop} {s:Shared}
noncomputable def setG (st:SortSt) (g:Nat):SortSt:=SortSt.mk' (kindOf st) (arrOf st) (pendingOf st) g (failedOf st)
noncomputable def gI:Nat->StateT SortSt Sem Unit:=sortPriv% PySem.Builtin.setMinGallop
theorem jo (g:Nat):gI g=modify fun s=>setG s g:=rfl
noncomputable def nO:Array Keyed->Array Keyed->StateT SortSt Sem (Array Keyed):=sortPriv% PySem.Builtin.mergeLo
theorem d7 {st:SortSt} {g:Nat} {Q:Unit->SortSt->Prop} (h:Q () (setG st g)):wpS (model prog w) A E s (gI g) Q st:=by
  rw [jo]
  exact wpS_modify h
theorem oJ {st:SortSt} {a b:Array Keyed} {Q:Array Keyed->SortSt->Prop} (hk:kindOf st=oneType') (hA:IntKeys a) (hB:IntKeys b) (sa:bR a) (sb:bR b) (na:1<=a.size) (nb:1<=b.size) (first:K b 0<=K a 0) (top:∀ j,j < b.size->K b j<=K a (a.size - 1))
    (h:∀ R g,Fin a b R->Q R (setG st g)):wpS (model prog w) A E s (nO a b) Q st:=by
  have top':∀ i,i+1=a.size->∀ j,j < b.size->K b j<=K a i:=fun i hi j hj=>by
    have:=top j hj
    rw [show a.size - 1=i by lia] at this
    exact this
  have m0:Mg a b #[] 0 0:=⟨Nat.zero_le _,Nat.zero_le _,List.Perm.refl _,.nil,(fun x hx=>by simp at hx),(fun x hx=>by simp at hx)⟩
  obtain ⟨t0,q0,e0⟩:=IntKeys.at hB (show 0 < b.size by lia)
  have m1:=m0.pushB sa sb e0 (by lia) (fun _=>first)
  unfold nO
  change wpS _ _ _ _ (bind _ _) _ _
  dsimp only
  refine wpS_bind (wpS_lift (wpAny_rule ⟨rfl,?_⟩))
  refine wpS_bind (av e0 ?_)
  by_cases hb1:1=b.size
  · rw [if_pos (by simpa using hb1)]
    exact wpS_pure (h _ (gallopOf st) (m1.doneB sa sb hb1))
  rw [if_neg (by simpa using hb1)]
  by_cases ha1:0+1=a.size
  · rw [if_pos (by simpa using ha1)]
    exact wpS_pure (h _ (gallopOf st) (m1.last sa sb ha1 (top' _ ha1)))
  rw [if_neg (by simpa using ha1)]
  refine wpS_bind (wpS_get ?_)
  refine wpS_bind (wpS_mono (wpS_forRange (I:=fun x c st'=>∃ g out ia ib mg,st'=setG st g/\c=(none,out,ia,ib,mg)/\Mg a b out ia ib/\ia+1 < a.size/\ib < b.size/\x+1<=ia+ib)
    (Q:=fun c st'=>∃ R g r,c=(some R,r)/\st'=setG st g/\Fin a b R) ?step ?fin ⟨gallopOf st,_,0,1,_,rfl,rfl,m1,by lia,by lia,by lia⟩) ?post)
  case post =>
    rintro c st' ⟨R,g,r,rfl,rfl,f⟩
    exact wpS_pure (h R g f)
  case fin =>
    rintro c st' ⟨g,out,ia,ib,mg,rfl,rfl,m,h1,h2,h3⟩
    lia
  case step =>
    rintro x c st' _ hx ⟨g,out,ia,ib,mg,rfl,rfl,m,h1,h2,h3⟩
    dsimp only
    refine wpS_bind (wpS_mono (wpS_forRange (I:=fun y c st'=>st'=setG st g/\∃ out ia ib ac bc,c=(none,out,ia,ib,ac,bc)/\Mg a b out ia ib/\ia+1 < a.size/\ib < b.size/\x+1+y<=ia+ib)
      (Q:=fun c st'=>st'=setG st g/\((∃ R r,c=(some R,r)/\Fin a b R)\/∃ out ia ib ac bc,c=(none,out,ia,ib,ac,bc)/\Mg a b out ia ib/\ia+1 < a.size/\ib < b.size/\x+2<=ia+ib)) ?st1 ?fin1 ⟨rfl,out,ia,ib,0,0,rfl,m,h1,h2,by lia⟩) ?post1)
    case fin1 =>
      rintro c st' ⟨rfl,out,ia,ib,ac,bc,rfl,m,h1,h2,h3⟩
      exact ⟨rfl,.inr ⟨out,ia,ib,ac,bc,rfl,m,h1,h2,by lia⟩⟩
    case st1 =>
      rintro y c st' _ hy ⟨rfl,out,ia,ib,ac,bc,rfl,m,h1,h2,h3⟩
      dsimp only
      obtain ⟨tb,qb,eb⟩:=IntKeys.at hB h2
      obtain ⟨ta,qa,ea⟩:=IntKeys.at hA (show ia < a.size by lia)
      refine wpS_bind (av eb ?_)
      refine wpS_bind (av ea ?_)
      refine wpS_bind (j5 (st:=setG st g) hk ?_)
      by_cases hw:K b ib < K a ia
      · simp only [hw,decide_true,if_true]
        have m2:=m.pushB sa sb eb h2 (fun _=>Int.le_of_lt hw)
        refine wpS_bind (av eb ?_)
        by_cases h4:ib+1=b.size
        · rw [if_pos (by simpa using h4)]
          exact wpS_pure ⟨rfl,.inl ⟨_,_,rfl,m2.doneB sa sb h4⟩⟩
        · rw [if_neg (by simpa using h4)]
          split
          · exact wpS_pure ⟨rfl,.inr ⟨_,_,_,_,_,rfl,m2,by lia,by lia,by lia⟩⟩
          · exact wpS_pure ⟨rfl,_,_,_,_,_,rfl,m2,by lia,by lia,by lia⟩
      · simp only [hw,decide_false,Bool.false_eq_true,if_false]
        have m2:=m.pushA sa sb ea (by lia) (fun _=>Int.not_lt.mp hw)
        refine wpS_bind (av ea ?_)
        by_cases h4:ia+1+1=a.size
        · rw [if_pos (by simpa using h4)]
          exact wpS_pure ⟨rfl,.inl ⟨_,_,rfl,m2.last sa sb h4 (top' _ h4)⟩⟩
        · rw [if_neg (by simpa using h4)]
          split
          · exact wpS_pure ⟨rfl,.inr ⟨_,_,_,_,_,rfl,m2,by lia,by lia,by lia⟩⟩
          · exact wpS_pure ⟨rfl,_,_,_,_,_,rfl,m2,by lia,by lia,by lia⟩
    case post1 =>
      rintro c st' ⟨rfl,⟨R,r,rfl,f⟩ | ⟨out,ia,ib,ac,bc,rfl,m,h1,h2,h3⟩⟩
      · exact wpS_pure ⟨R,g,_,rfl,rfl,f⟩
      dsimp only
      refine wpS_bind (wpS_lift (wpAny_rule ⟨rfl,?_⟩))
      refine wpS_bind (wpS_mono (wpS_forRange (I:=fun y c st'=>∃ g out ia ib mg ac bc,st'=setG st g/\c=(none,out,ia,ib,mg,ac,bc)/\Mg a b out ia ib/\ia+1 < a.size/\ib < b.size/\x+2<=ia+ib)
        (Q:=fun c st'=>(∃ R g r,c=(some R,r)/\st'=setG st g/\Fin a b R)\/∃ g out ia ib mg ac bc,st'=setG st g/\c=(none,out,ia,ib,mg,ac,bc)/\Mg a b out ia ib/\ia+1 < a.size/\ib < b.size/\x+2<=ia+ib) ?st2 ?fin2 ⟨g,out,ia,ib,_,ac,bc,rfl,rfl,m,h1,h2,h3⟩) ?post2)
      case fin2 =>
        rintro c st' ⟨g,out,ia,ib,mg,ac,bc,rfl,rfl,m,h1,h2,h3⟩
        exact .inr ⟨g,out,ia,ib,mg,ac,bc,rfl,rfl,m,h1,h2,h3⟩
      case post2 =>
        rintro c st' (⟨R,g,r,rfl,rfl,f⟩ | ⟨g,out,ia,ib,mg,ac,bc,rfl,rfl,m,h1,h2,h3⟩)
        · exact wpS_pure ⟨R,g,_,rfl,rfl,f⟩
        · dsimp only
          refine wpS_bind (d7 ?_)
          exact wpS_pure ⟨mg+1,out,ia,ib,mg+1,rfl,rfl,m,h1,h2,by lia⟩
      case st2 =>
        rintro y c st' _ hy ⟨g,out,ia,ib,mg,ac,bc,rfl,rfl,m,h1,hib,h3⟩
        dsimp only
        by_cases hmg:mg > 1
        · rw [if_pos hmg]
          obtain ⟨tb,qb,eb⟩:=IntKeys.at hB hib
          refine wpS_bind (d7 ?_)
          show wpS _ _ _ _ _ _ (setG st (mg - 1))
          obtain ⟨gg,egg⟩:∃ gg,(mg - 1)=gg:=⟨_,rfl⟩
          rw [egg]
          refine wpS_bind (av eb ?_)
          refine wpS_bind (aZ (st:=setG st gg) hk hA (by lia) (by lia) (fun i j h6 h7=>sa _ _ (by lia) (by lia)) fun k kn low high=>?_)
          dsimp only
          by_cases hk1:k > 0
          · rw [if_pos hk1]
            have m1:=m.takeA sa sb k (by lia) (fun i hi _=>by have:=low i hi; unfold bJ at this; simp at this; lia)
            by_cases h2:ia+k+1=a.size
            · rw [if_pos (by simpa using h2)]
              exact wpS_pure (.inl ⟨_,_,_,rfl,rfl,m1.last sa sb h2 (top' _ h2)⟩)
            · rw [if_neg (by simpa using h2)]
              by_cases h3:ia+k=a.size
              · rw [if_pos (by simpa using h3)]
                exact wpS_pure (.inl ⟨_,_,_,rfl,rfl,m1.doneA sa sb h3⟩)
              · rw [if_neg (by simpa using h3)]
                have leb:ia+k < a.size->K b ib<=K a (ia+k):=fun z=>by have:=high k (Nat.le_refl _) (by lia); unfold bJ at this; simp at this; lia
                have m2:=m1.pushB sa sb eb hib leb
                obtain ⟨ta,qa,ea2⟩:=IntKeys.at hA (show ia+k < a.size by lia)
                refine wpS_bind (av eb ?_)
                by_cases h4:ib+1=b.size
                · rw [if_pos (by simpa using h4)]
                  exact wpS_pure (.inl ⟨_,_,_,rfl,rfl,m2.doneB sa sb h4⟩)
                · rw [if_neg (by simpa using h4)]
                  refine wpS_bind (av ea2 ?_)
                  refine wpS_bind (aZ (st:=setG st gg) hk hB (by lia) (by lia) (fun i j h6 h7=>sb _ _ (by lia) (by lia)) fun k2 k2n low2 high2=>?_)
                  dsimp only
                  by_cases hk2:k2 > 0
                  · rw [if_pos hk2]
                    have m2':=m2.takeB sa sb k2 (by lia) (fun i hi _=>Int.le_of_lt (of_decide_eq_true (low2 i hi)))
                    by_cases h8:ib+1+k2=b.size
                    · rw [if_pos (by simpa using h8)]
                      exact wpS_pure (.inl ⟨_,_,_,rfl,rfl,m2'.doneB sa sb h8⟩)
                    · rw [if_neg (by simpa using h8)]
                      have le3:ib+1+k2 < b.size->K a (ia+k)<=K b (ib+1+k2):=fun z=>Int.not_lt.mp (of_decide_eq_false (high2 k2 (Nat.le_refl _) (by lia)))
                      have m3:=m2'.pushA sa sb ea2 (by lia) le3
                      refine wpS_bind (av ea2 ?_)
                      by_cases h5:ia+k+1+1=a.size
                      · rw [if_pos (by simpa using h5)]
                        exact wpS_pure (.inl ⟨_,_,_,rfl,rfl,m3.last sa sb h5 (top' _ h5)⟩)
                      · rw [if_neg (by simpa using h5)]
                        split
                        · exact wpS_pure (.inr ⟨_,_,_,_,_,_,_,rfl,rfl,m3,by lia,by lia,by lia⟩)
                        · exact wpS_pure ⟨_,_,_,_,_,_,_,rfl,rfl,m3,by lia,by lia,by lia⟩
                  · rw [if_neg hk2]
                    have k20:k2=0:=by lia
                    subst k20
                    have le3:ib+1 < b.size->K a (ia+k)<=K b (ib+1):=fun z=>Int.not_lt.mp (of_decide_eq_false (high2 0 (Nat.le_refl _) (by lia)))
                    have m3:=m2.pushA sa sb ea2 (by lia) le3
                    refine wpS_bind (av ea2 ?_)
                    by_cases h5:ia+k+1+1=a.size
                    · rw [if_pos (by simpa using h5)]
                      exact wpS_pure (.inl ⟨_,_,_,rfl,rfl,m3.last sa sb h5 (top' _ h5)⟩)
                    · rw [if_neg (by simpa using h5)]
                      split
                      · exact wpS_pure (.inr ⟨_,_,_,_,_,_,_,rfl,rfl,m3,by lia,by lia,by lia⟩)
                      · exact wpS_pure ⟨_,_,_,_,_,_,_,rfl,rfl,m3,by lia,by lia,by lia⟩
          · rw [if_neg hk1]
            have k0:k=0:=by lia
            subst k0
            have leb:ia < a.size->K b ib<=K a (ia):=fun z=>by have:=high 0 (Nat.le_refl _) (by lia); unfold bJ at this; simp at this; lia
            have m2:=m.pushB sa sb eb hib leb
            obtain ⟨ta,qa,ea2⟩:=IntKeys.at hA (show ia < a.size by lia)
            refine wpS_bind (av eb ?_)
            by_cases h4:ib+1=b.size
            · rw [if_pos (by simpa using h4)]
              exact wpS_pure (.inl ⟨_,_,_,rfl,rfl,m2.doneB sa sb h4⟩)
            · rw [if_neg (by simpa using h4)]
              refine wpS_bind (av ea2 ?_)
              refine wpS_bind (aZ (st:=setG st gg) hk hB (by lia) (by lia) (fun i j h6 h7=>sb _ _ (by lia) (by lia)) fun k2 k2n low2 high2=>?_)
              dsimp only
              by_cases hk2:k2 > 0
              · rw [if_pos hk2]
                have m2':=m2.takeB sa sb k2 (by lia) (fun i hi _=>Int.le_of_lt (of_decide_eq_true (low2 i hi)))
                by_cases h8:ib+1+k2=b.size
                · rw [if_pos (by simpa using h8)]
                  exact wpS_pure (.inl ⟨_,_,_,rfl,rfl,m2'.doneB sa sb h8⟩)
                · rw [if_neg (by simpa using h8)]
                  have le3:ib+1+k2 < b.size->K a ia<=K b (ib+1+k2):=fun z=>Int.not_lt.mp (of_decide_eq_false (high2 k2 (Nat.le_refl _) (by lia)))
                  have m3:=m2'.pushA sa sb ea2 (by lia) le3
                  refine wpS_bind (av ea2 ?_)
                  by_cases h5:ia+1+1=a.size
                  · rw [if_pos (by simpa using h5)]
                    exact wpS_pure (.inl ⟨_,_,_,rfl,rfl,m3.last sa sb h5 (top' _ h5)⟩)
                  · rw [if_neg (by simpa using h5)]
                    split
                    · exact wpS_pure (.inr ⟨_,_,_,_,_,_,_,rfl,rfl,m3,by lia,by lia,by lia⟩)
                    · exact wpS_pure ⟨_,_,_,_,_,_,_,rfl,rfl,m3,by lia,by lia,by lia⟩
              · rw [if_neg hk2]
                have k20:k2=0:=by lia
                subst k20
                have le3:ib+1 < b.size->K a ia<=K b (ib+1):=fun z=>Int.not_lt.mp (of_decide_eq_false (high2 0 (Nat.le_refl _) (by lia)))
                have m3:=m2.pushA sa sb ea2 (by lia) le3
                refine wpS_bind (av ea2 ?_)
                by_cases h5:ia+1+1=a.size
                · rw [if_pos (by simpa using h5)]
                  exact wpS_pure (.inl ⟨_,_,_,rfl,rfl,m3.last sa sb h5 (top' _ h5)⟩)
                · rw [if_neg (by simpa using h5)]
                  split
                  · exact wpS_pure (.inr ⟨_,_,_,_,_,_,_,rfl,rfl,m3,by lia,by lia,by lia⟩)
                  · exact wpS_pure ⟨_,_,_,_,_,_,_,rfl,rfl,m3,by lia,by lia,by lia⟩
        · rw [if_neg hmg]
          obtain ⟨tb,qb,eb⟩:=IntKeys.at hB hib
          refine wpS_bind (d7 ?_)
          show wpS _ _ _ _ _ _ (setG st mg)
          obtain ⟨gg,egg⟩:∃ gg,mg=gg:=⟨_,rfl⟩
          rw [egg]
          refine wpS_bind (av eb ?_)
          refine wpS_bind (aZ (st:=setG st gg) hk hA (by lia) (by lia) (fun i j h6 h7=>sa _ _ (by lia) (by lia)) fun k kn low high=>?_)
          dsimp only
          by_cases hk1:k > 0
          · rw [if_pos hk1]
            have m1:=m.takeA sa sb k (by lia) (fun i hi _=>by have:=low i hi; unfold bJ at this; simp at this; lia)
            by_cases h2:ia+k+1=a.size
            · rw [if_pos (by simpa using h2)]
              exact wpS_pure (.inl ⟨_,_,_,rfl,rfl,m1.last sa sb h2 (top' _ h2)⟩)
            · rw [if_neg (by simpa using h2)]
              by_cases h3:ia+k=a.size
              · rw [if_pos (by simpa using h3)]
                exact wpS_pure (.inl ⟨_,_,_,rfl,rfl,m1.doneA sa sb h3⟩)
              · rw [if_neg (by simpa using h3)]
                have leb:ia+k < a.size->K b ib<=K a (ia+k):=fun z=>by have:=high k (Nat.le_refl _) (by lia); unfold bJ at this; simp at this; lia
                have m2:=m1.pushB sa sb eb hib leb
                obtain ⟨ta,qa,ea2⟩:=IntKeys.at hA (show ia+k < a.size by lia)
                refine wpS_bind (av eb ?_)
                by_cases h4:ib+1=b.size
                · rw [if_pos (by simpa using h4)]
                  exact wpS_pure (.inl ⟨_,_,_,rfl,rfl,m2.doneB sa sb h4⟩)
                · rw [if_neg (by simpa using h4)]
                  refine wpS_bind (av ea2 ?_)
                  refine wpS_bind (aZ (st:=setG st gg) hk hB (by lia) (by lia) (fun i j h6 h7=>sb _ _ (by lia) (by lia)) fun k2 k2n low2 high2=>?_)
                  dsimp only
                  by_cases hk2:k2 > 0
                  · rw [if_pos hk2]
                    have m2':=m2.takeB sa sb k2 (by lia) (fun i hi _=>Int.le_of_lt (of_decide_eq_true (low2 i hi)))
                    by_cases h8:ib+1+k2=b.size
                    · rw [if_pos (by simpa using h8)]
                      exact wpS_pure (.inl ⟨_,_,_,rfl,rfl,m2'.doneB sa sb h8⟩)
                    · rw [if_neg (by simpa using h8)]
                      have le3:ib+1+k2 < b.size->K a (ia+k)<=K b (ib+1+k2):=fun z=>Int.not_lt.mp (of_decide_eq_false (high2 k2 (Nat.le_refl _) (by lia)))
                      have m3:=m2'.pushA sa sb ea2 (by lia) le3
                      refine wpS_bind (av ea2 ?_)
                      by_cases h5:ia+k+1+1=a.size
                      · rw [if_pos (by simpa using h5)]
                        exact wpS_pure (.inl ⟨_,_,_,rfl,rfl,m3.last sa sb h5 (top' _ h5)⟩)
                      · rw [if_neg (by simpa using h5)]
                        split
                        · exact wpS_pure (.inr ⟨_,_,_,_,_,_,_,rfl,rfl,m3,by lia,by lia,by lia⟩)
                        · exact wpS_pure ⟨_,_,_,_,_,_,_,rfl,rfl,m3,by lia,by lia,by lia⟩
                  · rw [if_neg hk2]
                    have k20:k2=0:=by lia
                    subst k20
                    have le3:ib+1 < b.size->K a (ia+k)<=K b (ib+1):=fun z=>Int.not_lt.mp (of_decide_eq_false (high2 0 (Nat.le_refl _) (by lia)))
                    have m3:=m2.pushA sa sb ea2 (by lia) le3
                    refine wpS_bind (av ea2 ?_)
                    by_cases h5:ia+k+1+1=a.size
                    · rw [if_pos (by simpa using h5)]
                      exact wpS_pure (.inl ⟨_,_,_,rfl,rfl,m3.last sa sb h5 (top' _ h5)⟩)
                    · rw [if_neg (by simpa using h5)]
                      split
                      · exact wpS_pure (.inr ⟨_,_,_,_,_,_,_,rfl,rfl,m3,by lia,by lia,by lia⟩)
                      · exact wpS_pure ⟨_,_,_,_,_,_,_,rfl,rfl,m3,by lia,by lia,by lia⟩
          · rw [if_neg hk1]
            have k0:k=0:=by lia
            subst k0
            have leb:ia < a.size->K b ib<=K a (ia):=fun z=>by have:=high 0 (Nat.le_refl _) (by lia); unfold bJ at this; simp at this; lia
            have m2:=m.pushB sa sb eb hib leb
            obtain ⟨ta,qa,ea2⟩:=IntKeys.at hA (show ia < a.size by lia)
            refine wpS_bind (av eb ?_)
            by_cases h4:ib+1=b.size
            · rw [if_pos (by simpa using h4)]
              exact wpS_pure (.inl ⟨_,_,_,rfl,rfl,m2.doneB sa sb h4⟩)
            · rw [if_neg (by simpa using h4)]
              refine wpS_bind (av ea2 ?_)
              refine wpS_bind (aZ (st:=setG st gg) hk hB (by lia) (by lia) (fun i j h6 h7=>sb _ _ (by lia) (by lia)) fun k2 k2n low2 high2=>?_)
              dsimp only
              by_cases hk2:k2 > 0
              · rw [if_pos hk2]
                have m2':=m2.takeB sa sb k2 (by lia) (fun i hi _=>Int.le_of_lt (of_decide_eq_true (low2 i hi)))
                by_cases h8:ib+1+k2=b.size
                · rw [if_pos (by simpa using h8)]
                  exact wpS_pure (.inl ⟨_,_,_,rfl,rfl,m2'.doneB sa sb h8⟩)
                · rw [if_neg (by simpa using h8)]
                  have le3:ib+1+k2 < b.size->K a ia<=K b (ib+1+k2):=fun z=>Int.not_lt.mp (of_decide_eq_false (high2 k2 (Nat.le_refl _) (by lia)))
                  have m3:=m2'.pushA sa sb ea2 (by lia) le3
                  refine wpS_bind (av ea2 ?_)
                  by_cases h5:ia+1+1=a.size
                  · rw [if_pos (by simpa using h5)]
                    exact wpS_pure (.inl ⟨_,_,_,rfl,rfl,m3.last sa sb h5 (top' _ h5)⟩)
                  · rw [if_neg (by simpa using h5)]
                    split
                    · exact wpS_pure (.inr ⟨_,_,_,_,_,_,_,rfl,rfl,m3,by lia,by lia,by lia⟩)
                    · exact wpS_pure ⟨_,_,_,_,_,_,_,rfl,rfl,m3,by lia,by lia,by lia⟩
              · rw [if_neg hk2]
                have k20:k2=0:=by lia
                subst k20
                have le3:ib+1 < b.size->K a ia<=K b (ib+1):=fun z=>Int.not_lt.mp (of_decide_eq_false (high2 0 (Nat.le_refl _) (by lia)))
                have m3:=m2.pushA sa sb ea2 (by lia) le3
                refine wpS_bind (av ea2 ?_)
                by_cases h5:ia+1+1=a.size
                · rw [if_pos (by simpa using h5)]
                  exact wpS_pure (.inl ⟨_,_,_,rfl,rfl,m3.last sa sb h5 (top' _ h5)⟩)
                · rw [if_neg (by simpa using h5)]
                  split
                  · exact wpS_pure (.inr ⟨_,_,_,_,_,_,_,rfl,rfl,m3,by lia,by lia,by lia⟩)
                  · exact wpS_pure ⟨_,_,_,_,_,_,_,rfl,rfl,m3,by lia,by lia,by lia⟩
end
structure Mh (a b out:Array Keyed) (na nb:Nat):Prop where
  ha:na<=a.size
  hb:nb<=b.size
  perm:(a.toList.take na++(b.toList.take nb++out.toList.reverse)).Perm (a.toList++b.toList)
  srt:(out.toList.map key).Pairwise (fun x y=>y<=x)
  lea:∀ x∈out.toList,∀ i,i < na->K a i<=key x
  leb:∀ x∈out.toList,∀ j,j < nb->K b j<=key x
theorem o9 {xs:Array Keyed} {n:Nat} {p:Keyed} (h:xs[n]? = some p):xs.toList.take (n+1)=xs.toList.take n++[p]:=by
  have hi:n < xs.size:=by
    rcases Nat.lt_or_ge n xs.size with z | z
    · exact z
    · rw [Array.getElem?_eq_none z] at h; cases h
  have hi':n < xs.toList.length:=by simpa using hi
  rw [List.take_succ_eq_append_getElem hi']
  congr 2
  rw [Array.getElem?_eq_getElem hi] at h
  simpa using h
variable {na nb:Nat}
theorem Mh.pushA (m:Mh a b out (na+1) nb) (sa:bR a) (sb:bR b) {p:Keyed} (e:a[na]? = some p) (le:0 < nb->K b (nb - 1)<=K a na):Mh a b (out.push p) na nb:=by
  have kp:=gM e
  have ha:=m.ha
  refine ⟨by lia,m.hb,?_,?_,?_,?_⟩
  · have h:=m.perm
    rw [o9 e] at h
    rw [Array.toList_push,List.reverse_append]
    refine List.Perm.trans ?_ h
    rw [List.append_assoc]
    refine List.Perm.append_left _ ?_
    show (b.toList.take nb++p::out.toList.reverse).Perm (p::(b.toList.take nb++out.toList.reverse))
    exact List.perm_middle
  · rw [Array.toList_push,List.map_append,List.pairwise_append]
    refine ⟨m.srt,List.pairwise_singleton _ _,fun x hx y hy=>?_⟩
    obtain ⟨z,hz,rfl⟩:=List.mem_map.mp hx
    have hy:y=key p:=by simpa using hy
    rw [hy,<- kp]
    exact m.lea z hz na (by lia)
  · intro x hx i h1
    rw [Array.toList_push,List.mem_append] at hx
    rcases hx with hx | hx
    · exact m.lea x hx i (by lia)
    · have:x=p:=by simpa using hx
      rw [this,<- kp]
      exact sa i na (by lia) (by lia)
  · intro x hx j h1
    rw [Array.toList_push,List.mem_append] at hx
    rcases hx with hx | hx
    · exact m.leb x hx j h1
    · have:x=p:=by simpa using hx
      rw [this,<- kp]
      exact Int.le_trans (sb j (nb - 1) (by lia) (by have:=m.hb; lia)) (le (by lia))
theorem Mh.pushB (m:Mh a b out na (nb+1)) (sa:bR a) (sb:bR b) {p:Keyed} (e:b[nb]? = some p) (le:0 < na->K a (na - 1)<=K b nb):Mh a b (out.push p) na nb:=by
  have kp:=gM e
  have hb:=m.hb
  refine ⟨m.ha,by lia,?_,?_,?_,?_⟩
  · have h:=m.perm
    rw [o9 e] at h
    rw [Array.toList_push,List.reverse_append]
    refine List.Perm.trans ?_ h
    rw [List.append_assoc]
    exact List.Perm.refl _
  · rw [Array.toList_push,List.map_append,List.pairwise_append]
    refine ⟨m.srt,List.pairwise_singleton _ _,fun x hx y hy=>?_⟩
    obtain ⟨z,hz,rfl⟩:=List.mem_map.mp hx
    have hy:y=key p:=by simpa using hy
    rw [hy,<- kp]
    exact m.leb z hz nb (by lia)
  · intro x hx i h1
    rw [Array.toList_push,List.mem_append] at hx
    rcases hx with hx | hx
    · exact m.lea x hx i h1
    · have:x=p:=by simpa using hx
      rw [this,<- kp]
      exact Int.le_trans (sa i (na - 1) (by lia) (by have:=m.ha; lia)) (le (by lia))
  · intro x hx j h1
    rw [Array.toList_push,List.mem_append] at hx
    rcases hx with hx | hx
    · exact m.leb x hx j (by lia)
    · have:x=p:=by simpa using hx
      rw [this,<- kp]
      exact sb j nb (by lia) (by lia)
theorem og {xs:Array Keyed} {i n:Nat} {p:Keyed} (hi:i<=n) (e:xs[i]? = some p) (hn:n<=xs.size) (hlt:i < n):(xs.extract i n).reverse=(xs.extract (i+1) n).reverse.push p:=by
  have hz:i < xs.size:=by lia
  rw [Array.getElem?_eq_getElem hz] at e
  apply Array.ext'
  rw [Array.toList_push,Array.toList_reverse,Array.toList_reverse,Array.toList_extract,Array.toList_extract]
  simp only [List.extract_eq_take_drop]
  have hl:i < xs.toList.length:=by simpa using hz
  rw [List.drop_eq_getElem_cons hl,show n - i=(n - (i+1))+1 by lia,List.take_succ_cons,List.reverse_cons]
  congr 2
  simpa using e
theorem Mh.takeA (sa:bR a) (sb:bR b):∀ (k:Nat) {na:Nat} {out:Array Keyed},Mh a b out na nb->∀ lo,lo+k=na->(∀ i,lo<=i->i < na->0 < nb->K b (nb - 1)<=K a i)->Mh a b (out++(a.extract lo na).reverse) lo nb
  | 0,na,out,m,lo,h,_=>by
    have:lo=na:=by lia
    subst this
    have e:a.extract lo lo = #[]:=by simp; lia
    rw [e]
    simpa using m
  | k+1,na,out,m,lo,h,h2=>by
    have ih:=Mh.takeA sa sb k m (lo+1) (by lia) (fun i hi=>h2 i (by lia))
    have ha:=m.ha
    have e:a[lo]? = some a[lo]:=Array.getElem?_eq_getElem (by lia)
    rw [og (by lia) e ha (by lia),Array.append_push]
    exact ih.pushA sa sb e (h2 lo (Nat.le_refl _) (by lia))
theorem Mh.takeB (sa:bR a) (sb:bR b):∀ (k:Nat) {nb:Nat} {out:Array Keyed},Mh a b out na nb->∀ lo,lo+k=nb->(∀ i,lo<=i->i < nb->0 < na->K a (na - 1)<=K b i)->Mh a b (out++(b.extract lo nb).reverse) na lo
  | 0,nb,out,m,lo,h,_=>by
    have:lo=nb:=by lia
    subst this
    have e:b.extract lo lo = #[]:=by simp; lia
    rw [e]
    simpa using m
  | k+1,nb,out,m,lo,h,h2=>by
    have ih:=Mh.takeB sa sb k m (lo+1) (by lia) (fun i hi=>h2 i (by lia))
    have hb:=m.hb
    have e:b[lo]? = some b[lo]:=Array.getElem?_eq_getElem (by lia)
    rw [og (by lia) e hb (by lia),Array.append_push]
    exact ih.pushB sa sb e (h2 lo (Nat.le_refl _) (by lia))
theorem Mh.fin (m:Mh a b out 0 0):Fin a b out.reverse:=by
  have h:=m.perm
  refine ⟨?_,?_⟩
  · rw [Array.toList_reverse]; exact h
  · rw [Array.toList_reverse,List.map_reverse,List.pairwise_reverse]
    exact m.srt
theorem Mh.doneA (m:Mh a b out na nb) (sa:bR a) (sb:bR b) (h:na=0):Fin a b (a.extract 0 na++b.extract 0 nb++out.reverse):=by
  subst h
  have h1:=Mh.takeB sa sb nb m 0 (by lia) (fun i _ _ z=>by lia)
  have h2:=h1.fin
  have e:a.extract 0 0 = #[]:=by simp
  rw [e]
  simpa using h2
theorem Mh.doneB (m:Mh a b out na nb) (sa:bR a) (sb:bR b) (h:nb=0):Fin a b (a.extract 0 na++b.extract 0 nb++out.reverse):=by
  subst h
  have h1:=Mh.takeA sa sb na m 0 (by lia) (fun i _ _ z=>by lia)
  have h2:=h1.fin
  have e:b.extract 0 0 = #[]:=by simp
  rw [e]
  simpa using h2
theorem Mh.firstB (m:Mh a b out na nb) (sa:bR a) (sb:bR b) (h:nb=1) (first:∀ i,i < a.size->K b 0<=K a i):Fin a b (b.extract 0 nb++a.extract 0 na++out.reverse):=by
  subst h
  have h1:=Mh.takeA sa sb na m 0 (by lia) (fun i _ z _=>first i (by have:=m.ha; lia))
  have h2:=Mh.takeB sa sb 1 h1 0 rfl (fun i _ _ z=>by lia)
  have h3:=h2.fin
  simpa using h3
section
variable {prog:Program} {w:World} {A:Around} {E:Value->Shared->Prop} {s:Shared}
noncomputable def oa:Array Keyed->Array Keyed->StateT SortSt Sem (Array Keyed):=sortPriv% PySem.Builtin.mergeHi
theorem oC {st:SortSt} {a b:Array Keyed} {Q:Array Keyed->SortSt->Prop} (hk:kindOf st=oneType') (hA:IntKeys a) (hB:IntKeys b) (sa:bR a) (sb:bR b) (na0:1<=a.size) (nb0:1<=b.size) (first:K b 0<=K a 0) (top:∀ j,j < b.size->K b j<=K a (a.size - 1))
    (h:∀ R g,Fin a b R->Q R (setG st g)):wpS (model prog w) A E s (oa a b) Q st:=by
  have first':∀ i,i < a.size->K b 0<=K a i:=fun i hi=>Int.le_trans first (sa 0 i (Nat.zero_le _) hi)
  have m0:Mh a b #[] (a.size - 1+1) b.size:=⟨by lia,Nat.le_refl _,by rw [List.take_of_length_le (by simp; lia),List.take_of_length_le (by simp)]; simp,.nil,(fun x hx=>by simp at hx),(fun x hx=>by simp at hx)⟩
  obtain ⟨t0,q0,e0⟩:=IntKeys.at hA (show a.size - 1 < a.size by lia)
  have m1:=m0.pushA sa sb e0 (fun _=>top _ (by lia))
  unfold oa
  change wpS _ _ _ _ (bind _ _) _ _
  dsimp only
  refine wpS_bind (wpS_lift (wpAny_rule ⟨rfl,?_⟩))
  refine wpS_bind (av e0 ?_)
  by_cases ha1:a.size - 1=0
  · rw [if_pos (by simpa using ha1)]
    exact wpS_pure (h _ (gallopOf st) (m1.doneA sa sb ha1))
  rw [if_neg (by simpa using ha1)]
  by_cases hb1:b.size=1
  · rw [if_pos (by simpa using hb1)]
    exact wpS_pure (h _ (gallopOf st) (m1.firstB sa sb hb1 first'))
  rw [if_neg (by simpa using hb1)]
  refine wpS_bind (wpS_get ?_)
  refine wpS_bind (wpS_mono (wpS_forRange (I:=fun x c st'=>∃ g na nb out mg,st'=setG st g/\c=(none,na,nb,out,mg)/\Mh a b out na nb/\1<=na/\2<=nb/\x+1+na+nb<=a.size+b.size)
    (Q:=fun c st'=>∃ R g r,c=(some R,r)/\st'=setG st g/\Fin a b R) ?step ?fin ⟨gallopOf st,a.size - 1,b.size,_,_,rfl,rfl,m1,by lia,by lia,by lia⟩) ?post)
  case post =>
    rintro c st' ⟨R,g,r,rfl,rfl,f⟩
    exact wpS_pure (h R g f)
  case fin =>
    rintro c st' ⟨g,na,nb,out,mg,rfl,rfl,m,h1,h2,h3⟩
    lia
  case step =>
    rintro x c st' _ hx ⟨g,na,nb,out,mg,rfl,rfl,m,h1,h2,h3⟩
    dsimp only
    refine wpS_bind (wpS_mono (wpS_forRange (I:=fun y c st'=>st'=setG st g/\∃ na nb out ac bc,c=(none,na,nb,out,ac,bc)/\Mh a b out na nb/\1<=na/\2<=nb/\x+1+y+na+nb<=a.size+b.size)
      (Q:=fun c st'=>st'=setG st g/\((∃ R r,c=(some R,r)/\Fin a b R)\/∃ na nb out ac bc,c=(none,na,nb,out,ac,bc)/\Mh a b out na nb/\1<=na/\2<=nb/\x+2+na+nb<=a.size+b.size)) ?st1 ?fin1 ⟨rfl,na,nb,out,0,0,rfl,m,h1,h2,by lia⟩) ?post1)
    case fin1 =>
      rintro c st' ⟨rfl,na,nb,out,ac,bc,rfl,m,h1,h2,h3⟩
      exact ⟨rfl,.inr ⟨na,nb,out,ac,bc,rfl,m,h1,h2,by lia⟩⟩
    case st1 =>
      rintro y c st' _ hy ⟨rfl,na,nb,out,ac,bc,rfl,m,h1,h2,h3⟩
      dsimp only
      have haz:=m.ha
      have hbz:=m.hb
      obtain ⟨tb,qb,eb⟩:=IntKeys.at hB (show nb - 1 < b.size by lia)
      obtain ⟨ta,qa,ea⟩:=IntKeys.at hA (show na - 1 < a.size by lia)
      refine wpS_bind (av eb ?_)
      refine wpS_bind (av ea ?_)
      refine wpS_bind (j5 (st:=setG st g) hk ?_)
      by_cases hw:K b (nb - 1) < K a (na - 1)
      · simp only [hw,decide_true,if_true]
        have m2:Mh a b _ (na - 1) nb:=Mh.pushA (na:=na - 1) (by rw [show na - 1+1=na by lia]; exact m) sa sb ea (fun _=>Int.le_of_lt hw)
        refine wpS_bind (av ea ?_)
        by_cases h4:na - 1=0
        · rw [if_pos (by simpa using h4)]
          exact wpS_pure ⟨rfl,.inl ⟨_,_,rfl,m2.doneA sa sb h4⟩⟩
        · rw [if_neg (by simpa using h4)]
          split
          · exact wpS_pure ⟨rfl,.inr ⟨_,_,_,_,_,rfl,m2,by lia,by lia,by lia⟩⟩
          · exact wpS_pure ⟨rfl,_,_,_,_,_,rfl,m2,by lia,by lia,by lia⟩
      · simp only [hw,decide_false,Bool.false_eq_true,if_false]
        have m2:Mh a b _ na (nb - 1):=Mh.pushB (nb:=nb - 1) (by rw [show nb - 1+1=nb by lia]; exact m) sa sb eb (fun _=>Int.not_lt.mp hw)
        refine wpS_bind (av eb ?_)
        by_cases h4:nb - 1=1
        · rw [if_pos (by simpa using h4)]
          exact wpS_pure ⟨rfl,.inl ⟨_,_,rfl,m2.firstB sa sb h4 first'⟩⟩
        · rw [if_neg (by simpa using h4)]
          split
          · exact wpS_pure ⟨rfl,.inr ⟨_,_,_,_,_,rfl,m2,by lia,by lia,by lia⟩⟩
          · exact wpS_pure ⟨rfl,_,_,_,_,_,rfl,m2,by lia,by lia,by lia⟩
    case post1 =>
      rintro c st' ⟨rfl,⟨R,r,rfl,f⟩ | ⟨na,nb,out,ac,bc,rfl,m,h1,h2,h3⟩⟩
      · exact wpS_pure ⟨R,g,_,rfl,rfl,f⟩
      dsimp only
      refine wpS_bind (wpS_lift (wpAny_rule ⟨rfl,?_⟩))
      refine wpS_bind (wpS_mono (wpS_forRange (I:=fun y c st'=>∃ g na nb out mg ac bc,st'=setG st g/\c=(none,na,nb,out,mg,ac,bc)/\Mh a b out na nb/\1<=na/\2<=nb/\x+2+na+nb<=a.size+b.size)
        (Q:=fun c st'=>(∃ R g r,c=(some R,r)/\st'=setG st g/\Fin a b R)\/∃ g na nb out mg ac bc,st'=setG st g/\c=(none,na,nb,out,mg,ac,bc)/\Mh a b out na nb/\1<=na/\2<=nb/\x+2+na+nb<=a.size+b.size) ?st2 ?fin2 ⟨g,na,nb,out,_,ac,bc,rfl,rfl,m,h1,h2,h3⟩) ?post2)
      case fin2 =>
        rintro c st' ⟨g,na,nb,out,mg,ac,bc,rfl,rfl,m,h1,h2,h3⟩
        exact .inr ⟨g,na,nb,out,mg,ac,bc,rfl,rfl,m,h1,h2,h3⟩
      case post2 =>
        rintro c st' (⟨R,g,r,rfl,rfl,f⟩ | ⟨g,na,nb,out,mg,ac,bc,rfl,rfl,m,h1,h2,h3⟩)
        · exact wpS_pure ⟨R,g,_,rfl,rfl,f⟩
        · dsimp only
          refine wpS_bind (d7 ?_)
          exact wpS_pure ⟨mg+1,na,nb,out,mg+1,rfl,rfl,m,h1,h2,by lia⟩
      case st2 =>
        rintro y c st' _ hy ⟨g,na,nb,out,mg,ac,bc,rfl,rfl,m,h1,hib,h3⟩
        dsimp only
        by_cases hmg:mg > 1
        · rw [if_pos hmg]
          have hbz:nb<=b.size:=m.hb
          have haz:na<=a.size:=m.ha
          obtain ⟨tb,qb,eb⟩:=IntKeys.at hB (show nb - 1 < b.size by lia)
          refine wpS_bind (d7 ?_)
          show wpS _ _ _ _ _ _ (setG st (mg - 1))
          obtain ⟨gg,egg⟩:∃ gg,(mg - 1)=gg:=⟨_,rfl⟩
          rw [egg]
          refine wpS_bind (av eb ?_)
          refine wpS_bind (aZ (st:=setG st gg) hk hA (by lia) (by lia) (fun i j h6 h7=>sa _ _ (by lia) (by lia)) fun k kn low high=>?_)
          simp only [Nat.zero_add] at low high
          dsimp only
          by_cases hk1:na - k > 0
          · rw [if_pos hk1]
            have m1:=Mh.takeA sa sb (na - k) m k (by lia) (fun i hi hj _=>by have:=high i hi hj; unfold bJ at this; simp at this; lia)
            by_cases h2:k=0
            · rw [if_pos (by simpa using h2)]
              exact wpS_pure (.inl ⟨_,_,_,rfl,rfl,m1.doneA sa sb h2⟩)
            · rw [if_neg (by simpa using h2)]
              have m2:Mh a b _ (k) (nb - 1):=Mh.pushB (nb:=nb - 1) (by rw [show nb - 1+1=nb by lia]; exact m1) sa sb eb (fun z=>by have:=low (k - 1) (by lia); unfold bJ at this; simp at this; lia)
              have la:k<=a.size:=m2.ha
              obtain ⟨ta,qa,ea2⟩:=IntKeys.at hA (show k - 1 < a.size by lia)
              refine wpS_bind (av eb ?_)
              by_cases h4:nb - 1=1
              · rw [if_pos (by simpa using h4)]
                exact wpS_pure (.inl ⟨_,_,_,rfl,rfl,m2.firstB sa sb h4 first'⟩)
              · rw [if_neg (by simpa using h4)]
                refine wpS_bind (av ea2 ?_)
                refine wpS_bind (aZ (st:=setG st gg) hk hB (by lia) (by lia) (fun i j h6 h7=>sb _ _ (by lia) (by lia)) fun k2 k2n low2 high2=>?_)
                simp only [Nat.zero_add] at low2 high2
                dsimp only
                by_cases hk2:nb - 1 - k2 > 0
                · rw [if_pos hk2]
                  have m2':=Mh.takeB sa sb (nb - 1 - k2) m2 k2 (by lia) (fun i hi hj _=>Int.not_lt.mp (of_decide_eq_false (high2 i hi hj)))
                  by_cases h8:k2=1
                  · rw [if_pos (by simpa using h8)]
                    exact wpS_pure (.inl ⟨_,_,_,rfl,rfl,m2'.firstB sa sb h8 first'⟩)
                  · rw [if_neg (by simpa using h8)]
                    by_cases h9:k2=0
                    · rw [if_pos (by simpa using h9)]
                      exact wpS_pure (.inl ⟨_,_,_,rfl,rfl,m2'.doneB sa sb h9⟩)
                    · rw [if_neg (by simpa using h9)]
                      have m3:Mh a b _ (k - 1) (k2):=Mh.pushA (na:=k - 1) (by rw [show k - 1+1=k by lia]; exact m2') sa sb ea2 (fun z=>Int.le_of_lt (of_decide_eq_true (low2 (k2 - 1) (by lia))))
                      refine wpS_bind (av ea2 ?_)
                      by_cases h5:k - 1=0
                      · rw [if_pos (by simpa using h5)]
                        exact wpS_pure (.inl ⟨_,_,_,rfl,rfl,m3.doneA sa sb h5⟩)
                      · rw [if_neg (by simpa using h5)]
                        split
                        · exact wpS_pure (.inr ⟨_,_,_,_,_,_,_,rfl,rfl,m3,by lia,by lia,by lia⟩)
                        · exact wpS_pure ⟨_,_,_,_,_,_,_,rfl,rfl,m3,by lia,by lia,by lia⟩
                · rw [if_neg hk2]
                  have m3:Mh a b _ (k - 1) (nb - 1):=Mh.pushA (na:=k - 1) (by rw [show k - 1+1=k by lia]; exact m2) sa sb ea2 (fun z=>Int.le_of_lt (of_decide_eq_true (low2 (nb - 1 - 1) (by lia))))
                  refine wpS_bind (av ea2 ?_)
                  by_cases h5:k - 1=0
                  · rw [if_pos (by simpa using h5)]
                    exact wpS_pure (.inl ⟨_,_,_,rfl,rfl,m3.doneA sa sb h5⟩)
                  · rw [if_neg (by simpa using h5)]
                    split
                    · exact wpS_pure (.inr ⟨_,_,_,_,_,_,_,rfl,rfl,m3,by lia,by lia,by lia⟩)
                    · exact wpS_pure ⟨_,_,_,_,_,_,_,rfl,rfl,m3,by lia,by lia,by lia⟩
          · rw [if_neg hk1]
            have m2:Mh a b _ (na) (nb - 1):=Mh.pushB (nb:=nb - 1) (by rw [show nb - 1+1=nb by lia]; exact m) sa sb eb (fun z=>by have:=low (na - 1) (by lia); unfold bJ at this; simp at this; lia)
            have la:na<=a.size:=m2.ha
            obtain ⟨ta,qa,ea2⟩:=IntKeys.at hA (show na - 1 < a.size by lia)
            refine wpS_bind (av eb ?_)
            by_cases h4:nb - 1=1
            · rw [if_pos (by simpa using h4)]
              exact wpS_pure (.inl ⟨_,_,_,rfl,rfl,m2.firstB sa sb h4 first'⟩)
            · rw [if_neg (by simpa using h4)]
              refine wpS_bind (av ea2 ?_)
              refine wpS_bind (aZ (st:=setG st gg) hk hB (by lia) (by lia) (fun i j h6 h7=>sb _ _ (by lia) (by lia)) fun k2 k2n low2 high2=>?_)
              simp only [Nat.zero_add] at low2 high2
              dsimp only
              by_cases hk2:nb - 1 - k2 > 0
              · rw [if_pos hk2]
                have m2':=Mh.takeB sa sb (nb - 1 - k2) m2 k2 (by lia) (fun i hi hj _=>Int.not_lt.mp (of_decide_eq_false (high2 i hi hj)))
                by_cases h8:k2=1
                · rw [if_pos (by simpa using h8)]
                  exact wpS_pure (.inl ⟨_,_,_,rfl,rfl,m2'.firstB sa sb h8 first'⟩)
                · rw [if_neg (by simpa using h8)]
                  by_cases h9:k2=0
                  · rw [if_pos (by simpa using h9)]
                    exact wpS_pure (.inl ⟨_,_,_,rfl,rfl,m2'.doneB sa sb h9⟩)
                  · rw [if_neg (by simpa using h9)]
                    have m3:Mh a b _ (na - 1) (k2):=Mh.pushA (na:=na - 1) (by rw [show na - 1+1=na by lia]; exact m2') sa sb ea2 (fun z=>Int.le_of_lt (of_decide_eq_true (low2 (k2 - 1) (by lia))))
                    refine wpS_bind (av ea2 ?_)
                    by_cases h5:na - 1=0
                    · rw [if_pos (by simpa using h5)]
                      exact wpS_pure (.inl ⟨_,_,_,rfl,rfl,m3.doneA sa sb h5⟩)
                    · rw [if_neg (by simpa using h5)]
                      split
                      · exact wpS_pure (.inr ⟨_,_,_,_,_,_,_,rfl,rfl,m3,by lia,by lia,by lia⟩)
                      · exact wpS_pure ⟨_,_,_,_,_,_,_,rfl,rfl,m3,by lia,by lia,by lia⟩
              · rw [if_neg hk2]
                have m3:Mh a b _ (na - 1) (nb - 1):=Mh.pushA (na:=na - 1) (by rw [show na - 1+1=na by lia]; exact m2) sa sb ea2 (fun z=>Int.le_of_lt (of_decide_eq_true (low2 (nb - 1 - 1) (by lia))))
                refine wpS_bind (av ea2 ?_)
                by_cases h5:na - 1=0
                · rw [if_pos (by simpa using h5)]
                  exact wpS_pure (.inl ⟨_,_,_,rfl,rfl,m3.doneA sa sb h5⟩)
                · rw [if_neg (by simpa using h5)]
                  split
                  · exact wpS_pure (.inr ⟨_,_,_,_,_,_,_,rfl,rfl,m3,by lia,by lia,by lia⟩)
                  · exact wpS_pure ⟨_,_,_,_,_,_,_,rfl,rfl,m3,by lia,by lia,by lia⟩
        · rw [if_neg hmg]
          have hbz:nb<=b.size:=m.hb
          have haz:na<=a.size:=m.ha
          obtain ⟨tb,qb,eb⟩:=IntKeys.at hB (show nb - 1 < b.size by lia)
          refine wpS_bind (d7 ?_)
          show wpS _ _ _ _ _ _ (setG st mg)
          obtain ⟨gg,egg⟩:∃ gg,mg=gg:=⟨_,rfl⟩
          rw [egg]
          refine wpS_bind (av eb ?_)
          refine wpS_bind (aZ (st:=setG st gg) hk hA (by lia) (by lia) (fun i j h6 h7=>sa _ _ (by lia) (by lia)) fun k kn low high=>?_)
          simp only [Nat.zero_add] at low high
          dsimp only
          by_cases hk1:na - k > 0
          · rw [if_pos hk1]
            have m1:=Mh.takeA sa sb (na - k) m k (by lia) (fun i hi hj _=>by have:=high i hi hj; unfold bJ at this; simp at this; lia)
            by_cases h2:k=0
            · rw [if_pos (by simpa using h2)]
              exact wpS_pure (.inl ⟨_,_,_,rfl,rfl,m1.doneA sa sb h2⟩)
            · rw [if_neg (by simpa using h2)]
              have m2:Mh a b _ (k) (nb - 1):=Mh.pushB (nb:=nb - 1) (by rw [show nb - 1+1=nb by lia]; exact m1) sa sb eb (fun z=>by have:=low (k - 1) (by lia); unfold bJ at this; simp at this; lia)
              have la:k<=a.size:=m2.ha
              obtain ⟨ta,qa,ea2⟩:=IntKeys.at hA (show k - 1 < a.size by lia)
              refine wpS_bind (av eb ?_)
              by_cases h4:nb - 1=1
              · rw [if_pos (by simpa using h4)]
                exact wpS_pure (.inl ⟨_,_,_,rfl,rfl,m2.firstB sa sb h4 first'⟩)
              · rw [if_neg (by simpa using h4)]
                refine wpS_bind (av ea2 ?_)
                refine wpS_bind (aZ (st:=setG st gg) hk hB (by lia) (by lia) (fun i j h6 h7=>sb _ _ (by lia) (by lia)) fun k2 k2n low2 high2=>?_)
                simp only [Nat.zero_add] at low2 high2
                dsimp only
                by_cases hk2:nb - 1 - k2 > 0
                · rw [if_pos hk2]
                  have m2':=Mh.takeB sa sb (nb - 1 - k2) m2 k2 (by lia) (fun i hi hj _=>Int.not_lt.mp (of_decide_eq_false (high2 i hi hj)))
                  by_cases h8:k2=1
                  · rw [if_pos (by simpa using h8)]
                    exact wpS_pure (.inl ⟨_,_,_,rfl,rfl,m2'.firstB sa sb h8 first'⟩)
                  · rw [if_neg (by simpa using h8)]
                    by_cases h9:k2=0
                    · rw [if_pos (by simpa using h9)]
                      exact wpS_pure (.inl ⟨_,_,_,rfl,rfl,m2'.doneB sa sb h9⟩)
                    · rw [if_neg (by simpa using h9)]
                      have m3:Mh a b _ (k - 1) (k2):=Mh.pushA (na:=k - 1) (by rw [show k - 1+1=k by lia]; exact m2') sa sb ea2 (fun z=>Int.le_of_lt (of_decide_eq_true (low2 (k2 - 1) (by lia))))
                      refine wpS_bind (av ea2 ?_)
                      by_cases h5:k - 1=0
                      · rw [if_pos (by simpa using h5)]
                        exact wpS_pure (.inl ⟨_,_,_,rfl,rfl,m3.doneA sa sb h5⟩)
                      · rw [if_neg (by simpa using h5)]
                        split
                        · exact wpS_pure (.inr ⟨_,_,_,_,_,_,_,rfl,rfl,m3,by lia,by lia,by lia⟩)
                        · exact wpS_pure ⟨_,_,_,_,_,_,_,rfl,rfl,m3,by lia,by lia,by lia⟩
                · rw [if_neg hk2]
                  have m3:Mh a b _ (k - 1) (nb - 1):=Mh.pushA (na:=k - 1) (by rw [show k - 1+1=k by lia]; exact m2) sa sb ea2 (fun z=>Int.le_of_lt (of_decide_eq_true (low2 (nb - 1 - 1) (by lia))))
                  refine wpS_bind (av ea2 ?_)
                  by_cases h5:k - 1=0
                  · rw [if_pos (by simpa using h5)]
                    exact wpS_pure (.inl ⟨_,_,_,rfl,rfl,m3.doneA sa sb h5⟩)
                  · rw [if_neg (by simpa using h5)]
                    split
                    · exact wpS_pure (.inr ⟨_,_,_,_,_,_,_,rfl,rfl,m3,by lia,by lia,by lia⟩)
                    · exact wpS_pure ⟨_,_,_,_,_,_,_,rfl,rfl,m3,by lia,by lia,by lia⟩
          · rw [if_neg hk1]
            have m2:Mh a b _ (na) (nb - 1):=Mh.pushB (nb:=nb - 1) (by rw [show nb - 1+1=nb by lia]; exact m) sa sb eb (fun z=>by have:=low (na - 1) (by lia); unfold bJ at this; simp at this; lia)
            have la:na<=a.size:=m2.ha
            obtain ⟨ta,qa,ea2⟩:=IntKeys.at hA (show na - 1 < a.size by lia)
            refine wpS_bind (av eb ?_)
            by_cases h4:nb - 1=1
            · rw [if_pos (by simpa using h4)]
              exact wpS_pure (.inl ⟨_,_,_,rfl,rfl,m2.firstB sa sb h4 first'⟩)
            · rw [if_neg (by simpa using h4)]
              refine wpS_bind (av ea2 ?_)
              refine wpS_bind (aZ (st:=setG st gg) hk hB (by lia) (by lia) (fun i j h6 h7=>sb _ _ (by lia) (by lia)) fun k2 k2n low2 high2=>?_)
              simp only [Nat.zero_add] at low2 high2
              dsimp only
              by_cases hk2:nb - 1 - k2 > 0
              · rw [if_pos hk2]
                have m2':=Mh.takeB sa sb (nb - 1 - k2) m2 k2 (by lia) (fun i hi hj _=>Int.not_lt.mp (of_decide_eq_false (high2 i hi hj)))
                by_cases h8:k2=1
                · rw [if_pos (by simpa using h8)]
                  exact wpS_pure (.inl ⟨_,_,_,rfl,rfl,m2'.firstB sa sb h8 first'⟩)
                · rw [if_neg (by simpa using h8)]
                  by_cases h9:k2=0
                  · rw [if_pos (by simpa using h9)]
                    exact wpS_pure (.inl ⟨_,_,_,rfl,rfl,m2'.doneB sa sb h9⟩)
                  · rw [if_neg (by simpa using h9)]
                    have m3:Mh a b _ (na - 1) (k2):=Mh.pushA (na:=na - 1) (by rw [show na - 1+1=na by lia]; exact m2') sa sb ea2 (fun z=>Int.le_of_lt (of_decide_eq_true (low2 (k2 - 1) (by lia))))
                    refine wpS_bind (av ea2 ?_)
                    by_cases h5:na - 1=0
                    · rw [if_pos (by simpa using h5)]
                      exact wpS_pure (.inl ⟨_,_,_,rfl,rfl,m3.doneA sa sb h5⟩)
                    · rw [if_neg (by simpa using h5)]
                      split
                      · exact wpS_pure (.inr ⟨_,_,_,_,_,_,_,rfl,rfl,m3,by lia,by lia,by lia⟩)
                      · exact wpS_pure ⟨_,_,_,_,_,_,_,rfl,rfl,m3,by lia,by lia,by lia⟩
              · rw [if_neg hk2]
                have m3:Mh a b _ (na - 1) (nb - 1):=Mh.pushA (na:=na - 1) (by rw [show na - 1+1=na by lia]; exact m2) sa sb ea2 (fun z=>Int.le_of_lt (of_decide_eq_true (low2 (nb - 1 - 1) (by lia))))
                refine wpS_bind (av ea2 ?_)
                by_cases h5:na - 1=0
                · rw [if_pos (by simpa using h5)]
                  exact wpS_pure (.inl ⟨_,_,_,rfl,rfl,m3.doneA sa sb h5⟩)
                · rw [if_neg (by simpa using h5)]
                  split
                  · exact wpS_pure (.inr ⟨_,_,_,_,_,_,_,rfl,rfl,m3,by lia,by lia,by lia⟩)
                  · exact wpS_pure ⟨_,_,_,_,_,_,_,rfl,rfl,m3,by lia,by lia,by lia⟩
end
theorem nt:∀ (l:List Keyed) (n:Nat) (xs:Array Keyed) (pos:Nat),pos+n+l.length<=xs.size->((l.zipIdx n).foldl (fun a x=>a.setIfInBounds (pos+x.2) x.1) xs).toList=xs.toList.take (pos+n)++(l++xs.toList.drop (pos+n+l.length))
  | [],n,xs,pos,h=>by simp
  | p::l,n,xs,pos,h=>by
    have hl:(p::l).length=l.length+1:=rfl
    rw [hl] at h |-
    rw [List.zipIdx_cons,List.foldl_cons]
    have ih:=nt l (n+1) (xs.setIfInBounds (pos+n) p) pos (by rw [Array.size_setIfInBounds]; lia)
    rw [ih,Array.toList_setIfInBounds]
    have hlen:xs.toList.length=xs.size:=by simp
    rw [show pos+(n+1)=pos+n+1 by lia,List.take_set,List.drop_set_of_lt (by lia)]
    rw [List.take_succ_eq_append_getElem (by lia),List.set_append_right _ _ (by rw [List.length_take]; lia)]
    rw [show pos+n - (xs.toList.take (pos+n)).length=0 by rw [List.length_take]; lia]
    show (xs.toList.take (pos+n)++[p])++(l++_)=_
    rw [List.append_assoc,show pos+n+1+l.length=pos+n+(l.length+1) by lia]
    rfl
theorem gc {xs:Array Keyed} {lo m:Nat} {z:Keyed} (h:z∈(xs.toList.drop lo).take m):∃ i,lo<=i/\i < lo+m/\i < xs.size/\key z=K xs i:=by
  obtain ⟨j,hj⟩:=List.getElem?_of_mem h
  have hjl:=(List.getElem?_eq_some_iff.mp hj).1
  rw [List.length_take,List.length_drop] at hjl
  have hlen:xs.toList.length=xs.size:=by simp
  rw [List.getElem?_take_of_lt (by lia),List.getElem?_drop] at hj
  refine ⟨lo+j,by lia,by lia,by lia,?_⟩
  rw [gM (p:=z) (by rw [<- Array.getElem?_toList]; exact hj)]
theorem oR {xs:Array Keyed} {lo m:Nat} (h:∀ i j,lo<=i->i<=j->j < lo+m->j < xs.size->K xs i<=K xs j):(((xs.toList.drop lo).take m).map key).Pairwise (·<=·):=by
  rw [List.pairwise_iff_getElem]
  intro p q hp hq hpq
  have hlen:xs.toList.length=xs.size:=by simp
  have hq':=hq
  rw [List.length_map,List.length_take,List.length_drop] at hq'
  have e:∀ r (hr:r < (((xs.toList.drop lo).take m).map key).length),(((xs.toList.drop lo).take m).map key)[r]=K xs (lo+r):=by
    intro r hr
    have hr':=hr
    rw [List.length_map,List.length_take,List.length_drop] at hr'
    rw [List.getElem_map,List.getElem_take,List.getElem_drop]
    have hz:lo+r < xs.size:=by lia
    rw [gM (p:=xs[lo+r]) (Array.getElem?_eq_getElem hz)]
    rfl
  rw [e p hp,e q hq]
  exact h _ _ (by lia) (by lia) (by lia) (by lia)
theorem vT {xs:Array Keyed} (h:(xs.toList.map key).Pairwise (·<=·)):bR xs:=by
  intro i j hij hj
  by_cases e:i=j
  · subst e; exact Int.le_refl _
  · rw [List.pairwise_iff_getElem] at h
    have hj':j < (xs.toList.map key).length:=by simpa using hj
    have h3:=h i j (by lia) hj' (by lia)
    rw [List.getElem_map,List.getElem_map] at h3
    rw [gM (p:=xs[i]'(by lia)) (Array.getElem?_eq_getElem _),gM (p:=xs[j]) (Array.getElem?_eq_getElem _)]
    simpa using h3
theorem jq (xs:Array Keyed) (lo hi:Nat):(xs.extract lo hi).toList=(xs.toList.drop lo).take (hi - lo):=by
  rw [Array.toList_extract,List.extract_eq_take_drop]
theorem uO {xs:Array Keyed} {lo hi i:Nat} (h:lo+i < hi) (hz:hi<=xs.size):K (xs.extract lo hi) i=K xs (lo+i):=by
  refine K_congr ?_
  rw [Array.getElem?_extract_of_lt (by lia)]
  exact (Array.getElem?_eq_getElem (by lia)).symm
theorem oj {xs:Array Keyed} (h:IntKeys xs) (lo hi:Nat):IntKeys (xs.extract lo hi):=fun p hp=>by
  rw [jq] at hp
  exact h p (List.mem_of_mem_drop (List.mem_of_mem_take hp))
section
variable {prog:Program} {w:World} {A:Around} {E:Value->Shared->Prop} {s:Shared}
theorem vp {σ:Type} {M:Model} {st st':σ} {Q:PUnit->σ->Prop} (h:Q ⟨⟩ st'):wpS M A E s (set st':StateT σ Sem PUnit) Q st:=by
  unfold wpS; rw [StateT.run_set]; exact wpAny_pure ⟨rfl,h⟩
theorem oE {st:SortSt} {Q:Bool->SortSt->Prop} {n1 n2 pw:Nat} (hk:kindOf st=oneType') (hI:IntKeys (arrOf st)) (hf:failedOf st=none) (hp:pendingOf st = #[(0,n1,pw),(n1,n2,0)]) (hz:(arrOf st).size=n1+n2) (h1:1<=n1) (h2:1<=n2)
    (s1:∀ i j,i<=j->j < n1->K (arrOf st) i<=K (arrOf st) j) (s2:∀ i j,n1<=i->i<=j->j < n1+n2->K (arrOf st) i<=K (arrOf st) j)
    (h:∀ st',failedOf st'=none->pendingOf st' = #[(0,n1+n2,pw)]->(arrOf st').Perm (arrOf st)->bR (arrOf st')->Q true st'):wpS (model prog w) A E s (mergeAt' 0) Q st:=by
  have both:∀ c:Nat,c < n1->(∀ i,i < n1->K (arrOf st) i<=K (arrOf st) n1)->bR (arrOf st):=fun c _ hc i j hij hj=>by
    rw [hz] at hj
    by_cases z1:j < n1
    · exact s1 i j hij z1
    · by_cases z2:n1<=i
      · exact s2 i j z2 hij hj
      · exact Int.le_trans (hc i (by lia)) (s2 n1 j (Nat.le_refl _) (by lia) hj)
  unfold mergeAt'
  change wpS _ _ _ _ (bind _ _) _ _
  refine wpS_bind (wpS_get ?_)
  dsimp only
  have hp':(sortPriv% PySem.Builtin.SortState.pending) st = #[(0,n1,pw),(n1,n2,0)]:=hp
  rw [hp']
  have ha':∀ z:SortSt,(sortPriv% PySem.Builtin.SortState.a) z=arrOf z:=fun _=>rfl
  simp only [ha']
  have ep:((#[(0,n1,pw),(n1,n2,0)]:Array (Nat × Nat × Nat)).setIfInBounds 0 (0,n1+n2,pw)).eraseIdxIfInBounds (0+1) = #[(0,n1+n2,pw)]:=by simp [Array.eraseIdxIfInBounds]
  show wpS _ _ _ _ (do
    set (setPending st (((#[(0,n1,pw),(n1,n2,0)]:Array (Nat × Nat × Nat)).setIfInBounds 0 (0,n1+n2,pw)).eraseIdxIfInBounds (0+1)))
    _) _ _
  rw [ep]
  refine wpS_bind (vp ?_)
  obtain ⟨tb,qb,eb⟩:=IntKeys.at hI (show n1 < (arrOf st).size by lia)
  refine wpS_bind (av eb ?_)
  refine wpS_bind (aZ (st:=setPending st #[(0,n1+n2,pw)]) hk hI (by lia) (by lia) (fun i j h6 h7=>by rw [Nat.zero_add,Nat.zero_add]; exact s1 _ _ h6 h7) fun k kn low high=>?_)
  simp only [Nat.zero_add] at low high
  dsimp only
  have lowK:∀ i,i < k->K (arrOf st) i<=K (arrOf st) n1:=fun i hi=>by have:=low i hi; unfold bJ at this; simp at this; lia
  by_cases hk0:n1 - k=0
  · rw [if_pos (by simpa using hk0)]
    exact wpS_pure (h _ hf rfl (Array.Perm.refl _) (both 0 (by lia) fun i hi=>lowK i (by lia)))
  rw [if_neg (by simpa using hk0)]
  have highK:K (arrOf st) n1 < K (arrOf st) k:=by have:=high k (Nat.le_refl _) (by lia); unfold bJ at this; simp at this; lia
  obtain ⟨ta,qa,ea⟩:=IntKeys.at hI (show n1 - 1 < (arrOf st).size by lia)
  rw [show 0+k+(n1 - k) - 1=n1 - 1 by lia]
  refine wpS_bind (av ea ?_)
  refine wpS_bind (aZ (st:=setPending st #[(0,n1+n2,pw)]) hk hI (by lia) (by lia) (fun i j h6 h7=>s2 _ _ (by lia) (by lia) (by lia)) fun nb nbn low2 high2=>?_)
  dsimp only
  by_cases hb0:nb=0
  · rw [if_pos (by simpa using hb0)]
    subst hb0
    have hh:K (arrOf st) (n1 - 1)<=K (arrOf st) n1:=Int.not_lt.mp (of_decide_eq_false (high2 0 (Nat.le_refl _) (by lia)))
    exact wpS_pure (h _ hf rfl (Array.Perm.refl _) (both 0 (by lia) fun i hi=>Int.le_trans (s1 i (n1 - 1) (by lia) (by lia)) hh))
  rw [if_neg (by simpa using hb0)]
  have lowB:∀ j,j < nb->K (arrOf st) (n1+j) < K (arrOf st) (n1 - 1):=fun j hj=>of_decide_eq_true (low2 j hj)
  have hX:=oj hI (0+k) n1
  have hY:=oj hI n1 (n1+nb)
  have zx:((arrOf st).extract (0+k) n1).size=n1 - k:=by rw [Array.size_extract]; lia
  have zy:((arrOf st).extract n1 (n1+nb)).size=nb:=by rw [Array.size_extract]; lia
  have kx:∀ i,i < n1 - k->K ((arrOf st).extract (0+k) n1) i=K (arrOf st) (k+i):=fun i hi=>by rw [uO (by lia) (by lia),Nat.zero_add]
  have ky:∀ j,j < nb->K ((arrOf st).extract n1 (n1+nb)) j=K (arrOf st) (n1+j):=fun j hj=>uO (by lia) (by lia)
  have sx:bR ((arrOf st).extract (0+k) n1):=fun i j hij hj=>by
    rw [zx] at hj
    rw [kx i (by lia),kx j hj]
    exact s1 _ _ (by lia) (by lia)
  have sy:bR ((arrOf st).extract n1 (n1+nb)):=fun i j hij hj=>by
    rw [zy] at hj
    rw [ky i (by lia),ky j hj]
    exact s2 _ _ (by lia) (by lia) (by lia)
  have fst':K ((arrOf st).extract n1 (n1+nb)) 0<=K ((arrOf st).extract (0+k) n1) 0:=by
    rw [ky 0 (by lia),kx 0 (by lia)]
    exact Int.le_of_lt highK
  have top':∀ j,j < ((arrOf st).extract n1 (n1+nb)).size->K ((arrOf st).extract n1 (n1+nb)) j<=K ((arrOf st).extract (0+k) n1) (((arrOf st).extract (0+k) n1).size - 1):=fun j hj=>by
    rw [zy] at hj
    rw [zx,ky j hj,kx _ (by lia),show k+(n1 - k - 1)=n1 - 1 by lia]
    exact Int.le_of_lt (lowB j hj)
  have done:∀ R g,Fin ((arrOf st).extract (0+k) n1) ((arrOf st).extract n1 (n1+nb)) R->Q true (setArr (setG (setPending st #[(0,n1+n2,pw)]) g) (R.toList.zipIdx.foldl (fun a x=>a.setIfInBounds (0+k+x.2) x.1) (arrOf st))):=by
    intro R g f
    have lx:((arrOf st).extract (0+k) n1).toList.length=n1 - k:=by rw [Array.length_toList]; exact zx
    have lyy:((arrOf st).extract n1 (n1+nb)).toList.length=nb:=by rw [Array.length_toList]; exact zy
    have lR:R.toList.length=n1 - k+nb:=by rw [f.1.length_eq,List.length_append,lx,lyy]
    have e1:=nt R.toList 0 (arrOf st) (0+k) (by rw [lR]; lia)
    rw [lR,show 0+k+0=k by lia,show k+(n1 - k+nb)=n1+nb by lia] at e1
    have ex:=jq (arrOf st) (0+k) n1
    have ey:=jq (arrOf st) n1 (n1+nb)
    rw [show n1+nb - n1=nb by lia] at ey
    rw [Nat.zero_add] at ex
    have e2:(arrOf st).toList=(arrOf st).toList.take k++((((arrOf st).toList.drop k).take (n1 - k)++((arrOf st).toList.drop n1).take nb)++(arrOf st).toList.drop (n1+nb)):=by
      rw [List.append_assoc]
      conv=>lhs; rw [<- List.take_append_drop k (arrOf st).toList]
      congr 1
      conv=>lhs; rw [<- List.take_append_drop (n1 - k) ((arrOf st).toList.drop k)]
      rw [List.drop_drop,show k+(n1 - k)=n1 by lia]
      congr 1
      conv=>lhs; rw [<- List.take_append_drop nb ((arrOf st).toList.drop n1)]
      rw [List.drop_drop]
    have fp:=f.1
    rw [Nat.zero_add,ex,ey] at fp
    refine h _ hf rfl ?_ (vT ?_)
    · refine Array.perm_iff_toList_perm.mpr ?_
      show (R.toList.zipIdx.foldl (fun a x=>a.setIfInBounds (0+k+x.2) x.1) (arrOf st)).toList.Perm _
      rw [e1]
      conv=>rhs; rw [e2]
      exact List.Perm.append_left _ (List.Perm.append_right _ fp)
    · show ((R.toList.zipIdx.foldl (fun a x=>a.setIfInBounds (0+k+x.2) x.1) (arrOf st)).toList.map key).Pairwise _
      rw [e1,List.map_append,List.map_append,List.pairwise_append,List.pairwise_append]
      have pP:(((arrOf st).toList.take k).map key).Pairwise (·<=·):=by
        have:=oR (xs:=arrOf st) (lo:=0) (m:=k) (fun i j _ hij hj _=>s1 i j hij (by lia))
        rw [List.drop_zero] at this
        exact this
      have hlen:(arrOf st).toList.length=n1+n2:=by simpa using hz
      have eS:(arrOf st).toList.drop (n1+nb)=((arrOf st).toList.drop (n1+nb)).take (n1+n2):=by rw [List.take_of_length_le (by rw [List.length_drop]; lia)]
      have pS:(((arrOf st).toList.drop (n1+nb)).map key).Pairwise (·<=·):=by
        rw [eS]
        exact oR (fun i j hi hij _ hj=>s2 i j (by lia) hij (by lia))
      have inR:∀ z∈R.toList,(∃ i,k<=i/\i < n1/\key z=K (arrOf st) i)\/∃ j,n1<=j/\j < n1+nb/\key z=K (arrOf st) j:=fun z hz'=>by
        have:=fp.mem_iff.mp hz'
        rw [List.mem_append] at this
        rcases this with this | this
        · obtain ⟨i,a1,a2,_,a4⟩:=gc this
          exact .inl ⟨i,a1,by lia,a4⟩
        · obtain ⟨i,a1,a2,_,a4⟩:=gc this
          exact .inr ⟨i,a1,a2,a4⟩
      have inP:∀ z∈(arrOf st).toList.take k,∃ i,i < k/\key z=K (arrOf st) i:=fun z hz'=>by
        obtain ⟨i,_,a2,_,a4⟩:=gc (lo:=0) (m:=k) (by rw [List.drop_zero]; exact hz')
        exact ⟨i,by lia,a4⟩
      have inS:∀ z∈(arrOf st).toList.drop (n1+nb),∃ i,n1+nb<=i/\i < n1+n2/\key z=K (arrOf st) i:=fun z hz'=>by
        rw [eS] at hz'
        obtain ⟨i,a1,_,a3,a4⟩:=gc hz'
        exact ⟨i,a1,by lia,a4⟩
      have RS:∀ x∈R.toList.map key,∀ y∈((arrOf st).toList.drop (n1+nb)).map key,x<=y:=by
        intro x hx y hy
        obtain ⟨p,hp',rfl⟩:=List.mem_map.mp hx
        obtain ⟨q,hq',rfl⟩:=List.mem_map.mp hy
        obtain ⟨j,j1,j2,ej⟩:=inS q hq'
        rw [ej]
        have hh:K (arrOf st) (n1 - 1)<=K (arrOf st) (n1+nb):=by
          exact Int.not_lt.mp (of_decide_eq_false (high2 nb (Nat.le_refl _) (by lia)))
        rcases inR p hp' with ⟨i,i1,i2,ei⟩ | ⟨i,i1,i2,ei⟩
        · rw [ei]
          exact Int.le_trans (s1 i (n1 - 1) (by lia) (by lia)) (Int.le_trans hh (s2 _ _ (by lia) j1 j2))
        · rw [ei]
          exact s2 _ _ i1 (by lia) j2
      refine ⟨pP,⟨f.2,pS,RS⟩,fun x hx y hy=>?_⟩
      obtain ⟨p,hp',rfl⟩:=List.mem_map.mp hx
      obtain ⟨i,i1,ei⟩:=inP p hp'
      rw [ei]
      rw [List.mem_append] at hy
      rcases hy with hy | hy
      · obtain ⟨q,hq',rfl⟩:=List.mem_map.mp hy
        rcases inR q hq' with ⟨j,j1,j2,ej⟩ | ⟨j,j1,j2,ej⟩
        · rw [ej]; exact s1 _ _ (by lia) j2
        · rw [ej]; exact Int.le_trans (lowK i i1) (s2 _ _ (Nat.le_refl _) j1 (by lia))
      · obtain ⟨q,hq',rfl⟩:=List.mem_map.mp hy
        obtain ⟨j,j1,j2,ej⟩:=inS q hq'
        rw [ej]
        exact Int.le_trans (lowK i i1) (s2 _ _ (Nat.le_refl _) (by lia) j2)
  by_cases hle:n1 - k<=nb
  · rw [if_pos hle]
    refine wpS_bind (oJ (st:=setPending st #[(0,n1+n2,pw)]) hk hX hY sx sy (by lia) (by lia) fst' top' fun R g f=>?_)
    refine wpS_bind (wpS_modify ?_)
    refine wpS_bind (wpS_get ?_)
    refine wpS_pure ?_
    have ef:(failedOf (setArr (setG (setPending st #[(0,n1+n2,pw)]) g) (R.toList.zipIdx.foldl (fun a x=>a.setIfInBounds (0+k+x.2) x.1) (arrOf st)))).isNone=true:=by
      show (failedOf st).isNone=true
      rw [hf]; rfl
    show Q (failedOf (setArr (setG (setPending st #[(0,n1+n2,pw)]) g) (R.toList.zipIdx.foldl (fun a x=>a.setIfInBounds (0+k+x.2) x.1) (arrOf st)))).isNone _
    rw [ef]
    exact done R g f
  · rw [if_neg hle]
    refine wpS_bind (oC (st:=setPending st #[(0,n1+n2,pw)]) hk hX hY sx sy (by lia) (by lia) fst' top' fun R g f=>?_)
    refine wpS_bind (wpS_modify ?_)
    refine wpS_bind (wpS_get ?_)
    refine wpS_pure ?_
    have ef:(failedOf (setArr (setG (setPending st #[(0,n1+n2,pw)]) g) (R.toList.zipIdx.foldl (fun a x=>a.setIfInBounds (0+k+x.2) x.1) (arrOf st)))).isNone=true:=by
      show (failedOf st).isNone=true
      rw [hf]; rfl
    show Q (failedOf (setArr (setG (setPending st #[(0,n1+n2,pw)]) g) (R.toList.zipIdx.foldl (fun a x=>a.setIfInBounds (0+k+x.2) x.1) (arrOf st)))).isNone _
    rw [ef]
    exact done R g f
end
structure SB (a₀:Array Keyed) (P:Array (Nat × Nat × Nat)) (st:SortSt):Prop where
  perm:(arrOf st).Perm a₀
  kind:kindOf st=oneType'
  failed:failedOf st=none
  pend:pendingOf st=P
theorem SB.size {a₀:Array Keyed} {P:Array (Nat × Nat × Nat)} {st:SortSt} (h:SB a₀ P st):(arrOf st).size=a₀.size:=h.perm.size_eq
theorem SB.keys {a₀:Array Keyed} {P:Array (Nat × Nat × Nat)} {st:SortSt} (h:SB a₀ P st) (h0:IntKeys a₀):IntKeys (arrOf st):=fun p hp=>h0 p ((Array.perm_iff_toList_perm.mp h.perm).mem_iff.mp hp)
theorem SB.put {a₀:Array Keyed} {P:Array (Nat × Nat × Nat)} {st:SortSt} (h:SB a₀ P st) {xs:Array Keyed} (hp:xs.Perm (arrOf st)):SB a₀ P (setArr st xs):=⟨hp.trans h.perm,h.kind,h.failed,h.pend⟩
def SF (xs:Array Keyed) (lo k:Nat):Prop:=∀ i j,lo<=i->i<=j->j < lo+k->K xs i<=K xs j
section
variable {prog:Program} {w:World} {A:Around} {E:Value->Shared->Prop} {s:Shared} {a₀:Array Keyed} {P:Array (Nat × Nat × Nat)}
theorem cL {st:SortSt} {i j:Nat} {Q:Option Bool->SortSt->Prop} (hB:SB a₀ P st) (h0:IntKeys a₀) (hi:i < a₀.size) (hj:j < a₀.size)
    (h:Q (some (decide (K (arrOf st) i < K (arrOf st) j))) st):wpS (model prog w) A E s (ltAt' i j) Q st:=by
  have hz:=hB.size
  obtain ⟨t,p,e1⟩:=IntKeys.at (hB.keys h0) (show i < (arrOf st).size by lia)
  obtain ⟨u,q,e2⟩:=IntKeys.at (hB.keys h0) (show j < (arrOf st).size by lia)
  exact wpS_ltAt hB.kind e1 e2 h
theorem mK {st:SortSt} {lo n ok:Nat} {Q:Bool->SortSt->Prop} (h0:IntKeys a₀) (hn:lo+n<=a₀.size) (hok:ok<=n) (hB:SB a₀ P st) (hs:SF (arrOf st) lo ok)
    (h:∀ st',SB a₀ P st'->SF (arrOf st') lo n->(∀ i,i < lo->K (arrOf st') i=K (arrOf st) i)->Q true st'):wpS (model prog w) A E s (binarySort' lo n ok) Q st:=by
  rw [binarySort'_eq]
  refine wpS_bind (wpS_mono (wpS_forRange (I:=fun k c st'=>c=(none,())/\SB a₀ P st'/\SF (arrOf st') lo (min k n)/\∀ i,i < lo->K (arrOf st') i=K (arrOf st) i)
    (Q:=fun c st'=>c=(none,())/\SB a₀ P st'/\SF (arrOf st') lo n/\∀ i,i < lo->K (arrOf st') i=K (arrOf st) i) ?step ?fin ?init) ?post)
  case post =>
    rintro c st' ⟨rfl,b1,b2,b3⟩
    exact wpS_pure (h st' b1 b2 b3)
  case init =>
    refine ⟨rfl,hB,fun i j hi hij hj=>?_,fun _ _=>rfl⟩
    by_cases h1:ok=0
    · have:i=j:=by lia
      subst this; exact Int.le_refl _
    · exact hs i j hi hij (by lia)
  case fin =>
    rintro c st' ⟨b0,b1,b2,b3⟩
    refine ⟨b0,b1,?_,b3⟩
    rwa [show min (max (max ok 1) n) n=n by lia] at b2
  case step =>
    rintro k c st' hak hkn ⟨rfl,b1,b2,b3⟩
    rw [show min k n=k by lia] at b2
    refine wpS_bind (wpS_mono (wpS_forRange (I:=fun x c st''=>st''=st'/\∃ l r,c=(none,l,r)/\l<=r/\r<=k/\r - l<=k - x /\
        (∀ i,i < l->K (arrOf st') (lo+i)<=K (arrOf st') (lo+k))/\(∀ i,r<=i->i < k->K (arrOf st') (lo+k) < K (arrOf st') (lo+i)))
      (Q:=fun c st''=>st''=st'/\∃ l r,c=(none,l,r)/\l<=k /\
        (∀ i,i < l->K (arrOf st') (lo+i)<=K (arrOf st') (lo+k))/\(∀ i,l<=i->i < k->K (arrOf st') (lo+k) < K (arrOf st') (lo+i))) ?istep ?ifin ?iinit) ?ipost)
    case iinit=>exact ⟨rfl,0,k,rfl,by lia,by lia,by lia,fun i hi=>by lia,fun i h1 h2=>by lia⟩
    case ifin =>
      rintro c st'' ⟨rfl,l,r,rfl,h1,h2,h3,h4,h5⟩
      have:l=r:=by lia
      subst this
      exact ⟨rfl,l,l,rfl,h2,h4,h5⟩
    case istep =>
      rintro x c st'' _ hxk ⟨rfl,l,r,rfl,h1,h2,h3,h4,h5⟩
      dsimp only
      by_cases hge:l ≥ r
      · rw [if_pos hge]
        have:l=r:=by lia
        subst this
        exact wpS_pure ⟨rfl,l,l,rfl,h2,h4,h5⟩
      · rw [if_neg hge]
        refine wpS_bind (cL b1 h0 (by lia) (by lia) ?_)
        by_cases hl:K (arrOf st'') (lo+k) < K (arrOf st'') (lo+(l+r) / 2)
        · simp only [hl,decide_true,if_true]
          refine wpS_pure ⟨rfl,l,(l+r) / 2,rfl,by lia,by lia,by lia,h4,fun i h6 h7=>?_⟩
          exact Int.lt_of_lt_of_le hl (b2 _ _ (by lia) (by lia) (by lia))
        · simp only [hl,decide_false,Bool.false_eq_true,if_false]
          refine wpS_pure ⟨rfl,(l+r) / 2+1,r,rfl,by lia,by lia,by lia,fun i h6=>?_,h5⟩
          exact Int.le_trans (b2 (lo+i) (lo+(l+r) / 2) (by lia) (by lia) (by lia)) (Int.not_lt.mp hl)
    case ipost =>
      rintro c st'' ⟨rfl,l,r,rfl,hlk,h4,h5⟩
      show wpS _ _ _ _ (do moveDown' (lo+k) (lo+l); pure (ForInStep.yield (none,()))) _ _
      rw [moveDown'_eq]
      have hks:lo+k < (arrOf st'').size:=by rw [b1.size]; lia
      have kb:∀ i,K (bubble (arrOf st'') (lo+k) (lo+k - (lo+l))) i=if i=lo+l then K (arrOf st'') (lo+k) else if lo+l < i/\i<=lo+k then K (arrOf st'') (i - 1) else K (arrOf st'') i:=fun i=>by
        rw [K_bubble hks (by lia),show lo+k - (lo+k - (lo+l))=lo+l by lia]
      refine wpS_bind (wpS_modify (wpS_pure ⟨rfl,b1.put (bubble_perm _ _ _),?_,fun i hi=>?_⟩))
      · rw [show min (k+1) n=k+1 by lia]
        intro i j hi hij hj
        show K (bubble (arrOf st'') (lo+k) (lo+k - (lo+l))) i<=K (bubble (arrOf st'') (lo+k) (lo+k - (lo+l))) j
        have h4':∀ i,lo<=i->i < lo+l->K (arrOf st'') i<=K (arrOf st'') (lo+k):=fun i z1 z2=>by
          have:=h4 (i - lo) (by lia)
          rwa [show lo+(i - lo)=i by lia] at this
        have h5':∀ i,lo+l<=i->i < lo+k->K (arrOf st'') (lo+k) < K (arrOf st'') i:=fun i z1 z2=>by
          have:=h5 (i - lo) (by lia) (by lia)
          rwa [show lo+(i - lo)=i by lia] at this
        rw [kb,kb]
        repeat' split
        all_goals first
          | (exfalso; lia)
          | exact Int.le_refl _
          | exact h4' _ (by lia) (by lia)
          | exact Int.le_of_lt (h5' _ (by lia) (by lia))
          | exact b2 _ _ (by lia) (by lia) (by lia)
      · show K (bubble (arrOf st'') (lo+k) (lo+k - (lo+l))) i=_
        rw [kb,if_neg (by lia),if_neg (by lia)]
        exact b3 i hi
end
def ND (xs:Array Keyed) (lo k:Nat):Prop:=∀ i j,lo<=i->i<=j->j < lo+k->K xs j<=K xs i
theorem SF.more {xs:Array Keyed} {lo k:Nat} (h:SF xs lo k) (hk:1<=k) (e:K xs (lo+k - 1)<=K xs (lo+k)):SF xs lo (k+1):=fun i j hi hij hj=>by
  by_cases z:j < lo+k
  · exact h i j hi hij z
  · have:j=lo+k:=by lia
    subst this
    by_cases z2:i=lo+k
    · subst z2; exact Int.le_refl _
    · exact Int.le_trans (h i (lo+k - 1) hi (by lia) (by lia)) e
theorem ND.more {xs:Array Keyed} {lo k:Nat} (h:ND xs lo k) (hk:1<=k) (e:K xs (lo+k)<=K xs (lo+k - 1)):ND xs lo (k+1):=fun i j hi hij hj=>by
  by_cases z:j < lo+k
  · exact h i j hi hij z
  · have:j=lo+k:=by lia
    subst this
    by_cases z2:i=lo+k
    · subst z2; exact Int.le_refl _
    · exact Int.le_trans e (h i (lo+k - 1) hi (by lia) (by lia))
section
variable {prog:Program} {w:World} {A:Around} {E:Value->Shared->Prop} {s:Shared} {a₀:Array Keyed} {P:Array (Nat × Nat × Nat)}
theorem n8 {st:SortSt} {lo nrem:Nat} {Q:Option Nat->SortSt->Prop} (h0:IntKeys a₀) (hn:lo+nrem<=a₀.size) (h1:1<=nrem) (hB:SB a₀ P st)
    (h:∀ m st',SB a₀ P st'->1<=m->m<=nrem->SF (arrOf st') lo m->(∀ i,i < lo->K (arrOf st') i=K (arrOf st) i)->Q (some m) st'):wpS (model prog w) A E s (countRun' lo nrem) Q st:=by
  have one:SF (arrOf st) lo 1:=fun i j hi hij hj=>by
    have:i=j:=by lia
    subst this; exact Int.le_refl _
  rw [countRun'_eq]
  dsimp only
  refine wpS_bind (wpS_mono (wpS_forRange (I:=fun x c st'=>st=st'/\c=(none,x)/\SF (arrOf st) lo x)
    (Q:=fun c st'=>st=st'/\∃ mm,c=(none,mm)/\1<=mm/\mm<=nrem/\SF (arrOf st) lo mm/\(mm=nrem\/K (arrOf st) (lo+mm) < K (arrOf st) (lo+mm - 1))) ?_ ?_ ⟨rfl,rfl,one⟩) ?_)
  · rintro x c st9 hax hxn ⟨rfl,rfl,hs⟩
    dsimp only
    refine wpS_bind (cL hB h0 (by lia) (by lia) ?_)
    by_cases hl:K (arrOf st) (lo+x) < K (arrOf st) (lo+x - 1)
    · simp only [hl,decide_true,if_true]
      exact wpS_pure ⟨rfl,x,rfl,hax,by lia,hs,.inr hl⟩
    · simp only [hl,decide_false,Bool.false_eq_true,if_false]
      exact wpS_pure ⟨rfl,rfl,SF.more hs (by lia) (Int.not_lt.mp hl)⟩
  · rintro c st9 ⟨rfl,rfl,hs⟩
    rw [show max 1 nrem=nrem by lia] at hs |-
    exact ⟨rfl,nrem,rfl,by lia,Nat.le_refl _,hs,.inl rfl⟩
  rintro c st7 ⟨rfl,n,rfl,n1,n2,sn,hor⟩
  dsimp only
  by_cases hnn:n=nrem
  · rw [if_pos (by simpa using hnn)]
    exact wpS_pure (h n _ hB n1 n2 sn fun _ _=>rfl)
  rw [if_neg (by simpa using hnn)]
  have hlt:K (arrOf st) (lo+n) < K (arrOf st) (lo+n - 1):=hor.resolve_left hnn
  by_cases hgt:n > 1
  · rw [if_pos hgt]
    refine wpS_bind (cL hB h0 (by lia) (by lia) ?_)
    by_cases hr:K (arrOf st) lo < K (arrOf st) (lo+n - 1)
    · simp only [hr,decide_true,if_true]
      exact wpS_pure (h n _ hB n1 n2 sn fun _ _=>rfl)
    · simp only [hr,decide_false,Bool.false_eq_true,if_false]
      have hsz:lo+n<=(arrOf st).size:=by rw [hB.size]; lia
      have hall:∀ k,lo<=k->k < lo+n->K (arrOf st) k=K (arrOf st) (lo+n - 1):=fun k k1 k2=>by
        have a1:=sn lo k (Nat.le_refl _) k1 k2
        have a2:=sn k (lo+n - 1) k1 (by lia) (by lia)
        lia
      have ke:=K_mirror_equal (i:=lo) hsz hall
      refine wpS_bind (wpS_reverse ?_)
      have d1:SB a₀ P (setArr st (mirror (arrOf st) lo (lo+n) ((lo+n - lo) / 2))):=hB.put (mirror_perm _ _ _ _)
      have d2:ND (arrOf (setArr st (mirror (arrOf st) lo (lo+n) ((lo+n - lo) / 2)))) lo (n+1):=fun i j hi hij hj=>by
        show K (mirror (arrOf st) _ _ _) j<=K (mirror (arrOf st) _ _ _) i
        rw [ke,ke]
        by_cases hjn:j < lo+n
        · rw [hall i hi (by lia),hall j (by lia) hjn]; exact Int.le_refl _
        · have:j=lo+n:=by lia
          subst this
          by_cases z2:i=lo+n
          · subst z2; exact Int.le_refl _
          · rw [hall i hi (by lia)]; exact Int.le_of_lt hlt
      have d3:∀ i,i < lo->K (arrOf (setArr st (mirror (arrOf st) lo (lo+n) ((lo+n - lo) / 2)))) i=K (arrOf st) i:=fun i hi=>ke i
      generalize setArr st (mirror (arrOf st) lo (lo+n) ((lo+n - lo) / 2))=st3 at d1 d2 d3 |-
      refine wpS_bind (wpS_lift (wpAny_rule ⟨rfl,?_⟩))
      refine wpS_bind (wpS_mono (wpS_forRange (I:=fun x c st'=>∃ neq,c=(none,x,neq)/\SB a₀ P st'/\ND (arrOf st') lo x/\neq+1<=x/\(∀ i,lo+x - (neq+1)<=i->i < lo+x->K (arrOf st') i=K (arrOf st') (lo+x - 1))/\∀ i,i < lo->K (arrOf st') i=K (arrOf st) i)
        (Q:=fun c st'=>∃ m neq,c=(none,m,neq)/\n+1<=m/\m<=nrem/\SB a₀ P st'/\ND (arrOf st') lo m/\neq+1<=m/\(∀ i,lo+m - (neq+1)<=i->i < lo+m->K (arrOf st') i=K (arrOf st') (lo+m - 1))/\∀ i,i < lo->K (arrOf st') i=K (arrOf st) i) ?_ ?_ ⟨0,rfl,d1,d2,by lia,(fun i h1 h2=>by congr 1; lia),d3⟩) ?_)
      · rintro x c st8 hax hxn ⟨neq,rfl,c1,c2,c3,c4,c5⟩
        dsimp only
        have hsz:lo+x<=(arrOf st8).size:=by rw [c1.size]; lia
        refine wpS_bind (cL c1 h0 (by lia) (by lia) ?_)
        by_cases hl:K (arrOf st8) (lo+x) < K (arrOf st8) (lo+x - 1)
        · simp only [hl,decide_true,if_true]
          by_cases hq:neq > 0
          · rw [if_pos hq]
            have ke:=K_mirror_equal (i:=lo+x - (neq+1)) hsz c4
            refine wpS_bind (wpS_reverse (wpS_pure ⟨0,rfl,c1.put (mirror_perm _ _ _ _),?_,by lia,(fun i h1 h2=>by congr 1; lia),fun i hi=>?_⟩))
            · intro i j hi hij hj
              show K (mirror (arrOf st8) _ _ _) j<=K (mirror (arrOf st8) _ _ _) i
              rw [ke,ke]
              exact ND.more c2 (by lia) (Int.le_of_lt hl) i j hi hij hj
            · show K (mirror (arrOf st8) _ _ _) i=_
              rw [ke]
              exact c5 i hi
          · rw [if_neg hq]
            exact wpS_pure ⟨0,rfl,c1,ND.more c2 (by lia) (Int.le_of_lt hl),by lia,(fun i h1 h2=>by congr 1; lia),c5⟩
        · simp only [hl,decide_false,Bool.false_eq_true,if_false]
          refine wpS_bind (cL c1 h0 (by lia) (by lia) ?_)
          by_cases hg:K (arrOf st8) (lo+x - 1) < K (arrOf st8) (lo+x)
          · simp only [hg,decide_true,if_true]
            exact wpS_pure ⟨x,neq,rfl,hax,by lia,c1,c2,c3,c4,c5⟩
          · simp only [hg,decide_false,Bool.false_eq_true,if_false]
            have he:K (arrOf st8) (lo+x)=K (arrOf st8) (lo+x - 1):=by lia
            refine wpS_pure ⟨neq+1,rfl,c1,ND.more c2 (by lia) (Int.le_of_eq he),by lia,(fun i h1 h2=>?_),c5⟩
            rw [show lo+(x+1) - 1=lo+x by lia]
            by_cases hix:i=lo+x
            · rw [hix]
            · rw [he]; exact c4 i (by lia) (by lia)
      · rintro c st8 ⟨neq,rfl,c1,c2,c3,c4,c5⟩
        rw [show max (n+1) nrem=nrem by lia] at c2 c3 c4 |-
        exact ⟨nrem,neq,rfl,by lia,Nat.le_refl _,c1,c2,c3,c4,c5⟩
      rintro c st4 ⟨m,neq,rfl,hm1,hm2,c1,c2,c3,c4,c5⟩
      dsimp only
      by_cases hq:neq > 0
      · rw [if_pos hq]
        have hsz4:lo+m<=(arrOf st4).size:=by rw [c1.size]; lia
        have ke:=K_mirror_equal (i:=lo+m - (neq+1)) hsz4 c4
        refine wpS_bind (wpS_reverse ?_)
        have d1:SB a₀ P (setArr st4 (mirror (arrOf st4) (lo+m - (neq+1)) (lo+m) ((lo+m - (lo+m - (neq+1))) / 2))):=c1.put (mirror_perm _ _ _ _)
        have d2:ND (arrOf (setArr st4 (mirror (arrOf st4) (lo+m - (neq+1)) (lo+m) ((lo+m - (lo+m - (neq+1))) / 2)))) lo m:=fun i j hi hij hj=>by
          show K (mirror (arrOf st4) _ _ _) j<=K (mirror (arrOf st4) _ _ _) i
          rw [ke,ke]
          exact c2 i j hi hij hj
        have d3:∀ i,i < lo->K (arrOf (setArr st4 (mirror (arrOf st4) (lo+m - (neq+1)) (lo+m) ((lo+m - (lo+m - (neq+1))) / 2)))) i=K (arrOf st) i:=fun i hi=>by
          show K (mirror (arrOf st4) _ _ _) i=_
          rw [ke]
          exact c5 i hi
        generalize setArr st4 (mirror (arrOf st4) (lo+m - (neq+1)) (lo+m) ((lo+m - (lo+m - (neq+1))) / 2))=st6 at d1 d2 d3 |-
        have hsz:lo+m<=(arrOf st6).size:=by rw [d1.size]; lia
        refine wpS_bind (wpS_reverse ?_)
        have q1:SB a₀ P (setArr st6 (mirror (arrOf st6) lo (lo+m) ((lo+m - lo) / 2))):=d1.put (mirror_perm _ _ _ _)
        have q2:SF (arrOf (setArr st6 (mirror (arrOf st6) lo (lo+m) ((lo+m - lo) / 2)))) lo m:=fun i j hi hij hj=>by
          show K (mirror (arrOf st6) lo (lo+m) ((lo+m - lo) / 2)) i<=K (mirror (arrOf st6) lo (lo+m) ((lo+m - lo) / 2)) j
          rw [K_mirror hsz,K_mirror hsz,if_pos (by lia),if_pos (by lia)]
          exact d2 _ _ (by lia) (by lia) (by lia)
        have q3:∀ i,i < lo->K (arrOf (setArr st6 (mirror (arrOf st6) lo (lo+m) ((lo+m - lo) / 2)))) i=K (arrOf st) i:=fun i hi=>by
          show K (mirror (arrOf st6) lo (lo+m) ((lo+m - lo) / 2)) i=_
          rw [K_mirror hsz,if_neg (by lia)]
          exact d3 i hi
        generalize setArr st6 (mirror (arrOf st6) lo (lo+m) ((lo+m - lo) / 2))=st5 at q1 q2 q3 |-
        refine wpS_bind (wpS_mono (wpS_forRange (I:=fun x c st'=>st5=st'/\c=(none,x)/\SF (arrOf st5) lo x)
          (Q:=fun c st'=>st5=st'/\∃ mm,c=(none,mm)/\m<=mm/\mm<=nrem/\SF (arrOf st5) lo mm/\(mm=nrem\/K (arrOf st5) (lo+mm) < K (arrOf st5) (lo+mm - 1))) ?_ ?_ ⟨rfl,rfl,q2⟩) ?_)
        · rintro x c st8 hax hxn ⟨rfl,rfl,hs⟩
          dsimp only
          refine wpS_bind (cL q1 h0 (by lia) (by lia) ?_)
          by_cases hl:K (arrOf st5) (lo+x) < K (arrOf st5) (lo+x - 1)
          · simp only [hl,decide_true,if_true]
            exact wpS_pure ⟨rfl,x,rfl,hax,by lia,hs,.inr hl⟩
          · simp only [hl,decide_false,Bool.false_eq_true,if_false]
            exact wpS_pure ⟨rfl,rfl,SF.more hs (by lia) (Int.not_lt.mp hl)⟩
        · rintro c st9 ⟨rfl,rfl,hs⟩
          rw [show max m nrem=nrem by lia] at hs |-
          exact ⟨rfl,nrem,rfl,by lia,Nat.le_refl _,hs,.inl rfl⟩
        rintro c st9 ⟨rfl,m',rfl,g1,g2,g3,_⟩
        exact wpS_pure (h m' _ q1 (by lia) g2 g3 q3)
      · rw [if_neg hq]
        have hsz:lo+m<=(arrOf st4).size:=by rw [c1.size]; lia
        refine wpS_bind (wpS_reverse ?_)
        have q1:SB a₀ P (setArr st4 (mirror (arrOf st4) lo (lo+m) ((lo+m - lo) / 2))):=c1.put (mirror_perm _ _ _ _)
        have q2:SF (arrOf (setArr st4 (mirror (arrOf st4) lo (lo+m) ((lo+m - lo) / 2)))) lo m:=fun i j hi hij hj=>by
          show K (mirror (arrOf st4) lo (lo+m) ((lo+m - lo) / 2)) i<=K (mirror (arrOf st4) lo (lo+m) ((lo+m - lo) / 2)) j
          rw [K_mirror hsz,K_mirror hsz,if_pos (by lia),if_pos (by lia)]
          exact c2 _ _ (by lia) (by lia) (by lia)
        have q3:∀ i,i < lo->K (arrOf (setArr st4 (mirror (arrOf st4) lo (lo+m) ((lo+m - lo) / 2)))) i=K (arrOf st) i:=fun i hi=>by
          show K (mirror (arrOf st4) lo (lo+m) ((lo+m - lo) / 2)) i=_
          rw [K_mirror hsz,if_neg (by lia)]
          exact c5 i hi
        generalize setArr st4 (mirror (arrOf st4) lo (lo+m) ((lo+m - lo) / 2))=st5 at q1 q2 q3 |-
        refine wpS_bind (wpS_mono (wpS_forRange (I:=fun x c st'=>st5=st'/\c=(none,x)/\SF (arrOf st5) lo x)
          (Q:=fun c st'=>st5=st'/\∃ mm,c=(none,mm)/\m<=mm/\mm<=nrem/\SF (arrOf st5) lo mm/\(mm=nrem\/K (arrOf st5) (lo+mm) < K (arrOf st5) (lo+mm - 1))) ?_ ?_ ⟨rfl,rfl,q2⟩) ?_)
        · rintro x c st8 hax hxn ⟨rfl,rfl,hs⟩
          dsimp only
          refine wpS_bind (cL q1 h0 (by lia) (by lia) ?_)
          by_cases hl:K (arrOf st5) (lo+x) < K (arrOf st5) (lo+x - 1)
          · simp only [hl,decide_true,if_true]
            exact wpS_pure ⟨rfl,x,rfl,hax,by lia,hs,.inr hl⟩
          · simp only [hl,decide_false,Bool.false_eq_true,if_false]
            exact wpS_pure ⟨rfl,rfl,SF.more hs (by lia) (Int.not_lt.mp hl)⟩
        · rintro c st9 ⟨rfl,rfl,hs⟩
          rw [show max m nrem=nrem by lia] at hs |-
          exact ⟨rfl,nrem,rfl,by lia,Nat.le_refl _,hs,.inl rfl⟩
        rintro c st9 ⟨rfl,m',rfl,g1,g2,g3,_⟩
        exact wpS_pure (h m' _ q1 (by lia) g2 g3 q3)
  · rw [if_neg hgt]
    have e1:n=1:=by lia
    subst e1
    have nd1:ND (arrOf st) lo 1:=fun i j hi hij hj=>by
      have e9:i=j:=by lia
      subst e9
      exact Int.le_refl _
    have nd:ND (arrOf st) lo (1+1):=ND.more nd1 (by lia) (Int.le_of_lt hlt)
    refine wpS_bind (wpS_lift (wpAny_rule ⟨rfl,?_⟩))
    refine wpS_bind (wpS_mono (wpS_forRange (I:=fun x c st'=>∃ neq,c=(none,x,neq)/\SB a₀ P st'/\ND (arrOf st') lo x/\neq+1<=x/\(∀ i,lo+x - (neq+1)<=i->i < lo+x->K (arrOf st') i=K (arrOf st') (lo+x - 1))/\∀ i,i < lo->K (arrOf st') i=K (arrOf st) i)
      (Q:=fun c st'=>∃ m neq,c=(none,m,neq)/\1+1<=m/\m<=nrem/\SB a₀ P st'/\ND (arrOf st') lo m/\neq+1<=m/\(∀ i,lo+m - (neq+1)<=i->i < lo+m->K (arrOf st') i=K (arrOf st') (lo+m - 1))/\∀ i,i < lo->K (arrOf st') i=K (arrOf st) i) ?_ ?_ ⟨0,rfl,hB,nd,by lia,(fun i h1 h2=>by congr 1; lia),(fun _ _=>rfl)⟩) ?_)
    · rintro x c st8 hax hxn ⟨neq,rfl,c1,c2,c3,c4,c5⟩
      dsimp only
      have hsz:lo+x<=(arrOf st8).size:=by rw [c1.size]; lia
      refine wpS_bind (cL c1 h0 (by lia) (by lia) ?_)
      by_cases hl:K (arrOf st8) (lo+x) < K (arrOf st8) (lo+x - 1)
      · simp only [hl,decide_true,if_true]
        by_cases hq:neq > 0
        · rw [if_pos hq]
          have ke:=K_mirror_equal (i:=lo+x - (neq+1)) hsz c4
          refine wpS_bind (wpS_reverse (wpS_pure ⟨0,rfl,c1.put (mirror_perm _ _ _ _),?_,by lia,(fun i h1 h2=>by congr 1; lia),fun i hi=>?_⟩))
          · intro i j hi hij hj
            show K (mirror (arrOf st8) _ _ _) j<=K (mirror (arrOf st8) _ _ _) i
            rw [ke,ke]
            exact ND.more c2 (by lia) (Int.le_of_lt hl) i j hi hij hj
          · show K (mirror (arrOf st8) _ _ _) i=_
            rw [ke]
            exact c5 i hi
        · rw [if_neg hq]
          exact wpS_pure ⟨0,rfl,c1,ND.more c2 (by lia) (Int.le_of_lt hl),by lia,(fun i h1 h2=>by congr 1; lia),c5⟩
      · simp only [hl,decide_false,Bool.false_eq_true,if_false]
        refine wpS_bind (cL c1 h0 (by lia) (by lia) ?_)
        by_cases hg:K (arrOf st8) (lo+x - 1) < K (arrOf st8) (lo+x)
        · simp only [hg,decide_true,if_true]
          exact wpS_pure ⟨x,neq,rfl,hax,by lia,c1,c2,c3,c4,c5⟩
        · simp only [hg,decide_false,Bool.false_eq_true,if_false]
          have he:K (arrOf st8) (lo+x)=K (arrOf st8) (lo+x - 1):=by lia
          refine wpS_pure ⟨neq+1,rfl,c1,ND.more c2 (by lia) (Int.le_of_eq he),by lia,(fun i h1 h2=>?_),c5⟩
          rw [show lo+(x+1) - 1=lo+x by lia]
          by_cases hix:i=lo+x
          · rw [hix]
          · rw [he]; exact c4 i (by lia) (by lia)
    · rintro c st8 ⟨neq,rfl,c1,c2,c3,c4,c5⟩
      rw [show max (1+1) nrem=nrem by lia] at c2 c3 c4 |-
      exact ⟨nrem,neq,rfl,by lia,Nat.le_refl _,c1,c2,c3,c4,c5⟩
    rintro c st4 ⟨m,neq,rfl,hm1,hm2,c1,c2,c3,c4,c5⟩
    dsimp only
    by_cases hq:neq > 0
    · rw [if_pos hq]
      have hsz4:lo+m<=(arrOf st4).size:=by rw [c1.size]; lia
      have ke:=K_mirror_equal (i:=lo+m - (neq+1)) hsz4 c4
      refine wpS_bind (wpS_reverse ?_)
      have d1:SB a₀ P (setArr st4 (mirror (arrOf st4) (lo+m - (neq+1)) (lo+m) ((lo+m - (lo+m - (neq+1))) / 2))):=c1.put (mirror_perm _ _ _ _)
      have d2:ND (arrOf (setArr st4 (mirror (arrOf st4) (lo+m - (neq+1)) (lo+m) ((lo+m - (lo+m - (neq+1))) / 2)))) lo m:=fun i j hi hij hj=>by
        show K (mirror (arrOf st4) _ _ _) j<=K (mirror (arrOf st4) _ _ _) i
        rw [ke,ke]
        exact c2 i j hi hij hj
      have d3:∀ i,i < lo->K (arrOf (setArr st4 (mirror (arrOf st4) (lo+m - (neq+1)) (lo+m) ((lo+m - (lo+m - (neq+1))) / 2)))) i=K (arrOf st) i:=fun i hi=>by
        show K (mirror (arrOf st4) _ _ _) i=_
        rw [ke]
        exact c5 i hi
      generalize setArr st4 (mirror (arrOf st4) (lo+m - (neq+1)) (lo+m) ((lo+m - (lo+m - (neq+1))) / 2))=st6 at d1 d2 d3 |-
      have hsz:lo+m<=(arrOf st6).size:=by rw [d1.size]; lia
      refine wpS_bind (wpS_reverse ?_)
      have q1:SB a₀ P (setArr st6 (mirror (arrOf st6) lo (lo+m) ((lo+m - lo) / 2))):=d1.put (mirror_perm _ _ _ _)
      have q2:SF (arrOf (setArr st6 (mirror (arrOf st6) lo (lo+m) ((lo+m - lo) / 2)))) lo m:=fun i j hi hij hj=>by
        show K (mirror (arrOf st6) lo (lo+m) ((lo+m - lo) / 2)) i<=K (mirror (arrOf st6) lo (lo+m) ((lo+m - lo) / 2)) j
        rw [K_mirror hsz,K_mirror hsz,if_pos (by lia),if_pos (by lia)]
        exact d2 _ _ (by lia) (by lia) (by lia)
      have q3:∀ i,i < lo->K (arrOf (setArr st6 (mirror (arrOf st6) lo (lo+m) ((lo+m - lo) / 2)))) i=K (arrOf st) i:=fun i hi=>by
        show K (mirror (arrOf st6) lo (lo+m) ((lo+m - lo) / 2)) i=_
        rw [K_mirror hsz,if_neg (by lia)]
        exact d3 i hi
      generalize setArr st6 (mirror (arrOf st6) lo (lo+m) ((lo+m - lo) / 2))=st5 at q1 q2 q3 |-
      refine wpS_bind (wpS_mono (wpS_forRange (I:=fun x c st'=>st5=st'/\c=(none,x)/\SF (arrOf st5) lo x)
        (Q:=fun c st'=>st5=st'/\∃ mm,c=(none,mm)/\m<=mm/\mm<=nrem/\SF (arrOf st5) lo mm/\(mm=nrem\/K (arrOf st5) (lo+mm) < K (arrOf st5) (lo+mm - 1))) ?_ ?_ ⟨rfl,rfl,q2⟩) ?_)
      · rintro x c st8 hax hxn ⟨rfl,rfl,hs⟩
        dsimp only
        refine wpS_bind (cL q1 h0 (by lia) (by lia) ?_)
        by_cases hl:K (arrOf st5) (lo+x) < K (arrOf st5) (lo+x - 1)
        · simp only [hl,decide_true,if_true]
          exact wpS_pure ⟨rfl,x,rfl,hax,by lia,hs,.inr hl⟩
        · simp only [hl,decide_false,Bool.false_eq_true,if_false]
          exact wpS_pure ⟨rfl,rfl,SF.more hs (by lia) (Int.not_lt.mp hl)⟩
      · rintro c st9 ⟨rfl,rfl,hs⟩
        rw [show max m nrem=nrem by lia] at hs |-
        exact ⟨rfl,nrem,rfl,by lia,Nat.le_refl _,hs,.inl rfl⟩
      rintro c st9 ⟨rfl,m',rfl,g1,g2,g3,_⟩
      exact wpS_pure (h m' _ q1 (by lia) g2 g3 q3)
    · rw [if_neg hq]
      have hsz:lo+m<=(arrOf st4).size:=by rw [c1.size]; lia
      refine wpS_bind (wpS_reverse ?_)
      have q1:SB a₀ P (setArr st4 (mirror (arrOf st4) lo (lo+m) ((lo+m - lo) / 2))):=c1.put (mirror_perm _ _ _ _)
      have q2:SF (arrOf (setArr st4 (mirror (arrOf st4) lo (lo+m) ((lo+m - lo) / 2)))) lo m:=fun i j hi hij hj=>by
        show K (mirror (arrOf st4) lo (lo+m) ((lo+m - lo) / 2)) i<=K (mirror (arrOf st4) lo (lo+m) ((lo+m - lo) / 2)) j
        rw [K_mirror hsz,K_mirror hsz,if_pos (by lia),if_pos (by lia)]
        exact c2 _ _ (by lia) (by lia) (by lia)
      have q3:∀ i,i < lo->K (arrOf (setArr st4 (mirror (arrOf st4) lo (lo+m) ((lo+m - lo) / 2)))) i=K (arrOf st) i:=fun i hi=>by
        show K (mirror (arrOf st4) lo (lo+m) ((lo+m - lo) / 2)) i=_
        rw [K_mirror hsz,if_neg (by lia)]
        exact c5 i hi
      generalize setArr st4 (mirror (arrOf st4) lo (lo+m) ((lo+m - lo) / 2))=st5 at q1 q2 q3 |-
      refine wpS_bind (wpS_mono (wpS_forRange (I:=fun x c st'=>st5=st'/\c=(none,x)/\SF (arrOf st5) lo x)
        (Q:=fun c st'=>st5=st'/\∃ mm,c=(none,mm)/\m<=mm/\mm<=nrem/\SF (arrOf st5) lo mm/\(mm=nrem\/K (arrOf st5) (lo+mm) < K (arrOf st5) (lo+mm - 1))) ?_ ?_ ⟨rfl,rfl,q2⟩) ?_)
      · rintro x c st8 hax hxn ⟨rfl,rfl,hs⟩
        dsimp only
        refine wpS_bind (cL q1 h0 (by lia) (by lia) ?_)
        by_cases hl:K (arrOf st5) (lo+x) < K (arrOf st5) (lo+x - 1)
        · simp only [hl,decide_true,if_true]
          exact wpS_pure ⟨rfl,x,rfl,hax,by lia,hs,.inr hl⟩
        · simp only [hl,decide_false,Bool.false_eq_true,if_false]
          exact wpS_pure ⟨rfl,rfl,SF.more hs (by lia) (Int.not_lt.mp hl)⟩
      · rintro c st9 ⟨rfl,rfl,hs⟩
        rw [show max m nrem=nrem by lia] at hs |-
        exact ⟨rfl,nrem,rfl,by lia,Nat.le_refl _,hs,.inl rfl⟩
      rintro c st9 ⟨rfl,m',rfl,g1,g2,g3,_⟩
      exact wpS_pure (h m' _ q1 (by lia) g2 g3 q3)
end
section
variable {prog:Program} {w:World} {A:Around} {E:Value->Shared->Prop} {s:Shared} {a₀:Array Keyed}
theorem SB.pending {P P':Array (Nat × Nat × Nat)} {st:SortSt} (h:SB a₀ P st):SB a₀ P' (setPending st P'):=⟨h.perm,h.kind,h.failed,rfl⟩
def uN (a₀:Array Keyed) (st:SortSt):Prop:=(SB a₀ #[(0,a₀.size,0)] st/\SF (arrOf st) 0 a₀.size)\/∃ n1 n2 pw,SB a₀ #[(0,n1,pw),(n1,n2,0)] st/\n1+n2=a₀.size/\1<=n1/\1<=n2/\SF (arrOf st) 0 n1/\SF (arrOf st) n1 n2
theorem tM {st:SortSt} {Q:Unit->SortSt->Prop} (h0:IntKeys a₀) (hB:SB a₀ #[] st) (h64:64<=a₀.size) (h128:a₀.size < 128)
    (h:∀ st',(arrOf st').Perm a₀->failedOf st'=none->SortedTo (arrOf st') a₀.size->Q () st'):wpS (model prog w) A E s sortRuns' Q st:=by
  rw [sortRuns'_eq]
  refine wpS_bind (wpS_get ?_)
  dsimp only
  have hmr:minRun' a₀.size a₀.size 0=a₀.size / 2+a₀.size % 2:=by
    obtain ⟨f,hf⟩:∃ f,a₀.size=f+1+1:=⟨a₀.size - 2,by lia⟩
    have:minRun' (f+1+1) a₀.size 0=a₀.size / 2+a₀.size % 2:=by
      rw [minRun'_succ,if_neg (by lia),minRun'_succ,if_pos (by lia),Nat.max_eq_right (Nat.zero_le _)]
    rwa [<- hf] at this
  simp only [hB.size,hmr]
  refine wpS_bind (wpS_mono (wpS_forRange
    (I:=fun x c st'=>(x=0/\c=(none,0)/\SB a₀ #[] st')\/(x=1/\∃ n,c=(none,n)/\a₀.size / 2+a₀.size % 2<=n/\n < a₀.size/\SB a₀ #[(0,n,0)] st'/\SF (arrOf st') 0 n)\/(1<=x/\c=(none,a₀.size)/\uN a₀ st'))
    (Q:=fun c st'=>c=(none,a₀.size)/\uN a₀ st') ?step ?fin (.inl ⟨rfl,rfl,hB⟩)) ?post)
  case fin =>
    rintro c st' (⟨hx,_⟩ | ⟨hx,_⟩ | ⟨_,hc,hD⟩)
    · lia
    · lia
    · exact ⟨hc,hD⟩
  case step =>
    rintro x c st' _ hx (⟨rfl,rfl,b⟩ | ⟨rfl,n,rfl,n1,n2,b,sf⟩ | ⟨hx1,rfl,hD⟩)
    · dsimp only
      rw [if_neg (by lia)]
      simp only [Nat.sub_zero,Nat.zero_add]
      refine wpS_bind (n8 h0 (by lia) (by lia) b fun m st2 b2 m1 m2 sf2 _=>?_)
      dsimp only
      have go:∀ (n:Nat) (st3:SortSt),a₀.size / 2+a₀.size % 2<=n->n<=a₀.size->SB a₀ #[] st3->SF (arrOf st3) 0 n ->
          ((1=0/\((none:Option Unit),n)=(none,0)/\SB a₀ #[] (setPending st3 ((pendingOf st3).push (0,n,0))))\/(True/\∃ n',((none:Option Unit),n)=(none,n')/\a₀.size / 2+a₀.size % 2<=n'/\n' < a₀.size/\SB a₀ #[(0,n',0)] (setPending st3 ((pendingOf st3).push (0,n,0)))/\SF (arrOf (setPending st3 ((pendingOf st3).push (0,n,0)))) 0 n')\/(1<=1/\((none:Option Unit),n)=(none,a₀.size)/\uN a₀ (setPending st3 ((pendingOf st3).push (0,n,0))))):=by
        intro n st3 g1 g2 g3 g4
        have ep:(pendingOf st3).push (0,n,0) = #[(0,n,0)]:=by rw [g3.pend]; rfl
        rw [ep]
        by_cases z:n=a₀.size
        · exact .inr (.inr ⟨Nat.le_refl _,by rw [z],.inl ⟨by rw [<- z]; exact g3.pending,by rw [<- z]; exact g4⟩⟩)
        · exact .inr (.inl ⟨trivial,n,rfl,g1,by lia,g3.pending,g4⟩)
      by_cases hlt:m < a₀.size / 2+a₀.size % 2
      · rw [if_pos hlt]
        refine wpS_bind (wpS_lift (wpAny_rule ⟨rfl,?_⟩))
        refine wpS_bind (mK h0 (by lia) (by lia) b2 sf2 fun st3 b3 sf3 _=>?_)
        simp only [Bool.not_true,Bool.false_eq_true,if_false]
        refine wpS_bind (wpS_get ?_)
        have hb:(pendingOf st3).back? = none:=by rw [b3.pend]; rfl
        rw [hb]
        dsimp only
        exact wpS_bind (wpS_modify (wpS_pure (go _ st3 (by lia) (by lia) b3 sf3)))
      · rw [if_neg hlt]
        refine wpS_bind (wpS_get ?_)
        have hb:(pendingOf st2).back? = none:=by rw [b2.pend]; rfl
        rw [hb]
        dsimp only
        exact wpS_bind (wpS_modify (wpS_pure (go _ st2 (by lia) m2 b2 sf2)))
    · dsimp only
      rw [if_neg (by lia)]
      refine wpS_bind (n8 h0 (by lia) (by lia) b fun m st2 b2 m1 m2 sf2 pre2=>?_)
      dsimp only
      have keep:∀ st3:SortSt,(∀ i,i < n->K (arrOf st3) i=K (arrOf st') i)->SF (arrOf st3) 0 n:=fun st3 hp i j hi hij hj=>by
        rw [hp i (by lia),hp j (by lia)]
        exact sf i j hi hij hj
      by_cases hlt:m < a₀.size / 2+a₀.size % 2
      · rw [if_pos hlt]
        refine wpS_bind (wpS_lift (wpAny_rule ⟨rfl,?_⟩))
        rw [show min (a₀.size - n) (a₀.size / 2+a₀.size % 2)=a₀.size - n by lia]
        refine wpS_bind (mK h0 (by lia) (by lia) b2 sf2 fun st3 b3 sf3 pre3=>?_)
        simp only [Bool.not_true,Bool.false_eq_true,if_false]
        refine wpS_bind (wpS_get ?_)
        have hb:(pendingOf st3).back? = some (0,n,0):=by rw [b3.pend]; rfl
        rw [hb]
        dsimp only
        refine wpS_bind (wpS_mono (wpS_forRange (I:=fun _ c st''=>st3=st''/\c=(none,())) (Q:=fun c st''=>st3=st''/\c=(none,())) ?_ (fun _ _ hh=>hh) ⟨rfl,rfl⟩) ?_)
        · rintro y c st'' _ _ ⟨rfl,rfl⟩
          refine wpS_bind (wpS_get ?_)
          skip
          rw [b3.pend]
          exact wpS_pure ⟨rfl,rfl⟩
        · rintro c st'' ⟨rfl,rfl⟩
          dsimp only
          refine wpS_bind (wpS_modify ?_)
          refine wpS_bind (wpS_modify ?_)
          refine wpS_pure (.inr (.inr ⟨by lia,(by congr 1; lia),.inr ⟨n,a₀.size - n,power' a₀.size (2*0+n) (2*0+n+n+(a₀.size - n)) a₀.size,⟨b3.perm,b3.kind,b3.failed,?_⟩,by lia,by lia,by lia,keep st3 (fun i hi=>(pre3 i hi).trans (pre2 i hi)),sf3⟩⟩))
          show ((pendingOf st3).modify ((pendingOf st3).size - 1) _).push (n,_,0)=_
          rw [b3.pend]
          first | rfl | simp [Array.modify] | (apply Array.ext'; simp [Array.modify])
      · rw [if_neg hlt]
        have em:m=a₀.size - n:=by lia
        subst em
        refine wpS_bind (wpS_get ?_)
        have hb:(pendingOf st2).back? = some (0,n,0):=by rw [b2.pend]; rfl
        rw [hb]
        dsimp only
        refine wpS_bind (wpS_mono (wpS_forRange (I:=fun _ c st''=>st2=st''/\c=(none,())) (Q:=fun c st''=>st2=st''/\c=(none,())) ?_ (fun _ _ hh=>hh) ⟨rfl,rfl⟩) ?_)
        · rintro y c st'' _ _ ⟨rfl,rfl⟩
          refine wpS_bind (wpS_get ?_)
          skip
          rw [b2.pend]
          exact wpS_pure ⟨rfl,rfl⟩
        · rintro c st'' ⟨rfl,rfl⟩
          dsimp only
          refine wpS_bind (wpS_modify ?_)
          refine wpS_bind (wpS_modify ?_)
          refine wpS_pure (.inr (.inr ⟨by lia,(by congr 1; lia),.inr ⟨n,a₀.size - n,power' a₀.size (2*0+n) (2*0+n+n+(a₀.size - n)) a₀.size,⟨b2.perm,b2.kind,b2.failed,?_⟩,by lia,by lia,by lia,keep st2 pre2,sf2⟩⟩))
          show ((pendingOf st2).modify ((pendingOf st2).size - 1) _).push (n,_,0)=_
          rw [b2.pend]
          first | rfl | simp [Array.modify] | (apply Array.ext'; simp [Array.modify])
    · dsimp only
      rw [if_pos (Nat.le_refl _)]
      exact wpS_pure ⟨rfl,hD⟩
  case post =>
    rintro c st' ⟨rfl,hD⟩
    dsimp only
    refine wpS_bind (wpS_mono (wpS_forRange (I:=fun y c st''=>c=(none,())/\((y=0/\uN a₀ st'')\/((arrOf st'').Perm a₀/\failedOf st''=none/\(pendingOf st'').size<=1/\SortedTo (arrOf st'') a₀.size)))
      (Q:=fun c st''=>c=(none,())/\(arrOf st'').Perm a₀/\failedOf st''=none/\SortedTo (arrOf st'') a₀.size) ?_ ?_ ⟨rfl,.inl ⟨rfl,hD⟩⟩) ?_)
    · rintro y c st'' _ _ ⟨rfl,⟨rfl,hD⟩ | ⟨q1,q2,q3,q4⟩⟩
      · refine wpS_bind (wpS_get ?_)
        skip
        rcases hD with ⟨b,sf⟩ | ⟨n1,n2,pw,b,e,g1,g2,s1,s2⟩
        · rw [if_pos (by rw [b.pend]; exact Nat.le_refl 1)]
          exact wpS_pure ⟨rfl,b.perm,b.failed,fun i j hij hj=>sf i j (Nat.zero_le _) hij (by lia)⟩
        · rw [if_neg (by rw [b.pend]; simp)]
          rw [b.pend]
          refine wpS_bind (oE b.kind (b.keys h0) b.failed b.pend (by rw [b.size]; lia) g1 g2 (fun i j hij hj=>s1 i j (Nat.zero_le _) hij (by lia)) (fun i j hi hij hj=>s2 i j hi hij hj) fun st5 f5 p5 pm5 so5=>?_)
          refine wpS_pure ⟨rfl,.inr ⟨pm5.trans b.perm,f5,by rw [p5]; exact Nat.le_refl 1,fun i j hij hj=>so5 i j hij (by rw [pm5.size_eq,b.size]; exact hj)⟩⟩
      · refine wpS_bind (wpS_get ?_)
        skip
        rw [if_pos q3]
        exact wpS_pure ⟨rfl,q1,q2,q4⟩
    · rintro c st'' ⟨rfl,⟨hy,_⟩ | ⟨q1,q2,q3,q4⟩⟩
      · lia
      · exact ⟨rfl,q1,q2,q4⟩
    · rintro c st'' ⟨rfl,q1,q2,q4⟩
      exact wpS_pure (h _ q1 q2 q4)
end
section
variable {prog:Program} {w:World} {A:Around} {E:Value->Shared->Prop} {s:Shared}
theorem t9 {c:Addr} {us:List Value} {ks:List Int} {m:Nat} {P:PySem.Fin->Shared->Prop} (hc:s.heap.get? c=some (seqObj "list" us.toArray m)) (hu:IntsAre us ks) (l1:64<=us.length) (l2:us.length < 128)
    (q:∀ (out:Array Value) (js:List Int),IntsAre out.toList js->js.Perm ks->js.Pairwise (·<=·)->P (.done (.ret .none)) { s with heap:=sortedHeap s.heap c us out }):wpAny (model prog w) A (Builtin.«list.sort» ⟨[.ref c],[]⟩) P E s:=by
  have hlt:c < s.heap.objs.size:=Heap.lt_size hc
  have hn:us.toArray.size=us.length:=by simp
  obtain ⟨e,h1⟩:∃ e,(s.heap.update c (Obj.mapSeq fun _=>#[])).get? c=some (seqObj "list" #[] e):=⟨_,get?_update_seq hc _⟩
  have h2:(((s.heap.update c (Obj.mapSeq fun _=>#[])).push (seqObj "tuple" us.toArray 0)).push (seqObj "list" #[] 0)).get? c=some (seqObj "list" #[] e):=Heap.get?_push_of_some _ (Heap.get?_push_of_some _ h1)
  have hz1:us.length<=sizeLine:=by rw [sizeLine_eq]; lia
  rw [list_sort_plain]
  refine wpAny_bind (listItems_at hc rfl (wpAny_bind (listUpdate_at hc rfl (wpAny_bind (seqEpoch_at h1 rfl (wpAny_bind (wpAny_newTuple (wpAny_bind (wpAny_newList (wpAny_holding ?_) (Nat.zero_le _))) hz1)))) (by rw [List.size_toArray]; exact hz1) (Nat.zero_le _))))
  show wpAny (model prog w) A _ P E { s with heap:=((s.heap.update c (Obj.mapSeq fun _=>#[])).push (seqObj "tuple" us.toArray 0)).push (seqObj "list" #[] 0) }
  have b2:¬ us.toArray.size < 2:=by lia
  dsimp only
  rw [if_neg b2,if_neg b2]
  obtain ⟨u1,u2,ut,rfl⟩:∃ u1 u2 ut,us=u1::u2::ut:=by
    match us,l1 with
    | u1::u2::ut,_=>exact ⟨u1,u2,ut,rfl⟩
  rw [keyKind_ints hu]
  refine wpAny_bind (wpAny_pure (wpAny_bind (wpAny_mono (tM (a₀:=pairsOf (u1::u2::ut)) (Q:=fun _ z=>(arrOf z).Perm (pairsOf (u1::u2::ut))/\failedOf z=none/\SortedTo (arrOf z) (pairsOf (u1::u2::ut)).size)
    hu.intKeys ⟨Array.Perm.refl _,rfl,rfl,rfl⟩ (by rw [pairsOf_size]; exact l1) (by rw [pairsOf_size]; exact l2) fun z z1 z2 z3=>⟨z1,z2,z3⟩) ?_ fun _ _ x=>x)))
  rintro ⟨⟨⟩,z⟩ s' ⟨rfl,z1,z2,z3⟩
  obtain ⟨js,j1,j2,j3⟩:=sorted_out hu z1 z3
  have hz:((arrOf z).map (·.2)).size<=sizeLine+1:=by
    rw [Array.size_map,z1.size_eq,pairsOf_size,sizeLine_eq]
    lia
  dsimp only
  refine wpAny_bind (seqEpoch_at h2 rfl (wpAny_bind (listUpdate_at h2 rfl ?_ (hsz2:=hz))))
  rw [z2]
  simp only [bne_self_eq_false,Bool.false_eq_true,if_false]
  exact wpAny_pure (q _ js j1 j2 j3)
theorem sorted_far {c:Addr} {us:List Value} {ks:List Int} {Q:Value->Shared->Prop} (hc:s.heap.IsList c us.toArray) (hu:IntsAre us ks) (l1:64<=us.length) (l2:us.length < 128)
    (q:∀ (out:Array Value) (js:List Int),IntsAre out.toList js->js.Perm ks->js.Pairwise (·<=·)->Q (.ref (s.heap.objs.size+1)) { s with heap:=sortedAll s.heap us out }):wpAny (model prog w) A (call (.builtin "sorted") [.ref c]) Q E s:=by
  have hn:((s.heap.push (seqObj "list" #[] 0)).update s.heap.objs.size (Obj.mapSeq (·++us.toArray))).objs.size=s.heap.objs.size+1:=(Heap.size_update _ _ _).trans (size_push' _ _)
  have hL:=hn▸Heap.get?_push_size ((s.heap.push (seqObj "list" #[] 0)).update s.heap.objs.size (Obj.mapSeq (·++us.toArray))) (o:=seqObj "list" us.toArray 0) rfl
  refine Calls.call_function_entry kind_sorted plain_sorted entry_sorted (args_sorted1 _) ?_
  unfold Builtin.«sorted»
  have hz1:us.length<=sizeLine:=by rw [sizeLine_eq]; lia
  refine wpAny_bind (m:=checkCount "sorted" 1 1 _) (wpAny_pure (wpAny_bind (collect_list hc (wpAny_bind (wpAny_newList ?_ hz1)) hz1)))
  show wpAny _ _ _ _ _ { s with heap:=((s.heap.push (seqObj "list" #[] 0)).update s.heap.objs.size (Obj.mapSeq (·++us.toArray))).push (seqObj "list" us.toArray 0) }
  rw [hn]
  exact wpAny_bind (wpAny_holding (wpAny_call_entry slot_list_sort ⟨_,hL,rfl⟩ entry_list_sort (t9 hL hu l1 l2 fun out js a1 a2 a3=>⟨_,rfl,wpAny_pure ⟨_,rfl,q out js a1 a2 a3⟩⟩) (args_list_sort _)))
end
end Lg
namespace L2
open PySem PySem.Spec PyProof.Rows
theorem nV {X:Cx}:cU X (.builtin "sorted") (fun xs H Q=>∃ (p:Addr) (ns:List Int),xs=[.ref p]/\aj X.K H p (ns.map V.int)/\ns.length < 128/\∀ (q:Addr) (ms:List Int),H q=none->ms.Perm ns->ms.Pairwise (·<=·)->Q (.ref q) (upd H q (.lst (ms.map V.int)))):=by
  intro pins s σ H xs us Q I r h
  obtain ⟨p,ns,rfl,hl,h2,q⟩:=h
  by_cases h64:ns.length < 64
  · exact jc pins s σ H _ us Q I r ⟨p,ns,rfl,hl,h64,q⟩
  obtain ⟨u,rfl,ru⟩:=vals1 r
  cases ru
  obtain ⟨its,r',pl,hz⟩:=I.list hl
  have hi:IntsAre its ns:=intsAre_of r'
  refine Lg.sorted_far pl.isList hi (by rw [hi.length]; lia) (by rw [hi.length]; exact h2) fun out ms ho hp hs=>?_
  obtain ⟨e,he⟩:=sortedAll_at s.heap its out
  have lm:(ms.map V.int).length<=sizeLine:=by rw [List.length_map,hp.length_eq]; exact sz (by lia)
  exact ⟨.ref _,_,I.laid (t':=s.toks) (o:=.lst (ms.map V.int)) (fun b u e=>sortedAll_old e) (Nat.le_succ _) ⟨lm,out.toList,e,gq ho,by simpa [seqObj] using he⟩,rfl,q _ ms (I.hok.fresh (Nat.le_succ _)) hp hs⟩
end L2
set_option Elab.async false
set_option linter.all false
set_option maxRecDepth 100000
set_option maxHeartbeats 4000000
namespace L2
open PySem PySem.Spec PyProof.Rows
section
variable {X:Cx} {tg:Expr}
end
section
variable {X:Cx} {a b c d:Expr} {ta tb tc td:TE} {pos:Pos}
noncomputable def zm (r1 r2 r3:R2) (ta tb tc td:TE):TE:=fun σ H Q=>ta σ H fun x H1=>tb σ H1 fun y H2=>r1 x y H2 fun z H3=>∃ k,z = .bl k /\
  (if k=true then tc σ H3 fun w' H4=>r2 y w' H4 fun z' H5=>∃ k',z' = .bl k'/\(if k'=true then td σ H5 fun v' H6=>r3 w' v' H6 Q else Q (.bl false) H5) else Q (.bl false) H3)
theorem wX {o1 o2 o3:CmpOp} {r1 r2 r3:R2} (h1:cF X (compareOp o1) r1) (h2:cF X (compareOp o2) r2) (h3:cF X (compareOp o3) r3) (ha:PE X a ta) (hb:PE X b tb) (hc:PE X c tc) (hd:PE X d td)
    (hm:lastMarks [o1,o2,o3] [b,c,d]=false:=by with_unfolding_all rfl):PT X (.Compare a [o1,o2,o3] [b,c,d] pos) (uA (zm r1 r2 r3 ta tb tc td)):=by
  intro pins s σ H Q I h
  refine isTrue_chain (aE (ha pins s σ H _ I h) fun v s1 ⟨x,H1,I1,x1,q1⟩=>test_link (aE (hb pins s1 σ H1 _ I1 q1) fun u s2 ⟨y,H2,I2,x2,q2⟩ =>
    aE (h1 pins s2 σ H2 x y v u _ I2 x1 x2 q2) fun e s3 ⟨z,H3,I3,x3,k,ek,q3⟩=>?_)) hm
  subst ek
  cases x3
  refine wpAny_truthy_bool ?_
  cases k with
  | false =>
    obtain ⟨k',e',q'⟩:=q3
    cases e'
    exact ite_ff ⟨H3,I3,q'⟩
  | true =>
    refine ite_tt (test_link (aE (hc pins s3 σ H3 _ I3 q3) fun w' s4 ⟨z',H4,I4,x4,q4⟩=>aE (h2 pins s4 σ H4 y z' u w' _ I4 x2 x4 q4) fun d' s5 ⟨z2,H5,I5,x5,k2,e2,q5⟩=>?_))
    subst e2
    cases x5
    refine wpAny_truthy_bool ?_
    cases k2 with
    | false =>
      obtain ⟨k',e',q'⟩:=q5
      cases e'
      exact ite_ff ⟨H5,I5,q'⟩
    | true =>
      refine ite_tt (test_last (aE (hd pins s5 σ H5 _ I5 q5) fun w2 s6 ⟨z3,H6,I6,x6,q6⟩=>aE (h3 pins s6 σ H6 z' z3 w' w2 _ I6 x4 x6 q6) fun d2 s7 ⟨z4,H7,I7,x7,k3,e3,q7⟩=>?_))
      subst e3
      cases x7
      exact wpAny_truthy_bool ⟨H7,I7,q7⟩
end
end L2
namespace Ck
open PySem L2
theorem bg.prs {K:W.Frag} {H:Hp} {a b:Addr} {ps qs:List Pair} (ne:a≠b) (ha:cJ H a ps) (hb:cJ H b qs):bg K H 2 (.ref a) (.ref b) (decide (ps=qs)):=by
  obtain ⟨xs,ea,lx,px⟩:=ha.len
  obtain ⟨ys,eb,ly,py⟩:=hb.len
  by_cases hl:ps.length=qs.length
  · have h:=bg.lst (K:=K) (n:=1) (e:=fun j=>decide (ps.getD j (0,0)=qs.getD j (0,0))) ne (aj.of ea) (aj.of eb) (by lia) (fun j x y hx hy=>by
      obtain ⟨p,t,hp,rfl,ht⟩:=px.get hx
      obtain ⟨r,u,hr,rfl,hu⟩:=py.get hy
      rw [List.getD_eq_getElem?_getD,List.getD_eq_getElem?_getD,hp,hr]
      show bg K H 1 _ _ (decide (p=r))
      by_cases e:t=u
      · subst e
        have:p=r:=by
          rw [ht] at hu
          injection hu with hu; injection hu with hu
          injection hu with h1 h2; injection h2 with h2 _
          injection h1 with h1; injection h2 with h2
          exact Prod.ext h1 h2
        rw [decide_eq_true this]
        exact bg.same
      · have:=bg.two (K:=K) (n:=0) e ht hu
        have e2:decide (p=r)=(decide (p.1=r.1)&&decide (p.2=r.2)):=by
          rw [Bool.eq_iff_iff,Bool.and_eq_true,decide_eq_true_iff,decide_eq_true_iff,decide_eq_true_iff]
          exact ⟨fun z=>by rw [z]; exact ⟨rfl,rfl⟩,fun z=>Prod.ext z.1 z.2⟩
        rw [e2]
        exact this)
    have e:(List.range xs.length).all (fun j=>decide (ps.getD j (0,0)=qs.getD j (0,0)))=decide (ps=qs):=by
      rw [Bool.eq_iff_iff,List.all_eq_true,decide_eq_true_iff]
      constructor
      · intro h
        refine List.ext_getElem hl fun k h1 h2=>?_
        have:=of_decide_eq_true (h k (List.mem_range.mpr (by lia)))
        rw [List.getD_eq_getElem?_getD,List.getD_eq_getElem?_getD,List.getElem?_eq_getElem h1,List.getElem?_eq_getElem h2] at this
        exact this
      · intro h k _
        rw [h]
        exact decide_eq_true rfl
    rw [e] at h
    exact h
  · have:decide (ps=qs)=false:=decide_eq_false fun z=>hl (by rw [z])
    rw [this]
    exact bg.lstN ne (aj.of ea) (aj.of eb) (by lia)
end Ck
namespace Ck
open PySem L2
noncomputable def ax:List Pair->List Int
  | []=>[]
  | p::ps=>p.1::p.2::ax ps
theorem dE:∀ ps:List Pair,(ax ps).length=2*ps.length
  | []=>rfl
  | p::ps=>by
    show (ax ps).length+1+1=2*(ps.length+1)
    have:=dE ps
    lia
theorem eA:∀ ps qs:List Pair,ax (ps++qs)=ax ps++ax qs
  | [],qs=>rfl
  | p::ps,qs=>by
    show p.1::p.2::ax (ps++qs)=_
    rw [eA ps qs]
    rfl
theorem bI {x:Int}:∀ {ps:List Pair},x∈ax ps↔∃ p∈ps,x=p.1\/x=p.2
  | []=>by simp [ax]
  | p::ps=>by
    show x∈p.1::p.2::ax ps↔_
    rw [List.mem_cons,List.mem_cons,bI (ps:=ps)]
    constructor
    · rintro (h | h | ⟨r,hr,h⟩)
      · exact ⟨p,List.mem_cons_self ..,.inl h⟩
      · exact ⟨p,List.mem_cons_self ..,.inr h⟩
      · exact ⟨r,List.mem_cons_of_mem _ hr,h⟩
    · rintro ⟨r,hr,h⟩
      rcases List.mem_cons.mp hr with rfl | hr
      · rcases h with h | h
        · exact .inl h
        · exact .inr (.inl h)
      · exact .inr (.inr ⟨r,hr,h⟩)
noncomputable abbrev eg (ps:List Pair) (k:Nat):Int:=(ps.getD k (0,0)).1
noncomputable abbrev sF (ps:List Pair) (k:Nat):Int:=(ps.getD k (0,0)).2
noncomputable def rE (ps:List Pair) (k:Nat):Bool:=decide (eg ps k < sF ps k)&&(decide (k=0) || decide (eg ps (k - 1) < eg ps k))
noncomputable def fJ (p r:Pair):Bool:=decide (p.1 < r.1)&&(decide (r.1 < p.2)&&decide (p.2 < r.2))
noncomputable def cE (ps:List Pair):Bool:=ps.any fun p=>ps.any (fJ p)
noncomputable def cX (ps:List Pair):Bool:=(List.range ps.length).all (rE ps)&&(cA (ax ps)&&!cE ps)
theorem kE {ps:List Pair}:(List.range ps.length).all (rE ps)=true↔∀ k,k < ps.length->eg ps k < sF ps k/\(k=0\/eg ps (k - 1) < eg ps k):=by
  rw [List.all_eq_true]
  constructor
  · intro h k hk
    have:=h k (List.mem_range.mpr hk)
    unfold rE at this
    simpa using this
  · intro h k hk
    have:=h k (List.mem_range.mp hk)
    unfold rE
    simpa using this
theorem rh {ps:List Pair} (h:∀ k,k < ps.length->k=0\/eg ps (k - 1) < eg ps k):∀ (j i:Nat),i < j->j < ps.length->eg ps i < eg ps j
  | 0,i,hi,_=>absurd hi (Nat.not_lt_zero _)
  | j+1,i,hi,hj=>by
    have h1:=(h (j+1) hj).resolve_left (by lia)
    rw [Nat.add_sub_cancel] at h1
    by_cases e:i=j
    · subst e; exact h1
    · exact Int.lt_trans (rh h j i (by lia) (by lia)) h1
theorem qS {ps:List Pair} {k:Nat} (h:k < ps.length):ps.getD k (0,0)∈ps:=by
  rw [List.getD_eq_getElem?_getD,List.getElem?_eq_getElem h]
  exact List.getElem_mem h
theorem rV {ps:List Pair} {p:Pair} (h:p∈ps):∃ k,k < ps.length/\ps.getD k (0,0)=p:=by
  obtain ⟨k,hk,e⟩:=List.getElem_of_mem h
  exact ⟨k,hk,by rw [List.getD_eq_getElem?_getD,List.getElem?_eq_getElem hk]; exact e⟩
theorem eB {ps:List Pair} (h:(ax ps).Nodup):ps.Pairwise fun p q=>p.1≠q.1:=by
  induction ps with
  | nil=>exact .nil
  | cons p ps ih =>
    have h':(p.1::p.2::ax ps).Nodup:=h
    rw [List.nodup_cons,List.nodup_cons] at h'
    refine .cons (fun q hq e=>h'.1 ?_) (ih h'.2.2)
    rw [e]
    exact List.mem_cons_of_mem _ (bI.mpr ⟨q,hq,.inl rfl⟩)
theorem cQ (n:Nat):(cg n).Nodup:=(qX n).imp fun h=>Int.ne_of_lt h
theorem gF {ps qs:List Pair} (hp:qs.Perm ps) (hs:qs.Pairwise cc) (hE:cA (ax ps)=true):decide (ps=qs)=true↔∀ k,k < ps.length->k=0\/eg ps (k - 1) < eg ps k:=by
  have nd:(ax ps).Nodup:=((cZ _).mp hE).nodup_iff.mpr (cQ _)
  have ne:=eB nd
  rw [decide_eq_true_iff]
  constructor
  · intro e k hk
    rw [<- e] at hs
    by_cases h0:k=0
    · exact .inl h0
    refine .inr ?_
    have h1:=List.pairwise_iff_getElem.mp hs (k - 1) k (by lia) hk (by lia)
    have h2:=List.pairwise_iff_getElem.mp ne (k - 1) k (by lia) hk (by lia)
    have e1:ps.getD (k - 1) (0,0)=ps[k - 1]:=by rw [List.getD_eq_getElem?_getD,List.getElem?_eq_getElem (by lia)]; rfl
    have e2:ps.getD k (0,0)=ps[k]:=by rw [List.getD_eq_getElem?_getD,List.getElem?_eq_getElem hk]; rfl
    unfold eg
    rw [e1,e2]
    unfold cc at h1
    lia
  · intro h
    refine List.Perm.eq_of_pairwise (le:=cc) (fun a b _ _ h1 h2=>?_) ?_ hs hp.symm
    · unfold cc at h1 h2
      exact Prod.ext (by lia) (by lia)
    · refine List.pairwise_iff_getElem.mpr fun i j hi hj hij=>?_
      have:=rh h j i hij hj
      unfold eg at this
      rw [List.getD_eq_getElem?_getD,List.getD_eq_getElem?_getD,List.getElem?_eq_getElem hi,List.getElem?_eq_getElem hj] at this
      exact .inl this
theorem wz {ps:List Pair}:(ps.all fun p=>decide (p.1 < p.2))=true↔∀ k,k < ps.length->eg ps k < sF ps k:=by
  rw [List.all_eq_true]
  constructor
  · intro h k hk
    exact of_decide_eq_true (h _ (qS hk))
  · intro h p hp
    obtain ⟨k,hk,rfl⟩:=rV hp
    exact decide_eq_true (h k hk)
theorem rF {ps:List Pair} (h:cA (ax ps)=false):cX ps=false:=by unfold cX; rw [h]; simp
theorem pG {ps qs:List Pair} (hp:qs.Perm ps) (hs:qs.Pairwise cc) (hE:cA (ax ps)=true) (h:ps≠qs):cX ps=false:=by
  cases e:cX ps with
  | false=>rfl
  | true =>
    unfold cX at e
    rw [Bool.and_eq_true] at e
    exact absurd (of_decide_eq_true ((gF hp hs hE).mpr fun k hk=>(kE.mp e.1 k hk).2)) h
theorem oy {ps qs:List Pair} (hp:qs.Perm ps) (hs:qs.Pairwise cc) (hE:cA (ax ps)=true) (h:ps=qs):cX ps=((ps.all fun p=>decide (p.1 < p.2))&&!cE ps):=by
  have a:=(gF hp hs hE).mp (decide_eq_true h)
  have b:(List.range ps.length).all (rE ps)=ps.all fun p=>decide (p.1 < p.2):=by
    rw [Bool.eq_iff_iff,kE,wz]
    exact ⟨fun h k hk=>(h k hk).1,fun h k hk=>⟨h k hk,a k hk⟩⟩
  unfold cX
  rw [b,hE,Bool.true_and]
theorem eR {ps:List Pair}:cE ps=true↔∃ p∈ps,∃ r∈ps,p.1 < r.1/\r.1 < p.2/\p.2 < r.2:=by
  unfold cE
  rw [List.any_eq_true]
  constructor
  · rintro ⟨p,hp,h⟩
    obtain ⟨r,hr,h⟩:=List.any_eq_true.mp h
    unfold fJ at h
    exact ⟨p,hp,r,hr,by simpa using h⟩
  · rintro ⟨p,hp,r,hr,h⟩
    exact ⟨p,hp,List.any_eq_true.mpr ⟨r,hr,by unfold fJ; simpa using h⟩⟩
end Ck
set_option Elab.async false
set_option linter.all false
set_option maxRecDepth 100000
set_option maxHeartbeats 4000000
namespace L2
open PySem PySem.Spec PyProof.Rows
section
variable {X:Cx}
end
section
variable {X:Cx}
noncomputable def yX:R2:=fun x y H Q=>∃ a i j,x = .ref a/\y = .ref a/\H a=some (.tup [.int i,.int j])/\Q (.bl false) H
theorem wW (hu:X.A.units+100 < cLine):cF X (compareOp .NotEq) yX:=by
  intro pins s σ H x y u v Q I ru rv h
  obtain ⟨a,i,j,rfl,rfl,ha,q⟩:=h
  cases (show u=Value.ref _ from ru)
  cases (show v=Value.ref _ from rv)
  obtain ⟨us,r,pl,_⟩:=I.tuple (cI.of ha)
  refine SeqAt.RcNeAt.tuples (e:=fun _=>true) pl pl (by lia) (fun j h1 h2=>?_) _ _ _ _ ⟨.bl _,H,I,rfl,?_⟩
  · obtain ⟨x,ex,rx⟩:=cM r h1
    obtain ⟨k,rfl⟩:∃ k,x = .int k:=by
      rcases List.mem_cons.mp (List.mem_of_getElem? ex) with z | z
      · exact ⟨_,z⟩
      · exact ⟨_,by simpa using z⟩
    have z:=bg.flat (K:=X.K) (H:=H) (n:=0) (x:=V.int k) (y:=V.int k) rfl rfl
    rw [show gN (V.int k) (V.int k)=true from decide_eq_true rfl] at z
    exact z.at_ (A:=X.A.in1) (by show X.A.units+1+0 < cLine; lia) I rx rx
  · have e (k:Nat):(List.range k).all (fun _=>true)=true:=List.all_eq_true.mpr fun _ _=>rfl
    rw [e]
    simpa using q
end
end L2
namespace Ck
open PySem L2
noncomputable def Dp (c:List Nat) (j:Nat):Int:=(j:Int) - 2*((c.take j).count 41:Nat)
noncomputable def qU (c:List Nat) (k:Nat):Int:=match (List.range c.length).find? (fun j=>decide (k<=j)&&decide (Dp c (j+1)=Dp c k)) with
  | some j=>(j:Int)
  | none=>-1
noncomputable def zF (c:List Nat) (i:Nat):List Pair:=(List.range i).filterMap fun k=>if c.getD k 0=40 then some ((k:Int),qU c k) else none
structure Wk (c:List Nat) (i:Nat) (fd:List Pair) (sk:List Int):Prop where
  prm:(fd++sk.map fun k=>(k,qU c k.toNat)).Perm (zF c i)
  flt:(ax fd++sk).Perm (cg i)
  dep:(sk.length:Int)=Dp c i
  stk:∀ (s:Nat) (k:Int),sk[s]? = some k->0<=k/\k < (i:Int)/\Dp c k.toNat=(s:Int)/\∀ j,k.toNat<=j->j < i->(s:Int) < Dp c (j+1)
  prs:∀ p∈fd,0<=p.1/\p.1 < p.2/\p.2 < (i:Int)/\Dp c (p.2.toNat+1)=Dp c p.1.toNat/\∀ j:Nat,p.1.toNat<=j->(j:Int) < p.2->Dp c p.1.toNat < Dp c (j+1)
end Ck
set_option Elab.async false
set_option linter.all false
set_option maxRecDepth 100000
set_option maxHeartbeats 4000000
namespace Ck
open PySem L2
noncomputable def rtU (m:Int) (p:Pair):Pair:=if p.2=m - 1 then (0,p.1+1) else (p.1+1,p.2+1)
noncomputable def rtD (m:Int) (p:Pair):Pair:=if p.1=0 then (p.2 - 1,m - 1) else (p.1 - 1,p.2 - 1)
def bu (m:Int) (p:Pair):Prop:=0<=p.1/\p.1 < p.2/\p.2 < m
theorem rW {m:Int} {p:Pair} (h:bu m p):bu m (rtU m p):=by
  obtain ⟨a,b⟩:=p
  unfold bu rtU at *
  simp only at *
  split<;>simp only<;>lia
theorem ph {m:Int} {p:Pair} (h:bu m p):bu m (rtD m p):=by
  obtain ⟨a,b⟩:=p
  unfold bu rtD at *
  simp only at *
  split<;>simp only<;>lia
theorem t6 {m:Int} {p:Pair} (h:bu m p):rtD m (rtU m p)=p:=by
  obtain ⟨a,b⟩:=p
  unfold bu at h
  simp only at h
  unfold rtU
  by_cases e:b=m - 1
  · simp only [e,if_true]
    unfold rtD
    simp only [if_true]
    exact Prod.ext (by show a+1 - 1=a; lia) rfl
  · simp only [e,if_false]
    unfold rtD
    have ne:¬ (a+1=0):=by lia
    simp only [ne,if_false]
    exact Prod.ext (by show a+1 - 1=a; lia) (by show b+1 - 1=b; lia)
theorem ur {m:Int} {p:Pair} (h:bu m p):rtU m (rtD m p)=p:=by
  obtain ⟨a,b⟩:=p
  unfold bu at h
  simp only at h
  unfold rtD
  by_cases e:a=0
  · simp only [e,if_true]
    unfold rtU
    simp only [if_true]
    exact Prod.ext rfl (by show b - 1+1=b; lia)
  · simp only [e,if_false]
    unfold rtU
    have ne:¬ (b - 1=m - 1):=by lia
    simp only [ne,if_false]
    exact Prod.ext (by show a - 1+1=a; lia) (by show b - 1+1=b; lia)
def fq (p q:Pair):Prop:=p.1 < q.1/\q.1 < p.2/\p.2 < q.2
def NC (ps:List Pair):Prop:=∀ p∈ps,∀ q∈ps,¬ fq p q
theorem jx {ps:List Pair}:cE ps=false↔NC ps:=by
  constructor
  · intro h p hp q hq c
    have:cE ps=true:=eR.mpr ⟨p,hp,q,hq,c.1,c.2.1,c.2.2⟩
    rw [h] at this
    cases this
  · intro h
    cases e:cE ps with
    | false=>rfl
    | true =>
      obtain ⟨p,hp,q,hq,c⟩:=eR.mp e
      exact absurd c (h p hp q hq)
theorem NC.perm {ps qs:List Pair} (h:NC ps) (p:qs.Perm ps):NC qs:=fun a ha b hb=>h a (p.mem_iff.mp ha) b (p.mem_iff.mp hb)
theorem u6 {m:Int} {p q:Pair} (hp:bu m p) (hq:bu m q) (c:fq (rtU m p) (rtU m q)):fq p q\/fq q p:=by
  obtain ⟨a,b⟩:=p
  obtain ⟨x,y⟩:=q
  unfold bu fq rtU at *
  simp only at *
  split at c<;>split at c<;>simp only at c<;>lia
theorem sW {m:Int} {p q:Pair} (hp:bu m p) (hq:bu m q) (c:fq (rtD m p) (rtD m q)):fq p q\/fq q p:=by
  obtain ⟨a,b⟩:=p
  obtain ⟨x,y⟩:=q
  unfold bu fq rtD at *
  simp only at *
  split at c<;>split at c<;>simp only at c<;>lia
theorem NC.rtU {m:Int} {ps:List Pair} (h:NC ps) (hi:∀ p∈ps,bu m p):NC (ps.map (rtU m)):=by
  intro a ha b hb c
  obtain ⟨p,hp,rfl⟩:=List.mem_map.mp ha
  obtain ⟨q,hq,rfl⟩:=List.mem_map.mp hb
  rcases u6 (hi p hp) (hi q hq) c with z | z
  · exact h p hp q hq z
  · exact h q hq p hp z
theorem NC.rtD {m:Int} {ps:List Pair} (h:NC ps) (hi:∀ p∈ps,bu m p):NC (ps.map (rtD m)):=by
  intro a ha b hb c
  obtain ⟨p,hp,rfl⟩:=List.mem_map.mp ha
  obtain ⟨q,hq,rfl⟩:=List.mem_map.mp hb
  rcases sW (hi p hp) (hi q hq) c with z | z
  · exact h p hp q hq z
  · exact h q hq p hp z
theorem gG {α β:Type} {f:α->β} {g:β->α} {l:List α} (h:l.Nodup) (e:∀ x∈l,g (f x)=x):(l.map f).Nodup:=by
  induction l with
  | nil=>exact List.nodup_nil
  | cons a l ih =>
    rw [List.nodup_cons] at h
    rw [List.map_cons,List.nodup_cons]
    refine ⟨fun z=>?_,ih h.2 fun x hx=>e x (List.mem_cons_of_mem _ hx)⟩
    obtain ⟨b,hb,eb⟩:=List.mem_map.mp z
    have:b=a:=by rw [<- e b (List.mem_cons_of_mem _ hb),eb,e a (List.mem_cons_self ..)]
    exact h.1 (this▸hb)
noncomputable def rC (m:Int):Nat->Pair->Pair
  | 0,p=>p
  | k+1,p=>rtU m (rC m k p)
noncomputable def nm (x y:Int):Pair:=if x < y then (x,y) else (y,x)
theorem vg {m:Int} {p:Pair} (h:bu m p):∀ k,bu m (rC m k p)
  | 0=>h
  | k+1=>rW (vg h k)
theorem kg {m:Int} {p:Pair} (h:bu m p):∀ k:Nat,rC m k p=nm ((p.1+(k:Int)) % m) ((p.2+(k:Int)) % m)
  | 0=>by
    obtain ⟨a,b⟩:=p
    unfold bu at h
    simp only at h
    show (a,b)=nm ((a+0) % m) ((b+0) % m)
    rw [Int.add_zero,Int.add_zero,Int.emod_eq_of_lt h.1 (by lia),Int.emod_eq_of_lt (by lia) h.2.2]
    unfold nm
    rw [if_pos h.2.1]
  | k+1=>by
    have hm:0 < m:=by have:=h.1; have:=h.2.1; have:=h.2.2; lia
    have ne:p.1 % m≠p.2 % m:=by
      rw [Int.emod_eq_of_lt h.1 (by have:=h.2; lia),Int.emod_eq_of_lt (by have:=h.1; have:=h.2.1; lia) h.2.2]
      have:=h.2.1
      lia
    show rtU m (rC m k p)=_
    rw [kg h k]
    have sx:∀ x:Int,(x+((k+1:Nat):Int)) % m=if (x+(k:Int)) % m=m - 1 then 0 else (x+(k:Int)) % m+1:=fun x=>by
      have e:(x+((k+1:Nat):Int)) % m=((x+(k:Int)) % m+1) % m:=by
        rw [Int.emod_add_emod]
        congr 1
        lia
      have g0:=Int.emod_nonneg (x+(k:Int)) (show m≠0 by lia)
      have g1:=Int.emod_lt_of_pos (x+(k:Int)) hm
      rw [e]
      by_cases z:(x+(k:Int)) % m=m - 1
      · rw [if_pos z,z,show m - 1+1=m by lia,Int.emod_self]
      · rw [if_neg z,Int.emod_eq_of_lt (by lia) (by lia)]
    rw [sx p.1,sx p.2]
    have a0:=Int.emod_nonneg (p.1+(k:Int)) (show m≠0 by lia)
    have a1:=Int.emod_lt_of_pos (p.1+(k:Int)) hm
    have b0:=Int.emod_nonneg (p.2+(k:Int)) (show m≠0 by lia)
    have b1:=Int.emod_lt_of_pos (p.2+(k:Int)) hm
    have nk:(p.1+(k:Int)) % m≠(p.2+(k:Int)) % m:=fun z=>by
      apply ne
      have:=congrArg (fun t=>(t - (k:Int)) % m) z
      simp only [Int.emod_sub_emod] at this
      rwa [show p.1+(k:Int) - (k:Int)=p.1 by lia,show p.2+(k:Int) - (k:Int)=p.2 by lia] at this
    generalize (p.1+(k:Int)) % m=u at a0 a1 nk
    generalize (p.2+(k:Int)) % m=v at b0 b1 nk
    unfold nm rtU
    by_cases h1:u < v
    · rw [if_pos h1]
      by_cases h2:v=m - 1
      · rw [if_pos h2,if_neg (show ¬ u=m - 1 by lia),if_pos h2,if_neg (show ¬ u+1 < 0 by lia)]
      · rw [if_neg (show ¬ (u,v).2=m - 1 from h2),if_neg (show ¬ u=m - 1 by lia),if_neg h2,if_pos (by lia)]
    · rw [if_neg h1]
      by_cases h2:u=m - 1
      · rw [if_pos h2,if_pos h2,if_neg (show ¬ v=m - 1 by lia),if_pos (show (0:Int) < v+1 by lia)]
      · rw [if_neg (show ¬ (v,u).2=m - 1 from h2),if_neg h2,if_neg (show ¬ v=m - 1 by lia),if_neg (by lia)]
theorem uY {m:Int} {p:Pair} (h:bu m p):nm ((p.1+1) % m) ((p.2+1) % m)=rtU m p:=by
  have:=kg h 1
  exact this.symm
theorem uk {m:Int} {p:Pair} (h:bu m p):nm ((p.1+-1) % m) ((p.2+-1) % m)=rtD m p:=by
  have hb:=ph h
  have e:=kg hb 0
  have e':rC m 0 (rtD m p)=rtD m p:=rfl
  obtain ⟨a,b⟩:=p
  unfold bu at h
  simp only at h
  unfold rtD
  by_cases z:a=0
  · subst z
    simp only [if_true]
    have e1:((0:Int)+-1) % m=m - 1:=by
      rw [show (0:Int)+-1=(m - 1)+m*(-1) by lia,Int.add_mul_emod_self_left,Int.emod_eq_of_lt (by lia) (by lia)]
    rw [e1,show b+-1=b - 1 by lia,Int.emod_eq_of_lt (show 0<=b - 1 by lia) (by lia)]
    unfold nm
    rw [if_neg (by lia)]
  · simp only [z,if_false]
    rw [show a+-1=a - 1 by lia,show b+-1=b - 1 by lia,Int.emod_eq_of_lt (show 0<=a - 1 by lia) (by lia),Int.emod_eq_of_lt (show 0<=b - 1 by lia) (by lia)]
    unfold nm
    rw [if_pos (by lia)]
end Ck
set_option Elab.async false
set_option linter.all false
set_option maxRecDepth 100000
set_option maxHeartbeats 4000000
namespace Ck
open PySem L2
structure aV (ps:List Pair):Prop where
  inr:∀ p∈ps,bu (2*(ps.length:Int)) p
  flat:(ax ps).Perm (cg (2*ps.length))
  nc:NC ps
  ris:ps.Pairwise cc
theorem gD {ps qs:List Pair} (h:ps.Perm qs):(ax ps).Perm (ax qs):=by
  induction h with
  | nil=>exact .refl _
  | cons x _ ih=>exact .cons _ (.cons _ ih)
  | swap x y l =>
    show (y.1::y.2::x.1::x.2::ax l).Perm (x.1::x.2::y.1::y.2::ax l)
    have:=List.perm_append_comm (l₁:=[y.1,y.2]) (l₂:=[x.1,x.2])
    exact this.append_right (ax l)
  | trans _ _ a b=>exact a.trans b
noncomputable def up1 (m x:Int):Int:=if x=m - 1 then 0 else x+1
noncomputable def dz (m x:Int):Int:=if x=0 then m - 1 else x - 1
theorem nC {m:Int}:∀ {ps:List Pair},(∀ p∈ps,bu m p)->(ax (ps.map (rtU m))).Perm ((ax ps).map (up1 m))
  | [],_=>.refl _
  | p::ps,h=>by
    have ih:=nC (ps:=ps) fun q hq=>h q (List.mem_cons_of_mem _ hq)
    have hp:=h p (List.mem_cons_self ..)
    obtain ⟨a,b⟩:=p
    unfold bu at hp
    simp only at hp
    show ((rtU m (a,b)).1::(rtU m (a,b)).2::ax (ps.map (rtU m))).Perm (up1 m a::up1 m b::(ax ps).map (up1 m))
    have ea:up1 m a=a+1:=by unfold up1; rw [if_neg (by lia)]
    by_cases e:b=m - 1
    · have e1:rtU m (a,b)=(0,a+1):=by unfold rtU; rw [if_pos e]
      have eb:up1 m b=0:=by unfold up1; rw [if_pos e]
      rw [e1,ea,eb]
      exact (List.Perm.swap _ _ _).trans (.cons _ (.cons _ ih))
    · have e1:rtU m (a,b)=(a+1,b+1):=by unfold rtU; rw [if_neg e]
      have eb:up1 m b=b+1:=by unfold up1; rw [if_neg e]
      rw [e1,ea,eb]
      exact .cons _ (.cons _ ih)
theorem nQ {m:Int}:∀ {ps:List Pair},(∀ p∈ps,bu m p)->(ax (ps.map (rtD m))).Perm ((ax ps).map (dz m))
  | [],_=>.refl _
  | p::ps,h=>by
    have ih:=nQ (ps:=ps) fun q hq=>h q (List.mem_cons_of_mem _ hq)
    have hp:=h p (List.mem_cons_self ..)
    obtain ⟨a,b⟩:=p
    unfold bu at hp
    simp only at hp
    show ((rtD m (a,b)).1::(rtD m (a,b)).2::ax (ps.map (rtD m))).Perm (dz m a::dz m b::(ax ps).map (dz m))
    have eb:dz m b=b - 1:=by unfold dz; rw [if_neg (by lia)]
    by_cases e:a=0
    · have e1:rtD m (a,b)=(b - 1,m - 1):=by unfold rtD; rw [if_pos e]
      have ea:dz m a=m - 1:=by unfold dz; rw [if_pos e]
      rw [e1,ea,eb]
      exact (List.Perm.swap _ _ _).trans (.cons _ (.cons _ ih))
    · have e1:rtD m (a,b)=(a - 1,b - 1):=by unfold rtD; rw [if_neg e]
      have ea:dz m a=a - 1:=by unfold dz; rw [if_neg e]
      rw [e1,ea,eb]
      exact .cons _ (.cons _ ih)
theorem cy {n:Nat} {x:Int}:x∈cg n↔0<=x/\x < (n:Int):=by
  unfold cg
  rw [List.mem_map]
  constructor
  · rintro ⟨k,hk,rfl⟩
    have:=List.mem_range.mp hk
    lia
  · intro h
    exact ⟨x.toNat,List.mem_range.mpr (by lia),by lia⟩
theorem xZ (n:Nat):((cg n).map (up1 n)).Perm (cg n):=by
  have nd:((cg n).map (up1 n)).Nodup:=gG (g:=dz n) (cQ n) fun x hx=>by
    have:=cy.mp hx
    unfold up1 dz
    by_cases e:x=(n:Int) - 1
    · rw [if_pos e,if_pos rfl,e]
    · rw [if_neg e,if_neg (by lia)]; lia
  refine (List.perm_ext_iff_of_nodup nd (cQ n)).mpr fun x=>?_
  rw [List.mem_map]
  constructor
  · rintro ⟨y,hy,rfl⟩
    have:=cy.mp hy
    refine cy.mpr ?_
    unfold up1
    split<;>lia
  · intro hx
    have:=cy.mp hx
    refine ⟨dz n x,cy.mpr ?_,?_⟩
    · unfold dz
      split<;>lia
    · unfold up1 dz
      by_cases e:x=0
      · rw [if_pos e,if_pos rfl,e]
      · rw [if_neg e,if_neg (by lia)]; lia
theorem yh (n:Nat):((cg n).map (dz n)).Perm (cg n):=by
  have nd:((cg n).map (dz n)).Nodup:=gG (g:=up1 n) (cQ n) fun x hx=>by
    have:=cy.mp hx
    unfold up1 dz
    by_cases e:x=0
    · rw [if_pos e,if_pos rfl,e]
    · rw [if_neg e,if_neg (by lia)]; lia
  refine (List.perm_ext_iff_of_nodup nd (cQ n)).mpr fun x=>?_
  rw [List.mem_map]
  constructor
  · rintro ⟨y,hy,rfl⟩
    have:=cy.mp hy
    refine cy.mpr ?_
    unfold dz
    split<;>lia
  · intro hx
    have:=cy.mp hx
    refine ⟨up1 n x,cy.mpr ?_,?_⟩
    · unfold up1
      split<;>lia
    · unfold up1 dz
      by_cases e:x=(n:Int) - 1
      · rw [if_pos e,if_pos rfl,e]
      · rw [if_neg e,if_neg (by lia)]; lia
theorem aV.rtU {ps qs:List Pair} (h:aV ps) (pm:qs.Perm (ps.map (rtU (2*(ps.length:Int))))) (rs:qs.Pairwise cc):aV qs:=by
  have lq:qs.length=ps.length:=by rw [pm.length_eq,List.length_map]
  refine ⟨fun p hp=>?_,?_,(h.nc.rtU h.inr).perm pm,rs⟩
  · obtain ⟨q,hq,rfl⟩:=List.mem_map.mp (pm.mem_iff.mp hp)
    rw [lq]
    exact rW (h.inr q hq)
  · rw [lq]
    have e:(2*(ps.length:Int))=((2*ps.length:Nat):Int):=by lia
    have a:=(gD pm).trans (nC h.inr)
    rw [e] at a
    exact (a.trans (h.flat.map _)).trans (xZ _)
theorem aV.rtD {ps qs:List Pair} (h:aV ps) (pm:qs.Perm (ps.map (rtD (2*(ps.length:Int))))) (rs:qs.Pairwise cc):aV qs:=by
  have lq:qs.length=ps.length:=by rw [pm.length_eq,List.length_map]
  refine ⟨fun p hp=>?_,?_,(h.nc.rtD h.inr).perm pm,rs⟩
  · obtain ⟨q,hq,rfl⟩:=List.mem_map.mp (pm.mem_iff.mp hp)
    rw [lq]
    exact ph (h.inr q hq)
  · rw [lq]
    have e:(2*(ps.length:Int))=((2*ps.length:Nat):Int):=by lia
    have a:=(gD pm).trans (nQ h.inr)
    rw [e] at a
    exact (a.trans (h.flat.map _)).trans (yh _)
theorem aV.bows {ps:List Pair} (h:aV ps):cX ps=true:=by
  have nd:(ax ps).Nodup:=h.flat.nodup_iff.mpr (cQ _)
  unfold cX
  rw [Bool.and_eq_true,Bool.and_eq_true,Bool.not_eq_true']
  refine ⟨kE.mpr fun k hk=>?_,(cZ _).mpr (by rw [dE]; exact h.flat),jx.mpr h.nc⟩
  have ek:∀ i (hi:i < ps.length),eg ps i=ps[i].1/\sF ps i=ps[i].2:=fun i hi=>by
    refine ⟨?_,?_⟩
    · unfold eg; rw [List.getD_eq_getElem?_getD,List.getElem?_eq_getElem hi]; rfl
    · unfold sF; rw [List.getD_eq_getElem?_getD,List.getElem?_eq_getElem hi]; rfl
  obtain ⟨e1,e2⟩:=ek k hk
  rw [e1,e2]
  refine ⟨(h.inr _ (List.getElem_mem hk)).2.1,?_⟩
  by_cases k0:k=0
  · exact .inl k0
  · refine .inr ?_
    have hk':k - 1 < ps.length:=by lia
    rw [(ek (k - 1) hk').1]
    have le:=List.pairwise_iff_getElem.mp h.ris (k - 1) k hk' hk (by lia)
    have ne:=eB nd
    have:=List.pairwise_iff_getElem.mp ne (k - 1) k (by simpa using hk') (by simpa using hk) (by lia)
    unfold cc at le
    simp at this
    lia
end Ck
set_option Elab.async false
set_option linter.all false
set_option maxRecDepth 100000
set_option maxHeartbeats 4000000
namespace Ck
open PySem L2
end Ck
set_option Elab.async false
set_option linter.all false
set_option maxRecDepth 100000
set_option maxHeartbeats 4000000
namespace L2
open PySem PySem.Spec PyProof.Rows PySem.W PySem.SeqAt Ck
noncomputable def cN:List Int->List Int->Bool
  | [],[]=>false
  | [],_::_=>true
  | _::_,[]=>false
  | a::as,b::bs=>if a=b then cN as bs else decide (a < b)
theorem mV:∀ as:List Int,cN as []=false
  | []=>rfl
  | _::_=>rfl
theorem nY:∀ as bs:List Int,cN as bs=true->cN bs as=false
  | [],[],h=>rfl
  | [],_::_,_=>rfl
  | _::_,[],h=>by cases h
  | a::as,b::bs,h=>by
    unfold cN at h |-
    by_cases e:a=b
    · rw [if_pos e] at h
      rw [if_pos e.symm]
      exact nY as bs h
    · rw [if_neg e] at h
      rw [if_neg (fun z=>e z.symm)]
      have:=of_decide_eq_true h
      exact decide_eq_false (by lia)
theorem pC:∀ as bs cs:List Int,cN bs as=false->cN cs bs=false->cN cs as=false
  | [],_,cs,_,_=>mV cs
  | _::_,[],_,h,_=>by cases h
  | _::_,_::_,[],_,h=>by cases h
  | a::as,b::bs,c::cs,h1,h2=>by
    unfold cN at h1 h2 |-
    by_cases e1:b=a
    · rw [if_pos e1] at h1
      by_cases e2:c=b
      · rw [if_pos e2] at h2
        rw [if_pos (e2.trans e1)]
        exact pC as bs cs h1 h2
      · rw [if_neg e2] at h2
        have:=of_decide_eq_false h2
        rw [if_neg (fun z=>e2 (z.trans e1.symm))]
        exact decide_eq_false (by lia)
    · rw [if_neg e1] at h1
      have d1:=of_decide_eq_false h1
      by_cases e2:c=b
      · rw [if_pos e2] at h2
        rw [if_neg (fun z=>e1 (e2.symm.trans z))]
        exact decide_eq_false (by lia)
      · rw [if_neg e2] at h2
        have:=of_decide_eq_false h2
        rw [if_neg (by lia)]
        exact decide_eq_false (by lia)
theorem zg (rs:List (List Int)):gp fun i j=>cN (rs.getD i []) (rs.getD j []) where
  asym a b h:=nY _ _ h
  ntr a b c h1 h2:=pC _ _ _ h1 h2
theorem iO {vs:List Value} {ns:List Int} (h:IntsAre vs ns):∀ {i:Nat} {n:Int},ns[i]? = some n->∃ t,vs[i]? = some (.int n t):=by
  induction h with
  | nil=>intro i n e; cases e
  | cons m t h ih =>
    intro i n e
    cases i with
    | zero=>simp at e; exact ⟨t,by rw [<- e]; rfl⟩
    | succ i=>exact ih (by simpa using e)
theorem vx (l b:Addr) (items items2:Array Value) (ns ms:List Int) (hi:IntsAre items.toList ns) (hm:IntsAre items2.toList ms) (n n2:Nat) (dd dd2:Option Addr) (sl sl2:Array (Option Value)):∀ (k i:Nat),ns.length - i=k->i<=ns.length->i<=ms.length ->
    Meets (Builtin.«list.__eq__.loop» ⟨[.ref l,.ref b,rawInt i,rawInt 0],[]⟩) (fun A R s=>s.heap.get? l=some { cls:=.type "list",dict:=dd,data:=.seq items n,slots:=sl }/\s.heap.get? b=some { cls:=.type "list",dict:=dd2,data:=.seq items2 n2,slots:=sl2 }/\R (.ok (.ret (.bool (cN (ns.drop i) (ms.drop i))))) s):=by
  have l1:items.size=ns.length:=by have:=hi.length; simpa using this
  have l2:items2.size=ms.length:=by have:=hm.length; simpa using this
  -- one of them is at its end
  have fin:∀ i:Nat,i<=ns.length->i<=ms.length->(i=ns.length\/i=ms.length)->cN (ns.drop i) (ms.drop i)=decide (items.size < items2.size):=fun i h1 h2 h=>by
    rw [l1,l2]
    by_cases e:i=ns.length
    · rw [List.drop_eq_nil_of_le (as:=ns) (by lia)]
      by_cases e2:i=ms.length
      · rw [List.drop_eq_nil_of_le (by lia)]
        exact (decide_eq_false (by lia)).symm
      · rw [List.drop_eq_getElem_cons (show i < ms.length by lia)]
        exact (decide_eq_true (by lia)).symm
    · rw [List.drop_eq_nil_of_le (as:=ms) (by lia),mV]
      exact (decide_eq_false (by lia)).symm
  intro k
  induction k with
  | zero =>
    intro i hk hn2 hm2 prog w A R s h
    obtain ⟨hp,g,d,tk,os⟩:=s
    obtain ⟨hl,hb,h⟩:=h
    wp_walk using wpAny_loadPart' hl,wpAny_loadPart' hb
    have n1:items[((i:Nat):Int).toNat]? = none:=by simp; lia
    rw [n1]
    rw [fin i hn2 hm2 (by lia)] at h
    wp_walk using wpAny_loadPart' hl,wpAny_loadPart' hb
    exact h
  | succ k ih =>
    intro i hk hn2 hm2 prog w A R s h
    obtain ⟨hp,g,d,tk,os⟩:=s
    obtain ⟨hl,hb,h⟩:=h
    have li:i < ns.length:=by lia
    obtain ⟨t1,g1⟩:=iO hi (List.getElem?_eq_getElem li)
    have i1:items[((i:Nat):Int).toNat]? = some (.int ns[i] t1):=by simpa using g1
    wp_walk using wpAny_loadPart' hl,wpAny_loadPart' hb
    rw [i1]
    by_cases lm:i < ms.length
    · obtain ⟨t2,g2⟩:=iO hm (List.getElem?_eq_getElem lm)
      have i2:items2[((i:Nat):Int).toNat]? = some (.int ms[i] t2):=by simpa using g2
      rw [i2]
      rw [List.drop_eq_getElem_cons li,List.drop_eq_getElem_cons lm] at h
      unfold cN at h
      refine wpAny_bind (wpAny_eqBool_int ?_)
      by_cases e:ns[i]=ms[i]
      · rw [if_pos e] at h
        rw [show (ns[i] == ms[i])=true by simpa using e]
        wp_walk
        have hc:((i:Int)+1)=((i+1:Nat):Int):=by lia
        rw [hc]
        exact ⟨plainId_quiet MeetsSeq3.plain_eq_loop _,codeAny_builtin MeetsSeq3.entry_eq_loop (by
          rw [Around.under_plainId MeetsSeq3.plain_eq_loop _]
          exact ih (i+1) (by lia) (by lia) (by lia) prog w A R _ ⟨hl,hb,h⟩)⟩
      · rw [if_neg e] at h
        rw [show (ns[i] == ms[i])=false by simpa using e]
        wp_walk using wpAny_loadPart' hl,wpAny_loadPart' hb
        rw [i1,i2]
        refine wpAny_bind (wpAny_lt_int ?_)
        exact wpAny_pure h
    · have n2':items2[((i:Nat):Int).toNat]? = none:=by simp; lia
      rw [n2']
      rw [fin i hn2 hm2 (by lia)] at h
      wp_walk using wpAny_loadPart' hl,wpAny_loadPart' hb
      exact h
theorem vD (l b:Addr) (items items2:Array Value) (ns ms:List Int) (hi:IntsAre items.toList ns) (hm:IntsAre items2.toList ms) (n n2:Nat) (dd dd2:Option Addr) (sl sl2:Array (Option Value)) :
    Meets (Builtin.«list.__lt__» ⟨[.ref l,.ref b],[]⟩) (fun A R s=>s.heap.get? l=some { cls:=.type "list",dict:=dd,data:=.seq items n,slots:=sl }/\s.heap.get? b=some { cls:=.type "list",dict:=dd2,data:=.seq items2 n2,slots:=sl2 }/\R (.ok (.ret (.bool (cN ns ms)))) s):=by
  intro prog w A R s h
  obtain ⟨hp,g,d,tk,os⟩:=s
  obtain ⟨hl,hb,h⟩:=h
  have f3:=AutoSeq1.sub_list_list
  wp_walk using wpAny_loadPart' hl,wpAny_loadPart' hb
  exact ⟨plainId_quiet MeetsSeq3.plain_eq_loop _,codeAny_builtin MeetsSeq3.entry_eq_loop (by
    rw [Around.under_plainId MeetsSeq3.plain_eq_loop _]
    exact vx l b items items2 ns ms hi hm n n2 dd dd2 sl sl2 _ 0 rfl (Nat.zero_le _) (Nat.zero_le _) prog w A R _ ⟨hl,hb,by simpa using h⟩)⟩
section
variable {prog:Program} {w:World} {A:Around} {E:Value->Shared->Prop} {s:Shared}
theorem p7 {l b:Addr} {its jts:List Value} {ns ms:List Int} {n n2:Nat} {Q:Bool->Shared->Prop} (hu:A.units < cLine) (hi:IntsAre its ns) (hm:IntsAre jts ms) (hl:s.heap.get? l=some { cls:=.type "list",data:=.seq its.toArray n }) (hb:s.heap.get? b=some { cls:=.type "list",data:=.seq jts.toArray n2 }) (h:Q (cN ns ms) s) :
    wpAny (model prog w) A (oneLt' true (.ref l) (.ref b)) Q E s:=by
  rw [oneLt'_eq]
  simp only [if_true]
  refine wpAny_bind (wpAny_cRoomFor hu (wpAny_bind (wpAny_callSpecialIfBound?_slot (T:="list") ⟨_,hl,rfl⟩ F.slot_list_lt (call_meets F.slot_list_lt ⟨_,hl,rfl⟩ F.entry_list_lt (F.args_list_lt_2 _ _) (vD l b its.toArray jts.toArray ns ms hi hm n n2 none none #[] #[]) ⟨hl,hb,?_⟩))))
  exact wpAny_truthy_bool h
def gK (h:Heap) (vs:List Value) (rs:List (List Int)):Prop:=Paired (fun (v:Value) (r:List Int)=>∃ a its n,v = .ref a/\IntsAre its r/\h.get? a=some { cls:=.type "list",data:=.seq its.toArray n }) vs rs
theorem gK.get {h:Heap}:∀ {vs:List Value} {rs:List (List Int)},gK h vs rs->∀ {i:Nat},i < vs.length->∃ a its n,vs.getD i Value.none = .ref a/\IntsAre its (rs.getD i [])/\h.get? a=some { cls:=.type "list",data:=.seq its.toArray n }
  | _,_,.nil,i,e=>absurd e (by simp)
  | _,_,.cons r t,0,e=>r
  | _,_,.cons r t,i+1,e=>by
    have:=gK.get t (i:=i) (by simpa using e)
    simpa using this
theorem gK.mem {h:Heap}:∀ {vs:List Value} {rs:List (List Int)},gK h vs rs->∀ v∈vs,∃ a its n,v = .ref a/\h.get? a=some { cls:=.type "list",data:=.seq (List.toArray its) n }
  | _,_,.cons r t,v,hv=>by
    rcases List.mem_cons.mp hv with rfl | hv
    · obtain ⟨a,its,n,e,_,g⟩:=r
      exact ⟨a,its,n,e,g⟩
    · exact gK.mem t v hv
theorem gK.mono {h h':Heap} (k:∀ b o,h.get? b=some o->h'.get? b=some o):∀ {vs:List Value} {rs:List (List Int)},gK h vs rs->gK h' vs rs
  | _,_,.nil=>.nil
  | _,_,.cons r t=>by
    obtain ⟨a,its,n,e,hi,g⟩:=r
    exact .cons ⟨a,its,n,e,hi,k _ _ g⟩ (gK.mono k t)
theorem xV {vs:List Value} {rs:List (List Int)} {s1:Shared} (hu:A.units < cLine) (r:gK s1.heap vs rs) (h2:2<=vs.length):qw prog w A vs (fun i j=>cN (rs.getD i []) (rs.getD j [])) s1:=by
  intro Q q
  refine kas_kind (T:=.type "list") h2 (fun v hv=>?_) (by decide) (by decide) (q _ fun i j C hi hj hc=>?_)
  · obtain ⟨a,its,n,rfl,g⟩:=r.mem v hv
    exact (Looks.ld g).andThen .now
  · obtain ⟨a,its,n,e1,i1,g1⟩:=r.get hi
    obtain ⟨b,jts,n2,e2,i2,g2⟩:=r.get hj
    unfold kas_ask
    rw [e1,e2,keyLt'_oneType]
    exact p7 hu i1 i2 g1 g2 hc
end
end L2
set_option Elab.async false
set_option linter.all false
set_option maxRecDepth 100000
set_option maxHeartbeats 4000000
namespace Zp
open PySem PyProof.Rows
noncomputable abbrev fG (h:Heap) (z TI TO T:Addr) (b:Bool):Prop :=
  h.get? z=some { cls:=.type "zip",dict:=none,data:=.fields #[rawInt T,.bool b,.bool false,.ref TI,.ref TO],slots:=#[] }
section
variable {prog:Program} {w:World} {A:Around} {E:Value->Shared->Prop} {s:Shared}
theorem oz {M:Model} {a:Addr} {Q:Option Obj->Shared->Prop} (h:Q (s.heap.get? a) s):wpAny M A (loadIfAlive a) Q E s:=fun _ _ _=>h
theorem lT {z TI TO T:Addr} {b:Bool} {oT:Obj} {Q:Bool->Shared->Prop} (hz:fG s.heap z TI TO T b) (hT:s.heap.get? T=some oT)
    (q:∀ h',fG h' z TI TO T true->(∀ c o,c≠z->s.heap.get? c=some o->h'.get? c=some o)->h'.objs.size=s.heap.objs.size->Q false { s with heap:=h' }):wpAny (model prog w) A (Builtin.SmallTypes.ownedTupleIsFree (.ref z)) Q E s:=by
  unfold Builtin.SmallTypes.ownedTupleIsFree
  refine wpAny_bind (wpAny_field hz rfl (x:=rawInt T) rfl ?_)
  unfold rawInt
  refine wpAny_bind (oz ?_)
  rw [show ((T:Nat):Int).toNat=T by lia,hT]
  rw [if_neg (by simp)]
  refine wpAny_bind (wpAny_field hz rfl (x:=.bool b) rfl ?_)
  cases b with
  | true =>
    rw [if_neg (by decide)]
    exact wpAny_bind (wpAny_pure (wpAny_pure (q s.heap hz (fun c o _ e=>e) rfl)))
  | false =>
    rw [if_pos (by decide)]
    exact wpAny_bind (wpAny_setField_rec hz (by simp) fun h1 hz1 hs1=>wpAny_pure (q h1 hz1 (fun c o n e=>hs1.extBut _ _ n e) hs1.1))
theorem qM {z TI TO T i1 i2 l1 l2:Addr} {k1 k2:Nat} {xs ys:Array Value} {x y:Value} {b:Bool} {oT:Obj} {Q:Value->Shared->Prop} (D:ZipApart z TI TO i1 i2 l1 l2)
    (hz:fG s.heap z TI TO T b) (hT:s.heap.get? T=some oT) (hTI:IsPair s.heap TI (.ref i1) (.ref i2)) (h1:s.heap.IsListIter i1 l1 k1) (h2:s.heap.IsListIter i2 l2 k2) (hl1:s.heap.IsList l1 xs) (hl2:s.heap.IsList l2 ys) (hx:xs[k1]? = some x) (hy:ys[k2]? = some y)
    (hQ:∀ h',fG h' z TI TO T true->h'.IsListIter i1 l1 (k1+1)->h'.IsListIter i2 l2 (k2+1)->IsPair h' s.heap.objs.size x y->h'.objs.size=s.heap.objs.size+1 ->
      (∀ c o,c≠z->c≠i1->c≠i2->s.heap.get? c=some o->h'.get? c=some o)->Q (.ref s.heap.objs.size) { s with heap:=h' }) :
    wpAny (model prog w) A (Builtin.«zip.__next__» ⟨[.ref z],[]⟩) (fun fin s'=>∃ v,fin = .done (.ret v)/\Q v s') E s:=by
  show wpAny _ _ (field (.ref z) 2 >>= _) _ _ _
  refine wpAny_bind (wpAny_field hz rfl (x:=.bool false) rfl ?_)
  show wpAny _ _ (field (.ref z) 3 >>= _) _ _ _
  refine wpAny_bind (wpAny_field hz rfl (x:=.ref TI) rfl (wpAny_bind (wpAny_seqItems hTI rfl ?_)))
  show wpAny _ _ (Builtin.SmallTypes.ownedTupleIsFree (.ref z) >>= _) _ _ _
  refine wpAny_bind (lT hz hT fun ha hza ka sza=>?_)
  rw [if_neg (by decide)]
  simp only [List.forIn_cons,List.forIn_nil,Array.forIn_toList,<- Array.forIn_toList]
  refine wpAny_bind (wpAny_bind (wpAny_bind (wpAny_holding ?_)))
  show wpAny _ _ (Builtin.SmallTypes.nextOf (.ref i1) >>= _) _ _ _
  refine wpAny_bind (wpAny_nextOf_list_item (h1.at fun o e=>ka _ o D.i1z e) (hl1.at fun o e=>ka _ o D.l1z e) hx fun hb h1b hsb=>wpAny_pure (wpAny_pure ?_))
  refine wpAny_bind (wpAny_bind (wpAny_holding ?_))
  show wpAny _ _ (Builtin.SmallTypes.nextOf (.ref i2) >>= _) _ _ _
  refine wpAny_bind (wpAny_nextOf_list_item ((h2.at fun o e=>ka _ o D.i2z e).extBut hsb.extBut D.i12.symm) ((hl2.at fun o e=>ka _ o D.l2z e).extBut hsb.extBut D.l2i1) hy fun hc h2c hsc=>wpAny_pure (wpAny_pure (wpAny_pure ?_)))
  refine wpAny_bind (wpAny_newTuple (wpAny_pure ⟨_,rfl,?_⟩) (by show 2<=sizeLine; rw [sizeLine_eq]; lia))
  have szc:hc.objs.size=s.heap.objs.size:=by rw [hsc.1,hsb.1,sza]
  have up:∀ c o,hc.get? c=some o->(hc.push { cls:=.type "tuple",data:=.seq #[x,y] }).get? c=some o:=fun c o e=>Heap.get?_push_of_some _ e
  have hzc:fG hc z TI TO T true:=hsc.extBut _ _ D.i2z.symm (hsb.extBut _ _ D.i1z.symm hza)
  have hT8:IsPair (hc.push { cls:=.type "tuple",data:=.seq #[x,y] }) hc.objs.size x y:=Heap.get?_push_size _ rfl
  show Q (.ref hc.objs.size) { s with heap:=hc.push { cls:=.type "tuple",data:=.seq #[x,y] } }
  rw [szc] at hT8 |-
  exact hQ _ (up _ _ hzc) ((h1b.extBut hsc.extBut D.i12).at fun o e=>up _ o e) (h2c.at fun o e=>up _ o e) hT8 (by rw [Heap.size_push,szc]) fun c o c1 c2 c3 e=>up _ _ (hsc.extBut _ _ c3 (hsb.extBut _ _ c2 (ka _ _ c1 e)))
theorem sQ {z TI TO T i1 i2 l1 l2:Addr} {k1 k2:Nat} {xs ys:Array Value} {b:Bool} {oT:Obj} {Q:PySem.Fin->Shared->Prop} (hh:A.handled=none) (D:ZipApart z TI TO i1 i2 l1 l2)
    (hz:fG s.heap z TI TO T b) (hT:s.heap.get? T=some oT) (hTI:IsPair s.heap TI (.ref i1) (.ref i2)) (h1:s.heap.IsListIter i1 l1 k1) (h2:s.heap.IsListIter i2 l2 k2) (hl1:s.heap.IsList l1 xs) (hl2:s.heap.IsList l2 ys) (hend:xs[k1]? = none\/ys[k2]? = none)
    (hE:∀ h' e,(∀ c o,c≠z->c≠i1->c≠i2->s.heap.get? c=some o->h'.get? c=some o)->(∃ o,h'.get? e=some o/\o.cls = .type "StopIteration")->E (.ref e) { s with heap:=h' }) :
    wpAny (model prog w) A (Builtin.«zip.__next__» ⟨[.ref z],[]⟩) Q E s:=by
  show wpAny _ _ (field (.ref z) 2 >>= _) _ _ _
  refine wpAny_bind (wpAny_field hz rfl (x:=.bool false) rfl ?_)
  show wpAny _ _ (field (.ref z) 3 >>= _) _ _ _
  refine wpAny_bind (wpAny_field hz rfl (x:=.ref TI) rfl (wpAny_bind (wpAny_seqItems hTI rfl ?_)))
  show wpAny _ _ (Builtin.SmallTypes.ownedTupleIsFree (.ref z) >>= _) _ _ _
  refine wpAny_bind (lT hz hT fun ha hza ka sza=>?_)
  rw [if_neg (by decide)]
  simp only [List.forIn_cons,List.forIn_nil,Array.forIn_toList,<- Array.forIn_toList]
  refine wpAny_bind (wpAny_bind (wpAny_bind (wpAny_holding ?_)))
  show wpAny _ _ (Builtin.SmallTypes.nextOf (.ref i1) >>= _) _ _ _
  cases hx:xs[k1]? with
  | none =>
    exact wpAny_bind (wpAny_nextOf_list_end hh (h1.at fun o e=>ka _ o D.i1z e) (hl1.at fun o e=>ka _ o D.l1z e) hx fun hb e hsb he=>hE hb e (fun c o c1 c2 _ x=>hsb _ _ c2 (ka _ _ c1 x)) he)
  | some x =>
    have hy:ys[k2]? = none:=by rcases hend with h | h; rw [hx] at h; cases h; exact h
    refine wpAny_bind (wpAny_nextOf_list_item (h1.at fun o e=>ka _ o D.i1z e) (hl1.at fun o e=>ka _ o D.l1z e) hx fun hb h1b hsb=>wpAny_pure (wpAny_pure ?_))
    refine wpAny_bind (wpAny_bind (wpAny_holding ?_))
    show wpAny _ _ (Builtin.SmallTypes.nextOf (.ref i2) >>= _) _ _ _
    exact wpAny_bind (wpAny_nextOf_list_end hh ((h2.at fun o e=>ka _ o D.i2z e).extBut hsb.extBut D.i12.symm) ((hl2.at fun o e=>ka _ o D.l2z e).extBut hsb.extBut D.l2i1) hy fun hc e hsc he=>hE hc e (fun c o c1 c2 c3 x=>hsc _ _ c3 (hsb.extBut _ _ c2 (ka _ _ c1 x))) he)
theorem rZ {z TI TO T i1 i2 l1 l2:Addr} {k1 k2:Nat} {xs ys:Array Value} {x y:Value} {b:Bool} {oT:Obj} {Q:Option Value->Shared->Prop} (D:ZipApart z TI TO i1 i2 l1 l2)
    (hz:fG s.heap z TI TO T b) (hT:s.heap.get? T=some oT) (hTI:IsPair s.heap TI (.ref i1) (.ref i2)) (h1:s.heap.IsListIter i1 l1 k1) (h2:s.heap.IsListIter i2 l2 k2) (hl1:s.heap.IsList l1 xs) (hl2:s.heap.IsList l2 ys) (hx:xs[k1]? = some x) (hy:ys[k2]? = some y)
    (hQ:∀ h',fG h' z TI TO T true->h'.IsListIter i1 l1 (k1+1)->h'.IsListIter i2 l2 (k2+1)->IsPair h' s.heap.objs.size x y->h'.objs.size=s.heap.objs.size+1 ->
      (∀ c o,c≠z->c≠i1->c≠i2->s.heap.get? c=some o->h'.get? c=some o)->Q (some (.ref s.heap.objs.size)) { s with heap:=h' }) :
    wpAny (model prog w) A (pyNext (.ref z)) Q E s:=by
  have hTy:s.TypeIs (.ref z) "zip":=⟨_,hz,rfl⟩
  unfold pyNext
  exact wpAny_bind (wpAny_attempt (wpAny_callSpecial?_slot (name:=Str.ofString "__next__") hTy F.slot_zip_next (wpAny_call_entry F.slot_zip_next hTy F.entry_zip_next
    (qM D hz hT hTI h1 h2 hl1 hl2 hx hy fun h' a1 a2 a3 a4 a5 a6=>wpAny_pure (hQ h' a1 a2 a3 a4 a5 a6)) (F.args_zip_next_1 _))))
theorem tV {z TI TO T i1 i2 l1 l2:Addr} {k1 k2:Nat} {xs ys:Array Value} {b:Bool} {oT:Obj} {Q:Option Value->Shared->Prop} (hh:A.handled=none) (D:ZipApart z TI TO i1 i2 l1 l2)
    (hz:fG s.heap z TI TO T b) (hT:s.heap.get? T=some oT) (hTI:IsPair s.heap TI (.ref i1) (.ref i2)) (h1:s.heap.IsListIter i1 l1 k1) (h2:s.heap.IsListIter i2 l2 k2) (hl1:s.heap.IsList l1 xs) (hl2:s.heap.IsList l2 ys) (hend:xs[k1]? = none\/ys[k2]? = none)
    (hQ:∀ h',(∀ c o,c≠z->c≠i1->c≠i2->s.heap.get? c=some o->h'.get? c=some o)->Q none { s with heap:=h' }):wpAny (model prog w) A (pyNext (.ref z)) Q E s:=by
  have hTy:s.TypeIs (.ref z) "zip":=⟨_,hz,rfl⟩
  unfold pyNext
  refine wpAny_bind (wpAny_attempt (wpAny_callSpecial?_slot (name:=Str.ofString "__next__") hTy F.slot_zip_next (wpAny_call_entry F.slot_zip_next hTy F.entry_zip_next (sQ hh D hz hT hTI h1 h2 hl1 hl2 hend fun h' e hk he=>?_) (F.args_zip_next_1 _))))
  obtain ⟨o,ho,hc⟩:=he
  exact wpAny_bind (wpAny_isInstance (T:="StopIteration") (b:=true) ⟨o,ho,hc⟩ isSubtype_stop (wpAny_pure (hQ _ hk)))
end
end Zp
namespace Zp
open PySem PyProof.Rows
def Zs (h:Heap) (z TI TO:Addr) (ts:List Addr):Prop:=(ts=[]/\IsZip h z TI TO .none/\∃ a b,IsPair h TO a b)\/∃ T b,T∈ts/\fG h z TI TO T b
structure ZSt (h:Heap) (z TI TO i1 i2 l1 l2:Addr) (xs ys:Array Value) (ts:List Addr):Prop where
  zs:Zs h z TI TO ts
  ti:IsPair h TI (.ref i1) (.ref i2)
  it1:h.IsListIter i1 l1 ts.length
  it2:h.IsListIter i2 l2 ts.length
  li1:h.IsList l1 xs
  li2:h.IsList l2 ys
  tup:∀ (j:Nat) (T:Addr),ts[j]? = some T->∃ x y,xs[j]? = some x/\ys[j]? = some y/\IsPair h T x y/\T≠z/\T≠TO/\T≠i1/\T≠i2
  nd:ts.Nodup
  tto:∃ o,h.get? TO=some o
theorem ZSt.keep {h h':Heap} {z TI TO i1 i2 l1 l2:Addr} {xs ys:Array Value} {ts:List Addr} (Z:ZSt h z TI TO i1 i2 l1 l2 xs ys ts) (k:∀ b o,h.get? b=some o->(b=z\/b=TI\/b=TO\/b=i1\/b=i2\/b=l1\/b=l2\/b∈ts)->h'.get? b=some o):ZSt h' z TI TO i1 i2 l1 l2 xs ys ts:=by
  refine ⟨?_,k _ _ Z.ti (by simp),Z.it1.at fun o e=>k _ o e (by simp),Z.it2.at fun o e=>k _ o e (by simp),Z.li1.at fun o e=>k _ o e (by simp),Z.li2.at fun o e=>k _ o e (by simp),fun j T hj=>?_,Z.nd,let ⟨o,e⟩:=Z.tto; ⟨o,k _ _ e (by simp)⟩⟩
  · rcases Z.zs with ⟨e,hz,a,b,ho⟩ | ⟨T,b,hT,hz⟩
    · exact .inl ⟨e,k _ _ hz (by simp),a,b,k _ _ ho (by simp)⟩
    · exact .inr ⟨T,b,hT,k _ _ hz (by simp)⟩
  · obtain ⟨x,y,h1,h2,h3,h4⟩:=Z.tup j T hj
    exact ⟨x,y,h1,h2,k _ _ h3 (by simp [List.mem_of_getElem? hj]),h4⟩
section
variable {prog:Program} {w:World} {A:Around} {E:Value->Shared->Prop} {s:Shared}
theorem u7 {z TI TO i1 i2 l1 l2:Addr} {xs ys:Array Value} {ts:List Addr} {Q:Option Value->Shared->Prop} (D:ZipApart z TI TO i1 i2 l1 l2) (Z:ZSt s.heap z TI TO i1 i2 l1 l2 xs ys ts) (lt:ts.length < min xs.size ys.size)
    (q:∀ h',ZSt h' z TI TO i1 i2 l1 l2 xs ys (ts++[s.heap.objs.size])->(∀ c o,c≠z->c≠TO->c≠i1->c≠i2->s.heap.get? c=some o->h'.get? c=some o)->Q (some (.ref s.heap.objs.size)) { s with heap:=h' }):wpAny (model prog w) A (pyNext (.ref z)) Q E s:=by
  have lx:ts.length < xs.size:=by lia
  have ly:ts.length < ys.size:=by lia
  have sx:=Array.getElem?_eq_getElem lx
  have sy:=Array.getElem?_eq_getElem ly
  have far:∀ {c o},s.heap.get? c=some o->s.heap.objs.size≠c:=fun e=>Nat.ne_of_gt (Heap.lt_size e)
  have hzl:∃ o,s.heap.get? z=some o:=by
    rcases Z.zs with ⟨_,hz,_⟩ | ⟨T,b,_,hz⟩
    · exact ⟨_,hz⟩
    · exact ⟨_,hz⟩
  have fin:∀ h':Heap,Zs h' z TI TO (ts++[s.heap.objs.size])->h'.IsListIter i1 l1 (ts.length+1)->h'.IsListIter i2 l2 (ts.length+1)->IsPair h' s.heap.objs.size xs[ts.length] ys[ts.length]->(∀ c o,c≠z->c≠TO->c≠i1->c≠i2->s.heap.get? c=some o->h'.get? c=some o)->(∃ o,h'.get? TO=some o)->Q (some (.ref s.heap.objs.size)) { s with heap:=h' }:=fun h' a1 a2 a3 a4 a5 aTO=>by
    have nTO:s.heap.objs.size≠TO:=let ⟨_,e⟩:=Z.tto; far e
    refine q h' ⟨a1,a5 _ _ D.TIz D.TITO D.TIi1 D.TIi2 Z.ti,by rw [List.length_append]; exact a2,by rw [List.length_append]; exact a3,Z.li1.at fun o e=>a5 _ o D.l1z D.l1TO D.l1i1 D.l1i2 e,Z.li2.at fun o e=>a5 _ o D.l2z D.l2TO D.l2i1 D.l2i2 e,fun j T hj=>?_,?_,aTO⟩ a5
    · by_cases e:j < ts.length
      · rw [List.getElem?_append_left e] at hj
        obtain ⟨x,y,h1,h2,h3,n1,n2,n3,n4⟩:=Z.tup j T hj
        exact ⟨x,y,h1,h2,a5 _ _ n1 n2 n3 n4 h3,n1,n2,n3,n4⟩
      · rw [List.getElem?_append_right (by lia)] at hj
        have ej:j=ts.length:=by
          have:=(List.getElem?_eq_some_iff.mp hj).1
          simp at this
          lia
        subst ej
        have eT:s.heap.objs.size=T:=by simpa using hj
        subst eT
        obtain ⟨o,ho⟩:=hzl
        exact ⟨_,_,sx,sy,a4,far ho,nTO,(by obtain ⟨_,e,_⟩:=Z.it1; exact far e),(by obtain ⟨_,e,_⟩:=Z.it2; exact far e)⟩
    · refine List.nodup_append.mpr ⟨Z.nd,by simp,fun c hc d hd=>?_⟩
      have ed:d=s.heap.objs.size:=by simpa using hd
      obtain ⟨j,hj⟩:=List.getElem?_of_mem hc
      obtain ⟨x,y,_,_,h3,_⟩:=Z.tup j c hj
      rw [ed]
      exact (far h3).symm
  rcases Z.zs with ⟨e,hz,a,b,ho⟩ | ⟨T,b,hT,hz⟩
  · exact wpAny_pyNext_zip_item D hz Z.ti ho Z.it1 Z.it2 Z.li1 Z.li2 sx sy fun h' a1 a2 a3 a4 a5 a6 a7=>fin h' (.inr ⟨_,false,by simp,a1⟩) a3 a4 a5 a7 ⟨_,a2⟩
  · obtain ⟨j,hj⟩:=List.getElem?_of_mem hT
    obtain ⟨x,y,_,_,h3,_⟩:=Z.tup j T hj
    obtain ⟨o,eo⟩:=Z.tto
    exact rZ D hz h3 Z.ti Z.it1 Z.it2 Z.li1 Z.li2 sx sy fun h' a1 a2 a3 a4 a5 a6=>fin h' (.inr ⟨T,true,by simp [hT],a1⟩) a2 a3 a4 (fun c o c1 _ c3 c4 e=>a6 c o c1 c3 c4 e) ⟨o,a6 _ _ D.TOz D.TOi1 D.TOi2 eo⟩
theorem xO {z TI TO i1 i2 l1 l2:Addr} {xs ys:Array Value} {ts:List Addr} {Q:Option Value->Shared->Prop} (hh:A.handled=none) (D:ZipApart z TI TO i1 i2 l1 l2) (Z:ZSt s.heap z TI TO i1 i2 l1 l2 xs ys ts) (le:min xs.size ys.size<=ts.length)
    (q:∀ h',(∀ c o,c≠z->c≠TO->c≠i1->c≠i2->s.heap.get? c=some o->h'.get? c=some o)->Q none { s with heap:=h' }):wpAny (model prog w) A (pyNext (.ref z)) Q E s:=by
  have hend:xs[ts.length]? = none\/ys[ts.length]? = none:=by
    by_cases h:xs.size<=ts.length
    · exact .inl (Array.getElem?_eq_none h)
    · exact .inr (Array.getElem?_eq_none (by lia))
  rcases Z.zs with ⟨e,hz,a,b,ho⟩ | ⟨T,b,hT,hz⟩
  · exact wpAny_pyNext_zip_end hh D hz Z.ti ho Z.it1 Z.it2 Z.li1 Z.li2 hend q
  · obtain ⟨j,hj⟩:=List.getElem?_of_mem hT
    obtain ⟨x,y,_,_,h3,_⟩:=Z.tup j T hj
    exact tV hh D hz h3 Z.ti Z.it1 Z.it2 Z.li1 Z.li2 hend fun h' k=>q h' fun c o c1 _ c3 c4 e=>k c o c1 c3 c4 e
end
section
variable {prog:Program} {w:World} {A:Around} {R:Result->Shared->Prop}
theorem vz {z TI TO i1 i2 l1 l2 S:Addr} {xs ys:Array Value} {res:Value} (hh:A.handled=none) (D:ZipApart z TI TO i1 i2 l1 l2) (hS:S≠z/\S≠TI/\S≠TO/\S≠i1/\S≠i2/\S≠l1/\S≠l2) (hn:min xs.size ys.size<=1000000) :
    ∀ (k:Nat) (s:Shared) (ts:List Addr) (acc:Array Value) (c:Nat),min xs.size ys.size - ts.length=k->ts.length<=min xs.size ys.size->ZSt s.heap z TI TO i1 i2 l1 l2 xs ys ts->S∉ts->s.heap.get? S=some { cls:=.type "list",dict:=none,data:=.seq acc c,slots:=#[] }->acc.toList=ts.map Value.ref ->
    (∀ (h':Heap) (ts':List Addr) (acc':Array Value) (c':Nat),(∀ b o,b≠S->b≠z->b≠TO->b≠i1->b≠i2->s.heap.get? b=some o->h'.get? b=some o)->h'.get? S=some { cls:=.type "list",dict:=none,data:=.seq acc' c',slots:=#[] }->acc'.toList=ts'.map Value.ref->ts'.length=min xs.size ys.size->ts'.Nodup->S∉ts' ->
      (∀ (j:Nat) (T:Addr),ts'[j]? = some T->(∃ x y,xs[j]? = some x/\ys[j]? = some y/\IsPair h' T x y)/\(T∈ts\/s.heap.objs.size<=T))->R (.ok (.ret res)) { s with heap:=h' }) ->
    codeAny (model prog w) A (.builtin "list.extend.loop" ⟨[.ref S,.ref z,res],[]⟩) R s:=by
  intro k
  induction k with
  | zero =>
    intro s ts acc c hk hi Z nS hl ea q
    refine codeAny_builtin F.entry_extend_loop ?_
    rw [Around.under_plainId F.plain_extend_loop _]
    show wpAny _ A.in1 (pyNext (.ref z) >>= _) _ _ s
    refine wpAny_bind (xO (A:=A.in1) hh D Z (by lia) fun h' kk=>wpAny_pure (q h' ts acc c (fun b o _ b1 b2 b3 b4 e=>kk b o b1 b2 b3 b4 e) (kk _ _ hS.1 hS.2.2.1 hS.2.2.2.1 hS.2.2.2.2.1 hl) ea (by lia) Z.nd nS fun j T hj=>?_))
    obtain ⟨x,y,h1,h2,h3,n1,n2,n3,n4⟩:=Z.tup j T hj
    exact ⟨⟨x,y,h1,h2,kk _ _ n1 n2 n3 n4 h3⟩,.inl (List.mem_of_getElem? hj)⟩
  | succ k ih =>
    intro s ts acc c hk hi Z nS hl ea q
    have la:acc.size=ts.length:=by rw [<- Array.length_toList,ea,List.length_map]
    refine codeAny_builtin F.entry_extend_loop ?_
    rw [Around.under_plainId F.plain_extend_loop _]
    show wpAny _ A.in1 (pyNext (.ref z) >>= _) _ _ s
    refine wpAny_bind (u7 (A:=A.in1) D Z (by lia) fun h' Z' kk=>?_)
    have hl':=kk _ _ hS.1 hS.2.2.1 hS.2.2.2.1 hS.2.2.2.2.1 hl
    have nS':S≠s.heap.objs.size:=Nat.ne_of_lt (Heap.lt_size hl)
    have nST:S∉ts++[s.heap.objs.size]:=by simp [nS,nS']
    show wpAny _ A.in1 (updateSeq S (·.push (.ref s.heap.objs.size)) >>= _) _ _ _
    have oth:∀ b o,b≠S->h'.get? b=some o->(h'.update S (Obj.mapSeq (·.push (.ref s.heap.objs.size)))).get? b=some o:=fun b o n e=>(Heap.get?_update_other _ _ (Ne.symm n)).trans e
    have Z2:ZSt (h'.update S (Obj.mapSeq (·.push (.ref s.heap.objs.size)))) z TI TO i1 i2 l1 l2 xs ys (ts++[s.heap.objs.size]):=Z'.keep fun b o e hb=>oth b o (fun z=>by
      subst z
      rcases hb with h | h | h | h | h | h | h | h
      · exact hS.1 h
      · exact hS.2.1 h
      · exact hS.2.2.1 h
      · exact hS.2.2.2.1 h
      · exact hS.2.2.2.2.1 h
      · exact hS.2.2.2.2.2.1 h
      · exact hS.2.2.2.2.2.2 h
      · exact nST h) e
    refine wpAny_bind (wpAny_updateSeq hl' rfl (wpAny_pure ⟨plainId_quiet F.plain_extend_loop _,ih { s with heap:=h'.update S (Obj.mapSeq (·.push (.ref s.heap.objs.size))) } (ts++[s.heap.objs.size]) (acc.push (.ref s.heap.objs.size)) _ (by rw [List.length_append]; show _ - (ts.length+1)=k; lia) (by rw [List.length_append]; show ts.length+1<=_; lia) Z2 nST (Heap.get?_update_self _ hl' rfl) (by rw [Array.toList_push,ea,List.map_append]; rfl) fun h2 ts' acc' c' kk2 hl2 ea2 lt2 nd2 nS2 tu=>?_⟩)
      (by rw [la,sizeLine_eq]; lia) (by show (acc.push (.ref s.heap.objs.size)).size<=sizeLine+1; rw [Array.size_push,la,sizeLine_eq]; lia))
    refine q h2 ts' acc' c' (fun b o b0 b1 b2 b3 b4 e=>kk2 b o b0 b1 b2 b3 b4 (oth b o b0 (kk b o b1 b2 b3 b4 e))) hl2 ea2 lt2 nd2 nS2 fun j T hj=>?_
    obtain ⟨g1,g2⟩:=tu j T hj
    refine ⟨g1,?_⟩
    rcases g2 with g | g
    · rcases List.mem_append.mp g with g | g
      · exact .inl g
      · exact .inr (by rw [show T=s.heap.objs.size by simpa using g]; exact Nat.le_refl _)
    · have hsz:s.heap.objs.size<=(h'.update S (Obj.mapSeq (·.push (.ref s.heap.objs.size)))).objs.size:=by
        rw [Heap.size_update]
        obtain ⟨x,y,_,_,h3,_⟩:=Z'.tup ts.length s.heap.objs.size (by simp)
        exact Nat.le_of_lt (Heap.lt_size h3)
      exact .inr (Nat.le_trans hsz g)
end
end Zp
namespace Zp
open PySem PyProof.Rows
theorem vb:typeLookup (.type "zip") "__len__" = pure none:=by rw [typeLookup_type,builtinLookup_eq_fast]; kernel_rfl
theorem tH:typeLookup (.type "zip") "__length_hint__" = pure none:=by rw [typeLookup_type,builtinLookup_eq_fast]; kernel_rfl
section
variable {prog:Program} {w:World} {A:Around} {E:Value->Shared->Prop} {s:Shared}
theorem tK {z:Addr} {Q:Bool->Shared->Prop} (hT:s.TypeIs (.ref z) "zip") (q:Q true s):wpAny (model prog w) A (Builtin.List.listLengthHint (.ref z)) Q E s:=by
  unfold Builtin.List.listLengthHint
  refine wpAny_bind (wpAny_specialOf hT vb ?_)
  dsimp only
  exact wpAny_bind (wpAny_specialOf hT tH (wpAny_pure q))
theorem ZSt.zip {h:Heap} {z TI TO i1 i2 l1 l2:Addr} {xs ys:Array Value} (Z:ZSt h z TI TO i1 i2 l1 l2 xs ys []):IsZip h z TI TO .none:=by
  rcases Z.zs with ⟨_,hz,_⟩ | ⟨T,b,hT,_⟩
  · exact hz
  · cases hT
theorem qr {R:Result->Shared->Prop} {z TI TO i1 i2 l1 l2 S:Addr} {xs ys:Array Value} {res:Value} {c:Nat} (hh:A.handled=none) (D:ZipApart z TI TO i1 i2 l1 l2) (hS:S≠z/\S≠TI/\S≠TO/\S≠i1/\S≠i2/\S≠l1/\S≠l2) (hn:min xs.size ys.size<=1000000)
    (Z:ZSt s.heap z TI TO i1 i2 l1 l2 xs ys []) (hl:s.heap.get? S=some { cls:=.type "list",dict:=none,data:=.seq #[] c,slots:=#[] })
    (q:∀ (h':Heap) (ts:List Addr) (acc:Array Value) (c':Nat),(∀ b o,b≠S->b≠z->b≠TO->b≠i1->b≠i2->s.heap.get? b=some o->h'.get? b=some o)->h'.get? S=some { cls:=.type "list",dict:=none,data:=.seq acc c',slots:=#[] }->acc.toList=ts.map Value.ref->ts.length=min xs.size ys.size->ts.Nodup->S∉ts ->
      (∀ (j:Nat) (T:Addr),ts[j]? = some T->(∃ x y,xs[j]? = some x/\ys[j]? = some y/\IsPair h' T x y)/\s.heap.objs.size<=T)->R (.ok (.ret res)) { s with heap:=h' }) :
    wpAny (model prog w) A.in1 (Builtin.List.listExtendWith (.ref S) (.ref z) res) (fun fin s'=>match fin with | .done f=>R (.ok f) s' | .again c'=>c'.quiet=true/\codeAny (model prog w) A c' R s') (fun e s'=>R (.error e) s') s:=by
  have hz:=Z.zip
  have n1:Builtin.List.listSameRef (.ref S) (.ref z)=false:=by simp [Builtin.List.listSameRef,hS.1]
  have n2:(Value.type "zip" == Value.type "list")=false:=by decide
  have n3:(Value.type "zip" == Value.type "tuple")=false:=by decide
  unfold Builtin.List.listExtendWith
  refine wpAny_bind (wpAny_typeOf (T:="zip") ⟨_,hz,rfl⟩ ?_)
  simp only [n1,n2,n3,Bool.or_false,Bool.false_eq_true,if_false]
  refine wpAny_bind (wpAny_pyIter_zip hz (wpAny_bind (wpAny_holding (tK ⟨_,hz,rfl⟩ ?_))))
  simp only [Bool.true_or,if_true]
  refine wpAny_bind (wpAny_rule (wpAny_bind ?_))
  show wpAny _ _ (updateSeq S (·.push .none) >>= fun _=>updateSeq S (·.pop)) _ _ _
  have hl2:=Heap.get?_update_self (Obj.mapSeq (·.push Value.none)) hl rfl
  have hl3:=Heap.get?_update_self (Obj.mapSeq (·.pop)) hl2 rfl
  have oth:∀ b o,b≠S->s.heap.get? b=some o->((s.heap.update S (Obj.mapSeq (·.push Value.none))).update S (Obj.mapSeq (·.pop))).get? b=some o:=fun b o n e=>(Heap.get?_update_other _ _ (Ne.symm n)).trans ((Heap.get?_update_other _ _ (Ne.symm n)).trans e)
  refine wpAny_bind (wpAny_updateSeq hl rfl (wpAny_updateSeq hl2 rfl (wpAny_pure ⟨plainId_quiet F.plain_extend_loop _,?_⟩) (by show 1<=sizeLine; rw [sizeLine_eq]; lia) (by show 0<=_; exact Nat.zero_le _)) (Nat.zero_le _) (by show 1<=_; rw [sizeLine_eq]; lia))
  refine vz (xs:=xs) (ys:=ys) hh D hS hn _ _ [] #[] _ rfl (Nat.zero_le _) (Z.keep fun b o e hb=>oth b o (fun x=>by
      subst x
      rcases hb with h | h | h | h | h | h | h | h
      · exact hS.1 h
      · exact hS.2.1 h
      · exact hS.2.2.1 h
      · exact hS.2.2.2.1 h
      · exact hS.2.2.2.2.1 h
      · exact hS.2.2.2.2.2.1 h
      · exact hS.2.2.2.2.2.2 h
      · cases h) e) (by simp) hl3 rfl fun h' ts acc c' k e1 e2 e3 e4 e5 e6=>q h' ts acc c' (fun b o b0 b1 b2 b3 b4 e=>k b o b0 b1 b2 b3 b4 (oth b o b0 e)) e1 e2 e3 e4 e5 fun j T hj=>?_
  obtain ⟨g1,g2⟩:=e6 j T hj
  refine ⟨g1,?_⟩
  rcases g2 with g | g
  · cases g
  · rw [Heap.size_update,Heap.size_update] at g
    exact g
theorem list_zip {Q:Value->Shared->Prop} {z TI TO i1 i2 l1 l2:Addr} {xs ys:Array Value} (hh:A.handled=none) (D:ZipApart z TI TO i1 i2 l1 l2) (hn:min xs.size ys.size<=1000000) (Z:ZSt s.heap z TI TO i1 i2 l1 l2 xs ys [])
    (q:∀ (h':Heap) (ts:List Addr) (acc:Array Value) (c':Nat),(∀ b o,b≠z->b≠TO->b≠i1->b≠i2->s.heap.get? b=some o->h'.get? b=some o)->h'.get? s.heap.objs.size=some { cls:=.type "list",dict:=none,data:=.seq acc c',slots:=#[] }->acc.toList=ts.map Value.ref->ts.length=min xs.size ys.size->ts.Nodup ->
      (∀ (j:Nat) (T:Addr),ts[j]? = some T->(∃ x y,xs[j]? = some x/\ys[j]? = some y/\IsPair h' T x y)/\s.heap.objs.size < T)->Q (.ref s.heap.objs.size) { s with heap:=h' }) :
    wpAny (model prog w) A (call (.type "list") [.ref z]) Q E s:=by
  have hz:=Z.zip
  have far:∀ {c o},s.heap.get? c=some o->s.heap.objs.size≠c:=fun e=>Nat.ne_of_gt (Heap.lt_size e)
  have hS:s.heap.objs.size≠z/\s.heap.objs.size≠TI/\s.heap.objs.size≠TO/\s.heap.objs.size≠i1/\s.heap.objs.size≠i2/\s.heap.objs.size≠l1/\s.heap.objs.size≠l2 :=
    ⟨far hz,far Z.ti,(let ⟨_,e⟩:=Z.tto; far e),(let ⟨_,e,_⟩:=Z.it1; far e),(let ⟨_,e,_⟩:=Z.it2; far e),(let ⟨_,e,_⟩:=Z.li1; far e),(let ⟨_,e,_⟩:=Z.li2; far e)⟩
  refine callType_codes (Q₁:=fun T s1=>T = .ref s.heap.objs.size/\s1={ s with heap:=s.heap.push { cls:=.type "list",data:=.seq #[] } }) F.called_list (F.typeCall_list_1 _) F.entry_list_init (code_list_new _ ⟨rfl,rfl⟩) fun T s1 e1=>?_
  obtain ⟨rfl,rfl⟩:=e1
  have g0:(s.heap.push { cls:=.type "list",data:=.seq #[] }).get? s.heap.objs.size=some { cls:=.type "list",data:=.seq #[] }:=Heap.get?_push_size _ rfl
  have g1:=Heap.get?_update_self (Obj.mapSeq (fun _=>(#[]:Array Value))) g0 rfl
  have oth:∀ b o,s.heap.get? b=some o->((s.heap.push { cls:=.type "list",data:=.seq #[] }).update s.heap.objs.size (Obj.mapSeq (fun _=>(#[]:Array Value)))).get? b=some o:=fun b o e=>(Heap.get?_update_other _ _ (far e)).trans (Heap.get?_push_of_some _ e)
  refine ⟨⟨_,g0,rfl⟩,F.args_list_init_2 _ _,?_⟩
  show wpAny _ _ (do let was <- Builtin.List.listItems (.ref s.heap.objs.size); Builtin.List.listUpdate (.ref s.heap.objs.size) (fun _=>#[]); letGo was.toList.reverse; Builtin.List.listExtendWith (.ref s.heap.objs.size) (.ref z) .none) _ _ _
  refine wpAny_bind ?_
  unfold Builtin.List.listItems
  refine wpAny_bind (wpAny_seqItems g0 rfl (wpAny_pure ?_))
  show wpAny _ _ (updateSeq s.heap.objs.size (fun _=>#[]) >>= fun _=>letGo (#[]:Array Value).toList.reverse >>= fun _=>Builtin.List.listExtendWith (.ref s.heap.objs.size) (.ref z) .none) _ _ _
  refine wpAny_bind (wpAny_updateSeq g0 rfl (wpAny_bind (wpAny_letGo ?_)) (Nat.zero_le _) (Nat.zero_le _))
  refine qr (s:={ s with heap:=(s.heap.push { cls:=.type "list",data:=.seq #[] }).update s.heap.objs.size (Obj.mapSeq (fun _=>(#[]:Array Value))) }) (A:=A.in1) hh D hS hn (Z.keep fun b o e _=>oth b o e) g1 fun h' ts acc c' k e1 e2 e3 e4 e5 e6=>⟨rfl,q h' ts acc c' (fun b o b1 b2 b3 b4 e=>k b o (Ne.symm (far e)) b1 b2 b3 b4 (oth b o e)) e1 e2 e3 e4 fun j T hj=>?_⟩
  obtain ⟨x1,x2⟩:=e6 j T hj
  rw [Heap.size_update,Heap.size_push] at x2
  exact ⟨x1,x2⟩
end
end Zp
namespace Ck
open PySem L2
theorem lF {α β:Type} {R:α->β->Prop}:∀ {as:List α} {bs:List β},as.length=bs.length->(∀ (j:Nat) a b,as[j]? = some a->bs[j]? = some b->R a b)->Paired R as bs
  | [],[],_,_=>.nil
  | a::as,b::bs,hl,h=>.cons (h 0 a b rfl rfl) (lF (by simpa using hl) fun j x y e1 e2=>h (j+1) x y (by simpa using e1) (by simpa using e2))
end Ck
namespace L2
open PySem PySem.Spec PyProof.Rows Ck
section
variable {X:Cx}
theorem oG {pins:List (Addr × Obj)} {σ:St} {s:Shared} {ts:List Addr} {ps:List Pair} (r:Paired (fun (T:Addr) (p:Pair)=>∃ t u,IsPair s.heap T (.int p.1 t) (.int p.2 u)) ts ps) :
    ∀ (H:Hp),Inv X pins σ H s->(∀ T∈ts,qA X pins H T)->ts.Nodup->∃ H',Inv X pins σ H' s/\ag H H'/\bQ H' (ts.map V.ref) ps/\∀ b,b∉ts->H' b=H b:=by
  induction r with
  | nil=>exact fun H I _ _=>⟨H,I,ag.refl H,.nil,fun _ _=>rfl⟩
  | @cons T p ts ps h r ih =>
    intro H I o nd
    obtain ⟨t,u,h⟩:=h
    have oT:=o T (List.mem_cons_self ..)
    rw [List.nodup_cons] at nd
    have ok:bo X.prog X.w (upd H T (.tup [.int p.1,.int p.2])) s.heap T (.tup [.int p.1,.int p.2]):=⟨sz (n:=2) (by decide),[.int p.1 t,.int p.2 u],.cons ⟨_,rfl⟩ (.cons ⟨_,rfl⟩ .nil),_,h,rfl,_,rfl⟩
    have I1:=I.trackO oT ok
    obtain ⟨H',I',s',pr,k⟩:=ih _ I1 (fun U hU=>by
      have ne:U≠T:=fun z=>nd.1 (z▸hU)
      have oU:=o U (List.mem_cons_of_mem _ hU)
      exact ⟨oU.new,(ao ne).trans oU.free,oU.loc,oU.cell,oU.pin⟩) nd.2
    refine ⟨H',I',(ag.new (ag.refl H) oT.free _).trans s',.cons ⟨T,rfl,s' _ _ af⟩ pr,fun b hb=>?_⟩
    rw [k b (fun z=>hb (List.mem_cons_of_mem _ z))]
    exact ao fun z=>hb (by rw [z]; exact List.mem_cons_self ..)
noncomputable def zD (K:W.Frag) (ta:TA):TE:=fun σ H Q=>ta σ H fun vs H1=>∃ (p q:Addr) (ns ms:List Int),vs=[.ref p,.ref q]/\aj K H1 p (ns.map V.int)/\aj K H1 q (ms.map V.int)/\ns.length<=1000000/\∀ (l:Addr) (H2:Hp),ag H1 H2->H1 l=none->cJ H2 l (ns.zip ms)->Q (.ref l) H2
theorem vt {K:W.Frag} {a b:Expr} {ta:TA} {p p2 pos pos2:Pos} (hK:X.K=K) (hc:X.calm=true) (hgl:Gl X "list") (hml:X.mg "list" = none) (hg:Gl X "zip") (hm:X.mg "zip" = none) (ha:PA X [a,b] ta) (hs:starEach [a,b] X.env=[(false,eval a X.env),(false,eval b X.env)]:=by rfl) (hs2:starEach [b] X.env=[(false,eval b X.env)]:=by rfl)
    (he:starEach [.Call (.Name "zip" p) [a,b] [] pos] X.env=[(false,eval (.Call (.Name "zip" p) [a,b] [] pos) X.env)]:=by rfl) :
    PE X (.Call (.Name "list" p2) [.Call (.Name "zip" p) [a,b] [] pos] [] pos2) (zD K ta):=by
  subst hK
  intro pins s σ H Q I h
  refine wpAny_Call_Name_kw (dM I hgl hml eX ?_ (by decide) (by decide))
  refine PyProof.Rows.callWith_type1 ?_ he rfl
  rw [he]
  show wpAny _ _ (spliced ((false,eval (.Call (.Name "zip" p) [a,b] [] pos) X.env)::backTo pos2 [])) _ _ s
  refine Calls.spliced_cons (Call_ (dM I hg hm boot_zip (PyProof.Rows.callWith_type1 (aE (ha pos pins s σ H _ I h) fun us s1 ⟨vs,H1,I1,r1,q1⟩=>?_) (by rw [hs,hs2]) (by rw [hs2]; rfl))))
  obtain ⟨p1,p2,ns,ms,e,l1,l2,z1,q⟩:=q1
  subst e
  obtain ⟨u1,u2,rfl,ru1,ru2⟩:=vals2 r1
  cases ru1
  cases ru2
  obtain ⟨its,rv,pl,hz⟩:=I1.list l1
  obtain ⟨jts,rw_,pm,hz2⟩:=I1.list l2
  have hi:=intsAre_of rv
  have hj:=intsAre_of rw_
  have li:=hi.length
  have lj:=hj.length
  have lt1:p1 < s1.heap.objs.size:=by obtain ⟨_,e,_⟩:=pl.isList; exact Heap.lt_size e
  have lt2:p2 < s1.heap.objs.size:=by obtain ⟨_,e,_⟩:=pm.isList; exact Heap.lt_size e
  refine call_zip_2 pl.isList pm.isList fun h2 hzz hTI hTO hi1 hi2 hsz hk=>Calls.spliced_nil ?_
  have D:=zipApart_new lt1 lt2
  have I2:Inv X pins σ H1 { s1 with heap:=h2 }:=I1.kept (t':=s1.toks) hk
  have Z:Zp.ZSt h2 (s1.heap.objs.size+4) (s1.heap.objs.size+2) (s1.heap.objs.size+3) s1.heap.objs.size (s1.heap.objs.size+1) p1 p2 its.toArray jts.toArray [] :=
    ⟨.inl ⟨rfl,hzz,_,_,hTO⟩,hTI,hi1,hi2,pl.isList.at fun o e=>hk _ o e,pm.isList.at fun o e=>hk _ o e,fun j T hj=>by simp at hj,List.nodup_nil,⟨_,hTO⟩⟩
  refine Zp.list_zip (s:={ s1 with heap:=h2 }) (I.ok.hd hc) D (by simp; lia) Z fun h3 ts acc c kk hl ea lts nd tu=>?_
  have k3:∀ b o,s1.heap.get? b=some o->h3.get? b=some o:=fun b o e=>by
    have lt:=Heap.lt_size e
    exact kk b o (Nat.ne_of_lt (Nat.lt_of_lt_of_le lt (Nat.le_add_right _ _))) (Nat.ne_of_lt (Nat.lt_of_lt_of_le lt (Nat.le_add_right _ _))) (Nat.ne_of_lt lt) (Nat.ne_of_lt (Nat.lt_of_lt_of_le lt (Nat.le_add_right _ _))) (hk b o e)
  have I3:Inv X pins σ H1 { s1 with heap:=h3 }:=I1.kept (t':=s1.toks) k3
  have our:∀ T,s1.heap.objs.size<=T->qA X pins H1 T:=fun T hT=>by
    have f:=I1.fpOk hT (I1.hok.fresh hT)
    exact ⟨Heap.get?_none_of_le (Nat.le_trans I1.sz hT),f.1,f.2.1,f.2.2.2.2.1,f.2.2.2.2.2⟩
  have hgt:∀ T∈ts,h2.objs.size < T:=fun T hT=>by
    obtain ⟨j,hj⟩:=List.getElem?_of_mem hT
    exact (tu j T hj).2
  have lz:(ns.zip ms).length=ts.length:=by rw [lts,List.length_zip]; simp; lia
  have prd:Paired (fun (T:Addr) (p:Pair)=>∃ t u,IsPair h3 T (.int p.1 t) (.int p.2 u)) ts (ns.zip ms):=by
    refine lF lz.symm fun j T pr e1 e2=>?_
    obtain ⟨⟨x,y,hx,hy,hp⟩,_⟩:=tu j T e1
    have hx':its[j]? = some x:=by simpa using hx
    have hy':jts[j]? = some y:=by simpa using hy
    rw [List.getElem?_zip_eq_some] at e2
    obtain ⟨t,et⟩:=iO hi e2.1
    obtain ⟨u,eu⟩:=iO hj e2.2
    rw [et] at hx'
    rw [eu] at hy'
    cases hx'
    cases hy'
    exact ⟨t,u,hp⟩
  obtain ⟨H',I',s',prs,kf⟩:=oG prd H1 I3 (fun T hT=>our T (by have:=hgt T hT; lia)) nd
  have nS:h2.objs.size∉ts:=fun z=>Nat.lt_irrefl _ (hgt _ z)
  have oS:=our h2.objs.size (by lia)
  have fS:H' h2.objs.size=none:=by rw [kf _ nS]; exact oS.free
  have vs:Vals (ts.map V.ref) acc.toList:=by
    rw [ea]
    have go:∀ ts:List Addr,Vals (ts.map V.ref) (ts.map Value.ref):=fun ts=>by
      induction ts with
      | nil=>exact .nil
      | cons T ts ih=>exact .cons rfl ih
    exact go ts
  have I4:=I'.trackO (o':=.lst (ts.map V.ref)) ⟨oS.new,fS,oS.loc,oS.cell,oS.pin⟩ ⟨by rw [List.length_map,lts]; simp; exact sz (by lia),acc.toList,c,vs,hl⟩
  exact ⟨.ref h2.objs.size,_,I4,rfl,q _ _ (s'.trans (ag.new (ag.refl H') fS _)) oS.free ⟨_,af,prs.updN fS _⟩⟩
end
end L2
set_option Elab.async false
set_option linter.all false
set_option maxRecDepth 100000
set_option maxHeartbeats 4000000
namespace Ck
open PySem L2
noncomputable abbrev aH (H0 H:Hp) (a:Addr):List Addr->List (List Int)->Prop:=Paired (fun (b:Addr) (ns:List Int)=>H b=some (.lst (ns.map V.int))/\H0 b=none/\b≠a)
def aO (H0 H:Hp) (a:Addr) (rs:List (List Int)):Prop:=∃ bs:List Addr,H a=some (.lst (bs.map V.ref))/\aH H0 H a bs rs/\bs.Nodup
theorem aO.nil {H0 H:Hp} {a:Addr} (h:H a=some (.lst [])):aO H0 H a []:=⟨[],h,.nil,List.nodup_nil⟩
theorem aO.same {H0 H H':Hp} {a:Addr} {rs:List (List Int)} (h:aO H0 H a rs) (s:ag H H'):aO H0 H' a rs :=
  let ⟨bs,e,r,n⟩:=h
  ⟨bs,s _ _ e,Paired.mapP r fun _ _ ⟨p,q⟩=>⟨s _ _ p,q⟩,n⟩
theorem aO.since {H0 H1 H:Hp} {a:Addr} {rs:List (List Int)} (h:aO H0 H a rs) (s:ag H1 H0):aO H1 H a rs :=
  let ⟨bs,e,r,n⟩:=h
  ⟨bs,e,Paired.mapP r fun _ _ ⟨p,q,z⟩=>⟨p,s.free q,z⟩,n⟩
theorem aO.len {H0 H:Hp} {a:Addr} {rs:List (List Int)} (h:aO H0 H a rs):∃ xs,H a=some (.lst xs)/\xs.length=rs.length :=
  let ⟨bs,e,r,_⟩:=h
  ⟨_,e,by rw [List.length_map]; exact Paired.length r⟩
theorem aH.get {H0 H:Hp} {a:Addr}:∀ {bs:List Addr} {rs:List (List Int)},aH H0 H a bs rs->∀ {j:Nat} {ns:List Int},rs[j]? = some ns->∃ b,bs[j]? = some b/\H b=some (.lst (ns.map V.int))/\H0 b=none/\b≠a
  | _,_,.nil,j,ns,e=>by cases e
  | _,_,.cons r t,0,ns,e=>by
    rw [List.getElem?_cons_zero] at e
    cases e
    exact ⟨_,rfl,r⟩
  | _,_,.cons r t,j+1,ns,e=>aH.get t (j:=j) (by simpa using e)
theorem aO.get {H0 H:Hp} {a:Addr} {rs:List (List Int)} (h:aO H0 H a rs) {xs:List V} (hx:H a=some (.lst xs)) {j:Nat} {ns:List Int} (e:rs[j]? = some ns):∃ b,xs[j]? = some (.ref b)/\H b=some (.lst (ns.map V.int))/\H0 b=none/\b≠a:=by
  obtain ⟨bs,e1,r,_⟩:=h
  rw [hx] at e1
  cases e1
  obtain ⟨b,h1,h2⟩:=r.get e
  exact ⟨b,by rw [List.getElem?_map,h1]; rfl,h2⟩
theorem aH.updC {H0 H:Hp} {a c:Addr} {o:HO}:∀ {bs:List Addr} {rs:List (List Int)},aH H0 H a bs rs->(∀ b∈bs,b≠c)->aH H0 (upd H c o) a bs rs
  | _,_,.nil,_=>.nil
  | _,_,.cons ⟨p,q⟩ t,n=>.cons ⟨(ao (n _ (by simp))).trans p,q⟩ (aH.updC t fun b hb=>n b (by simp [hb]))
theorem aH.all {H0 H:Hp} {a:Addr}:∀ {bs:List Addr} {rs:List (List Int)},aH H0 H a bs rs->∀ b∈bs,(∃ ns:List Int,H b=some (.lst (ns.map V.int)))/\H0 b=none/\b≠a
  | _,_,.nil,b,hb=>by cases hb
  | _,_,.cons ⟨p,q⟩ t,b,hb=>by
    rcases List.mem_cons.mp hb with rfl | z
    · exact ⟨⟨_,p⟩,q⟩
    · exact aH.all t b z
theorem aH.snoc {H0 H:Hp} {a b:Addr} {ns:List Int} (hb:H b=some (.lst (ns.map V.int))) (h0:H0 b=none) (ne:b≠a):∀ {bs:List Addr} {rs:List (List Int)},aH H0 H a bs rs->aH H0 H a (bs++[b]) (rs++[ns])
  | _,_,.nil=>.cons ⟨hb,h0,ne⟩ .nil
  | _,_,.cons r t=>.cons r (aH.snoc hb h0 ne t)
theorem aO.snoc {H0 H:Hp} {a b:Addr} {rs:List (List Int)} {xs:List V} (h:aO H0 H a rs) (hx:H a=some (.lst xs)) (hb:H b=none) (h0:H0 b=none) (ns:List Int) :
    aO H0 (upd (upd H b (.lst (ns.map V.int))) a (.lst (xs++[.ref b]))) a (rs++[ns]):=by
  obtain ⟨bs,e,r,n⟩:=h
  rw [hx] at e
  cases e
  have ne:b≠a:=fun z=>by rw [z,hx] at hb; cases hb
  have nb:∀ c∈bs,c≠b:=fun c hc z=>by
    obtain ⟨⟨ms,e⟩,_⟩:=r.all c hc
    rw [z,hb] at e
    cases e
  have r1:aH H0 (upd H b (.lst (ns.map V.int))) a bs rs:=r.updC nb
  have r2:aH H0 (upd (upd H b (.lst (ns.map V.int))) a (.lst (bs.map V.ref++[.ref b]))) a bs rs:=r1.updC fun c hc=>(r.all c hc).2.2
  refine ⟨bs++[b],by rw [af,List.map_append]; rfl,aH.snoc ((ao ne).trans af) h0 ne r2,?_⟩
  refine List.nodup_append.mpr ⟨n,by simp,?_⟩
  intro c hc d hd
  have:d=b:=by simpa using hd
  rw [this]
  exact nb c hc
theorem aH.put {H0 H:Hp} {a b:Addr} {ms:List Int}:∀ {bs:List Addr} {rs:List (List Int)} {j:Nat},aH H0 H a bs rs->bs.Nodup->bs[j]? = some b->aH H0 (upd H b (.lst (ms.map V.int))) a bs (rs.set j ms)
  | _,_,j,.nil,_,e=>by cases e
  | _,_,0,.cons r t,n,e=>by
    rw [List.getElem?_cons_zero] at e
    cases e
    rw [List.nodup_cons] at n
    exact .cons ⟨af,r.2⟩ (aH.updC t fun c hc z=>n.1 (z▸hc))
  | _,_,j+1,.cons r t,n,e=>by
    rw [List.nodup_cons] at n
    have e':=e
    rw [List.getElem?_cons_succ] at e'
    have hb:=List.mem_of_getElem? e'
    exact .cons ⟨(ao (fun z=>n.1 (by rw [z]; exact hb))).trans r.1,r.2⟩ (aH.put t n.2 e')
theorem aO.put {H0 H:Hp} {a b:Addr} {rs:List (List Int)} {xs:List V} (h:aO H0 H a rs) (hx:H a=some (.lst xs)) {j:Nat} (e:xs[j]? = some (.ref b)) (ms:List Int):aO H0 (upd H b (.lst (ms.map V.int))) a (rs.set j ms):=by
  obtain ⟨bs,e1,r,n⟩:=h
  rw [hx] at e1
  cases e1
  have e2:bs[j]? = some b:=by
    rw [List.getElem?_map] at e
    cases hb:bs[j]? with
    | none=>rw [hb] at e; cases e
    | some c =>
      rw [hb] at e
      have:V.ref c=V.ref b:=by simpa using e
      cases this
      rfl
  exact ⟨bs,(ao (Ne.symm (r.all b (List.mem_of_getElem? e2)).2.2)).trans hx,r.put n e2,n⟩
inductive cT:List (List Int)->List Nat->Nat->Prop
  | start:cT [] [] 0
  | shut {rs:List (List Int)} {p:List Nat} {m k:Nat}:cT rs (p++[m]) k->cT rs p k
  | opn {rs:List (List Int)} {p:List Nat} {k:Nat}:cT rs p k->cT (rs++[[(k:Int)]]) (p++[rs.length]) (k+1)
  | put {rs:List (List Int)} {p:List Nat} {m k:Nat} {r:List Int}:cT rs (p++[m]) k->rs[m]? = some r->cT (rs.set m (r++[(k:Int)])) (p++[m]) (k+1)
theorem cT.lens {rs:List (List Int)} {p:List Nat} {k:Nat} (h:cT rs p k):rs.length<=k/\(∀ m∈p,m < rs.length)/\p.length<=rs.length/\∀ r∈rs,r.length<=k:=by
  induction h with
  | start=>simp
  | @shut rs p m k _ ih =>
    obtain ⟨h1,h2,h3,h4⟩:=ih
    exact ⟨h1,fun x hx=>h2 x (by simp [hx]),by simp at h3; lia,h4⟩
  | @opn rs p k _ ih =>
    obtain ⟨h1,h2,h3,h4⟩:=ih
    refine ⟨by simp; lia,fun x hx=>?_,by simp; lia,fun r hr=>?_⟩
    · rcases List.mem_append.mp hx with z | z
      · have:=h2 x z; simp; lia
      · have:x=rs.length:=by simpa using z
        simp; lia
    · rcases List.mem_append.mp hr with z | z
      · have:=h4 r z; lia
      · have:r=[(k:Int)]:=by simpa using z
        rw [this]; simp
  | @put rs p m k r _ hr ih =>
    obtain ⟨h1,h2,h3,h4⟩:=ih
    refine ⟨by rw [List.length_set]; lia,fun x hx=>by rw [List.length_set]; exact h2 x hx,by rw [List.length_set]; exact h3,fun s hs=>?_⟩
    rcases List.mem_or_eq_of_mem_set hs with z | z
    · have:=h4 s z; lia
    · have:=h4 r (List.mem_of_getElem? hr)
      rw [z]; simp; lia
end Ck
namespace Ck
open PySem L2
def du (H H':Hp):Prop:=∀ b,H' b=none->H b=none
theorem du.refl (H:Hp):du H H:=fun _ h=>h
theorem du.free' {H H':Hp} {b:Addr} (s:du H H') (h:H' b=none):H b=none:=s b h
theorem du.upd {H H':Hp} (s:du H H') (a:Addr) (o:HO):du H (L2.upd H' a o):=fun b h=>s b (by
  by_cases e:b=a
  · rw [e,af] at h; cases h
  · rw [ao e] at h; exact h)
theorem du.new {H H':Hp} {o:HO} (s:du H H') (a:Addr):du H (L2.upd H' a o):=s.upd a o
end Ck
set_option Elab.async false
set_option linter.all false
set_option maxRecDepth 100000
set_option maxHeartbeats 4000000
namespace Ck
open PySem PySem.Spec PyProof.Rows L2
theorem j6 {X:Cx} {pins:List (Addr × Obj)} {σ:L2.St} {H H0:Hp} {s:Shared} {a:Addr} (I:Inv X pins σ H s):∀ {bs:List Addr} {rs:List (List Int)} {vs:List Value},aH H0 H a bs rs->Vals (bs.map V.ref) vs->gK s.heap vs rs
  | _,_,_,.nil,.nil=>.nil
  | _,_,_,.cons r t,.cons rv tv=>by
    cases rv
    obtain ⟨z,its,n,r',hl,e⟩:=I.lstM r.1
    exact .cons ⟨_,its,n,rfl,intsAre_of r',e⟩ (j6 I t tv)
theorem jR {H H' H0:Hp} {a a':Addr}:∀ {bs:List Addr} {rs:List (List Int)},aH H0 H a bs rs->(∀ b∈bs,H' b=H b/\b≠a')->aH H0 H' a' bs rs
  | _,_,.nil,_=>.nil
  | _,_,.cons ⟨p,q,_⟩ t,k=>.cons ⟨(k _ (by simp)).1.trans p,q,(k _ (by simp)).2⟩ (jR t fun b hb=>k b (by simp [hb]))
end Ck
namespace L2
open PySem PySem.Spec PyProof.Rows PySem.W Ck
section
variable {X:Cx}
theorem mM (hu:X.A.units+100 < cLine):cU X (.builtin "sorted") (fun xs H Q=>∃ (p:Addr) (H0:Hp) (rs:List (List Int)),xs=[.ref p]/\aO H0 H p rs/\rs.length < 64/\∀ (q:Addr) (ss:List (List Int)) (H':Hp),ag H H'->H q=none->aO H0 H' q ss->ss.Perm rs->ss.Pairwise (fun a b=>cN b a=false)->(∀ (ws zs:List V),H p=some (.lst ws)->H' q=some (.lst zs)->∀ v∈zs,v∈ws)->Q (.ref q) H'):=by
  intro pins s σ H xs us Q I r h
  obtain ⟨p,H0,rs,rfl,⟨bs,hl,ro,nd⟩,h64,q⟩:=h
  obtain ⟨u,rfl,ru⟩:=vals1 r
  cases ru
  obtain ⟨its,r',pl,hz⟩:=I.list (aj.of hl)
  have lw:bs.length=rs.length:=Paired.length ro
  have li:(bs.map V.ref).length=its.length:=r'.length
  rw [List.length_map] at li
  have lv:=j6 I ro r'
  refine jI (zg rs) pl.isList (by lia) (fun h6 old h2=>xV (s1:={ s with heap:=h6 }) (show X.A.units+1+1 < cLine by lia) (lv.mono old) h2) fun g ok ri=>?_
  obtain ⟨e,he⟩:=sortedAll_at s.heap its (d9 its g).toArray
  have hb:∀ i∈g.toList,i < its.length:=fun i hi=>List.mem_range.mp (ok.mem_iff.mp hi)
  have lg:g.toList.length=its.length:=by rw [ok.length_eq,List.length_range]
  have em:(g.toList.map fun i=>(bs.map V.ref).getD i V.non)=(g.toList.map fun i=>bs.getD i 0).map V.ref:=by
    rw [List.map_map]
    refine List.map_congr_left fun i hi=>?_
    have:=hb i hi
    have l1:i < bs.length:=by lia
    simp [l1]
  have hz2:((g.toList.map fun i=>bs.getD i 0).map V.ref).length<=sizeLine:=by rw [List.length_map,List.length_map,lg]; exact sz (by lia)
  have vs2:Vals ((g.toList.map fun i=>bs.getD i 0).map V.ref) (d9 its g):=by
    rw [<- em]
    exact dI r' V.non Value.none g.toList (fun i hi=>by rw [List.length_map,li]; exact hb i hi)
  have ro2:aH H0 H p (g.toList.map fun i=>bs.getD i 0) (g.toList.map fun i=>rs.getD i []):=dI ro 0 [] g.toList (fun i hi=>by rw [li]; exact hb i hi)
  have pm:(g.toList.map fun i=>bs.getD i 0).Perm bs:=g9 0 bs (by rw [li]; exact ok)
  have fr:H (s.heap.objs.size+1)=none:=I.hok.fresh (Nat.le_succ _)
  refine ⟨.ref _,_,I.laid (t':=s.toks) (o:=.lst ((g.toList.map fun i=>bs.getD i 0).map V.ref)) (fun b u e=>sortedAll_old e) (Nat.le_succ _) ⟨hz2,d9 its g,e,vs2,by simpa [seqObj] using he⟩,rfl,?_⟩
  refine q _ _ _ (ag.new (ag.refl H) fr _) fr ⟨_,af,jR ro2 (fun b hb'=>?_),pm.nodup_iff.mpr nd⟩ (g9 [] rs (by rw [<- lw,li]; exact ok)) ?_ (fun ws zs ew ez v hv=>?_)
  · obtain ⟨⟨ns,hn⟩,_⟩:=ro2.all b hb'
    have:b≠s.heap.objs.size+1:=au hn fr
    exact ⟨ao this,this⟩
  · rw [List.pairwise_map]
    have gs:g.size=its.length:=by rw [<- lg]; simp
    refine List.pairwise_iff_getElem.mpr fun i j hi hj hij=>?_
    have:=ri i j (by lia) (by rw [<- gs]; simpa using hj)
    unfold gA at this
    simpa [show i < g.size by simpa using hi,show j < g.size by simpa using hj] using this
  · rw [hl] at ew
    cases ew
    rw [af] at ez
    cases ez
    exact (pm.map V.ref).mem_iff.mp hv
end
theorem ng:∀ as bs:List Int,cN as bs=false->cN bs as=false->as=bs
  | [],[],_,_=>rfl
  | [],_::_,h,_=>by cases h
  | _::_,[],_,h=>by cases h
  | a::as,b::bs,h1,h2=>by
    unfold cN at h1 h2
    by_cases e:a=b
    · rw [if_pos e] at h1
      rw [if_pos e.symm] at h2
      rw [e,ng as bs h1 h2]
    · rw [if_neg e] at h1
      rw [if_neg (fun z=>e z.symm)] at h2
      have:=of_decide_eq_false h1
      have:=of_decide_eq_false h2
      lia
end L2
namespace Ck
open PySem L2
noncomputable abbrev hd (r:List Int):Int:=r.getD 0 0
noncomputable def iota (k:Nat):List Int:=(List.range k).map fun (i:Nat)=>(i:Int)
structure sL (k:Nat) (rs:List (List Int)):Prop where
  ne:∀ r∈rs,r≠[]
  inc:∀ r∈rs,r.Pairwise (· < ·)
  heads:(rs.map hd).Pairwise (· < ·)
  flat:rs.flatten.Perm (iota k)
theorem tX {k:Nat} {x:Int}:x∈iota k↔0<=x/\x < (k:Int):=by
  unfold iota
  rw [List.mem_map]
  constructor
  · rintro ⟨i,hi,rfl⟩
    have:=List.mem_range.mp hi
    lia
  · rintro ⟨h1,h2⟩
    exact ⟨x.toNat,List.mem_range.mpr (by lia),by lia⟩
theorem sL.rng {k:Nat} {rs:List (List Int)} (h:sL k rs) {r:List Int} (hr:r∈rs) {x:Int} (hx:x∈r):0<=x/\x < (k:Int) :=
  tX.mp (h.flat.mem_iff.mp (List.mem_flatten.mpr ⟨r,hr,hx⟩))
theorem n9 {r:List Int} (h:r≠[]):hd r∈r:=by
  cases r with
  | nil=>exact absurd rfl h
  | cons a r=>exact List.mem_cons_self ..
theorem jd (x:Int):∀ (rs:List (List Int)) (m:Nat) (r:List Int),rs[m]? = some r->(rs.set m (r++[x])).flatten.Perm (rs.flatten++[x])
  | [],m,r,h=>by cases h
  | s::rs,0,r,h=>by
    have e:s=r:=by simpa using h
    subst e
    rw [List.set_cons_zero,List.flatten_cons,List.flatten_cons,List.append_assoc,List.append_assoc]
    exact List.Perm.append_left s List.perm_append_comm
  | s::rs,m+1,r,h=>by
    rw [List.set_cons_succ,List.flatten_cons,List.flatten_cons,List.append_assoc]
    exact List.Perm.append_left s (jd x rs m r (by simpa using h))
theorem lE (k:Nat):iota (k+1)=iota k++[(k:Int)]:=by
  unfold iota
  rw [List.range_succ,List.map_append]
  rfl
theorem cT.rms {rs:List (List Int)} {p:List Nat} {k:Nat} (h:cT rs p k):sL k rs:=by
  induction h with
  | start=>exact ⟨fun r h=>(by cases h),fun r h=>(by cases h),.nil,List.Perm.refl _⟩
  | shut _ ih=>exact ih
  | @opn rs p k _ ih =>
    refine ⟨fun r hr=>?_,fun r hr=>?_,?_,?_⟩
    · rcases List.mem_append.mp hr with z | z
      · exact ih.ne r z
      · rw [List.mem_singleton.mp z]; simp
    · rcases List.mem_append.mp hr with z | z
      · exact ih.inc r z
      · rw [List.mem_singleton.mp z]; simp
    · rw [List.map_append,List.pairwise_append]
      refine ⟨ih.heads,by simp,fun x hx y hy=>?_⟩
      obtain ⟨r,hr,rfl⟩:=List.mem_map.mp hx
      have:y=(k:Int):=by simpa using hy
      have:=ih.rng hr (n9 (ih.ne r hr))
      lia
    · rw [List.flatten_append,lE]
      exact List.Perm.append_right _ ih.flat
  | @put rs p m k r _ hr ih =>
    have hrm:=List.mem_of_getElem? hr
    have hl:m < rs.length:=(List.getElem?_eq_some_iff.mp hr).1
    refine ⟨fun s hs=>?_,fun s hs=>?_,?_,?_⟩
    · rcases List.mem_or_eq_of_mem_set hs with z | z
      · exact ih.ne s z
      · rw [z]; simp
    · rcases List.mem_or_eq_of_mem_set hs with z | z
      · exact ih.inc s z
      · rw [z,List.pairwise_append]
        refine ⟨ih.inc r hrm,by simp,fun x hx y hy=>?_⟩
        have:y=(k:Int):=by simpa using hy
        have:=ih.rng hrm hx
        lia
    · have e:(rs.set m (r++[(k:Int)])).map hd=rs.map hd:=by
        rw [List.map_set]
        have e1:hd (r++[(k:Int)])=hd r:=by
          cases r with
          | nil=>exact absurd rfl (ih.ne _ hrm)
          | cons a r=>rfl
        rw [e1]
        refine List.ext_getElem? fun j=>?_
        rw [List.getElem?_set]
        by_cases z:m=j
        · subst z
          rw [if_pos rfl,if_pos (by rw [List.length_map]; exact hl),List.getElem?_map,hr]
          rfl
        · rw [if_neg z]
      rw [e]
      exact ih.heads
    · rw [lE]
      exact (jd _ rs m r hr).trans (List.Perm.append_right _ ih.flat)
section
variable {i:Nat} {ls:List (List Int)} (h:sL i ls)
include h
variable {j:Nat} {rs:List (List Int)} (h':sL j rs)
include h'
end
end Ck
set_option Elab.async false
set_option linter.all false
set_option maxRecDepth 100000
set_option maxHeartbeats 4000000
namespace L2
open PySem PySem.Spec PyProof.Rows
theorem l0 {X:Cx} {K:W.Frag} (hK:X.K=K):cU X (.type "list") (fun xs H Q=>∃ p ys,xs=[.ref p]/\(aj K H p ys\/cI K H p ys)/\∀ l,H l=none->Q (.ref l) (upd H l (.lst ys))):=by
  subst hK
  exact nB
end L2
namespace Ck
open PySem L2
theorem aO.at {H0 H:Hp} {a:Addr} {rs:List (List Int)} {xs:List V} (h:aO H0 H a rs) (hx:H a=some (.lst xs)) {j:Nat} {v:V} (e:xs[j]? = some v) :
    ∃ b ns,v = .ref b/\rs[j]? = some ns/\H b=some (.lst (ns.map V.int))/\H0 b=none/\b≠a:=by
  obtain ⟨ys,ey,ly⟩:=h.len
  rw [hx] at ey
  cases ey
  have hj:j < rs.length:=by rw [<- ly]; exact (List.getElem?_eq_some_iff.mp e).1
  obtain ⟨b,h1,h2,h3,h4⟩:=h.get hx (List.getElem?_eq_getElem hj)
  rw [e] at h1
  cases h1
  exact ⟨b,rs[j],rfl,List.getElem?_eq_getElem hj,h2,h3,h4⟩
theorem aO.push {H0 H H':Hp} {a b:Addr} {rs:List (List Int)} {xs:List V} {ns:List Int} (h:aO H0 H a rs) (hx:H a=some (.lst xs)) (s:ag H H') (fb:H b=none) (hb:H' b=some (.lst (ns.map V.int))) (h0:H0 b=none) :
    aO H0 (upd H' a (.lst (xs++[.ref b]))) a (rs++[ns]):=by
  obtain ⟨bs,e,r,n⟩:=h
  rw [hx] at e
  cases e
  have ne:b≠a:=fun z=>by rw [z,hx] at fb; cases fb
  have nb:∀ c∈bs,c≠b:=fun c hc z=>by
    obtain ⟨⟨ms,e⟩,_⟩:=r.all c hc
    rw [z,fb] at e
    cases e
  have r1:aH H0 H' a bs rs:=Paired.mapP r fun _ _ ⟨p,q⟩=>⟨s _ _ p,q⟩
  have r2:aH H0 (upd H' a (.lst (bs.map V.ref++[.ref b]))) a bs rs:=r1.updC fun c hc=>(r.all c hc).2.2
  refine ⟨bs++[b],by rw [af,List.map_append]; rfl,aH.snoc ((ao ne).trans hb) h0 ne r2,?_⟩
  refine List.nodup_append.mpr ⟨n,by simp,?_⟩
  intro c hc d hd
  have:d=b:=by simpa using hd
  rw [this]
  exact nb c hc
def za (H:Hp) (a c:Addr):Prop:=c≠a/\∀ xs,H a=some (.lst xs)->V.ref c∉xs
def qt (a:Addr) (H H':Hp):Prop:=∀ c,za H a c->∀ o,H c=some o->H' c=some o
theorem g7 {r:List Int} (h:r≠[]):dm (r.map V.int) (-1)=some (.int (r.getD (r.length - 1) 0)):=by
  obtain ⟨r0,m,rfl⟩:∃ r0 m,r=r0++[m]:=⟨_,_,(List.dropLast_concat_getLast h).symm⟩
  rw [List.map_append]
  refine (ny (r0.map V.int) (V.int m)).trans ?_
  simp [List.getD_eq_getElem?_getD]
theorem sE {r:List Int} (h:r≠[]):dm (r.map V.int) 0=some (.int (hd r)) :=
  dF (i:=0) (by lia) (by have:=List.length_pos_iff.mpr h; lia)
theorem len_one:∀ (ls:List (List Int)) (r:List Int),r∈ls->r.length<=ls.flatten.length
  | [],r,h=>by cases h
  | s::ls,r,h=>by
    rw [List.flatten_cons,List.length_append]
    rcases List.mem_cons.mp h with rfl | h
    · lia
    · have:=len_one ls r h
      lia
theorem tj (k:Nat):(iota k).length=k:=by unfold iota; simp
end Ck
namespace L2
open PySem PySem.Spec PyProof.Rows
section
variable {κ:Type} [DecidableEq κ]
noncomputable def cC (kvs:List (κ × V)) (k:κ):Option V:=(kvs.find? fun kv=>decide (kv.1=k)).map (·.2)
noncomputable def putK (kvs:List (κ × V)) (k:κ) (v:V):List (κ × V) :=
  if (kvs.any fun kv=>decide (kv.1=k))=true then kvs.map (fun kv=>if kv.1=k then (kv.1,v) else kv) else kvs++[(k,v)]
theorem cn {p:κ × V} {r:List (κ × V)} {k:κ} (e:p.1=k):cC (p::r) k=some p.2:=by simp [cC,List.find?_cons,e]
theorem cu {p:κ × V} {r:List (κ × V)} {k:κ} (e:¬ p.1=k):cC (p::r) k=cC r k:=by simp [cC,List.find?_cons,e]
theorem gC (k:κ):∀ kvs:List (κ × V),(kvs.any fun kv=>decide (kv.1=k))=(cC kvs k).isSome
  | []=>rfl
  | p::r=>by
    rw [List.any_cons]
    by_cases e:p.1=k
    · simp only [cn e,decide_eq_true e,Bool.true_or,Option.isSome_some]
    · rw [cu e,decide_eq_false e,Bool.false_or]; exact gC k r
theorem oi (k j:κ) (y:V):∀ kvs:List (κ × V),cC (kvs.map fun kv=>if kv.1=k then (kv.1,y) else kv) j=(cC kvs j).map fun x=>if j=k then y else x
  | []=>rfl
  | p::r=>by
    have ih:=oi k j y r
    rw [List.map_cons]
    by_cases h:p.1=k
    · rw [if_pos h]
      by_cases e:p.1=j
      · rw [cn (p:=(p.1,y)) e,cn e,Option.map_some,if_pos (e.symm.trans h)]
      · rw [cu (p:=(p.1,y)) e,cu e,ih]
    · rw [if_neg h]
      by_cases e:p.1=j
      · rw [cn (p:=p) e,cn e,Option.map_some,if_neg (fun z=>h (e.trans z))]
      · rw [cu (p:=p) e,cu e,ih]
theorem lH (k j:κ) (y:V):∀ kvs:List (κ × V),cC kvs k=none->cC (kvs++[(k,y)]) j=if j=k then some y else cC kvs j
  | [],_=>by
    by_cases e:k=j
    · rw [if_pos e.symm]; exact cn (p:=(k,y)) e
    · rw [if_neg (fun z=>e z.symm)]; exact cu (p:=(k,y)) e
  | p::r,hn=>by
    rw [List.cons_append]
    have hk:¬ p.1=k:=fun z=>by rw [cn z] at hn; cases hn
    rw [cu hk] at hn
    have ih:=lH k j y r hn
    by_cases e:p.1=j
    · rw [cn e,cn e,if_neg (fun z=>hk (e.trans z))]
    · rw [cu e,cu e,ih]
theorem ua (kvs:List (κ × V)) (k j:κ) (y:V):cC (putK kvs k y) j=if j=k then some y else cC kvs j:=by
  unfold putK
  by_cases a:(kvs.any fun kv=>decide (kv.1=k))=true
  · rw [if_pos a,oi]
    rw [gC] at a
    by_cases e:j=k
    · obtain ⟨x,hx⟩:=Option.isSome_iff_exists.mp a
      rw [if_pos e,e,hx,Option.map_some,if_pos rfl]
    · rw [if_neg e]
      cases cC kvs j with
      | none=>rfl
      | some x=>rw [Option.map_some,if_neg e]
  · rw [if_neg a]
    refine lH k j y kvs ?_
    rw [gC] at a
    cases q:cC kvs k with
    | none=>rfl
    | some x=>rw [q] at a; exact (a rfl).elim
theorem fK (kvs:List (κ × V)) (k:κ) (v:V):(putK kvs k v).length<=kvs.length+1:=by
  unfold putK
  split
  · rw [List.length_map]; lia
  · rw [List.length_append,List.length_cons,List.length_nil]; lia
theorem dw.isSome_eq {o:Option V} {u:Option Value} (r:dw o u):o.isSome=u.isSome:=by
  cases o with
  | none=>cases u with
    | none=>rfl
    | some _=>exact (show False from r).elim
  | some _=>cases u with
    | none=>exact (show False from r).elim
    | some _=>rfl
theorem KV.val {kvs:List (κ × V)} {vs:List (κ × Value)} (r:KV kvs vs) (k:κ):dw (cC kvs k) (valueAt vs k):=by
  unfold KV at r
  induction r with
  | nil=>exact True.intro
  | @cons p q ps qs h t ih =>
    obtain ⟨h1,h2⟩:=h
    by_cases e:p.1=k
    · have e':q.1=k:=h1.symm.trans e
      have b:valueAt (q::qs) k=some q.2:=by simp [valueAt,List.find?_cons,e']
      rw [cn e,b]; exact h2
    · have e':¬ q.1=k:=fun z=>e (h1.trans z)
      have b:valueAt (q::qs) k=valueAt qs k:=by simp [valueAt,List.find?_cons,e']
      rw [cu e,b]; exact ih
theorem KV.any {kvs:List (κ × V)} {vs:List (κ × Value)} (r:KV kvs vs) (k:κ):(kvs.any fun kv=>decide (kv.1=k))=vs.any fun kv=>decide (kv.1=k):=by
  unfold KV at r
  induction r with
  | nil=>rfl
  | cons h t ih=>rw [List.any_cons,List.any_cons,ih,h.1]
theorem KV.repl {kvs:List (κ × V)} {vs:List (κ × Value)} (r:KV kvs vs) (k:κ) {y:V} {u:Value} (ry:RelV y u) :
    KV (kvs.map fun kv=>if kv.1=k then (kv.1,y) else kv) (vs.map fun kv=>if kv.1=k then (kv.1,u) else kv):=by
  unfold KV at r |-
  induction r with
  | nil=>exact .nil
  | @cons p q ps qs h t ih =>
    rw [List.map_cons,List.map_cons]
    refine .cons ?_ ih
    obtain ⟨h1,h2⟩:=h
    by_cases e:p.1=k
    · rw [if_pos e,if_pos (h1.symm.trans e)]; exact ⟨h1,ry⟩
    · rw [if_neg e,if_neg (fun z=>e (h1.trans z))]; exact ⟨h1,h2⟩
theorem KV.put {kvs:List (κ × V)} {vs:List (κ × Value)} (r:KV kvs vs) (k:κ) {y:V} {u:Value} (ry:RelV y u):KV (putK kvs k y) (stored vs k u):=by
  unfold putK stored
  rw [r.any k]
  by_cases e:(vs.any fun kv=>decide (kv.1=k))=true
  · rw [if_pos e,if_pos e]; exact r.repl k ry
  · rw [if_neg e,if_neg e]; exact Paired.snoc r ⟨rfl,ry⟩
theorem KV.length {kvs:List (κ × V)} {vs:List (κ × Value)} (r:KV kvs vs):kvs.length=vs.length:=Paired.length r
end
theorem my {P:Program} {w:World} {k:Key} {u:Value} (r:RelV (kV k) u):(cj P w).is k u=true:=by
  cases k with
  | inl i=>obtain ⟨t,e⟩:=(show ∃ t,u=Value.int i t from r); subst e; exact ox P w i t
  | inr x=>obtain ⟨t,e⟩:=(show ∃ t,u=Value.str x t from r); subst e; exact ou P w x t
theorem lV {P:Program} {w:World}:∀ {ks:List Key} {us:List Value},Vals (ks.map kV) us->ItemsAre (cj P w) ks us
  | [],_,r=>by rw [List.map_nil] at r; cases r; exact .nil
  | k::ks,_,r=>by
    rw [List.map_cons] at r
    cases r with
    | cons h t=>exact .cons (my h) (lV t)
noncomputable abbrev KT (H:Hp):List (List Key × V)->List (List Key × Addr × Value)->Prop:=Paired fun p q=>p.1=q.1/\H q.2.1=some (.tup (p.1.map kV))/\RelV p.2 q.2.2
theorem KT.val {H:Hp} {kvs:List (List Key × V)} {xs:List (List Key × Addr × Value)} (r:KT H kvs xs) (k:List Key):dw (cC kvs k) ((atKey xs k).map (·.2)):=by
  induction r with
  | nil=>exact True.intro
  | @cons p q ps qs h t ih =>
    obtain ⟨h1,_,h2⟩:=h
    by_cases e:p.1=k
    · have e':q.1=k:=h1.symm.trans e
      have b:atKey (q::qs) k=some q.2:=by simp [atKey,List.find?_cons,e']
      rw [cn e,b]; exact h2
    · have e':¬ q.1=k:=fun z=>e (h1.trans z)
      have b:atKey (q::qs) k=atKey qs k:=by simp [atKey,List.find?_cons,e']
      rw [cu e,b]; exact ih
theorem KT.repl {H:Hp} {kvs:List (List Key × V)} {xs:List (List Key × Addr × Value)} (r:KT H kvs xs) (k:List Key) {y:V} {u:Value} (ry:RelV y u) :
    KT H (kvs.map fun kv=>if kv.1=k then (kv.1,y) else kv) (xs.map (putAt k u)):=by
  induction r with
  | nil=>exact .nil
  | @cons p q ps qs h t ih =>
    rw [List.map_cons,List.map_cons]
    refine .cons ?_ ih
    obtain ⟨h1,h2,h3⟩:=h
    unfold putAt
    by_cases e:p.1=k
    · rw [if_pos e,if_pos (h1.symm.trans e)]; exact ⟨h1,h2,ry⟩
    · rw [if_neg e,if_neg (fun z=>e (h1.trans z))]; exact ⟨h1,h2,h3⟩
theorem KT.put {H:Hp} {kvs:List (List Key × V)} {xs:List (List Key × Addr × Value)} (r:KT H kvs xs) (k:List Key) {b:Addr} {y:V} {u:Value} (hb:H b=some (.tup (k.map kV))) (ry:RelV y u) :
    KT H (putK kvs k y) (storedH xs k b u):=by
  have e:(kvs.any fun kv=>decide (kv.1=k))=(atKey xs k).isSome:=by
    rw [gC,(r.val k).isSome_eq,Option.isSome_map]
  unfold putK storedH
  rw [e]
  by_cases q:(atKey xs k).isSome=true
  · rw [if_pos q,if_pos q]; exact r.repl k ry
  · rw [if_neg q,if_neg q]; exact Paired.snoc r ⟨rfl,hb,ry⟩
theorem KT.keeps {H H':Hp} {kvs:List (List Key × V)} {xs:List (List Key × Addr × Value)} (r:KT H kvs xs) (ht:∀ b ys,H b=some (.tup ys)->H' b=some (.tup ys)):KT H' kvs xs :=
  Paired.mapP r fun _ _ z=>⟨z.1,ht _ _ z.2.1,z.2.2⟩
section
variable {P:Program} {w:World} {H:Hp} {h:Heap} {a:Addr}
theorem uL {u:HO} (ok:cw P w H h) (e:Rd H a u):bo P w H h a u:=e.ok ok
theorem mw {kvs:List (Key × V)} (ok:cw P w H h) (e:Rd H a (.dK kvs)):kvs.length<=sizeLine/\(a == sysModules)=false/\∃ vs,KV kvs vs/\h.DictOf (cj P w) a vs :=
  show bo P w H h a (.dK kvs) from uL ok e
theorem yE {kvs:List (Key × V)} (ok:cw P w H h) (e:H a=some (.dK kvs)):kvs.length<=sizeLine/\(a == sysModules)=false/\∃ vs,KV kvs vs/\h.DictOf (cj P w) a vs:=mw ok (.inl e)
theorem jP {ks:List Key} (ok:cw P w H h) (e:H a=some (.tup (ks.map kV))):(tupleKind (cj P w)).is h ks a:=by
  obtain ⟨_,its,r,o,h1,h2,n,h3⟩:=(show bo P w H h a (.tup (ks.map kV)) from ok a _ e)
  exact ⟨o,its.toArray,n,h1,h2,h3,by simpa using lV r⟩
theorem mf {kvs:List (List Key × V)} (ok:cw P w H h) (e:Rd H a (.dT kvs)):kvs.length<=sizeLine/\(a == sysModules)=false /\
    ∃ xs,KT H kvs xs/\h.DictOfH (tupleKind (cj P w)) a xs:=by
  obtain ⟨z,y,xs,r,o,es,ep,h1,h2,h3,h4,h5⟩:=(show bo P w H h a (.dT kvs) from uL ok e)
  refine ⟨z,y,xs,r,o,es,ep,h1,h2,h3,h4,fun x hx=>?_,h5⟩
  have all:∀ {l:List (List Key × V)} {m:List (List Key × Addr × Value)},KT H l m->∀ x∈m,(tupleKind (cj P w)).is h x.1 x.2.1:=by
    intro l m q
    induction q with
    | nil=>intro x hx; exact nomatch hx
    | @cons p q ps qs hq t ih =>
      intro x hx
      rcases List.mem_cons.mp hx with e | hx
      · subst e
        exact jP ok (by rw [<- hq.1]; exact hq.2.1)
      · exact ih x hx
  exact all r x hx
theorem yG {kvs:List (List Key × V)} (ok:cw P w H h) (e:H a=some (.dT kvs)):kvs.length<=sizeLine/\(a == sysModules)=false /\
    ∃ xs,KT H kvs xs/\h.DictOfH (tupleKind (cj P w)) a xs:=mf ok (.inl e)
end
def fH (H:Hp) (a:Addr) (y:V) (r:Option V):Prop :=
  (∃ kvs k,Rd H a (.dK kvs)/\y=kV k/\r=cC kvs k)\/∃ kvs k b,Rd H a (.dT kvs)/\y = .ref b/\H b=some (.tup (k.map kV))/\r=cC kvs k
def m4 (H:Hp) (a:Addr) (y v:V) (H':Hp):Prop :=
  (∃ kvs k,H a=some (.dK kvs)/\y=kV k/\kvs.length < sizeLine/\H'=upd H a (.dK (putK kvs k v))) \/
  ∃ kvs k b,H a=some (.dT kvs)/\y = .ref b/\H b=some (.tup (k.map kV))/\kvs.length < sizeLine/\H'=upd H a (.dT (putK kvs k v))
theorem fH.k {H:Hp} {a:Addr} {kvs:List (Key × V)} {k:Key} (e:H a=some (.dK kvs)):fH H a (kV k) (cC kvs k):=.inl ⟨kvs,k,.inl e,rfl,rfl⟩
theorem m4.k {H:Hp} {a:Addr} {kvs:List (Key × V)} {k:Key} {v:V} (e:H a=some (.dK kvs)) (hl:kvs.length < sizeLine):m4 H a (kV k) v (upd H a (.dK (putK kvs k v))):=.inl ⟨kvs,k,e,rfl,hl,rfl⟩
section
variable {X:Cx} {pins:List (Addr × Obj)} {σ:St} {H:Hp} {s:Shared} {a:Addr} {y v:V} {u r:Value} {o:Option V} {A:Around} {E:Value->Shared->Prop}
theorem Inv.big (I:Inv X pins σ H s):sysModules < s.heap.objs.size:=by
  have h:mainGlobals < s.heap.objs.size:=(I.mod.glob.keeps I.bk).lt
  exact Nat.lt_trans (by decide) h
theorem sv {Q:Value->Shared->Prop} (hu:A.units+1 < cLine) (I:Inv X pins σ H s) (g:fH H a y (some v)) (ry:RelV y u) (h:∀ w' s',Inv X pins σ H s'->RelV v w'->Q w' s') :
    wpAny (model X.prog X.w) A (getItem (.ref a) u) Q E s:=by
  rcases g with ⟨kvs,k,e,ey,l⟩ | ⟨kvs,k,b,e,ey,eb,l⟩
  · subst ey
    obtain ⟨z,hd,vs,rel,dd⟩:=mw I.hok e
    obtain ⟨w',hw,rw'⟩:=dw.some_of (v:=v) (o:=valueAt vs k) (by rw [l]; exact rel.val k)
    exact wpAny_getItem_of (my ry) dd.mapOf hw (h w' _ (I.tok _) rw')
  · subst ey
    cases (show u=Value.ref b from ry)
    obtain ⟨z,hd,xs,rel,dd⟩:=mf I.hok e
    obtain ⟨w',hw,rw'⟩:=dw.some_of (v:=v) (o:=(atKey xs k).map (·.2)) (by rw [l]; exact rel.val k)
    obtain ⟨p,hp,hp2⟩:=Option.map_eq_some_iff.mp hw
    refine wpAny_getItem_heap (tupleKind_room_in1 hu) (jP I.hok eb) dd hp ?_
    rw [hp2]
    exact h w' _ (I.tok _) rw'
theorem zb {Q:Value->Shared->Prop} (hu:A.units+1 < cLine) (I:Inv X pins σ H s) (g:fH H a y o) (ry:RelV y u) (h:∀ s',Inv X pins σ H s'->Q (.bool o.isSome) s') :
    wpAny (model X.prog X.w) A (compareOp .In u (.ref a)) Q E s:=by
  rcases g with ⟨kvs,k,e,ey,l⟩ | ⟨kvs,k,b,e,ey,eb,l⟩
  · subst ey
    obtain ⟨z,hd,vs,rel,dd⟩:=mw I.hok e
    refine wpAny_in_of (my ry) hd dd.mapOf ?_
    rw [<- (rel.val k).isSome_eq,<- l]
    exact h _ (I.tok _)
  · subst ey
    cases (show u=Value.ref b from ry)
    obtain ⟨z,hd,xs,rel,dd⟩:=mf I.hok e
    refine wpAny_in_heap (tupleKind_room_in1 hu) (jP I.hok eb) hd dd ?_
    have q:=(rel.val k).isSome_eq
    rw [Option.isSome_map] at q
    rw [<- q,<- l]
    exact h _ (I.tok _)
theorem oX {h':Heap} {t':Nat} {ob:HO} (I:Inv X pins σ H s) (mu:so (H a)) (hs:Heap.SameBut a s.heap h') (he:∃ q,h'.get? a=some q) (new:bo X.prog X.w (upd H a ob) h' a ob) :
    Inv X pins σ (upd H a ob) { s with heap:=h',toks:=t' } :=
  I.write (x:=a) (e:=a) mu (.inl rfl) (fun b q hb z=>(hs.2 b hb).trans z) he new
theorem v8 {P:Program} {w:World} {H':Hp} {h':Heap} {kvs:List (Key × V)} {vs:List (Key × Value)} (z:kvs.length<=sizeLine) (hd:(a == sysModules)=false) (rel:KV kvs vs) (dd:h'.DictOf (cj P w) a vs) :
    bo P w H' h' a (.dK kvs):=⟨z,hd,vs,rel,dd⟩
theorem rn {H':Hp} {Q:Unit->Shared->Prop} (hu:A.units+1 < cLine) (I:Inv X pins σ H s) (g:m4 H a y v H') (ry:RelV y u) (rv:RelV v r) (h:∀ s',Inv X pins σ H' s'->Q () s') :
    wpAny (model X.prog X.w) A (setItem (.ref a) u r) Q E s:=by
  rcases g with ⟨kvs,k,e,ey,l,eH⟩ | ⟨kvs,k,b,e,ey,eb,l,eH⟩
  · subst ey eH
    obtain ⟨z,hd,vs,rel,dd⟩:=yE I.hok e
    have hz:vs.length<=sizeLine:=by rw [<- rel.length]; exact z
    have hl:(putK kvs k v).length<=sizeLine:=by have:=fK kvs k v; lia
    refine wpAny_setItem_pairs (hsz:=hz) (my ry) dd fun h' dd' hs=>h _ ?_
    have he:∃ q,h'.get? a=some q:=let ⟨q,_,_,hq,_⟩:=dd'; ⟨q,hq⟩
    exact oX I (by rw [e]; exact True.intro) hs he (v8 hl hd (rel.put k rv) dd')
  · subst ey eH
    cases (show u=Value.ref b from ry)
    obtain ⟨z,hd,xs,rel,dd⟩:=yG I.hok e
    have hz:xs.length<=sizeLine:=by rw [<- Paired.length rel]; exact z
    have hl:(putK kvs k v).length<=sizeLine:=by have:=fK kvs k v; lia
    refine wpAny_setItem_heap (hsz:=hz) (tupleKind_room_in1 hu) (jP I.hok eb) dd fun h' dd' hs=>h _ ?_
    obtain ⟨q,es,ep,hq,h2,h3,h4,_,h5⟩:=dd'
    refine oX I (by rw [e]; exact True.intro) hs ⟨q,hq⟩ ⟨hl,hd,_,(rel.put k eb rv).keeps fun c ys ec=>?_,q,es,ep,hq,h2,h3,h4,h5⟩
    rw [ao (uB ec e (fun z=>nomatch z))]
    exact ec
end
section
variable {X:Cx} {pins:List (Addr × Obj)} {σ:St} {H:Hp} {s:Shared} {a:Addr} {kvs:List (Key × V)} {k:Key} {u:Value} {A:Around} {E:Value->Shared->Prop}
end
def wN (i:Expr):Prop:=∀ ov iv,subscripted i false ov iv=operate [ov,iv] (getItem ov iv)
theorem uZ {prog:Program} {w:World} {A:Around} {E:Value->Shared->Prop} {s:Shared} {env:Env} {value slice:Expr} {pos:Pos} {T id:String} {Q:Value->Shared->Prop}
    (hl:typeLookup (.type T) "__getitem__" = pure (some (.builtin id))) (hs:wN slice)
    (h:wpAny (model prog w) A (eval value env) (fun o s₁=>wpAny (model prog w) A (eval slice env) (fun i s₂=>s₂.TypeIs o T/\wpAny (model prog w) A (getItem o i) Q E s₂) E s₁) E s) :
    wpAny (model prog w) A (eval (.Subscript value slice pos) env) Q E s:=by
  refine Subscript_ (wpAny_mono h (fun o s₁ h₁=>wpAny_mono h₁ (fun i s₂ h₂=>?_) fun _ _ x=>x) fun _ _ x=>x)
  obtain ⟨hT,h₂⟩:=h₂
  unfold subscriptTail
  refine wpAny_bind ?_
  rw [getitemInPython_of_ne hT.not_modules]
  refine wpAny_bind (wpAny_specialOf hT hl ?_)
  have fin:wpAny (model prog w) A (subscripted slice false o i) (fun r s₃=>wpAny (model prog w) A (letTemporaryGo value o r >>= fun _=>pure r) Q E s₃) E s₂:=by
    rw [hs o i]
    exact wpAny_operating (wpAny_mono h₂ (fun r s₃ h₃=>wpAny_bind (wpAny_letTemporaryGo (wpAny_pure h₃))) fun _ _ x=>x)
  first
    | exact wpAny_pure (wpAny_bind fin)
    | exact wpAny_bind (wpAny_pure (wpAny_bind fin))
    | exact wpAny_bind fin
theorem oI {X:Cx} {pins:List (Addr × Obj)} {σ:St} {H:Hp} {s:Shared} {a:Addr} {y:V} {o:Option V} (I:Inv X pins σ H s) (g:fH H a y o):s.TypeIs (.ref a) "dict":=by
  rcases g with ⟨kvs,k,e,_,_⟩ | ⟨kvs,k,b,e,_,_,_⟩
  · obtain ⟨_,_,vs,_,dd⟩:=mw I.hok e
    exact dd.typeIs
  · obtain ⟨_,_,xs,_,dd⟩:=mf I.hok e
    exact dd.typeIs
noncomputable def yK (td ty:TE):TE:=fun σ H Q=>td σ H fun x H1=>ty σ H1 fun y H2=>∃ a v,x = .ref a/\fH H2 a y (some v)/\Q v H2
noncomputable def zj (ty td:TE):TE:=fun σ H Q=>ty σ H fun y H1=>td σ H1 fun x H2=>∃ a o,x = .ref a/\fH H2 a y o/\Q (.bl o.isSome) H2
noncomputable def yq (td ty tv:TE):TS:=fun D σ H=>tv σ H fun v H1=>td σ H1 fun x H2=>ty σ H2 fun y H3=>∃ a H4,x = .ref a/\m4 H3 a y v H4/\D.nx σ H4
section
variable {X:Cx} {o i e value:Expr} {pos pos' tpos:Pos} {td ty tv:TE}
theorem vJ (hu:X.A.units+1 < cLine) (ho:PE X o td) (hi:PE X i ty) (hs:wN i):PE X (.Subscript o i pos) (yK td ty):=by
  intro pins s σ H Q I h
  refine uZ PySem.F.slot_dict_getitem.lookup hs (aE (ho pins s σ H _ I h) fun u s1 ⟨x,H1,I1,rx,q1⟩=>aE (hi pins s1 σ H1 _ I1 q1) fun iv s2 ⟨y,H2,I2,ry,a,v,ex,g,q2⟩=>?_)
  subst ex
  obtain rfl:u=Value.ref a:=rx
  exact ⟨oI I2 g,sv hu I2 g ry fun w' s3 I3 rw'=>⟨v,H2,I3,rw',q2⟩⟩
theorem wB (hu:X.A.units+1 < cLine) (hi:PE X i ty) (ho:PE X o td):PC X .In i o (zj ty td):=by
  intro pins s σ H Q I h
  refine aE (hi pins s σ H _ I h) fun iv s1 ⟨y,H1,I1,ry,q1⟩=>aE (ho pins s1 σ H1 _ I1 q1) fun u s2 ⟨x,H2,I2,rx,a,ov,ex,g,q2⟩=>?_
  subst ex
  obtain rfl:u=Value.ref a:=rx
  exact zb hu I2 g ry fun s3 I3=>⟨.bl ov.isSome,H2,I3,rfl,q2⟩
theorem vy (hu:X.A.units+1 < cLine) (ho:PE X o td) (hi:PE X i ty) (hv:PE X value tv) (hs:swapsWith value (some (.Subscript o i pos')) pos.line X.env=pure false) :
    PS X (.Assign [.Subscript o i pos'] value pos) (yq td ty tv):=by
  intro pins s σ H D I h
  refine wpAny_Assign_Subscript (aE (hv pins s σ H _ I h) fun r s1 ⟨v,H1,I1,rv,q1⟩=>aE (ho pins s1 σ H1 _ I1 q1) fun u s2 ⟨x,H2,I2,rx,q2⟩=>aE (hi pins s2 σ H2 _ I2 q2) fun iv s3 ⟨y,H3,I3,ry,a,H4,ex,g,q3⟩=>?_) hs
  subst ex
  obtain rfl:u=Value.ref a:=rx
  exact rn hu I3 g ry rv fun s4 I4=>⟨σ,H4,I4,q3⟩
end
theorem uh {P:Program} {w:World} {H:Hp} (h:Heap) (hb:sysModules < h.objs.size):bo P w H (h.push { cls:=.type "dict",data:=.dict #[] }) h.objs.size (.dK []) :=
  ⟨Nat.zero_le _,beq_eq_false_iff_ne.mpr (Ne.symm (Nat.ne_of_lt hb)),[],.nil,Heap.DictOf.new h⟩
noncomputable def wC:TE:=fun _ H Q=>∀ p,H p=none->Q (.ref p) (upd H p (.dK []))
section
variable {X:Cx} {pos:Pos}
theorem sR:PE X (.Dict [] [] pos) wC:=fun pins s σ H Q I h =>
  wpAny_Dict_empty ⟨.ref s.heap.objs.size,_,I.laid (a:=s.heap.objs.size) (o:=.dK []) (t':=s.toks) (fun _ _ q=>Heap.get?_push_of_some _ q) (Nat.le_refl _) (uh s.heap I.big),rfl,h _ (I.hok.fresh (Nat.le_refl _))⟩
end
section
variable {X:Cx} {pins:List (Addr × Obj)} {σ:St} {H:Hp} {s:Shared} {a:Addr} {y d:V} {u r:Value} {o:Option V} {A:Around} {E:Value->Shared->Prop}
end
section
variable {X:Cx} {o e f:Expr} {apos cpos:Pos} {td ty tx:TE}
end
section
variable {X:Cx} {pins:List (Addr × Obj)} {σ:St} {H:Hp} {s:Shared} {a:Addr} {kvs:List (Key × V)} {A:Around} {E:Value->Shared->Prop}
end
section
variable {X:Cx} {pins:List (Addr × Obj)} {σ:St} {H:Hp} {s:Shared} {a:Addr} {y:V} {u:Value} {A:Around} {E:Value->Shared->Prop}
end
end L2
namespace L2
open PySem PySem.Spec PyProof.Rows
section
variable {κ:Type} [DecidableEq κ]
end
end L2
set_option Elab.async false
set_option linter.all false
set_option maxRecDepth 100000
set_option maxHeartbeats 4000000
namespace Ck
open PySem L2
theorem jf:∀ {r s:List Int},r.map V.int=s.map V.int->r=s
  | [],[],_=>rfl
  | a::r,b::s,h=>by
    rw [List.map_cons,List.map_cons] at h
    injection h with h1 h2
    injection h1 with h1
    rw [h1,jf h2]
noncomputable def mh (o:Option HO):Bool:=match o with | some (.lst [])=>true | _=>false
theorem lZ (r:List Int):mh (some (.lst (r.map V.int)))=decide (r=[]):=by
  cases r with
  | nil=>rfl
  | cons a r=>rw [decide_eq_false (by simp)]; rfl
end Ck
namespace L2
open PySem PySem.Spec PyProof.Rows Ck
theorem nH {X:Cx} {K:W.Frag} (hK:X.K=K):cU X (.builtin "sorted") (fun xs H Q=>∃ (p:Addr) (ns:List Int),xs=[.ref p]/\aj K H p (ns.map V.int)/\ns.length < 64/\∀ (q:Addr) (ms:List Int),H q=none->ms.Perm ns->ms.Pairwise (·<=·)->Q (.ref q) (upd H q (.lst (ms.map V.int)))):=by
  subst hK
  exact jc
noncomputable def yV:R2:=fun x y H Q=>∃ (a l:Addr) (H0:Hp) (rs:List (List Int)),x = .ref a/\y = .ref l/\H a=some (.lst [])/\aO H0 H l rs/\Q (.bl (rs.any fun r=>decide (r=[]))) H
theorem xA {X:Cx} (hu:X.A.units+100 < cLine):cF X (compareOp .In) yV:=by
  intro pins s σ H x y u v Q I ru rv h
  obtain ⟨a,l,H0,rs,rfl,rfl,ha,⟨bs,hl,ro,nd⟩,q⟩:=h
  cases (show u=Value.ref _ from ru)
  cases (show v=Value.ref _ from rv)
  obtain ⟨its,r',pl,hz⟩:=I.list (aj.of hl)
  have ei:its=bs.map Value.ref:=by
    have go:∀ (bs:List Addr) (us:List Value),Vals (bs.map V.ref) us->us=bs.map Value.ref:=fun bs=>by
      induction bs with
      | nil=>intro us h; rw [List.map_nil] at h; cases h; rfl
      | cons b bs ih =>
        intro us h
        rw [List.map_cons] at h
        cases h with
        | cons h t=>rw [ih _ t,List.map_cons]; cases (show _=Value.ref b from h); rfl
    exact go bs its r'
  have one:∀ (b:Addr) (r:List Int),H b=some (.lst (r.map V.int))->bg X.K H 1 (.ref b) (.ref a) (decide (r=[])):=fun b r hb=>by
    by_cases e:b=a
    · subst e
      rw [ha] at hb
      have:r=[]:=by
        injection hb with hb; injection hb with hb
        exact List.map_eq_nil_iff.mp hb.symm
      rw [decide_eq_true this]
      exact bg.same
    · have:=bg.void (K:=X.K) (n:=0) e (aj.of hb) (aj.of ha)
      have e2:decide (r.map V.int=[])=decide (r=[]):=by
        cases r<;>simp
      rw [e2] at this
      exact this
  have ex:∀ (bs:List Addr) (rs:List (List Int)),aH H0 H l bs rs->∃ e:Value->Bool,(∀ y∈bs.map Value.ref,∃ (b:Addr) (r:List Int),y = .ref b/\H b=some (.lst (r.map V.int))/\e y=decide (r=[]))/\(bs.map Value.ref).any e=rs.any fun r=>decide (r=[]):=fun bs rs ro=>by
    refine ⟨fun y=>match y with | .ref b=>mh (H b) | _=>false,?_,?_⟩
    · intro y hy
      obtain ⟨b,hb,rfl⟩:=List.mem_map.mp hy
      obtain ⟨⟨ns,e⟩,_⟩:=ro.all b hb
      refine ⟨b,ns,rfl,e,?_⟩
      show mh (H b)=_
      rw [e,lZ]
    · induction ro with
      | nil=>rfl
      | cons h _ ih =>
        rw [List.map_cons,List.any_cons,List.any_cons,ih]
        congr 1
        show mh (H _)=_
        rw [h.1,lZ]
  obtain ⟨e,e1,e2⟩:=ex bs rs ro
  refine SeqAt.in_listAt (items:=its.toArray) e pl.isList (fun y hy=>?_) ⟨.bl _,H,I,rfl,?_⟩
  · have hy':y∈bs.map Value.ref:=by rw [ei] at hy; simpa using hy
    obtain ⟨b,r,rfl,hb,e3⟩:=e1 y hy'
    rw [e3]
    exact (one b r hb).at_ (A:=X.A.in1) (by show X.A.units+1+1 < cLine; lia) I rfl rfl
  · rw [ei,List.any_toArray,e2]
    exact q
end L2
namespace Ck
open PySem L2
theorem bg.ints {K:W.Frag} {H:Hp} {n:Nat} {a b:Addr} {r s:List Int} (ha:H a=some (.lst (r.map V.int))) (hb:H b=some (.lst (s.map V.int))):bg K H (n+1) (.ref a) (.ref b) (decide (r=s)):=by
  by_cases e:a=b
  · subst e
    rw [ha] at hb
    have:r=s:=by
      injection hb with hb; injection hb with hb
      exact jf hb
    rw [decide_eq_true this]
    exact bg.same
  by_cases hl:r.length=s.length
  · have h:=bg.lst (K:=K) (n:=n) (e:=fun j=>decide (r.getD j 0=s.getD j 0)) e (aj.of ha) (aj.of hb) (by simp [hl]) (fun j x y hx hy=>by
      obtain ⟨c,rfl⟩:=fU hx
      obtain ⟨d,rfl⟩:=fU hy
      rw [List.getElem?_map] at hx hy
      have ec:r.getD j 0=c:=by
        rw [List.getD_eq_getElem?_getD]
        cases h:r[j]? with
        | none=>rw [h] at hx; cases hx
        | some z=>rw [h] at hx; injection hx with hx; injection hx
      have ed:s.getD j 0=d:=by
        rw [List.getD_eq_getElem?_getD]
        cases h:s[j]? with
        | none=>rw [h] at hy; cases hy
        | some z=>rw [h] at hy; injection hy with hy; injection hy
      have z:=bg.flat (K:=K) (H:=H) (n:=n) (x:=V.int c) (y:=V.int d) rfl rfl
      rw [ec,ed]
      have e3:gN (V.int c) (V.int d)=decide (c=d):=rfl
      rw [e3] at z
      exact z)
    have e2:(List.range (r.map V.int).length).all (fun j=>decide (r.getD j 0=s.getD j 0))=decide (r=s):=by
      rw [Bool.eq_iff_iff,List.all_eq_true,decide_eq_true_iff]
      constructor
      · intro h
        refine List.ext_getElem hl fun k h1 h2=>?_
        have:=of_decide_eq_true (h k (List.mem_range.mpr (by simpa using h1)))
        rw [List.getD_eq_getElem?_getD,List.getD_eq_getElem?_getD,List.getElem?_eq_getElem h1,List.getElem?_eq_getElem h2] at this
        exact this
      · intro h k _
        rw [h]
        exact decide_eq_true rfl
    rw [e2] at h
    exact h
  · rw [decide_eq_false fun z=>hl (by rw [z])]
    exact bg.lstN e (aj.of ha) (aj.of hb) (by simpa using hl)
theorem bg.rooms {K:W.Frag} {H0 H1 H:Hp} {a b:Addr} {rs ss:List (List Int)} (h:aO H0 H a rs) (k:aO H1 H b ss) (ne:a≠b):bg K H 2 (.ref a) (.ref b) (decide (rs=ss)):=by
  obtain ⟨xs,ex,lx⟩:=h.len
  obtain ⟨ys,ey,ly⟩:=k.len
  by_cases hl:rs.length=ss.length
  · have d:=bg.lst (K:=K) (n:=1) (e:=fun j=>decide (rs.getD j []=ss.getD j [])) ne (aj.of ex) (aj.of ey) (by lia) (fun j x y e1 e2=>by
      have hj:j < rs.length:=by rw [<- lx]; exact (List.getElem?_eq_some_iff.mp e1).1
      obtain ⟨c,f1,g1,_⟩:=h.get ex (List.getElem?_eq_getElem hj)
      obtain ⟨d,f2,g2,_⟩:=k.get ey (List.getElem?_eq_getElem (show j < ss.length by lia))
      rw [f1] at e1
      rw [f2] at e2
      cases e1
      cases e2
      rw [List.getD_eq_getElem?_getD,List.getD_eq_getElem?_getD,List.getElem?_eq_getElem hj,List.getElem?_eq_getElem (show j < ss.length by lia)]
      exact bg.ints g1 g2)
    have e:(List.range xs.length).all (fun j=>decide (rs.getD j []=ss.getD j []))=decide (rs=ss):=by
      rw [Bool.eq_iff_iff,List.all_eq_true,decide_eq_true_iff]
      constructor
      · intro h
        refine List.ext_getElem hl fun k h1 h2=>?_
        have:=of_decide_eq_true (h k (List.mem_range.mpr (by lia)))
        rw [List.getD_eq_getElem?_getD,List.getD_eq_getElem?_getD,List.getElem?_eq_getElem h1,List.getElem?_eq_getElem h2] at this
        exact this
      · intro h k _
        rw [h]
        exact decide_eq_true rfl
    rw [e] at d
    exact d
  · rw [decide_eq_false fun z=>hl (by rw [z])]
    exact bg.lstN ne (aj.of ex) (aj.of ey) (by lia)
end Ck
namespace Ck
open PySem L2
noncomputable def bV (rs:List (List Int)):List Pair:=(rs.map fun r=>r.zip (r.drop 1)).flatten
noncomputable def jj (rs:List (List Int)):Bool:=decide ((∀ r∈rs,r.Pairwise (· < ·))/\(rs.map hd).Pairwise (· < ·))
noncomputable def cm (rs:List (List Int)):Bool:=rs.all (fun r=>decide (r≠[]))&&(cA rs.flatten&&(jj rs&&!cE (bV rs)))
theorem tL {rs:List (List Int)} (h:∃ r∈rs,r=[]):cm rs=false:=by
  obtain ⟨r,hr,e⟩:=h
  unfold cm
  have:rs.all (fun r=>decide (r≠[]))=false:=List.all_eq_false.mpr ⟨r,hr,by simp [e]⟩
  rw [this,Bool.false_and]
theorem uc {rs:List (List Int)} (h:cA rs.flatten=false):cm rs=false:=by
  unfold cm
  rw [h]
  simp
theorem mL {rs:List (List Int)} (hne:∀ r∈rs,r≠[]) (hE:cA rs.flatten=true):cm rs=(jj rs&&!cE (bV rs)):=by
  unfold cm
  have:rs.all (fun r=>decide (r≠[]))=true:=List.all_eq_true.mpr fun r hr=>decide_eq_true (hne r hr)
  rw [this,hE,Bool.true_and,Bool.true_and]
theorem qG {rs:List (List Int)} (hE:cA rs.flatten=true):rs.flatten.Nodup:=((cZ _).mp hE).nodup_iff.mpr (cQ _)
theorem kQ:∀ {rs:List (List Int)},rs.flatten.Nodup->(∀ r∈rs,r.Nodup)/\rs.Pairwise fun a b=>∀ x∈a,x∉b
  | [],_=>⟨fun r hr=>absurd hr (by simp),List.Pairwise.nil⟩
  | r::rs,h=>by
    rw [List.flatten_cons,List.nodup_append] at h
    obtain ⟨h1,h2,h3⟩:=h
    obtain ⟨i1,i2⟩:=kQ h2
    refine ⟨fun q hq=>?_,.cons (fun q hq x hx hx'=>h3 x hx x (List.mem_flatten.mpr ⟨q,hq,hx'⟩) rfl) i2⟩
    rcases List.mem_cons.mp hq with z | z
    · rw [z]; exact h1
    · exact i1 q z
theorem qy {rs:List (List Int)} (h:rs.flatten.Nodup) {r:List Int} (hr:r∈rs):r.Nodup:=by
  exact (kQ h).1 r hr
theorem rJ {a b:List Int} (ha:a≠[]) (hb:b≠[]) (h:cN b a=false) (ne:hd a≠hd b):hd a < hd b:=by
  cases a with
  | nil=>exact absurd rfl ha
  | cons x a =>
    cases b with
    | nil=>exact absurd rfl hb
    | cons y b =>
      have ne':x≠y:=ne
      show x < y
      have h':(if y=x then cN b a else decide (y < x))=false:=h
      rw [if_neg (fun z=>ne' z.symm)] at h'
      have:=of_decide_eq_false h'
      lia
theorem mB {a b:List Int} (ha:a≠[]) (hb:b≠[]) (h:hd a < hd b):cN b a=false:=by
  cases a with
  | nil=>exact absurd rfl ha
  | cons x a =>
    cases b with
    | nil=>exact absurd rfl hb
    | cons y b =>
      have h':x < y:=h
      show (if y=x then cN b a else decide (y < x))=false
      rw [if_neg (by lia)]
      exact decide_eq_false (by lia)
theorem sT {rs:List (List Int)} (hne:∀ r∈rs,r≠[]) (h:rs.flatten.Nodup):rs.Pairwise fun a b=>hd a≠hd b:=by
  exact (kQ h).2.imp_of_mem fun ha hb hd' e=>by
    have h1:=n9 (hne _ ha)
    have h2:=n9 (hne _ hb)
    rw [<- e] at h2
    exact hd' _ h1 h2
theorem qO {r:List Int} (h:r.Pairwise (·<=·)) (nd:r.Nodup):r.Pairwise (· < ·):=by
  have:=List.Pairwise.and h nd
  exact this.imp fun ⟨h1,h2⟩=>by lia
theorem sS {rs ts ss:List (List Int)} (hts:Paired (fun (r q:List Int)=>q.Perm r/\q.Pairwise (·<=·)) rs ts) (hp:ss.Perm ts) (hs:ss.Pairwise fun a b=>cN b a=false) (hne:∀ r∈rs,r≠[]) (hE:cA rs.flatten=true):decide (rs=ss)=jj rs:=by
  have nd:=qG hE
  unfold jj
  rw [Bool.eq_iff_iff,decide_eq_true_iff,decide_eq_true_iff]
  constructor
  · intro e
    constructor
    · intro r hr
      have h1:r∈ts:=hp.mem_iff.mp (e▸hr)
      have go:∀ {rs ts:List (List Int)},Paired (fun (r q:List Int)=>q.Perm r/\q.Pairwise (·<=·)) rs ts->∀ q∈ts,q.Pairwise (·<=·):=by
        intro rs ts h
        induction h with
        | nil=>intro q hq; cases hq
        | cons x _ ih =>
          intro q hq
          rcases List.mem_cons.mp hq with z | z
          · rw [z]; exact x.2
          · exact ih q z
      exact qO (go hts r h1) (qy nd hr)
    · rw [List.pairwise_map]
      rw [<- e] at hs
      exact (hs.and (sT hne nd)).imp_of_mem fun ha hb ⟨h1,h2⟩=>rJ (hne _ ha) (hne _ hb) h1 h2
  · rintro ⟨h1,h2⟩
    have et:ts=rs:=by
      have go:∀ {rs ts:List (List Int)},Paired (fun (r q:List Int)=>q.Perm r/\q.Pairwise (·<=·)) rs ts->(∀ r∈rs,r.Pairwise (· < ·))->ts=rs:=by
        intro rs ts h
        induction h with
        | nil=>intro _; rfl
        | cons x _ ih =>
          intro hr
          rw [ih fun r hr'=>hr r (List.mem_cons_of_mem _ hr')]
          congr 1
          exact List.Perm.eq_of_pairwise (le:=(·<=·)) (fun a b _ _ h1 h2=>Int.le_antisymm h1 h2) x.2 ((hr _ (List.mem_cons_self ..)).imp Int.le_of_lt) x.1
      exact go hts h1
    rw [et] at hp
    rw [List.pairwise_map] at h2
    have h2':rs.Pairwise fun a b=>cN b a=false:=h2.imp_of_mem fun ha hb h=>mB (hne _ ha) (hne _ hb) h
    exact (List.Perm.eq_of_pairwise (le:=fun a b=>cN b a=false) (fun a b _ _ h1 h2=>ng a b h2 h1) hs h2' hp).symm
theorem dD {rs:List (List Int)} {p:Pair}:p∈bV rs↔∃ r∈rs,p∈r.zip (r.drop 1):=by
  unfold bV
  rw [List.mem_flatten]
  constructor
  · rintro ⟨l,hl,hp⟩
    obtain ⟨r,hr,rfl⟩:=List.mem_map.mp hl
    exact ⟨r,hr,hp⟩
  · rintro ⟨r,hr,hp⟩
    exact ⟨_,List.mem_map.mpr ⟨r,hr,rfl⟩,hp⟩
noncomputable abbrev lst (r:List Int):Int:=r.getD (r.length - 1) 0
theorem bH {r:List Int} (h:r≠[]):lst r∈r:=by
  have:r.length - 1 < r.length:=by
    cases r with
    | nil=>exact absurd rfl h
    | cons a r=>simp
  unfold lst
  rw [List.getD_eq_getElem?_getD,List.getElem?_eq_getElem this]
  exact List.getElem_mem this
structure zB (rs:List (List Int)) (p:List Nat) (k:Nat):Prop where
  up:p.Pairwise fun a b=>lst (rs.getD a []) < lst (rs.getD b [])
  far:∀ q∈bV rs,q.2 < (k:Int)
  str:∀ m∈p,∀ q∈bV rs,¬ (q.1 < lst (rs.getD m [])/\lst (rs.getD m []) < q.2)
  no:∀ a∈bV rs,∀ b∈bV rs,¬ (a.1 < b.1/\b.1 < a.2/\a.2 < b.2)
theorem lst_snoc (r:List Int) (k:Int):lst (r++[k])=k:=by
  unfold lst
  rw [List.getD_eq_getElem?_getD,List.length_append,List.getElem?_append_right (by simp)]
  simp
theorem jt {r:List Int} (h:r≠[]) (k:Int):(r++[k]).zip ((r++[k]).drop 1)=r.zip (r.drop 1)++[(lst r,k)]:=by
  induction r with
  | nil=>exact absurd rfl h
  | cons a r ih =>
    cases r with
    | nil=>rfl
    | cons b r =>
      have:=ih (by simp)
      show (a,b)::((b::r)++[k]).zip (((b::r)++[k]).drop 1)=(a,b)::(b::r).zip ((b::r).drop 1)++[(lst (a::b::r),k)]
      rw [this]
      rfl
theorem jB (rs:List (List Int)) (k:Int):bV (rs++[[k]])=bV rs:=by
  unfold bV
  rw [List.map_append,List.flatten_append]
  simp
theorem vM {k:Int}:∀ {rs:List (List Int)} {m:Nat} {r:List Int},rs[m]? = some r->r≠[]->∀ q:Pair,q∈bV (rs.set m (r++[k]))↔q∈bV rs\/q=(lst r,k):=by
  intro rs m r hm hr q
  obtain ⟨lm,em⟩:=List.getElem?_eq_some_iff.mp hm
  rw [dD,dD]
  constructor
  · rintro ⟨x,hx,hq⟩
    rcases List.mem_or_eq_of_mem_set hx with z | z
    · exact .inl ⟨x,z,hq⟩
    · rw [z,jt hr,List.mem_append] at hq
      rcases hq with z | z
      · exact .inl ⟨r,List.mem_of_getElem? hm,z⟩
      · exact .inr (by simpa using z)
  · have hin:r++[k]∈rs.set m (r++[k]):=List.mem_of_getElem? (i:=m) (by rw [List.getElem?_set_self lm])
    rintro (⟨x,hx,hq⟩ | e)
    · by_cases ex:x=r
      · exact ⟨_,hin,by rw [jt hr,List.mem_append]; exact .inl (by rw [<- ex]; exact hq)⟩
      · obtain ⟨j,lj,ej⟩:=List.getElem_of_mem hx
        have nj:m≠j:=fun z=>ex (by subst z; rw [<- ej,em])
        exact ⟨x,List.mem_of_getElem? (i:=j) (by rw [List.getElem?_set_ne nj,List.getElem?_eq_getElem lj,ej]),hq⟩
    · exact ⟨_,hin,by rw [jt hr,List.mem_append]; exact .inr (by rw [e]; simp)⟩
theorem cT.calm {rs:List (List Int)} {p:List Nat} {k:Nat} (h:cT rs p k):zB rs p k:=by
  induction h with
  | start=>exact ⟨List.Pairwise.nil,fun q hq=>absurd hq (by simp [bV]),fun m hm=>absurd hm (by simp),fun a ha=>absurd ha (by simp [bV])⟩
  | @shut rs p m k h ih =>
    obtain ⟨h1,h2,h3,h4⟩:=ih
    exact ⟨(List.pairwise_append.mp h1).1,h2,fun x hx=>h3 x (by simp [hx]),h4⟩
  | @opn rs p k h ih =>
    obtain ⟨h1,h2,h3,h4⟩:=ih
    obtain ⟨l1,l2,l3,l4⟩:=h.lens
    have rm:=h.rms
    have old:∀ m∈p,(rs++[[(k:Int)]]).getD m []=rs.getD m []:=fun m hm=>by
      rw [List.getD_eq_getElem?_getD,List.getElem?_append_left (l2 m hm),List.getD_eq_getElem?_getD]
    have new:(rs++[[(k:Int)]]).getD rs.length []=[(k:Int)]:=by
      rw [List.getD_eq_getElem?_getD,List.getElem?_append_right (Nat.le_refl _)]
      simp
    have lk:∀ m∈p,lst (rs.getD m []) < (k:Int):=fun m hm=>by
      have hr:rs.getD m []∈rs:=by
        rw [List.getD_eq_getElem?_getD,List.getElem?_eq_getElem (l2 m hm)]
        exact List.getElem_mem _
      exact (rm.rng hr (bH (rm.ne _ hr))).2
    refine ⟨?_,?_,?_,?_⟩
    · refine List.pairwise_append.mpr ⟨h1.imp_of_mem fun ha hb h=>by rw [old _ ha,old _ hb]; exact h,List.pairwise_singleton ..,fun a ha b hb=>?_⟩
      have e:b=rs.length:=by simpa using hb
      subst e
      rw [old a ha,new]
      exact lk a ha
    · intro q hq
      rw [jB] at hq
      have:=h2 q hq
      lia
    · intro m hm q hq
      rw [jB] at hq
      rcases List.mem_append.mp hm with z | z
      · rw [old m z]
        exact h3 m z q hq
      · have e:m=rs.length:=by simpa using z
        subst e
        rw [new]
        have:=h2 q hq
        show ¬ (q.1 < (k:Int)/\(k:Int) < q.2)
        lia
    · rw [jB]
      exact h4
  | @put rs p m k r h hr ih =>
    obtain ⟨h1,h2,h3,h4⟩:=ih
    obtain ⟨l1,l2,l3,l4⟩:=h.lens
    have rm:=h.rms
    have lm:=l2 m (by simp)
    have rne:r≠[]:=rm.ne r (List.mem_of_getElem? hr)
    have er:rs.getD m []=r:=by rw [List.getD_eq_getElem?_getD,hr]; rfl
    have lrk:lst r < (k:Int):=(rm.rng (List.mem_of_getElem? hr) (bH rne)).2
    obtain ⟨u1,_,u3⟩:=List.pairwise_append.mp h1
    have low:∀ a∈p,lst (rs.getD a []) < lst r:=fun a ha=>by have:=u3 a ha m (by simp); rw [er] at this; exact this
    have ne:∀ a∈p,m≠a:=fun a ha e=>by
      have:=low a ha
      rw [<- e,er] at this
      lia
    have old:∀ a∈p,(rs.set m (r++[(k:Int)])).getD a []=rs.getD a []:=fun a ha=>by
      rw [List.getD_eq_getElem?_getD,List.getElem?_set_ne (ne a ha),List.getD_eq_getElem?_getD]
    have new:(rs.set m (r++[(k:Int)])).getD m []=r++[(k:Int)]:=by
      rw [List.getD_eq_getElem?_getD,List.getElem?_set_self lm]
      rfl
    have mem:=vM (k:=(k:Int)) hr rne
    refine ⟨?_,?_,?_,?_⟩
    · refine List.pairwise_append.mpr ⟨u1.imp_of_mem fun ha hb h=>by rw [old _ ha,old _ hb]; exact h,List.pairwise_singleton ..,fun a ha b hb=>?_⟩
      have e:b=m:=by simpa using hb
      subst e
      rw [old a ha,new,lst_snoc]
      have:=low a ha
      lia
    · intro q hq
      rcases (mem q).mp hq with z | z
      · have:=h2 q z; lia
      · rw [z]
        show (k:Int) < ((k+1:Nat):Int)
        lia
    · intro a ha q hq
      rcases List.mem_append.mp ha with z | z
      · rw [old a z]
        rcases (mem q).mp hq with w | w
        · exact h3 a (by simp [z]) q w
        · have:=low a z
          rw [w]
          show ¬ (lst r < _/\_)
          lia
      · have e:a=m:=by simpa using z
        subst e
        rw [new,lst_snoc]
        rcases (mem q).mp hq with w | w
        · have:=h2 q w
          lia
        · rw [w]
          show ¬ (lst r < (k:Int)/\(k:Int) < (k:Int))
          lia
    · intro a ha b hb
      rcases (mem a).mp ha with wa | wa
      · rcases (mem b).mp hb with wb | wb
        · exact h4 a wa b wb
        · have:=h3 m (by simp) a wa
          rw [er] at this
          rw [wb]
          show ¬ (a.1 < lst r/\lst r < a.2/\a.2 < (k:Int))
          lia
      · rcases (mem b).mp hb with wb | wb
        · have:=h2 b wb
          rw [wa]
          show ¬ (lst r < b.1/\b.1 < (k:Int)/\(k:Int) < b.2)
          lia
        · rw [wa,wb]
          show ¬ (lst r < lst r/\_)
          lia
theorem ug (k:Nat):iota k=cg k:=rfl
theorem cT.rooms {rs:List (List Int)} {p:List Nat} {k:Nat} (h:cT rs p k):cm rs=true:=by
  have rm:=h.rms
  have c:=h.calm
  have hE:cA rs.flatten=true:=(cZ _).mpr (by
    have e:=rm.flat.length_eq
    rw [ug,dZ] at e
    rw [e]
    exact rm.flat)
  rw [mL rm.ne hE,Bool.and_eq_true]
  refine ⟨decide_eq_true ⟨rm.inc,rm.heads⟩,?_⟩
  cases e:cE (bV rs) with
  | false=>rfl
  | true =>
    obtain ⟨a,ha,b,hb,x1,x2,x3⟩:=eR.mp e
    exact absurd ⟨x1,x2,x3⟩ (c.no a ha b hb)
end Ck
namespace L2
open PySem PySem.Spec PyProof.Rows Ck
end L2
namespace Ck
open PySem L2
theorem gr {α β:Type} {R:α->β->Prop}:∀ {as cs:List α} {bs ds:List β},Paired R as bs->Paired R cs ds->Paired R (as++cs) (bs++ds)
  | _,_,_,_,.nil,h=>h
  | _,_,_,_,.cons r t,h=>.cons r (gr t h)
def cK (H:Hp) (bs:List Addr) (xss:List (List V)):Prop:=Paired (fun (b:Addr) (xs:List V)=>H b=some (.lst xs)) bs xss
theorem cK.same {H H':Hp} {bs:List Addr} {xss:List (List V)} (h:cK H bs xss) (s:ag H H'):cK H' bs xss:=Paired.mapP h fun _ _ e=>s _ _ e
theorem cK.get {H:Hp}:∀ {bs:List Addr} {xss:List (List V)},cK H bs xss->∀ {j:Nat} {v:V},(bs.map V.ref)[j]? = some v->∃ b xs,v = .ref b/\xss[j]? = some xs/\H b=some (.lst xs)
  | _,_,.nil,j,v,e=>by simp at e
  | _,_,.cons r t,0,v,e=>⟨_,_,(by simpa using e.symm),rfl,r⟩
  | _,_,.cons r t,j+1,v,e=>by
    obtain ⟨b,xs,h1,h2,h3⟩:=cK.get t (j:=j) (by simpa using e)
    exact ⟨b,xs,h1,by simpa using h2,h3⟩
theorem aO.rws {H0 H:Hp} {a:Addr} {rs:List (List Int)} (h:aO H0 H a rs):∃ bs:List Addr,H a=some (.lst (bs.map V.ref))/\cK H bs (rs.map fun r=>r.map V.int):=by
  obtain ⟨bs,e,r,_⟩:=h
  refine ⟨bs,e,?_⟩
  have go:∀ {bs:List Addr} {rs:List (List Int)},aH H0 H a bs rs->cK H bs (rs.map fun r=>r.map V.int):=by
    intro bs rs r
    induction r with
    | nil=>exact .nil
    | cons x _ ih=>exact .cons x.1 ih
  exact go r
theorem cK.len {H:Hp} {bs:List Addr} {xss:List (List V)} (h:cK H bs xss):bs.length=xss.length:=Paired.length h
theorem mQ (rs:List (List Int)):(rs.map fun r=>r.map V.int).flatten=rs.flatten.map V.int:=by
  rw [List.map_flatten]
end Ck
namespace Ck
open PySem L2
end Ck
namespace Ck
open PySem L2
end Ck
set_option Elab.async false
set_option maxRecDepth 100000
set_option maxHeartbeats 4000000
set_option linter.all false
namespace Ck
open PySem L2
theorem iJ:∀ {ps:List Pair},(ax ps).Nodup->∀ {p q:Pair},p∈ps->q∈ps->p.2=q.2->p=q
  | [],_,_,_,hp,_,_=>by cases hp
  | r::ps,nd,p,q,hp,hq,e=>by
    have nd':(r.1::r.2::ax ps).Nodup:=nd
    rw [List.nodup_cons,List.nodup_cons] at nd'
    rcases List.mem_cons.mp hp with rfl | hp2
    · rcases List.mem_cons.mp hq with rfl | hq2
      · rfl
      · exact absurd (bI.mpr ⟨q,hq2,.inr e⟩) nd'.2.1
    · rcases List.mem_cons.mp hq with rfl | hq2
      · exact absurd (show q.2∈ax ps from bI.mpr ⟨p,hp2,.inr e.symm⟩) nd'.2.1
      · exact iJ nd'.2.2 hp2 hq2 e
end Ck
namespace Ck
open PySem L2
end Ck
namespace Ck
open PySem L2
end Ck
set_option Elab.async false
set_option linter.all false
set_option maxRecDepth 100000
set_option maxHeartbeats 4000000
namespace Ck
open PySem L2
noncomputable def one (n k:Nat):Nat:=if 0 < k/\0 < n then 1 else 0
end Ck
set_option Elab.async false
set_option linter.all false
set_option maxRecDepth 100000
set_option maxHeartbeats 4000000
namespace Ck
open PySem L2
end Ck
set_option Elab.async false
set_option linter.all false
set_option maxRecDepth 100000
set_option maxHeartbeats 4000000
namespace L2
open PySem PySem.Spec PyProof.Rows
section
variable {X:Cx}
end
end L2
namespace Ck
open PySem L2
end Ck
set_option Elab.async false
set_option linter.all false
set_option maxRecDepth 100000
set_option maxHeartbeats 4000000
namespace Ck
open PySem L2
structure Wf (c:List Nat) (i:Nat) (fd:List Pair):Prop where
  ln:fd.length=(c.take i).count 41
  ix:∀ (j:Nat) (p:Pair),fd[j]? = some p->(c.take p.2.toNat).count 41=j
end Ck
namespace L2
open PySem PySem.Spec
variable {X:Cx}
noncomputable def yn (K:W.Frag):V->List V->Hp->VK->Prop:=fun x vs H Q=>oQ x vs H Q\/uH K x vs H Q
theorem ve:ux X "list.extend" (yn X.K):=fun pins s σ H x vs v us Q I rx rv h =>
  h.elim (qQ pins s σ H x vs v us Q I rx rv) (u5 pins s σ H x vs v us Q I rx rv)
end L2
set_option Elab.async false
set_option linter.all false
set_option maxRecDepth 100000
set_option maxHeartbeats 4000000
namespace Ck
open PySem L2
noncomputable def rS (c:List Nat):Nat->Nat
  | 0=>0
  | q+1=>if c.getD q 0=41 then rS c q else q+1
end Ck
namespace Ck
open PySem L2
theorem getD_at {st:List Int} {j:Nat} (h:j < st.length):st.getD j 0=st[j]:=by rw [List.getD_eq_getElem?_getD,List.getElem?_eq_getElem h]; rfl
theorem vw {a b:List Int} (ha:a.Pairwise (· < ·)) (hb:b.Pairwise (· < ·)) (h:∀ x,x∈a↔x∈b):a=b :=
  List.Perm.eq_of_pairwise (le:=(·<=·)) (fun x y _ _ h1 h2=>by lia) (ha.imp fun h=>by lia) (hb.imp fun h=>by lia)
    ((List.perm_ext_iff_of_nodup (ha.imp fun h=>by lia) (hb.imp fun h=>by lia)).mpr h)
end Ck
namespace Ck
open PySem L2
structure Wh (c:List Nat) (gs:List (List Pair)) (fd:List Pair):Prop where
  uF:uF 0 c=true
  wk:Wk c c.length fd []
  wf:Wf c c.length fd
  flat:gs.flatten=fd
  ne:∀ g∈gs,g≠[]
  same:∀ g∈gs,∀ p∈g,∀ q∈g,rS c p.2.toNat=rS c q.2.toNat
  apart:gs.Pairwise fun g h=>∀ p∈g,∀ q∈h,rS c p.2.toNat≠rS c q.2.toNat
section
variable {c:List Nat} {gs:List (List Pair)} {fd:List Pair} (W:Wh c gs fd)
include W
end
end Ck
namespace Ck
open PySem L2
theorem vG {g:List Int} (h:g≠[]) (m:Int):hd (g++[m])=hd g:=by
  cases g with
  | nil=>exact absurd rfl h
  | cons a g=>rfl
end Ck
set_option Elab.async false
set_option linter.all false
set_option maxRecDepth 100000
set_option maxHeartbeats 4000000
namespace Ck
open PySem L2
end Ck
set_option Elab.async false
set_option linter.all false
set_option maxRecDepth 100000
set_option maxHeartbeats 4000000
namespace Ck
open PySem L2
end Ck
set_option Elab.async false
set_option linter.all false
set_option maxRecDepth 100000
set_option maxHeartbeats 4000000
namespace Ck
open PySem L2
theorem xQ {t:List Int} (st:t.Pairwise (·<=·)) {x:Int} (hx:x∈t):x<=lst t:=by
  obtain ⟨i,hi,rfl⟩:=List.getElem_of_mem hx
  have e:lst t=t[t.length - 1]:=by
    show t.getD (t.length - 1) 0=_
    rw [List.getD_eq_getElem?_getD,List.getElem?_eq_getElem (by lia)]
    rfl
  rw [e]
  by_cases z:i=t.length - 1
  · subst z; exact Int.le_refl _
  · exact List.pairwise_iff_getElem.mp st i (t.length - 1) hi (by lia) (by lia)
structure Gd (R:List (List Int)) (n:Nat):Prop where
  ne:∀ r∈R,r≠[]
  inc:∀ r∈R,r.Pairwise (· < ·)
  heads:(R.map hd).Pairwise (· < ·)
  flat:R.flatten.Perm (cg n)
  nc:NC (bV R)
theorem yI {R:List (List Int)} (h:cm R=true):Gd R R.flatten.length:=by
  unfold cm at h
  rw [Bool.and_eq_true,Bool.and_eq_true,Bool.and_eq_true,Bool.not_eq_true'] at h
  obtain ⟨h1,h2,h3,h4⟩:=h
  unfold jj at h3
  have h3:=of_decide_eq_true h3
  exact ⟨fun r hr=>by simpa using List.all_eq_true.mp h1 r hr,h3.1,h3.2,(cZ _).mp h2,jx.mp h4⟩
theorem Gd.is {R:List (List Int)} {n:Nat} (h:Gd R n):cm R=true:=by
  have l:R.flatten.length=n:=by rw [h.flat.length_eq,dZ]
  unfold cm
  rw [Bool.and_eq_true,Bool.and_eq_true,Bool.and_eq_true,Bool.not_eq_true']
  refine ⟨List.all_eq_true.mpr fun r hr=>decide_eq_true (h.ne r hr),(cZ _).mpr (by rw [l]; exact h.flat),?_,jx.mpr h.nc⟩
  unfold jj
  exact decide_eq_true ⟨h.inc,h.heads⟩
theorem Gd.uniq {R:List (List Int)} {n:Nat} (h:Gd R n) {r s:List Int} (hr:r∈R) (hs:s∈R) {x:Int} (h1:x∈r) (h2:x∈s):r=s:=by
  have nd:R.flatten.Nodup:=h.flat.nodup_iff.mpr (cQ n)
  have pd:=(List.pairwise_flatten.mp nd).2
  obtain ⟨i,hi,rfl⟩:=List.getElem_of_mem hr
  obtain ⟨j,hj,rfl⟩:=List.getElem_of_mem hs
  have a:=List.pairwise_iff_getElem.mp pd
  by_cases l:i < j
  · exact absurd rfl (a i j hi hj l x h1 x h2)
  · by_cases l2:j < i
    · exact absurd rfl (a j i hj hi l2 x h2 x h1)
    · have:i=j:=by lia
      subst this
      rfl
theorem Gd.bd {R:List (List Int)} {n:Nat} (h:Gd R n) {r:List Int} (hr:r∈R) {x:Int} (hx:x∈r):0<=x/\x < (n:Int):=dB.mp (h.flat.mem_iff.mp (List.mem_flatten.mpr ⟨r,hr,hx⟩))
theorem kl {x l:Int}:∀ {r:List Int},r.Pairwise (· < ·)->∀ {y:Int},y∈r->l∈r->y < x->x < l->x∉r->∃ p∈r.zip (r.drop 1),y<=p.1/\p.1 < x/\x < p.2
  | [],_,y,hy,_,_,_,_=>by cases hy
  | [a],_,y,hy,hl,h1,h2,_=>by
    rw [List.mem_singleton.mp hy] at h1
    rw [List.mem_singleton.mp hl] at h2
    lia
  | a::b::r,pw,y,hy,hl,h1,h2,hx=>by
    have pw':=List.pairwise_cons.mp pw
    have ab:=pw'.1 b (List.mem_cons_self ..)
    have hb:b≠x:=fun e=>hx (by rw [e]; simp)
    rcases List.mem_cons.mp hy with rfl | hy'
    · by_cases c:b < x
      · have l':l∈b::r:=by
          rcases List.mem_cons.mp hl with z | z
          · lia
          · exact z
        obtain ⟨p,hp,q1,q2⟩:=kl pw'.2 (List.mem_cons_self ..) l' c h2 fun z=>hx (List.mem_cons_of_mem _ z)
        exact ⟨p,List.mem_cons_of_mem _ hp,by lia,q2⟩
      · exact ⟨(y,b),List.mem_cons_self ..,Int.le_refl _,h1,by show x < b; lia⟩
    · have l':l∈b::r:=by
        rcases List.mem_cons.mp hl with z | z
        · have:=pw'.1 y hy'
          lia
        · exact z
      obtain ⟨p,hp,q1,q2⟩:=kl pw'.2 hy' l' h1 h2 fun z=>hx (List.mem_cons_of_mem _ z)
      exact ⟨p,List.mem_cons_of_mem _ hp,q1,q2⟩
end Ck
namespace Ck
open PySem L2
end Ck
set_option Elab.async false
set_option linter.all false
set_option maxRecDepth 100000
set_option maxHeartbeats 4000000
namespace Ck
open PySem L2
theorem cx:∀ {r:List Int},r.Pairwise (· < ·)->∀ {p:Pair},p∈r.zip (r.drop 1)->p.1∈r/\p.2∈r/\p.1 < p.2/\∀ x∈r,¬ (p.1 < x/\x < p.2)
  | [],_,p,hp=>by cases hp
  | [a],_,p,hp=>by cases hp
  | a::b::r,pw,p,hp=>by
    have pw':=List.pairwise_cons.mp pw
    have ab:=pw'.1 b (List.mem_cons_self ..)
    rcases List.mem_cons.mp hp with rfl | hp'
    · refine ⟨List.mem_cons_self ..,by simp,ab,fun x hx z=>?_⟩
      rcases List.mem_cons.mp hx with e | hx
      · have:x=a:=e
        simp only at z
        lia
      · rcases List.mem_cons.mp hx with e | hx
        · simp only at z
          lia
        · have:=(List.pairwise_cons.mp pw'.2).1 x hx
          simp only at z
          lia
    · obtain ⟨h1,h2,h3,h4⟩:=cx pw'.2 hp'
      refine ⟨List.mem_cons_of_mem _ h1,List.mem_cons_of_mem _ h2,h3,fun x hx z=>?_⟩
      rcases List.mem_cons.mp hx with e | hx
      · have:=pw'.1 p.1 h1
        lia
      · exact h4 x hx z
section
variable {c:List Nat} {gs:List (List Pair)} {fd:List Pair} (W:Wh c gs fd)
include W
end
end Ck
set_option Elab.async false
set_option linter.all false
set_option maxRecDepth 100000
set_option maxHeartbeats 4000000
namespace Ck
open PySem L2
theorem cT.shuts {rs:List (List Int)} {k:Nat}:∀ {q p:List Nat},cT rs (p++q) k->cT rs p k:=by
  intro q
  induction q with
  | nil=>intro p h; rwa [List.append_nil] at h
  | cons m q ih =>
    intro p h
    have:cT rs (p++[m]) k:=ih (p:=p++[m]) (by rw [List.append_assoc]; exact h)
    exact this.shut
end Ck
namespace Ck
open PySem L2
theorem fE {rs:List (List Int)} (h:∀ r∈rs,r≠[]) {n:Nat} (hn:rs.flatten.length=n):rs.length<=n:=by
  subst hn
  induction rs with
  | nil=>exact Nat.le_refl _
  | cons r rs ih =>
    have:=ih fun x hx=>h x (List.mem_cons_of_mem _ hx)
    have:=List.length_pos_iff.mpr (h r (List.mem_cons_self ..))
    rw [List.flatten_cons,List.length_append,List.length_cons]
    lia
end Ck
namespace Ck
end Ck
namespace Ck
end Ck
namespace Ck
open PySem L2
theorem aO.updX {H0 H:Hp} {a c:Addr} {o:HO} {rs:List (List Int)} {xs:List V} (h:aO H0 H a rs) (hx:H a=some (.lst xs)) (ne:a≠c) (hc:∀ (j:Nat) (b:Addr),xs[j]? = some (.ref b)->b≠c):aO H0 (upd H c o) a rs:=by
  obtain ⟨bs,e,r,n⟩:=h
  rw [hx] at e
  cases e
  refine ⟨bs,(ao ne).trans hx,r.updC fun b hb=>?_,n⟩
  obtain ⟨j,hj⟩:=List.getElem?_of_mem hb
  exact hc j b (by rw [List.getElem?_map,hj]; rfl)
end Ck
set_option Elab.async false
set_option linter.all false
set_option maxRecDepth 100000
set_option maxHeartbeats 4000000
namespace Ck
open PySem L2
noncomputable def dA (p:Pair):Pair:=(2*p.1+1,2*p.2)
noncomputable def fW (r:List Int):Pair:=(2*hd r,2*lst r+1)
noncomputable def ft (R:List (List Int)):List Pair:=(bV R).map dA++R.map fW
noncomputable def dbl (x:Int):List Int:=[2*x,2*x+1]
theorem oM:∀ {r:List Int},r≠[]->(ax ((r.zip (r.drop 1)).map dA)++[2*hd r,2*lst r+1]).Perm (r.flatMap dbl)
  | [],h=>absurd rfl h
  | [a],_=>List.Perm.refl _
  | a::b::t,_=>by
    have ih:=oM (r:=b::t) (by simp)
    have el:lst (a::b::t)=lst (b::t):=by
      show (a::b::t).getD ((a::b::t).length - 1) 0=(b::t).getD ((b::t).length - 1) 0
      simp
    rw [el]
    refine List.perm_iff_count.mpr fun x=>?_
    have c:=List.perm_iff_count.mp ih x
    show (((2*a+1)::(2*b)::ax (((b::t).zip ((b::t).drop 1)).map dA))++[2*a,2*lst (b::t)+1]).count x=((2*a)::(2*a+1)::(b::t).flatMap dbl).count x
    have c':(ax (((b::t).zip ((b::t).drop 1)).map dA)++[2*b,2*lst (b::t)+1]).count x=((b::t).flatMap dbl).count x:=c
    simp only [List.count_append,List.count_cons,List.count_nil] at c' |-
    lia
theorem pB:∀ {R:List (List Int)},(∀ r∈R,r≠[])->(ax (ft R)).Perm (R.flatten.flatMap dbl)
  | [],_=>List.Perm.refl _
  | r::R,h=>by
    have ih:=pB (R:=R) fun s hs=>h s (List.mem_cons_of_mem _ hs)
    have h1:=oM (h r (List.mem_cons_self ..))
    refine List.perm_iff_count.mpr fun x=>?_
    have c:=List.perm_iff_count.mp ih x
    have c1:=List.perm_iff_count.mp h1 x
    have e:ax (ft (r::R))=ax ((r.zip (r.drop 1)).map dA)++(ax ((bV R).map dA)++(2*hd r::(2*lst r+1)::ax (R.map fW))):=by
      unfold ft
      rw [show bV (r::R)=r.zip (r.drop 1)++bV R from rfl,List.map_append,eA,eA,List.append_assoc]
      rfl
    have e2:ax (ft R)=ax ((bV R).map dA)++ax (R.map fW):=by unfold ft; rw [eA]
    rw [e,List.flatten_cons,List.flatMap_append]
    rw [e2] at c
    simp only [List.count_append,List.count_cons,List.count_nil] at c c1 |-
    lia
theorem qJ:∀ n:Nat,(cg n).flatMap dbl=cg (2*n)
  | 0=>rfl
  | n+1=>by
    rw [jw,List.flatMap_append,qJ n,show 2*(n+1)=2*n+1+1 by lia,jw,jw,List.append_assoc]
    congr 1
theorem Gd.ftf {R:List (List Int)} {n:Nat} (h:Gd R n):(ax (ft R)).Perm (cg (2*n)):=by
  rw [<- qJ]
  exact (pB h.ne).trans (h.flat.flatMap_right dbl)
theorem Gd.ftl {R:List (List Int)} {n:Nat} (h:Gd R n):(ft R).length=n:=by
  have:=h.ftf.length_eq
  rw [dE,dZ] at this
  lia
theorem cO {R:List (List Int)} {q:Pair}:q∈ft R↔(∃ r∈R,∃ p∈r.zip (r.drop 1),q=dA p)\/∃ r∈R,q=fW r:=by
  unfold ft
  rw [List.mem_append,List.mem_map,List.mem_map]
  constructor
  · rintro (⟨p,hp,rfl⟩ | ⟨r,hr,rfl⟩)
    · obtain ⟨r,hr,h⟩:=dD.mp hp
      exact .inl ⟨r,hr,p,h,rfl⟩
    · exact .inr ⟨r,hr,rfl⟩
  · rintro (⟨r,hr,p,hp,rfl⟩ | ⟨r,hr,rfl⟩)
    · exact .inl ⟨p,dD.mpr ⟨r,hr,hp⟩,rfl⟩
    · exact .inr ⟨r,hr,rfl⟩
theorem gm {r:List Int} (h:r.Pairwise (· < ·)) {x:Int} (hx:x∈r):hd r<=x:=by
  cases r with
  | nil=>cases hx
  | cons a r =>
    rcases List.mem_cons.mp hx with rfl | hx
    · exact Int.le_refl _
    · exact Int.le_of_lt ((List.pairwise_cons.mp h).1 x hx)
theorem cB {r:List Int} (h:r≠[]):hd r∈r:=by
  cases r with
  | nil=>exact absurd rfl h
  | cons a r=>exact List.mem_cons_self ..
theorem Gd.top {R:List (List Int)} {n:Nat} (h:Gd R n) {r:List Int} (hr:r∈R) {x:Int} (hx:x∈r):x<=lst r:=xQ ((h.inc r hr).imp fun h=>Int.le_of_lt h) hx
theorem Gd.nbc {R:List (List Int)} {n:Nat} (h:Gd R n) {r s:List Int} (hr:r∈R) (hs:s∈R) {p q:Pair} (hp:p∈r.zip (r.drop 1)) (hq:q∈s.zip (s.drop 1)):¬ fq p q:=h.nc p (dD.mpr ⟨r,hr,hp⟩) q (dD.mpr ⟨s,hs,hq⟩)
theorem Gd.ftnc {R:List (List Int)} {n:Nat} (h:Gd R n):NC (ft R):=by
  intro a ha b hb c
  unfold fq at c
  rcases cO.mp ha with ⟨r,hr,p,hp,rfl⟩ | ⟨r,hr,rfl⟩<;>rcases cO.mp hb with ⟨s,hs,q,hq,rfl⟩ | ⟨s,hs,rfl⟩<;>simp only [dA,fW] at c
  · exact h.nbc hr hs hp hq ⟨by lia,by lia,by lia⟩
  · have z:=cx (h.inc r hr) hp
    have ne:r≠s:=fun e=>by
      subst e
      have:=gm (h.inc r hr) z.1
      lia
    have nb:p.2∉s:=fun x=>ne (h.uniq hr hs z.2.1 x)
    have l:p.2 < lst s:=by
      have:p.2≠lst s:=fun e=>nb (by rw [e]; exact bH (h.ne s hs))
      lia
    obtain ⟨q,hq,q1,q2,q3⟩:=kl (h.inc s hs) (cB (h.ne s hs)) (bH (h.ne s hs)) (show hd s < p.2 by lia) l nb
    exact h.nbc hr hs hp hq ⟨by lia,q2,q3⟩
  · have z:=cx (h.inc s hs) hq
    have ne:r≠s:=fun e=>by
      subst e
      have:=h.top hr z.2.1
      lia
    have nb:q.1∉r:=fun x=>ne (h.uniq hr hs x z.1)
    have l:q.1 < lst r:=by
      have:q.1≠lst r:=fun e=>nb (by rw [e]; exact bH (h.ne r hr))
      lia
    have l2:hd r < q.1:=by
      have:q.1≠hd r:=fun e=>nb (by rw [e]; exact cB (h.ne r hr))
      lia
    obtain ⟨p,hp,q1,q2,q3⟩:=kl (h.inc r hr) (cB (h.ne r hr)) (bH (h.ne r hr)) l2 l nb
    have:=h.top hr (cx (h.inc r hr) hp).2.1
    exact h.nbc hr hs hp hq ⟨q2,q3,by lia⟩
  · have ne:r≠s:=fun e=>by
      subst e
      lia
    have n1:hd s∉r:=fun x=>ne (h.uniq hr hs x (cB (h.ne s hs)))
    have l1:hd s < lst r:=by
      have:hd s≠lst r:=fun e=>n1 (by rw [e]; exact bH (h.ne r hr))
      lia
    obtain ⟨p,hp,q1,q2,q3⟩:=kl (h.inc r hr) (cB (h.ne r hr)) (bH (h.ne r hr)) (show hd r < hd s by lia) l1 n1
    have z:=cx (h.inc r hr) hp
    have t:=h.top hr z.2.1
    have n2:p.2∉s:=fun x=>ne (h.uniq hr hs z.2.1 x)
    obtain ⟨q,hq,r1,r2,r3⟩:=kl (h.inc s hs) (cB (h.ne s hs)) (bH (h.ne s hs)) q3 (show p.2 < lst s by lia) n2
    exact h.nbc hr hs hp hq ⟨by lia,r2,r3⟩
theorem Gd.feet {R:List (List Int)} {n:Nat} (h:Gd R n) {qs:List Pair} (pm:qs.Perm (ft R)) (rs:qs.Pairwise cc):aV qs/\qs.length=n:=by
  have l:qs.length=n:=by rw [pm.length_eq,h.ftl]
  have fl:=(gD pm).trans h.ftf
  refine ⟨⟨fun p hp=>?_,by rw [l]; exact fl,fun p hp q hq=>h.ftnc p (pm.mem_iff.mp hp) q (pm.mem_iff.mp hq),rs⟩,l⟩
  have b1:=dB.mp (fl.mem_iff.mp (bI.mpr ⟨p,hp,.inl rfl⟩))
  have b2:=dB.mp (fl.mem_iff.mp (bI.mpr ⟨p,hp,.inr rfl⟩))
  refine ⟨b1.1,?_,by rw [l]; have:=b2.2; lia⟩
  rcases cO.mp (pm.mem_iff.mp hp) with ⟨r,hr,p',hp',rfl⟩ | ⟨r,hr,rfl⟩
  · have:=(cx (h.inc r hr) hp').2.2.1
    show 2*p'.1+1 < 2*p'.2
    lia
  · have:=gm (h.inc r hr) (bH (h.ne r hr))
    show 2*hd r < 2*lst r+1
    lia
end Ck
set_option Elab.async false
set_option linter.all false
set_option maxRecDepth 100000
set_option maxHeartbeats 4000000
namespace Ck
open PySem L2
theorem cY:∀ {ps:List Pair},(ax ps).Nodup->∀ {p q:Pair},p∈ps->q∈ps->(p.1=q.1->p=q)/\p.1≠q.2
  | [],_,_,_,hp,_=>by cases hp
  | r::ps,nd,p,q,hp,hq=>by
    have nd':(r.1::r.2::ax ps).Nodup:=nd
    rw [List.nodup_cons,List.nodup_cons] at nd'
    rcases List.mem_cons.mp hp with rfl | hp2
    · rcases List.mem_cons.mp hq with rfl | hq2
      · exact ⟨fun _=>rfl,fun e=>nd'.1 (by rw [e]; exact List.mem_cons_self ..)⟩
      · exact ⟨fun e=>absurd (List.mem_cons_of_mem _ (bI.mpr ⟨q,hq2,.inl e⟩)) nd'.1,fun e=>absurd (List.mem_cons_of_mem _ (bI.mpr ⟨q,hq2,.inr e⟩)) nd'.1⟩
    · rcases List.mem_cons.mp hq with rfl | hq2
      · exact ⟨fun e=>absurd (List.mem_cons_of_mem _ (show q.1∈ax ps from bI.mpr ⟨p,hp2,.inl e.symm⟩)) nd'.1,fun e=>absurd (show q.2∈ax ps from bI.mpr ⟨p,hp2,.inl e.symm⟩) nd'.2.1⟩
      · exact cY nd'.2.2 hp2 hq2
theorem hZ (f:Pair->Bool):∀ ps:List Pair,(ax (ps.filter f)).Sublist (ax ps)
  | []=>List.Sublist.refl _
  | p::ps=>by
    rw [List.filter_cons]
    by_cases e:f p=true
    · rw [if_pos e]
      exact ((hZ f ps).cons_cons p.2).cons_cons p.1
    · rw [if_neg e]
      exact ((hZ f ps).cons p.2).cons p.1
theorem aV.nd {ps:List Pair} (h:aV ps):(ax ps).Nodup:=h.flat.nodup_iff.mpr (cQ _)
theorem aV.at {ps:List Pair} (h:aV ps) {x:Int} (h0:0<=x) (h1:x < 2*(ps.length:Int)):∃ p∈ps,x=p.1\/x=p.2 :=
  bI.mp (h.flat.mem_iff.mpr (dB.mpr ⟨h0,by lia⟩))
theorem aV.odd {ps:List Pair} (h:aV ps) {p:Pair} (hp:p∈ps):(p.2 - p.1) % 2=1:=by
  have b:=h.inr p hp
  unfold bu at b
  have nd:=h.nd
  have pm:(ax (ps.filter fun q=>decide (p.1 < q.1/\q.2 < p.2))).Perm ((cg (p.2 - p.1 - 1).toNat).map fun x=>x+(p.1+1)):=by
    refine (List.perm_ext_iff_of_nodup (nd.sublist (hZ _ ps)) ?_).mpr fun x=>?_
    · exact List.pairwise_map.mpr ((cQ _).imp fun h e=>h (by lia))
    · rw [bI,List.mem_map]
      constructor
      · rintro ⟨q,hq,e⟩
        obtain ⟨hq,d⟩:=List.mem_filter.mp hq
        have d:=of_decide_eq_true d
        have bq:=h.inr q hq
        unfold bu at bq
        exact ⟨x - (p.1+1),dB.mpr (by lia),by lia⟩
      · rintro ⟨y,hy,rfl⟩
        have hy:=dB.mp hy
        obtain ⟨q,hq,e⟩:=h.at (x:=y+(p.1+1)) (by lia) (by lia)
        refine ⟨q,List.mem_filter.mpr ⟨hq,decide_eq_true ?_⟩,e⟩
        have bq:=h.inr q hq
        unfold bu at bq
        have c1:=h.nc p hp q hq
        have c2:=h.nc q hq p hp
        unfold fq at c1 c2
        have i1:=cY nd hp hq
        have i2:=cY nd hq hp
        have ne:p≠q:=fun z=>by subst z; lia
        have n1:p.1≠q.1:=fun z=>ne (i1.1 z)
        have n2:p.2≠q.2:=fun z=>ne (iJ nd hp hq z)
        have n3:=i1.2
        have n4:=i2.2
        rcases e with e | e
        · refine ⟨by lia,?_⟩
          by_cases z:q.2 < p.2
          · exact z
          · exact absurd ⟨by lia,by lia,by lia⟩ c1
        · refine ⟨?_,by lia⟩
          by_cases z:p.1 < q.1
          · exact z
          · exact absurd ⟨by lia,by lia,by lia⟩ c2
  have l:=pm.length_eq
  rw [dE,List.length_map,dZ] at l
  lia
noncomputable def starts (ps:List Pair):List Int:=(ps.filter fun p=>decide (p.1 % 2=0)).map fun p=>p.1 / 2
structure dk (ps:List Pair) (s:Int) (r:List Int):Prop where
  ne:r≠[]
  hd:hd r=s
  on:∀ p∈r.zip (r.drop 1),dA p∈ps
  fin:∀ y,(2*lst r+1,y)∉ps
theorem fC (a b:Int) (t:List Int):lst (a::b::t)=lst (b::t):=by
  show (a::b::t).getD ((a::b::t).length - 1) 0=(b::t).getD ((b::t).length - 1) 0
  simp
theorem fY:∀ {r:List Int} {x:Int},x∈r->x=hd r\/∃ p∈r.zip (r.drop 1),p.2=x
  | [],_,h=>by cases h
  | [a],x,h=>.inl (List.mem_singleton.mp h)
  | a::b::t,x,h=>by
    rcases List.mem_cons.mp h with rfl | h
    · exact .inl rfl
    · rcases fY h with e | ⟨p,hp,e⟩
      · exact .inr ⟨(a,b),List.mem_cons_self ..,e.symm⟩
      · exact .inr ⟨p,List.mem_cons_of_mem _ hp,e⟩
theorem iC:∀ {r:List Int} {x:Int},x∈r->x=lst r\/∃ p∈r.zip (r.drop 1),p.1=x
  | [],_,h=>by cases h
  | [a],x,h=>.inl (List.mem_singleton.mp h)
  | a::b::t,x,h=>by
    rcases List.mem_cons.mp h with rfl | h
    · exact .inr ⟨(x,b),List.mem_cons_self ..,rfl⟩
    · rw [fC]
      rcases iC h with e | ⟨p,hp,e⟩
      · exact .inl e
      · exact .inr ⟨p,List.mem_cons_of_mem _ hp,e⟩
theorem fP:∀ {r:List Int} {p:Pair},p∈r.zip (r.drop 1)->p.1∈r/\p.2∈r
  | [],_,h=>by cases h
  | [a],_,h=>by cases h
  | a::b::t,p,h=>by
    have h':p∈(a,b)::(b::t).zip t:=h
    rcases List.mem_cons.mp h' with rfl | h
    · exact ⟨List.mem_cons_self ..,by simp⟩
    · have:=fP (r:=b::t) h
      exact ⟨List.mem_cons_of_mem _ this.1,List.mem_cons_of_mem _ this.2⟩
theorem oZ:∀ {r:List Int},(∀ p∈r.zip (r.drop 1),p.1 < p.2)->r.Pairwise (· < ·)
  | [],_=>.nil
  | [a],_=>List.pairwise_singleton _ _
  | a::b::t,h=>by
    have ih:=oZ (r:=b::t) fun p hp=>h p (List.mem_cons_of_mem _ hp)
    have ab:a < b:=h (a,b) (List.mem_cons_self ..)
    refine List.pairwise_cons.mpr ⟨fun x hx=>?_,ih⟩
    have:b<=x:=gm ih hx
    lia
theorem wc {α β:Type} {R:α->β->Prop} {as:List α} {bs:List β} (h:Paired R as bs):∀ a∈as,∃ b∈bs,R a b:=by
  induction h with
  | nil=>intro a ha; cases ha
  | cons r _ ih =>
    intro a ha
    rcases List.mem_cons.mp ha with rfl | ha
    · exact ⟨_,List.mem_cons_self ..,r⟩
    · obtain ⟨b,hb,e⟩:=ih a ha
      exact ⟨b,List.mem_cons_of_mem _ hb,e⟩
theorem zr {α β:Type} {R:α->β->Prop} {as:List α} {bs:List β} (h:Paired R as bs):∀ b∈bs,∃ a∈as,R a b:=by
  induction h with
  | nil=>intro a ha; cases ha
  | cons r _ ih =>
    intro a ha
    rcases List.mem_cons.mp ha with rfl | ha
    · exact ⟨_,List.mem_cons_self ..,r⟩
    · obtain ⟨b,hb,e⟩:=ih a ha
      exact ⟨b,List.mem_cons_of_mem _ hb,e⟩
theorem rg {ps:List Pair} {as:List Int} {rs:List (List Int)} (h:Paired (dk ps) as rs):rs.map hd=as:=by
  induction h with
  | nil=>rfl
  | cons r _ ih=>rw [List.map_cons,ih,r.hd]
theorem lW {ps:List Pair} (h:aV ps):(starts ps).Pairwise (· < ·):=by
  refine List.pairwise_map.mpr ((List.Pairwise.and_mem.mp ((h.ris.and (eB h.nd)).filter _)).imp ?_)
  rintro p q ⟨hp,hq,a,b⟩
  have e1:=of_decide_eq_true (List.mem_filter.mp hp).2
  have e2:=of_decide_eq_true (List.mem_filter.mp hq).2
  unfold cc at a
  lia
theorem eN {ps:List Pair} {x:Int}:x∈starts ps↔∃ y,(2*x,y)∈ps:=by
  unfold starts
  rw [List.mem_map]
  constructor
  · rintro ⟨p,hp,rfl⟩
    obtain ⟨hp,d⟩:=List.mem_filter.mp hp
    have d:=of_decide_eq_true d
    exact ⟨p.2,by rw [show 2*(p.1 / 2)=p.1 by lia]; exact hp⟩
  · rintro ⟨y,h⟩
    exact ⟨_,List.mem_filter.mpr ⟨h,decide_eq_true (by show 2*x % 2=0; lia)⟩,by show 2*x / 2=x; lia⟩
theorem sJ {R:List (List Int)} (h:(R.map hd).Pairwise (· < ·)) {r s:List Int} (hr:r∈R) (hs:s∈R) (e:hd r=hd s):r=s:=by
  obtain ⟨i,hi,rfl⟩:=List.getElem_of_mem hr
  obtain ⟨j,hj,rfl⟩:=List.getElem_of_mem hs
  have a:=List.pairwise_iff_getElem.mp h
  by_cases l:i < j
  · have:=a i j (by simpa using hi) (by simpa using hj) l
    rw [List.getElem_map,List.getElem_map,e] at this
    lia
  · by_cases l2:j < i
    · have:=a j i (by simpa using hj) (by simpa using hi) l2
      rw [List.getElem_map,List.getElem_map,e] at this
      lia
    · have:i=j:=by lia
      subst this
      rfl
section
variable {ps:List Pair} {rs:List (List Int)} (h:aV ps) (F:Paired (dk ps) (starts ps) rs)
include h F
theorem jX {r:List Int} (hr:r∈rs):dk ps (hd r) r:=by
  obtain ⟨s,_,c⟩:=zr F r hr
  rw [<- c.hd] at c
  exact c
theorem dJ {r:List Int} (hr:r∈rs) {p:Pair} (hp:p∈r.zip (r.drop 1)):(2*p.1+1,2*p.2)∈ps:=(jX h F hr).on p hp
theorem ic {r:List Int} (hr:r∈rs):r.Pairwise (· < ·):=oZ fun p hp=>by
  have:=h.inr _ (dJ h F hr hp)
  unfold bu at this
  simp only at this
  lia
theorem jr:(rs.map hd).Pairwise (· < ·):=by rw [rg F]; exact lW h
theorem pN {r:List Int} (hr:r∈rs):∃ y,(2*hd r,y)∈ps:=eN.mp (by rw [<- rg F]; exact List.mem_map.mpr ⟨r,hr,rfl⟩)
theorem jC {r:List Int} (hr:r∈rs) {x:Int} (hx:x∈r):0<=x/\x < (ps.length:Int):=by
  rcases fY hx with rfl | ⟨p,hp,rfl⟩
  · obtain ⟨y,hy⟩:=pN h F hr
    have:=h.inr _ hy
    unfold bu at this
    simp only at this
    lia
  · have:=h.inr _ (dJ h F hr hp)
    unfold bu at this
    simp only at this
    lia
theorem uI:∀ (k:Nat) (x:Int),x.toNat < k->∀ r∈rs,∀ s∈rs,x∈r->x∈s->r=s
  | 0,x,l,_,_,_,_,_,_=>by lia
  | k+1,x,l,r,hr,s,hs,h1,h2=>by
    have nd:=h.nd
    rcases fY h1 with e1 | ⟨p,hp,e1⟩<;>rcases fY h2 with e2 | ⟨q,hq,e2⟩
    · exact sJ (jr h F) hr hs (e1.symm.trans e2)
    · obtain ⟨y,hy⟩:=pN h F hr
      have:=(cY nd hy (dJ h F hs hq)).2
      exact absurd (show 2*hd r=2*q.2 by rw [e2,e1]) this
    · obtain ⟨y,hy⟩:=pN h F hs
      have:=(cY nd hy (dJ h F hr hp)).2
      exact absurd (show 2*hd s=2*p.2 by rw [e1,e2]) this
    · have e:=iJ nd (dJ h F hr hp) (dJ h F hs hq) (show 2*p.2=2*q.2 by rw [e1,e2])
      have e':p.1=q.1:=by
        have:=congrArg Prod.fst e
        simp only at this
        lia
      have z1:=fP hp
      have z2:=fP hq
      have l1:=ic h F hr
      have:=(cx l1 hp).2.2.1
      have b:=jC h F hr z1.1
      exact uI k p.1 (by lia) r hr s hs z1.1 (by rw [e']; exact z2.1)
theorem kX {r s:List Int} (hr:r∈rs) (hs:s∈rs) {x:Int} (h1:x∈r) (h2:x∈s):r=s:=uI h F (x.toNat+1) x (by lia) r hr s hs h1 h2
theorem rR:∀ (k:Nat) (x:Int),x.toNat < k->0<=x->x < (ps.length:Int)->∃ r∈rs,x∈r
  | 0,x,l,_,_=>by lia
  | k+1,x,l,h0,h1=>by
    obtain ⟨p,hp,e⟩:=h.at (x:=2*x) (by lia) (by lia)
    have od:=h.odd hp
    have b:=h.inr p hp
    unfold bu at b
    rcases e with e | e
    · obtain ⟨r,hr,c⟩:=wc F x (eN.mpr ⟨p.2,by rw [e]; exact hp⟩)
      exact ⟨r,hr,by rw [<- c.hd]; exact cB c.ne⟩
    · obtain ⟨r,hr,hy⟩:=rR k (p.1 / 2) (by lia) (by lia) (by lia)
      have ep:p=(2*(p.1 / 2)+1,2*x):=Prod.ext (by show p.1=2*(p.1 / 2)+1; lia) e.symm
      rw [ep] at hp
      rcases iC hy with z | ⟨q,hq,z⟩
      · exact absurd (by rw [z] at hp; exact hp) ((jX h F hr).fin (2*x))
      · have:=(cY h.nd (dJ h F hr hq) hp).1 (by show 2*q.1+1=2*(p.1 / 2)+1; rw [z])
        have:=congrArg Prod.snd this
        simp only at this
        refine ⟨r,hr,?_⟩
        rw [show x=q.2 by lia]
        exact (fP hq).2
theorem qL {r:List Int} (hr:r∈rs):∃ x,(2*x,2*lst r+1)∈ps:=by
  have c:=jX h F hr
  have b:=jC h F hr (bH c.ne)
  obtain ⟨p,hp,e⟩:=h.at (x:=2*lst r+1) (by lia) (by lia)
  rcases e with e | e
  · exact absurd (by rw [e]; exact hp) (c.fin p.2)
  · have od:=h.odd hp
    refine ⟨p.1 / 2,?_⟩
    rw [e,show 2*(p.1 / 2)=p.1 by lia]
    exact hp
theorem rH:∀ (k:Nat) (l:Int),l.toNat < k->∀ x,(2*x,2*l+1)∈ps->∃ s∈rs,hd s=x/\l∈s
  | 0,l,z,_,_=>by lia
  | k+1,l,z,x,hp=>by
    obtain ⟨s,hs,c⟩:=wc F x (eN.mpr ⟨_,hp⟩)
    refine ⟨s,hs,c.hd,?_⟩
    have b:=h.inr _ hp
    unfold bu at b
    simp only at b
    by_cases hl:l∈s
    · exact hl
    · have all:∀ (m:Nat) (y:Int),y.toNat < m->y∈s->y < l:=by
        intro m
        induction m with
        | zero=>intro y w; lia
        | succ m ih =>
          intro y w hy
          have ne:y≠l:=fun e=>hl (by rw [<- e]; exact hy)
          rcases fY hy with e | ⟨q,hq,e⟩
          · have:=c.hd
            lia
          · have zi:=fP hq
            have lt:=(cx (ic h F hs) hq).2.2.1
            have bq:=jC h F hs zi.1
            have i:=ih q.1 (by lia) zi.1
            have lo:=gm (ic h F hs) zi.1
            have nc:=h.nc _ hp _ (dJ h F hs hq)
            unfold fq at nc
            simp only at nc
            have:=c.hd
            by_cases w2:q.2<=l
            · lia
            · exact absurd ⟨by lia,by lia,by lia⟩ nc
      have la:=all _ (lst s) (Nat.lt_succ_self _) (bH c.ne)
      have bl:=jC h F hs (bH c.ne)
      obtain ⟨y,hy⟩:=qL h F hs
      obtain ⟨s',hs',e1,e2⟩:=rH k (lst s) (by lia) y hy
      have:=kX h F hs hs' (bH c.ne) e2
      subst this
      have e:=(cY h.nd hy hp).1 (by show 2*y=2*x; rw [<- e1,c.hd])
      have:=congrArg Prod.snd e
      simp only at this
      lia
theorem wQ {r:List Int} (hr:r∈rs):fW r∈ps:=by
  obtain ⟨x,hx⟩:=qL h F hr
  obtain ⟨s,hs,e1,e2⟩:=rH h F ((lst r).toNat+1) (lst r) (by lia) x hx
  have:=kX h F hr hs (bH (jX h F hr).ne) e2
  subst this
  unfold fW
  rw [e1]
  exact hx
theorem gh:Gd rs ps.length:=by
  refine ⟨fun r hr=>(jX h F hr).ne,fun r hr=>ic h F hr,jr h F,?_,?_⟩
  · refine (List.perm_ext_iff_of_nodup ?_ (cQ _)).mpr fun x=>?_
    · refine List.pairwise_flatten.mpr ⟨fun r hr=>(ic h F hr).imp fun h=>Int.ne_of_lt h,?_⟩
      refine (List.Pairwise.and_mem.mp (List.pairwise_map.mp (jr h F))).imp ?_
      rintro r s ⟨hr,hs,l⟩ x hx y hy e
      subst e
      have:=kX h F hr hs hx hy
      subst this
      lia
    · rw [List.mem_flatten,dB]
      exact ⟨fun ⟨r,hr,hx⟩=>jC h F hr hx,fun b=>rR h F (x.toNat+1) x (by lia) b.1 b.2⟩
  · intro p hp q hq c
    obtain ⟨r,hr,hp⟩:=dD.mp hp
    obtain ⟨s,hs,hq⟩:=dD.mp hq
    refine h.nc _ (dJ h F hr hp) _ (dJ h F hs hq) ?_
    unfold fq at c |-
    simp only
    lia
theorem jF:(ft rs).Perm ps:=by
  have g:=gh h F
  have nd:(ft rs).Nodup:=by
    have n1:(ax (ft rs)).Nodup:=g.ftf.nodup_iff.mpr (cQ _)
    exact (eB n1).imp fun h e=>h (by rw [e])
  have sub:ft rs ⊆ ps:=fun q hq=>by
    rcases cO.mp hq with ⟨r,hr,p,hp,rfl⟩ | ⟨r,hr,rfl⟩
    · exact dJ h F hr hp
    · exact wQ h F hr
  have ndp:ps.Nodup:=(eB h.nd).imp fun h e=>h (by rw [e])
  refine (List.perm_ext_iff_of_nodup nd ndp).mpr fun x=>⟨fun hx=>sub hx,fun hx=>?_⟩
  have b:=h.inr x hx
  unfold bu at b
  obtain ⟨q,hq,e⟩:=bI.mp (g.ftf.mem_iff.mpr (dB.mpr (show 0<=x.1/\x.1 < ((2*ps.length:Nat):Int) by lia)))
  have i:=cY h.nd hx (sub hq)
  rcases e with e | e
  · rw [i.1 e]; exact hq
  · exact absurd e i.2
end
theorem rB {ps:List Pair} (nd:(ax ps).Nodup):∀ {r r':List Int} {s:Int},dk ps s r->dk ps s r'->r=r'
  | [],_,_,c,_=>absurd rfl c.ne
  | _::_,[],_,_,c=>absurd rfl c.ne
  | [a],[b],s,c,d=>by
    have e1:a=s:=c.hd
    have e2:b=s:=d.hd
    rw [e1,e2]
  | [a],b::y::t,s,c,d=>by
    have e1:a=s:=c.hd
    have e2:b=s:=d.hd
    have:=d.on (b,y) (List.mem_cons_self ..)
    exact absurd this (by rw [show dA (b,y)=(2*lst [a]+1,2*y) from by show (2*b+1,2*y)=(2*a+1,2*y); rw [e1,e2]]; exact c.fin _)
  | a::x::t,[b],s,c,d=>by
    have e1:a=s:=c.hd
    have e2:b=s:=d.hd
    have:=c.on (a,x) (List.mem_cons_self ..)
    exact absurd this (by rw [show dA (a,x)=(2*lst [b]+1,2*x) from by show (2*a+1,2*x)=(2*b+1,2*x); rw [e1,e2]]; exact d.fin _)
  | a::x::t,b::y::u,s,c,d=>by
    have e1:a=s:=c.hd
    have e2:b=s:=d.hd
    have h1:=c.on (a,x) (List.mem_cons_self ..)
    have h2:=d.on (b,y) (List.mem_cons_self ..)
    have e:=(cY nd h1 h2).1 (by show 2*a+1=2*b+1; rw [e1,e2])
    have e3:2*x=2*y:=congrArg Prod.snd e
    have c':dk ps x (x::t):=⟨by simp,rfl,fun p hp=>c.on p (List.mem_cons_of_mem _ hp),fun z=>by rw [<- fC a]; exact c.fin z⟩
    have d':dk ps x (y::u):=⟨by simp,(show y=x by lia),fun p hp=>d.on p (List.mem_cons_of_mem _ hp),fun z=>by rw [<- fC b]; exact d.fin z⟩
    rw [e1,e2,rB nd c' d']
theorem qH {ps:List Pair} (nd:(ax ps).Nodup) {as:List Int} {rs:List (List Int)} (F:Paired (dk ps) as rs):∀ {ss:List (List Int)},Paired (dk ps) as ss->rs=ss:=by
  induction F with
  | nil=>intro ss G; cases G; rfl
  | cons r _ ih =>
    intro ss G
    cases G with
    | cons g G=>rw [rB nd r g,ih G]
theorem rb {ps:List Pair}:∀ {R:List (List Int)},(∀ r∈R,dk ps (hd r) r)->Paired (dk ps) (R.map hd) R
  | [],_=>.nil
  | r::R,h=>.cons (h r (List.mem_cons_self ..)) (rb fun s hs=>h s (List.mem_cons_of_mem _ hs))
theorem Gd.fol {R:List (List Int)} {n:Nat} (h:Gd R n) {qs:List Pair} (pm:qs.Perm (ft R)) (rs:qs.Pairwise cc):Paired (dk qs) (starts qs) R:=by
  obtain ⟨bw,_⟩:=h.feet pm rs
  have nd:=bw.nd
  have es:starts qs=R.map hd:=vw (lW bw) h.heads fun x=>by
    rw [eN,List.mem_map]
    constructor
    · rintro ⟨y,hy⟩
      rcases cO.mp (pm.mem_iff.mp hy) with ⟨r,hr,p,hp,e⟩ | ⟨r,hr,e⟩
      · have:=congrArg Prod.fst e
        simp only [dA] at this
        lia
      · have:=congrArg Prod.fst e
        simp only [fW] at this
        exact ⟨r,hr,by lia⟩
    · rintro ⟨r,hr,rfl⟩
      exact ⟨_,pm.mem_iff.mpr (cO.mpr (.inr ⟨r,hr,rfl⟩))⟩
  rw [es]
  refine rb fun r hr=>⟨h.ne r hr,rfl,fun p hp=>pm.mem_iff.mpr (cO.mpr (.inl ⟨r,hr,p,hp,rfl⟩)),fun y hy=>?_⟩
  rcases cO.mp (pm.mem_iff.mp hy) with ⟨s,hs,p,hp,e⟩ | ⟨s,hs,e⟩
  · have e1:=congrArg Prod.fst e
    simp only [dA] at e1
    have z:=cx (h.inc s hs) hp
    have:=h.uniq hr hs (x:=lst r) (bH (h.ne r hr)) (by rw [show lst r=p.1 by lia]; exact z.1)
    subst this
    have:=h.top hr z.2.1
    lia
  · have e1:=congrArg Prod.fst e
    simp only [fW] at e1
    lia
end Ck
set_option Elab.async false
set_option linter.all false
set_option maxRecDepth 100000
set_option maxHeartbeats 4000000
namespace Ck
open PySem L2
section
variable {ps:List Pair} {rs:List (List Int)} {n:Nat} (g:Gd rs n) (pm:(ft rs).Perm ps)
include g pm
theorem xN {p:Pair} (hp:p∈ps):∃ r∈rs,p.1 / 2∈r/\p.2 / 2∈r:=by
  rcases cO.mp (pm.mem_iff.mpr hp) with ⟨r,hr,q,hq,rfl⟩ | ⟨r,hr,rfl⟩
  · have:=fP hq
    refine ⟨r,hr,?_,?_⟩
    · show (2*q.1+1) / 2∈r
      rw [show (2*q.1+1) / 2=q.1 by lia]; exact this.1
    · show 2*q.2 / 2∈r
      rw [show 2*q.2 / 2=q.2 by lia]; exact this.2
  · refine ⟨r,hr,?_,?_⟩
    · show 2*hd r / 2∈r
      rw [show 2*hd r / 2=hd r by lia]; exact cB (g.ne r hr)
    · show (2*lst r+1) / 2∈r
      rw [show (2*lst r+1) / 2=lst r by lia]; exact bH (g.ne r hr)
end
end Ck
set_option Elab.async false
set_option linter.all false
set_option maxRecDepth 100000
set_option maxHeartbeats 4000000
namespace Ck
open PySem L2
def dv (ps:List Pair) (lo hi:Int):Prop:=∀ p∈ps,(lo<=p.1/\p.1<=hi↔lo<=p.2/\p.2<=hi)
def iS (R:List (List Int)) (lo hi:Int):Prop:=∀ r∈R,(∀ x∈r,lo<=x/\x < hi)\/∀ x∈r,¬ (lo<=x/\x < hi)
theorem pj {P:Int->Prop}:∀ {r:List Int},(∀ p∈r.zip (r.drop 1),(P p.1↔P p.2))->∀ x∈r,(P x↔P (hd r))
  | [],_,_,h=>by cases h
  | [a],_,x,h=>by rw [List.mem_singleton.mp h]; exact Iff.rfl
  | a::b::t,h,x,hx=>by
    have ih:=pj (P:=P) (r:=b::t) fun p hp=>h p (List.mem_cons_of_mem _ hp)
    have ab:P a↔P b:=h (a,b) (List.mem_cons_self ..)
    rcases List.mem_cons.mp hx with rfl | hx
    · exact Iff.rfl
    · exact (ih x hx).trans ab.symm
theorem lI {R:List (List Int)} {n:Nat} (g:Gd R n) {ps:List Pair} (pm:(ft R).Perm ps) (lo hi:Int):iS R lo hi↔dv ps (2*lo) (2*hi - 1):=by
  constructor
  · intro h p hp
    obtain ⟨r,hr,h1,h2⟩:=xN g pm hp
    rcases h r hr with a | a
    · have a1:=a _ h1
      have a2:=a _ h2
      lia
    · have a1:=a _ h1
      have a2:=a _ h2
      lia
  · intro h r hr
    have al:=pj (P:=fun x=>lo<=x/\x < hi) (r:=r) fun p hp=>by
      have:=h _ (pm.mem_iff.mp (cO.mpr (.inl ⟨r,hr,p,hp,rfl⟩)))
      simp only [dA] at this
      lia
    by_cases c:lo<=hd r/\hd r < hi
    · exact .inl fun x hx=>(al x hx).mpr c
    · exact .inr fun x hx z=>c ((al x hx).mp z)
theorem vv {ps qs:List Pair} (h:aV ps) (pm:qs.Perm (ps.map (rtD (2*(ps.length:Int))))) {j k:Int} (h0:0<=j) (hk:k < (ps.length:Int)):dv ps (2*(j+1)) (2*(k+1) - 1)↔dv qs (2*j+1) (2*k):=by
  have key:∀ p∈ps,((2*(j+1)<=p.1/\p.1<=2*(k+1) - 1↔2*(j+1)<=p.2/\p.2<=2*(k+1) - 1)↔(2*j+1<=(rtD (2*(ps.length:Int)) p).1/\(rtD (2*(ps.length:Int)) p).1<=2*k↔2*j+1<=(rtD (2*(ps.length:Int)) p).2/\(rtD (2*(ps.length:Int)) p).2<=2*k)):=fun p hp=>by
    have b:=h.inr p hp
    unfold bu at b
    unfold rtD
    by_cases e:p.1=0
    · rw [if_pos e]
      simp only
      lia
    · rw [if_neg e]
      simp only
      lia
  constructor
  · intro s q hq
    obtain ⟨p,hp,rfl⟩:=List.mem_map.mp (pm.mem_iff.mp hq)
    exact (key p hp).mp (s p hp)
  · intro s p hp
    exact (key p hp).mpr (s _ (pm.mem_iff.mpr (List.mem_map.mpr ⟨p,hp,rfl⟩)))
theorem vn {ps qs:List Pair} (h:aV ps) (pm:qs.Perm (ps.map (rtU (2*(ps.length:Int))))) {j k:Int} (h0:0<=j) (hk:k < (ps.length:Int)):dv ps (2*j) (2*k - 1)↔dv qs (2*j+1) (2*k):=by
  have key:∀ p∈ps,((2*j<=p.1/\p.1<=2*k - 1↔2*j<=p.2/\p.2<=2*k - 1)↔(2*j+1<=(rtU (2*(ps.length:Int)) p).1/\(rtU (2*(ps.length:Int)) p).1<=2*k↔2*j+1<=(rtU (2*(ps.length:Int)) p).2/\(rtU (2*(ps.length:Int)) p).2<=2*k)):=fun p hp=>by
    have b:=h.inr p hp
    unfold bu at b
    unfold rtU
    by_cases e:p.2=2*(ps.length:Int) - 1
    · rw [if_pos e]
      simp only
      lia
    · rw [if_neg e]
      simp only
      lia
  constructor
  · intro s q hq
    obtain ⟨p,hp,rfl⟩:=List.mem_map.mp (pm.mem_iff.mp hq)
    exact (key p hp).mp (s p hp)
  · intro s p hp
    exact (key p hp).mpr (s _ (pm.mem_iff.mpr (List.mem_map.mpr ⟨p,hp,rfl⟩)))
theorem nh {qs:List Pair} (h:aV qs) {p:Pair} (hp:p∈qs):dv qs p.1 p.2:=by
  intro q hq
  have c1:=h.nc p hp q hq
  have c2:=h.nc q hq p hp
  unfold fq at c1 c2
  have b:=h.inr q hq
  have b2:=h.inr p hp
  unfold bu at b b2
  have i1:=cY h.nd hp hq
  have i2:=cY h.nd hq hp
  by_cases e:p=q
  · subst e
    lia
  · have n1:p.1≠q.1:=fun z=>e (i1.1 z)
    have n2:p.2≠q.2:=fun z=>e (iJ h.nd hp hq z)
    have n3:=i1.2
    have n4:=i2.2
    lia
theorem sV {qs:List Pair} {a b c:Int} (h1:dv qs a b) (h2:dv qs (b+1) c) (ab:a<=b+1) (bc:b<=c):dv qs a c:=by
  intro q hq
  have x:=h1 q hq
  have y:=h2 q hq
  lia
theorem r6 {qs:List Pair} {a b c:Int} (h1:dv qs a c) (h2:dv qs a b) (ab:a<=b) (bc:b<=c):dv qs (b+1) c:=by
  intro q hq
  have x:=h1 q hq
  have y:=h2 q hq
  lia
section
variable {G:List (List Int)} {n:Nat} (g:Gd G n) {qs:List Pair} (h:aV qs) (pm:(ft G).Perm qs)
include g h pm
theorem oW {r:List Int} (hr:r∈G):∀ (k:Nat) {a b:Int},(b - a).toNat < k->a∈r->b∈r->a < b->dv qs (2*a+1) (2*b)
  | 0,a,b,l,_,_,_=>by lia
  | k+1,a,b,l,ha,hb,ab=>by
    rcases iC ha with e | ⟨p,hp,e⟩
    · have:=g.top hr hb
      lia
    · have z:=cx (g.inc r hr) hp
      subst e
      have nb:=z.2.2.2 b hb
      have s:=nh h (pm.mem_iff.mp (cO.mpr (.inl ⟨r,hr,p,hp,rfl⟩)))
      simp only [dA] at s
      by_cases c:p.2=b
      · rw [<- c]; exact s
      · exact sV s (oW hr k (a:=p.2) (b:=b) (by lia) z.2.1 hb (by lia)) (by lia) (by lia)
theorem o5:∀ (k:Nat) {a b:Int},(b - a).toNat < k->0<=a->b < (n:Int)->a < b->dv qs (2*a+1) (2*b)->∀ r∈G,a∈r->b∈r
  | 0,a,b,l,_,_,_,_,_,_,_=>by lia
  | k+1,a,b,l,h0,h1,ab,s,r,hr,ha=>by
    have sub:∀ q,q∈ft G->q∈qs:=fun q hq=>pm.mem_iff.mp hq
    rcases iC ha with e | ⟨p,hp,e⟩
    · have m:=s _ (sub _ (cO.mpr (.inr ⟨r,hr,rfl⟩)))
      have lo:=gm (g.inc r hr) ha
      simp only [fW] at m
      lia
    · have z:=cx (g.inc r hr) hp
      subst e
      have hm:=sub _ (cO.mpr (.inl ⟨r,hr,p,hp,rfl⟩))
      have m:=s _ hm
      have sb:=nh h hm
      simp only [dA] at m sb
      by_cases c:p.2=b
      · rw [<- c]; exact z.2.1
      · exact o5 k (a:=p.2) (b:=b) (by lia) (by lia) h1 (by lia) (r6 s sb (by lia) (by lia)) r hr z.2.1
theorem lP {r:List Int} (hr:r∈G) {a b:Int} (ha:a∈r) (h1:b < (n:Int)) (ab:a < b):b∈r↔dv qs (2*a+1) (2*b):=by
  have b0:=g.bd hr ha
  exact ⟨fun hb=>oW g h pm hr _ (Nat.lt_succ_self _) ha hb ab,fun s=>o5 g h pm _ (Nat.lt_succ_self _) b0.1 h1 ab s r hr ha⟩
end
end Ck
set_option Elab.async false
set_option linter.all false
set_option maxRecDepth 100000
set_option maxHeartbeats 4000000
namespace Ck
open PySem L2
theorem wx {m:Int} {ps qs:List Pair} (hi:∀ p∈ps,bu m p) (h:qs.Perm (ps.map (rtU m))):(qs.map (rtD m)).Perm ps:=by
  have:=h.map (rtD m)
  rw [List.map_map] at this
  have e:ps.map (rtD m ∘ rtU m)=ps:=by
    rw [List.map_congr_left (f:=rtD m ∘ rtU m) (g:=id) fun p hp=>t6 (hi p hp)]
    exact List.map_id ps
  rwa [e] at this
theorem xP {m:Int} {ps qs:List Pair} (hi:∀ p∈ps,bu m p) (h:qs.Perm (ps.map (rtD m))):(qs.map (rtU m)).Perm ps:=by
  have:=h.map (rtU m)
  rw [List.map_map] at this
  have e:ps.map (rtU m ∘ rtD m)=ps:=by
    rw [List.map_congr_left (f:=rtU m ∘ rtD m) (g:=id) fun p hp=>ur (hi p hp)]
    exact List.map_id ps
  rwa [e] at this
noncomputable def eK (m:Int) (r:List Int):List Pair:=((r.zip (r.drop 1)).map dA++[fW r]).map (rtD m)
theorem kL (m:Int):∀ R:List (List Int),(R.flatMap (eK m)).Perm ((ft R).map (rtD m))
  | []=>List.Perm.refl _
  | r::R=>by
    refine List.perm_iff_count.mpr fun x=>?_
    have c:=List.perm_iff_count.mp (kL m R) x
    unfold ft at c |-
    rw [List.flatMap_cons,show bV (r::R)=r.zip (r.drop 1)++bV R from rfl]
    rw [List.map_append,List.count_append] at c
    unfold eK at c |-
    simp only [List.map_append,List.count_append,List.map_cons,List.map_nil,List.count_cons,List.count_nil] at c |-
    lia
theorem uS (m:Int) {r:List Int} (ne:r≠[]):(eK m r).length=r.length:=by
  unfold eK
  rw [List.length_map,List.length_append,List.length_map,List.length_zip,List.length_drop]
  have:=List.length_pos_iff.mpr ne
  show min r.length (r.length - 1)+1=r.length
  lia
noncomputable def uE (m:Int) (r:List Int) (k:Nat):Pair:=nm (2*r.getD k 0) (if 2*r.getD ((k+1) % r.length) 0 - 1 < 0 then m - 1 else 2*r.getD ((k+1) % r.length) 0 - 1)
theorem qY {R:List (List Int)} {n:Nat} (g:Gd R n) {r:List Int} (hr:r∈R) {k:Nat} (h:k < r.length):(eK (2*(n:Int)) r)[k]? = some (uE (2*(n:Int)) r k):=by
  have ne:r≠[]:=g.ne r hr
  unfold eK uE
  rw [List.getElem?_map]
  by_cases c:k+1 < r.length
  · rw [List.getElem?_append_left (by rw [List.length_map,List.length_zip,List.length_drop]; lia),List.getElem?_map,List.getElem?_eq_getElem (by rw [List.length_zip,List.length_drop]; lia),List.getElem_zip,List.getElem_drop,Nat.mod_eq_of_lt c,getD_at h,getD_at c]
    have lt:=List.pairwise_iff_getElem.mp (g.inc r hr) k (k+1) h c (Nat.lt_succ_self _)
    have b0:=g.bd hr (List.getElem_mem h)
    simp only [Nat.add_comm 1 k] at lt |-
    show some (rtD (2*(n:Int)) (2*r[k]+1,2*r[k+1]))=_
    refine congrArg some ?_
    unfold rtD nm
    rw [if_neg (by show ¬ 2*r[k]+1=0; lia),if_neg (show ¬ 2*r[k+1] - 1 < 0 by lia),if_pos (by lia)]
    exact Prod.ext (by show 2*r[k]+1 - 1=2*r[k]; lia) rfl
  · have e:k+1=r.length:=by lia
    rw [List.getElem?_append_right (by rw [List.length_map,List.length_zip,List.length_drop]; lia),List.length_map,List.length_zip,List.length_drop,show k - min r.length (r.length - 1)=0 by lia,e,Nat.mod_self]
    have e1:r.getD k 0=lst r:=by
      show _=r.getD (r.length - 1) 0
      rw [show r.length - 1=k by lia]
    have e0:r.getD 0 0=hd r:=rfl
    rw [e1,e0]
    have b0:=g.bd hr (cB ne)
    have hl:=g.top hr (cB ne)
    have bl:lst r < (n:Int):=by
      have:lst r∈r:=by
        rw [<- e1,getD_at h]
        exact List.getElem_mem h
      exact (g.bd hr this).2
    show some (rtD (2*(n:Int)) (2*hd r,2*lst r+1))=_
    refine congrArg some ?_
    unfold rtD nm
    by_cases z:hd r=0
    · rw [if_pos (by show 2*hd r=0; lia),if_pos (show 2*hd r - 1 < 0 by lia),if_pos (by lia)]
      exact Prod.ext (by show 2*lst r+1 - 1=2*lst r; lia) rfl
    · rw [if_neg (by show ¬ 2*hd r=0; lia),if_neg (show ¬ 2*hd r - 1 < 0 by lia),if_neg (by lia)]
      exact Prod.ext rfl (by show 2*lst r+1 - 1=2*lst r; lia)
noncomputable def aM (k:Int) (G:List (List Int)):List (List Int):=(G.filter fun r=>decide (hd r < k)).map fun r=>r.filter fun x=>decide (x < k)
theorem gS {r:List Int} {k:Int} (ne:r≠[]) (h:hd r < k):hd (r.filter fun x=>decide (x < k))=hd r:=by
  cases r with
  | nil=>exact absurd rfl ne
  | cons a t =>
    have h':a < k:=h
    rw [List.filter_cons,if_pos (decide_eq_true h')]
    rfl
theorem nK (k:Int) (A B:List (List Int)):aM k (A++B)=aM k A++aM k B:=by
  unfold aM
  rw [List.filter_append,List.map_append]
theorem pk {k:Int} {G:List (List Int)} {d:List Int} (h:d∈aM k G) (ne:∀ r∈G,r≠[]):∃ s∈G,hd d=hd s/\hd s < k/\d≠[]:=by
  unfold aM at h
  obtain ⟨s,hs,rfl⟩:=List.mem_map.mp h
  obtain ⟨h1,h2⟩:=List.mem_filter.mp hs
  have h2:=of_decide_eq_true h2
  refine ⟨s,h1,gS (ne s h1) h2,h2,fun z=>?_⟩
  have:hd s∈s.filter fun x=>decide (x < k):=List.mem_filter.mpr ⟨cB (ne s h1),decide_eq_true h2⟩
  rw [z] at this
  cases this
theorem pK {k:Int} {G:List (List Int)} (ne:∀ r∈G,r≠[]) (h:(G.map hd).Pairwise (· < ·)):((aM k G).map hd).Pairwise (· < ·):=by
  have e:(aM k G).map hd=(G.filter fun r=>decide (hd r < k)).map hd:=by
    unfold aM
    rw [List.map_map]
    refine List.map_congr_left fun s hs=>?_
    obtain ⟨h1,h2⟩:=List.mem_filter.mp hs
    exact gS (ne s h1) (of_decide_eq_true h2)
  rw [e]
  exact h.sublist (List.filter_sublist.map _)
theorem jz {k:Int}:∀ {G:List (List Int)},(∀ r∈G,r≠[]/\k∉r)->aM (k+1) G=aM k G
  | [],_=>rfl
  | r::G,h=>by
    obtain ⟨ne,nk⟩:=h r (List.mem_cons_self ..)
    have ih:=jz (G:=G) fun s hs=>h s (List.mem_cons_of_mem _ hs)
    have hk:hd r≠k:=fun z=>nk (z▸cB ne)
    have ef:(r.filter fun x=>decide (x < k+1))=r.filter fun x=>decide (x < k):=List.filter_congr fun x hx=>by
      have:x≠k:=fun z=>nk (z▸hx)
      exact decide_eq_decide.mpr ⟨fun _=>by lia,fun _=>by lia⟩
    unfold aM at ih |-
    rw [List.filter_cons,List.filter_cons]
    by_cases c:hd r < k
    · rw [if_pos (decide_eq_true c),if_pos (decide_eq_true (show hd r < k+1 by lia)),List.map_cons,List.map_cons,ih,ef]
    · rw [if_neg (by rw [decide_eq_false (show ¬ hd r < k+1 by lia)]; decide),if_neg (by rw [decide_eq_false c]; decide),ih]
theorem gO {k:Int} {G:List (List Int)} (h:∀ r∈G,¬ hd r < k):aM k G=[]:=by
  unfold aM
  rw [List.filter_eq_nil_iff.mpr fun r hr=>by rw [decide_eq_false (h r hr)]; decide]
  rfl
theorem lY {k:Int}:∀ {r:List Int},r.Pairwise (· < ·)->k∈r->(r.filter fun x=>decide (x < k+1))=(r.filter fun x=>decide (x < k))++[k]
  | [],_,h=>by cases h
  | a::t,p,h=>by
    obtain ⟨p1,p2⟩:=List.pairwise_cons.mp p
    rcases List.mem_cons.mp h with rfl | ht
    · have f1:(t.filter fun x=>decide (x < k+1))=[]:=List.filter_eq_nil_iff.mpr fun x hx=>by
        have:=p1 x hx
        rw [decide_eq_false (show ¬ x < k+1 by lia)]
        decide
      have f2:(t.filter fun x=>decide (x < k))=[]:=List.filter_eq_nil_iff.mpr fun x hx=>by
        have:=p1 x hx
        rw [decide_eq_false (show ¬ x < k by lia)]
        decide
      rw [List.filter_cons,List.filter_cons,if_pos (decide_eq_true (show k < k+1 by lia)),if_neg (by rw [decide_eq_false (show ¬ k < k by lia)]; decide),f1,f2]
      rfl
    · have:=p1 k ht
      rw [List.filter_cons,List.filter_cons,if_pos (decide_eq_true (show a < k+1 by lia)),if_pos (decide_eq_true (show a < k by lia)),lY p2 ht]
      rfl
theorem vH {α:Type} (A:List α) (x y:α) (B:List α):(A++x::B).set A.length y=A++y::B:=by
  rw [List.set_append_right _ _ (Nat.le_refl _),Nat.sub_self]
  rfl
theorem rG {G:List (List Int)} {n:Nat} (g:Gd G n) {k:Nat} (hk:k < n):∃ r∈G,(k:Int)∈r/\(hd r=(k:Int)/\aM ((k:Int)+1) G=aM (k:Int) G++[[(k:Int)]]\/∃ (j:Nat) (c:List Int),(aM (k:Int) G)[j]? = some c/\hd c=hd r/\aM ((k:Int)+1) G=(aM (k:Int) G).set j (c++[(k:Int)])):=by
  obtain ⟨r,hr,kr⟩:∃ r∈G,(k:Int)∈r:=List.mem_flatten.mp (g.flat.mem_iff.mpr (cy.mpr ⟨by lia,by lia⟩))
  refine ⟨r,hr,kr,?_⟩
  have uq:∀ s∈G,(k:Int)∈s->s=r:=fun s hs h=>g.uniq hs hr h kr
  obtain ⟨A,B,e⟩:=List.append_of_mem hr
  have hh:=g.heads
  rw [e,List.map_append,List.map_cons] at hh
  obtain ⟨_,h2,h3⟩:=List.pairwise_append.mp hh
  obtain ⟨h4,_⟩:=List.pairwise_cons.mp h2
  have inA:∀ s∈A,s∈G:=fun s hs=>by rw [e]; exact List.mem_append_left _ hs
  have fv:∀ s∈B,s∈G:=fun s hs=>by rw [e]; exact List.mem_append_right _ (List.mem_cons_of_mem _ hs)
  have ltA:∀ s∈A,hd s < hd r:=fun s hs=>h3 _ (List.mem_map.mpr ⟨s,hs,rfl⟩) _ (List.mem_cons_self ..)
  have ltB:∀ s∈B,hd r < hd s:=fun s hs=>h4 _ (List.mem_map.mpr ⟨s,hs,rfl⟩)
  have oA:aM ((k:Int)+1) A=aM (k:Int) A:=jz fun s hs=>⟨g.ne s (inA s hs),fun z=>by
    have:=ltA s hs
    rw [uq s (inA s hs) z] at this
    lia⟩
  have oB:aM ((k:Int)+1) B=aM (k:Int) B:=jz fun s hs=>⟨g.ne s (fv s hs),fun z=>by
    have:=ltB s hs
    rw [uq s (fv s hs) z] at this
    lia⟩
  have fu:=lY (g.inc r hr) kr
  have hlo:=gm (g.inc r hr) kr
  have ec:∀ k':Int,aM k' G=aM k' A++(aM k' [r]++aM k' B):=fun k'=>by
    rw [e,nK,show r::B=[r]++B from rfl,nK]
  rw [ec,ec,oA,oB]
  by_cases c:hd r=(k:Int)
  · refine .inl ⟨c,?_⟩
    have vB:aM (k:Int) B=[]:=gO fun s hs=>by
      have:=ltB s hs
      lia
    have v1:aM (k:Int) [r]=[]:=gO fun s hs=>by
      rw [List.mem_singleton.mp hs]
      lia
    have v2:aM ((k:Int)+1) [r]=[[(k:Int)]]:=by
      unfold aM
      rw [List.filter_cons,if_pos (decide_eq_true (show hd r < (k:Int)+1 by lia))]
      show [r.filter _]=_
      rw [fu,List.filter_eq_nil_iff.mpr fun x hx=>?_]
      · rfl
      · have:=gm (g.inc r hr) hx
        rw [decide_eq_false (show ¬ x < (k:Int) by lia)]
        decide
    rw [vB,v1,v2]
    simp
  · have lt:hd r < (k:Int):=by lia
    have v1:aM (k:Int) [r]=[r.filter fun x=>decide (x < (k:Int))]:=by
      unfold aM
      rw [List.filter_cons,if_pos (decide_eq_true lt)]
      rfl
    have v2:aM ((k:Int)+1) [r]=[(r.filter fun x=>decide (x < (k:Int)))++[(k:Int)]]:=by
      unfold aM
      rw [List.filter_cons,if_pos (decide_eq_true (show hd r < (k:Int)+1 by lia)),<- fu]
      rfl
    rw [v1,v2]
    refine .inr ⟨(aM (k:Int) A).length,r.filter fun x=>decide (x < (k:Int)),?_,gS (g.ne r hr) lt,?_⟩
    · rw [List.getElem?_append_right (Nat.le_refl _),Nat.sub_self]
      rfl
    · exact (vH _ _ _ _).symm
theorem ub {G:List (List Int)} {n:Nat} (g:Gd G n):aM (n:Int) G=G:=by
  unfold aM
  rw [List.filter_eq_self.mpr fun r hr=>decide_eq_true (g.bd hr (cB (g.ne r hr))).2]
  conv=>rhs; rw [<- List.map_id G]
  refine List.map_congr_left fun r hr=>?_
  exact List.filter_eq_self.mpr fun x hx=>decide_eq_true (g.bd hr hx).2
theorem sI {G:List (List Int)} {n:Nat} (g:Gd G n) {k:Int} {r:List Int} (hr:r∈G) (kr:k∈r) {d:List Int} (hd':d∈aM k G) {s:List Int} (hs:s∈G) (e:hd d=hd s):k∈s↔hd d=hd r:=by
  constructor
  · intro h
    rw [e,g.uniq hs hr h kr]
  · intro h
    rw [sJ g.heads hs hr (e.symm.trans h)]
    exact kr
theorem uf {k:Int} {G:List (List Int)} (ne:∀ r∈G,r≠[]) (h:(G.map hd).Pairwise (· < ·)) {i j:Nat} {c d:List Int} (h1:(aM k G)[i]? = some c) (h2:(aM k G)[j]? = some d) (e:hd c=hd d):i=j:=by
  have p:=pK (k:=k) ne h
  obtain ⟨i1,e1⟩:=List.getElem?_eq_some_iff.mp h1
  obtain ⟨j1,e2⟩:=List.getElem?_eq_some_iff.mp h2
  have q:=List.pairwise_iff_getElem.mp p
  rcases Nat.lt_trichotomy i j with l | l | l
  · have:=q i j (by rw [List.length_map]; exact i1) (by rw [List.length_map]; exact j1) l
    rw [List.getElem_map,List.getElem_map,e1,e2] at this
    lia
  · exact l
  · have:=q j i (by rw [List.length_map]; exact j1) (by rw [List.length_map]; exact i1) l
    rw [List.getElem_map,List.getElem_map,e1,e2] at this
    lia
theorem tw {k:Int} {G:List (List Int)}:(aM k G).length<=G.length:=by
  unfold aM
  rw [List.length_map]
  exact List.length_filter_le _ _
theorem vq {rs gs:List (List Int)} {n:Nat} (g:Gd rs n) {ps qs:List Pair} (hp:ps.Perm (ft rs)) (bp:aV ps) (lp:ps.length=n) (hq:qs.Perm (ps.map (rtD (2*(ps.length:Int))))) (bq:aV qs) (lq:qs.length=n) (F:Paired (dk qs) (starts qs) gs):∀ s∈gs,∀ k:Int,hd s < k->k < (n:Int)->(k∈s↔iS rs (hd s+1) (k+1)):=by
  intro s hs k h1 h2
  have gg:=gh bq F
  rw [lq] at gg
  have ne:=gg.ne s hs
  have b0:=(gg.bd hs (cB ne)).1
  exact (lP gg bq (jF bq F) hs (cB ne) h2 h1).trans ((vv bp hq b0 (by lia)).symm.trans (lI g hp.symm _ _).symm)
theorem ud {rs gs hs:List (List Int)} {n:Nat} (g:Gd rs n) {ps qs ps' qs':List Pair} (hp:ps.Perm (ft rs)) (bp:aV ps) (lp:ps.length=n) (hq:qs.Perm (ps.map (rtD (2*(ps.length:Int))))) (bq:aV qs) (F:Paired (dk qs) (starts qs) gs) (hp':ps'.Perm (ft gs)) (lp':ps'.length=n) (hq':qs'.Perm (ps'.map (rtU (2*(ps'.length:Int))))) (bq':aV qs') (F':Paired (dk qs') (starts qs') hs):hs=rs:=by
  have h1:=(hp'.trans (jF bq F)).map (rtU (2*(ps'.length:Int)))
  have h2:=hq'.trans h1
  rw [lp',<- lp] at h2
  exact qH bq'.nd F' (g.fol (h2.trans ((xP bp.inr hq).trans hp)) bq'.ris)
theorem u9 {rs gs:List (List Int)} {n:Nat} (g:Gd rs n) {ps qs:List Pair} (hp:ps.Perm (ft rs)) (bp:aV ps) (lp:ps.length=n) (hq:qs.Perm (ps.map (rtU (2*(ps.length:Int))))) (bq:aV qs) (lq:qs.length=n) (F:Paired (dk qs) (starts qs) gs):∀ s∈gs,∀ k:Int,hd s < k->k < (n:Int)->(k∈s↔iS rs (hd s+0) (k+0)):=by
  intro s hs k h1 h2
  have gg:=gh bq F
  rw [lq] at gg
  have ne:=gg.ne s hs
  have b0:=(gg.bd hs (cB ne)).1
  rw [Int.add_zero,Int.add_zero]
  exact (lP gg bq (jF bq F) hs (cB ne) h2 h1).trans ((vn bp hq b0 (by lia)).symm.trans (lI g hp.symm _ _).symm)
theorem tQ {rs gs hs:List (List Int)} {n:Nat} (g:Gd rs n) {ps qs ps' qs':List Pair} (hp:ps.Perm (ft rs)) (bp:aV ps) (lp:ps.length=n) (hq:qs.Perm (ps.map (rtU (2*(ps.length:Int))))) (bq:aV qs) (F:Paired (dk qs) (starts qs) gs) (hp':ps'.Perm (ft gs)) (lp':ps'.length=n) (hq':qs'.Perm (ps'.map (rtD (2*(ps'.length:Int))))) (bq':aV qs') (F':Paired (dk qs') (starts qs') hs):hs=rs:=by
  have h1:=(hp'.trans (jF bq F)).map (rtD (2*(ps'.length:Int)))
  have h2:=hq'.trans h1
  rw [lp',<- lp] at h2
  exact qH bq'.nd F' (g.fol (h2.trans ((wx bp.inr hq).trans hp)) bq'.ris)
end Ck
set_option Elab.async false
set_option linter.all false
set_option maxRecDepth 100000
namespace Ck
open PySem PySem.W PySem.Calls PyProof.Rows
noncomputable def oP {α:Type} (p q:Program) (loose:List Str) (Xt:Shared->Bool) (Yf:Shared->α) (h0:Heap) (s:Shared) :=
  ((staticsOk (importedModules p.main.body) h0 s.heap&&namesBound p s.heap&&gensDone s&&laidKept h0 s.heap),
    openSeen q loose (importedModules p.main.body) Xt true s,Yf s)
theorem qx {p q:Program} {loose:List Str} {Xt:Shared->Bool} {α:Type} {Yf:Shared->α} {Ya:World->α} {N M m:Nat} {H:Params->Heap} {gs:Array GenState} {dr:Drawn} {tk:Nat} {an:Option Value}
    (o:∀ w:World,(fencedOpening treeTable p w N).map (fun s=>(s.heap,s.gens,s.drawn,s.toks))=some (H w.params,gs,dr,tk))
    (z:∀ w:World,((H w.params).isNs mainGlobals&&gs.size == 0,(H w.params).objs.size,(H w.params).nsMap mainGlobals "__annotations__")=(true,m,an))
    (r:∀ (w:World) (os:OsState),∃ e,topRun treeTable p w m an M ⟨H w.params,gs,dr,tk,os⟩ (topStub p)=some e/\oP p q loose Xt Yf (H w.params) e=(true,openGood q loose,Ya w))
    (le:M<=N):LeftO p q loose Xt Yf Ya N:=by
  intro w
  have ow:=o w
  cases hf:fencedOpening treeTable p w N with
  | none=>rw [hf] at ow; cases ow
  | some s =>
    rw [hf] at ow
    have os:=Option.some.inj ow
    have e1:s.heap=H w.params:=congrArg Prod.fst os
    have e2:s.gens=gs:=congrArg (fun x=>x.2.1) os
    have e3:s.drawn=dr:=congrArg (fun x=>x.2.2.1) os
    have e4:s.toks=tk:=congrArg (fun x=>x.2.2.2) os
    obtain ⟨e,run,look⟩:=r w s.os
    have hs:s=⟨H w.params,gs,dr,tk,s.os⟩:=by rw [<- e1,<- e2,<- e3,<- e4]
    have run':=topRun_mono (N - M) _ _ _ _ run
    rw [Nat.add_sub_cancel' le] at run'
    have zw:=z w
    have z1:=congrArg Prod.fst zw
    have z2:=congrArg (fun x=>x.2.1) zw
    have z3:=congrArg (fun x=>x.2.2) zw
    dsimp only at z1 z2 z3
    have l1:=congrArg Prod.fst look
    have l2:=congrArg Prod.snd look
    have tf:topFrom treeTable p w N s=some e:=by
      rw [hs]
      unfold topFrom
      dsimp only
      rw [z1,z2,z3,run']
      unfold oP at l1
      dsimp only at l1
      dsimp only [Option.bind]
      rw [l1]
    unfold openEnds
    rw [hf,Option.bind_some,tf]
    exact congrArg some l2
noncomputable def alive (o:Obj):Option Obj:=match o with
  | ⟨_,_,.freed,_⟩=>none
  | o=>some o
noncomputable def d8:List Obj->List Bool->List (Option Obj)
  | _,[]=>[]
  | [],true::m=>none::d8 [] m
  | [],false::m=>d8 [] m
  | o::os,true::m=>alive o::d8 os m
  | _::os,false::m=>d8 os m
noncomputable def gY:List Bool->Nat->List Nat
  | [],_=>[]
  | true::m,i=>i::gY m (i+1)
  | false::m,i=>gY m (i+1)
theorem kM:∀ (m:List Bool) (os:List Obj) (pre:List Obj),d8 os m=(gY m pre.length).map fun a=>(pre++os)[a]?.bind alive
  | [],os,pre=>by cases os<;>rfl
  | b::m,[],pre=>by
    have k:=kM m [] (pre++[default])
    rw [List.length_append,List.length_singleton] at k
    have e:∀ i,pre.length < i->((pre++[(default:Obj)])++[])[i]?.bind alive=(pre++[])[i]?.bind alive:=fun i hi=>by
      rw [List.getElem?_eq_none (by simp; lia),List.getElem?_eq_none (by simp; lia)]
    have lt:∀ (m:List Bool) (n i:Nat),i∈gY m n->n<=i:=by
      intro m
      induction m with
      | nil=>intro n i h; cases h
      | cons b m ih=>intro n i h; cases b with
        | true =>
          rcases List.mem_cons.1 h with h | h
          · lia
          · have:=ih _ _ h; lia
        | false=>have:=ih _ _ h; lia
    have k':d8 [] m=(gY m (pre.length+1)).map fun a=>(pre++[])[a]?.bind alive:=by
      rw [k]; exact List.map_congr_left fun i hi=>e i (lt _ _ _ hi)
    cases b with
    | true=>show none::d8 [] m=_::_; rw [k']; congr 1; simp
    | false=>exact k'
  | b::m,o::os,pre=>by
    have k:=kM m os (pre++[o])
    rw [List.length_append,List.length_singleton,List.append_assoc,List.singleton_append] at k
    cases b with
    | true=>show alive o::d8 os m=_::_; rw [k]; congr 1; simp
    | false=>exact k
theorem sO (h:Heap) (a:Addr):h.get? a=h.objs.toList[a]?.bind alive:=by
  unfold Heap.get?
  rw [Array.getElem?_toList]
  cases h.objs[a]? with
  | none=>rfl
  | some o=>obtain ⟨c,d,x,s⟩:=o; cases x<;>rfl
theorem vL {m:List Bool} {as:List Addr} (e:as=gY m 0) (h:Heap):as.map h.get? = d8 h.objs.toList m:=by
  rw [kM m h.objs.toList [],e]
  exact List.map_congr_left fun a _=>sO h a
section
variable {tb:String->Option Builtin} {p:Program} {w:World} {m:Nat} {an:Option Value} {env:Env} {q:Pos}
noncomputable def ki {β:Type} (tb:String->Option Builtin) (p:Program) (w:World) (m:Nat) (an:Option Value) (q:Pos) (c:Code) (n4:Nat) (L:Shared->β) (r:Flow × SharedT × Code × Pos):Flow × Code × Option β :=
  (r.1,r.2.2.1,(topRun tb p w m an n4 r.2.1.abs ⟨doneF .next,c,r.2.2.2,[topFrame q]⟩).map L)
theorem rN {β:Type} {L:Shared->β} {b:List Stmt} {c:Code} {n1 n2 n3 n4:Nat} {S0 Sa:Shared} {Sb:SharedT} {pos0 pos1:Pos} {z:β} (hc:c = .body b env)
    (h1:topGo tb p w m an n1 S0 (topStub p)=some (Sa,⟨denote tb c,c,pos0,[topFrame q]⟩))
    (h2:segRun tb p w m an 1 n2 Sa (blockOf b env c pos0 [topFrame q])=some (.next,Sb.abs,c,pos1))
    (h3:(segRunT tb p w m an 1 n3 Sb (piecesOf b env c pos1 [topFrame q])).map (ki tb p w m an q c n4 L)=some (.next,c,some z)) :
    ∃ e,topRun tb p w m an (n1+(n2+(n3+n4))) S0 (topStub p)=some e/\L e=z:=by
  cases hr:segRunT tb p w m an 1 n3 Sb (piecesOf b env c pos1 [topFrame q]) with
  | none=>rw [hr] at h3; cases h3
  | some x =>
    obtain ⟨f,s,d,ps⟩:=x
    rw [hr] at h3
    have h3:=Option.some.inj h3
    unfold ki at h3
    have a1:f = .next:=congrArg Prod.fst h3
    have a2:d=c:=congrArg (fun x=>x.2.1) h3
    have a3:=congrArg (fun x=>x.2.2) h3
    dsimp only at a3
    subst a1 a2 hc
    cases ht:topRun tb p w m an n4 s.abs ⟨doneF .next,.body b env,ps,[topFrame q]⟩ with
    | none=>rw [ht] at a3; cases a3
    | some e =>
      rw [ht] at a3
      have k:=piece_app (rest:=[]) (segRun_of hr) (piece_nil ht)
      rw [List.append_nil] at k
      exact ⟨e,go_top h1 (piece_block h2 k),Option.some.inj a3⟩
end
end Ck
set_option maxHeartbeats 4000000
namespace Ck
open PySem L2
noncomputable def top (i:Nat):Stmt:=PySem.Challenge.pw_countkin_k44_gaps.main.body.getD i (.Pass ⟨0,0,0,0⟩)
structure bM where
 aN:Addr
 aS:Addr
 cb:Addr
 aJ:Addr
 pF:Addr
 qk:Addr
 kh:Addr
 ml:Addr
 kI:Addr
 pO:Addr
 qp:Addr
 pR:Addr
 mr:Addr
 qz:Addr
structure xg (K:W.Frag) (mg:Str->Option Value) (ca:bM):Prop where
 nN:mg "Bows" = some (.ref ca.aN)
 gH:mg "SplitFamily" = some (.ref ca.aS)
 mZ:mg "Family" = some (.ref ca.cb)
 vm:mg "Rooms" = some (.ref ca.aJ)
 fZ:gW K ca.aN
 iq:gW K ca.aJ
 mt_Bows_refuse_other:Meth K ca.aN "refuse_other" ca.kI
 mt_Bows_is_one:Meth K ca.aN "is_one" ca.ml
 mt_Rooms_refuse_other:Meth K ca.aJ "refuse_other" ca.qz
 mt_Rooms_is_one:Meth K ca.aJ "is_one" ca.mr
 mk_Bows:Mk K ca.aN ca.kh
 mk_Rooms:Mk K ca.aJ ca.pR
 cm_SplitFamily___init___Bows:mJ K ca.aS "__init__" ca.qk
 cm_Family___init___Bows:mJ K ca.cb "__init__" ca.pF
 cm_SplitFamily___init___Rooms:mJ K ca.aS "__init__" ca.qp
 cm_Family___init___Rooms:mJ K ca.cb "__init__" ca.pO
 fm:eC K ca.aN "word"
 eF:eC K ca.aN "least"
 eG:eC K ca.aJ "word"
 dY:eC K ca.aJ "least"
noncomputable abbrev iR:Stmt:=top 30
theorem wD:aC ["_law_script","_law_k"] ["_law_script","_law_k"] (ah iR):=⟨rfl,rfl,rfl,by decide +kernel,rfl,by decide +kernel,by decide +kernel⟩
noncomputable abbrev iH:Stmt:=top 32
theorem rj:aC ["_law_cell","_law_turn","_law_number"] ["_law_cell","_law_turn"] (ah iH):=⟨rfl,rfl,rfl,by decide +kernel,rfl,by decide +kernel,by decide +kernel⟩
noncomputable abbrev iY:Stmt:=top 33
theorem ee:aC ["_law_script","_law_turn","_law_many","_law_cells","_law_found","_law_lefts","_law_k","_law_at","_law_number"] ["_law_script","_law_turn","_law_many"] (ah iY):=⟨rfl,rfl,rfl,by decide +kernel,rfl,by decide +kernel,by decide +kernel⟩
noncomputable abbrev iU:Stmt:=top 34
theorem fO:aC ["_law_script","_law_size","_law_turn","_law_found","_law_pile","_law_k","_law_number"] ["_law_script","_law_size","_law_turn"] (ah iU):=⟨rfl,rfl,rfl,by decide +kernel,rfl,by decide +kernel,by decide +kernel⟩
noncomputable abbrev iB:Stmt:=top 39
theorem wu:aC ["_law_rooms"] ["_law_rooms"] (ah iB):=⟨rfl,rfl,rfl,by decide +kernel,rfl,by decide +kernel,by decide +kernel⟩
noncomputable abbrev kR:Stmt:=inClass (top 14) 0
theorem yo:aC ["self","word","least"] ["self","word","least"] (ah kR):=⟨rfl,rfl,rfl,by decide +kernel,rfl,by decide +kernel,by decide +kernel⟩
noncomputable abbrev kG:Stmt:=inClass (top 15) 0
theorem yw:aC ["self","word"] ["self","word"] (ah kG):=⟨rfl,rfl,rfl,by decide +kernel,rfl,by decide +kernel,by decide +kernel⟩
noncomputable abbrev kN:Stmt:=inClass (top 17) 0
theorem yH:aC ["self"] ["self"] (ah kN):=⟨rfl,rfl,rfl,by decide +kernel,rfl,by decide +kernel,by decide +kernel⟩
noncomputable abbrev ik:Stmt:=top 3
theorem xK:aC ["numbers"] ["numbers"] (ah ik):=⟨rfl,rfl,rfl,by decide +kernel,rfl,by decide +kernel,by decide +kernel⟩
noncomputable abbrev ir:Stmt:=top 2
theorem nu:aC ["rows","found","row"] ["rows"] (ah ir):=⟨rfl,rfl,rfl,by decide +kernel,rfl,by decide +kernel,by decide +kernel⟩
noncomputable abbrev iX:Stmt:=top 4
theorem gT:aC ["pairs","a","b","c","d"] ["pairs"] (ah iX):=⟨rfl,rfl,rfl,by decide +kernel,rfl,by decide +kernel,by decide +kernel⟩
noncomputable abbrev ig:Stmt:=inClass (top 17) 2
theorem vU:aC ["self","thing"] ["self","thing"] (ah ig):=⟨rfl,rfl,rfl,by decide +kernel,rfl,by decide +kernel,by decide +kernel⟩
noncomputable abbrev lC:Stmt:=inClass (top 14) 7
theorem ya:aC ["self","thing"] ["self","thing"] (ah lC):=⟨rfl,rfl,rfl,by decide +kernel,rfl,by decide +kernel,by decide +kernel⟩
noncomputable abbrev iL:Stmt:=top 26
theorem qN:aC ["following","first","room"] ["following","first"] (ah iL):=⟨rfl,rfl,rfl,by decide +kernel,rfl,by decide +kernel,by decide +kernel⟩
noncomputable abbrev ip:Stmt:=top 25
theorem jO:aC ["thing","following","a","b"] ["thing"] (ah ip):=⟨rfl,rfl,rfl,by decide +kernel,rfl,by decide +kernel,by decide +kernel⟩
noncomputable abbrev i3:Stmt:=top 5
theorem v7:aC ["pairs"] ["pairs"] (ah i3):=⟨rfl,rfl,rfl,by decide +kernel,rfl,by decide +kernel,by decide +kernel⟩
noncomputable abbrev iD:Stmt:=top 21
theorem vP:aC ["pairs","step","ring"] ["pairs","step","ring"] (ah iD):=⟨rfl,rfl,rfl,by decide +kernel,rfl,by decide +kernel,by decide +kernel⟩
noncomputable abbrev iW:Stmt:=top 23
theorem wg:aC ["thing"] ["thing"] (ah iW):=⟨rfl,rfl,rfl,by decide +kernel,rfl,by decide +kernel,by decide +kernel⟩
noncomputable abbrev lh:Stmt:=inClass (top 14) 0
theorem yF:aC ["self","word","least"] ["self","word","least"] (ah lh):=⟨rfl,rfl,rfl,by decide +kernel,rfl,by decide +kernel,by decide +kernel⟩
noncomputable abbrev kj:Stmt:=inClass (top 15) 0
theorem yt:aC ["self","word"] ["self","word"] (ah kj):=⟨rfl,rfl,rfl,by decide +kernel,rfl,by decide +kernel,by decide +kernel⟩
noncomputable abbrev kB:Stmt:=inClass (top 18) 0
theorem yx:aC ["self"] ["self"] (ah kB):=⟨rfl,rfl,rfl,by decide +kernel,rfl,by decide +kernel,by decide +kernel⟩
noncomputable abbrev iw:Stmt:=top 19
theorem xB:aC ["rooms"] ["rooms"] (ah iw):=⟨rfl,rfl,rfl,by decide +kernel,rfl,by decide +kernel,by decide +kernel⟩
noncomputable abbrev i5:Stmt:=inClass (top 18) 2
theorem xR:aC ["self","thing"] ["self","thing"] (ah i5):=⟨rfl,rfl,rfl,by decide +kernel,rfl,by decide +kernel,by decide +kernel⟩
noncomputable abbrev kK:Stmt:=inClass (top 14) 7
theorem yc:aC ["self","thing"] ["self","thing"] (ah kK):=⟨rfl,rfl,rfl,by decide +kernel,rfl,by decide +kernel,by decide +kernel⟩
noncomputable abbrev kJ:Stmt:=top 24
theorem qq:aC ["thing","onward","around"] ["thing"] (ah kJ):=⟨rfl,rfl,rfl,by decide +kernel,rfl,by decide +kernel,by decide +kernel⟩
noncomputable abbrev iE:Stmt:=top 27
theorem wH:aC ["thing"] ["thing"] (ah iE):=⟨rfl,rfl,rfl,by decide +kernel,rfl,by decide +kernel,by decide +kernel⟩
noncomputable abbrev iQ:Stmt:=top 22
theorem xx:aC ["thing"] ["thing"] (ah iQ):=⟨rfl,rfl,rfl,by decide +kernel,rfl,by decide +kernel,by decide +kernel⟩
noncomputable abbrev i0:Stmt:=top 28
theorem v5:aC ["thing"] ["thing"] (ah i0):=⟨rfl,rfl,rfl,by decide +kernel,rfl,by decide +kernel,by decide +kernel⟩
noncomputable abbrev il:Stmt:=top 31
theorem xD:aC ["_law_found"] ["_law_found"] (ah il):=⟨rfl,rfl,rfl,by decide +kernel,rfl,by decide +kernel,by decide +kernel⟩
noncomputable abbrev iK:Stmt:=top 35
theorem rT:aC ["_law_found","_law_due","_law_k"] ["_law_found","_law_due"] (ah iK):=⟨rfl,rfl,rfl,by decide +kernel,rfl,by decide +kernel,by decide +kernel⟩
noncomputable abbrev ja:Stmt:=top 36
theorem rp:aC ["_law_found","_law_due","_law_k"] ["_law_found","_law_due"] (ah ja):=⟨rfl,rfl,rfl,by decide +kernel,rfl,by decide +kernel,by decide +kernel⟩
noncomputable abbrev iZ:Stmt:=top 37
theorem rq:aC ["_law_found","_law_due","_law_k"] ["_law_found","_law_due"] (ah iZ):=⟨rfl,rfl,rfl,by decide +kernel,rfl,by decide +kernel,by decide +kernel⟩
noncomputable abbrev ko:Stmt:=top 38
theorem gn:aC ["_law_rooms","_law_size","_law_found","_law_room","_law_k","_law_low","_law_high"] ["_law_rooms","_law_size"] (ah ko):=⟨rfl,rfl,rfl,by decide +kernel,rfl,by decide +kernel,by decide +kernel⟩
noncomputable abbrev i9:Stmt:=top 40
theorem nJ:aC ["_law_rooms","_law_low","_law_high","_law_room","_law_many"] ["_law_rooms","_law_low","_law_high"] (ah i9):=⟨rfl,rfl,rfl,by decide +kernel,rfl,by decide +kernel,by decide +kernel⟩
noncomputable abbrev ie:Stmt:=top 41
theorem jT:aC ["_law_rooms","_law_size","_law_by","_law_found","_law_k","_law_mates"] ["_law_rooms","_law_size","_law_by"] (ah ie):=⟨rfl,rfl,rfl,by decide +kernel,rfl,by decide +kernel,by decide +kernel⟩
noncomputable abbrev eU:Stmt:=top 42
theorem dN:aC ["_law_script","_law_size","_law_rooms","_law_handed","_law_behind","_law_ahead","_law_room"] ["_law_script"] (ah eU):=⟨rfl,rfl,rfl,by decide +kernel,rfl,by decide +kernel,by decide +kernel⟩
noncomputable def m8 (K:W.Frag) (_:bM):Sp:=fun vs H Q _=>∃ (a:Addr) (ns:List Int) (k:Int),vs=[.ref a,.int k]/\aj K H a (ns.map V.int)/\0<=k/\Q (.int (ns.getD k.toNat 0)) H
noncomputable def mY (_:W.Frag) (_:bM):Sp:=fun vs H Q _=>∃ c t:Int,vs=[.int c,.int t]/\0<=t/\t<=100000/\∀ m:Int,0<=m->m < 2147483629->Q (.int m) H
noncomputable def n6 (K:W.Frag) (_:bM):Sp:=fun vs H Q _=>∃ (a:Addr) (ns:List Int) (t m:Int),vs=[.ref a,.int t,.int m]/\aj K H a (ns.map V.int)/\ns.length<=63/\0<=t/\t<=1000/\0<=m/\m<=1000 /\
 ∀ (p:Addr) (xs:List Int) (H':Hp),ag H H'->H p=none->H' p=some (.lst (xs.map V.int))->xs.length=m.toNat->(∀ x∈xs,0<=x/\x < 2147483587)->Q (.ref p) H'
theorem vd (xs:List V) (k:Nat):de xs none (some (k:Int))=xs.take k:=vf xs k
noncomputable def mS (K:W.Frag) (_:bM):Sp:=fun vs H Q _=>∃ (a:Addr) (ns:List Int) (n:Nat) (t:Int),vs=[.ref a,.int n,.int t]/\aj K H a (ns.map V.int)/\ns.length<=63/\n<=40/\0<=t/\t<=900 /\
 ∀ (p:Addr) (rs:List (List Int)) (op:List Nat) (H':Hp),ag H H'->H p=none->aO H H' p rs->cT rs op n->Q (.ref p) H'
noncomputable def nq (K:W.Frag) (_:bM):Sp:=fun vs H Q _=>∃ (l:Addr) (H0:Hp) (rs:List (List Int)),vs=[.ref l]/\aO H0 H l rs/\rs.length<=40/\∀ (p:Addr) (H':Hp),ag H H'->H p=none->aO H H' p rs->Q (.ref p) H'
noncomputable def qg (_:W.Frag) (ca:bM):Sp:=fun vs H Q _=>∃ (x dx:Addr) (w:Str) (l:Int),vs=[.ref x,.str w,.int l]/\H x=some (.ins ca.aN dx [])/\∀ (fs:List (Str × V)) (H':Hp),H'=upd H x (.ins ca.aN dx fs)->jA fs w l->Q .non H'
noncomputable def qj (_:W.Frag) (ca:bM):Sp:=fun vs H Q _=>∃ (x dx:Addr) (w:Str),vs=[.ref x,.str w]/\H x=some (.ins ca.aN dx [])/\∀ (fs:List (Str × V)) (H':Hp),H'=upd H x (.ins ca.aN dx fs)->jA fs w 0->Q .non H'
noncomputable def jL (_:W.Frag) (ca:bM):Sp:=fun vs H Q _=>∃ x dx,vs=[.ref x]/\H x=some (.ins ca.aN dx [])/\∀ (fs:List (Str × V)) (H':Hp),H'=upd H x (.ins ca.aN dx fs)->jA fs "bows" 0->Q .non H'
noncomputable def jQ (K:W.Frag) (_:bM):Sp:=fun vs H Q _=>∃ (l:Addr) (ns:List Int),vs=[.ref l]/\H l=some (.lst (ns.map V.int))/\ns.length < 128/\∀ H',ag H H'->Q (.bl (cA ns)) H'
noncomputable def g8 (K:W.Frag) (_:bM):Sp:=fun vs H Q _=>∃ (l:Addr),vs=[.ref l]/\((∃ (ps:List Pair),cJ H l ps/\ps.length<=1000/\∀ (p:Addr) (H':Hp),ag H H'->H p=none->H' p=some (.lst ((ax ps).map V.int))->Q (.ref p) H')\/(∃ (bs:List Addr) (xss:List (List V)),H l=some (.lst (bs.map V.ref))/\cK H bs xss/\xss.flatten.length<=1000/\∀ (p:Addr) (H':Hp),ag H H'->H p=none->H' p=some (.lst xss.flatten)->Q (.ref p) H'))
noncomputable def jE (K:W.Frag) (_:bM):Sp:=fun vs H Q _=>∃ (l:Addr) (ps:List Pair),vs=[.ref l]/\cJ H l ps/\Q (.bl (cE ps)) H
noncomputable def ni (K:W.Frag) (_:bM):Sp:=fun vs H Q _=>∃ (x l:Addr) (ps:List Pair),vs=[.ref x,.ref l]/\cJ H l ps/\ps.length<=60/\∀ H',ag H H'->Q (.bl (cX ps)) H'
noncomputable def jW (K:W.Frag) (ca:bM):Sp:=fun vs H Q _=>∃ (x dx:Addr) (fs:List (Str × V)) (l:Addr) (ps:List Pair),vs=[.ref x,.ref l]/\H x=some (.ins ca.aN dx fs)/\fs.lookup ("is_one" : Str)=none/\cJ H l ps/\ps.length<=60/\cX ps=true/\∀ H',ag H H'->Q .non H'
theorem qZ {b:Int}:∀ {r:List Int},r≠[]->∀ {q:Pair},q∈(r++[b]).zip ((r++[b]).drop 1)->q∈r.zip (r.drop 1)\/q=(lst r,b)
 | [],h,_,_=>absurd rfl h
 | [a],_,q,h=>.inr (List.mem_singleton.mp h)
 | a::c::t,_,q,h=>by
  have h':q∈(a,c)::((c::t)++[b]).zip (((c::t)++[b]).drop 1):=h
  rcases List.mem_cons.mp h' with rfl | h
  ·exact .inl (List.mem_cons_self ..)
  ·rw [fC]
   rcases qZ (r:=c::t) (by simp) h with z | z
   ·exact .inl (List.mem_cons_of_mem _ z)
   ·exact .inr z
noncomputable def mD (K:W.Frag) (_:bM):Sp:=fun vs H Q _=>∃ (pd:Addr) (kvs:List (Key × V)) (f:Int->Option Int) (s:Int) (n:Nat),vs=[.ref pd,.int s]/\H pd=some (.dK kvs)/\(∀ a:Int,cC kvs (.inl a)=(f a).map V.int)/\(∀ a b:Int,f a=some b->a < b/\b < (n:Int))/\n<=40/\0<=s/\s < (n:Int)/\∀ (p:Addr) (r:List Int) (H':Hp),ag H H'->H p=none->H' p=some (.lst (r.map V.int))->r≠[]->hd r=s->(∀ q∈r.zip (r.drop 1),f q.1=some q.2)->f (lst r)=none->r.length<=n->Q (.ref p) H'
noncomputable def kO (a:Int) (o:Option Int) (p:Pair):Option Int:=if p.1=2*a+1 then some (p.2 / 2) else o
noncomputable def fol (ps:List Pair) (a:Int):Option Int:=ps.foldl (kO a) none
theorem mE (a:Int):∀ (ps:List Pair) (o:Option Int),(∀ b,ps.foldl (kO a) o=some b->o=some b\/∃ p∈ps,p.1=2*a+1/\b=p.2 / 2)/\(ps.foldl (kO a) o=none->o=none/\∀ p∈ps,p.1≠2*a+1)
 | [],o=>⟨fun b h=>.inl h,fun h=>⟨h,fun p hp=>by cases hp⟩⟩
 | q::ps,o=>by
  have ih:=mE a ps (kO a o q)
  refine ⟨fun b h=>?_,fun h=>?_⟩
  ·rcases ih.1 b h with z | ⟨p,hp,z⟩
   ·unfold kO at z
    by_cases e:q.1=2*a+1
    ·rw [if_pos e] at z
     injection z with z
     exact .inr ⟨q,List.mem_cons_self ..,e,z.symm⟩
    ·rw [if_neg e] at z
     exact .inl z
   ·exact .inr ⟨p,List.mem_cons_of_mem _ hp,z⟩
  ·obtain ⟨z,al⟩:=ih.2 h
   unfold kO at z
   by_cases e:q.1=2*a+1
   ·rw [if_pos e] at z
    cases z
   ·rw [if_neg e] at z
    exact ⟨z,fun p hp=>by
     rcases List.mem_cons.mp hp with rfl | hp
     ·exact e
     ·exact al p hp⟩
theorem mF {ps:List Pair} {i:Nat} {p:Pair} (h:ps[i]? = some p) (a:Int):fol (ps.take (i+1)) a=if p.1=2*a+1 then some (p.2 / 2) else fol (ps.take i) a:=by
 unfold fol
 rw [List.take_add_one,h,List.foldl_append]
 rfl
theorem rQ {ps:List Pair} (h:aV ps) {a b:Int} (e:fol ps a=some b):(2*a+1,2*b)∈ps:=by
 rcases (mE a ps none).1 b e with z | ⟨p,hp,e1,e2⟩
 ·cases z
 ·have od:=h.odd hp
  rw [show (2*a+1,2*b)=p from Prod.ext e1.symm (by show 2*b=p.2; lia)]
  exact hp
theorem w6 {ps:List Pair} {a:Int} (e:fol ps a=none) (y:Int):(2*a+1,y)∉ps:=fun h=>((mE a ps none).2 e).2 _ h rfl
theorem oH {ps:List Pair} {i:Nat} {p:Pair} (h:ps[i]? = some p):starts (ps.take (i+1))=starts (ps.take i)++if p.1 % 2=0 then [p.1 / 2] else []:=by
 unfold starts
 rw [List.take_add_one,h,List.filter_append,List.map_append]
 refine congrArg _ ?_
 by_cases e:p.1 % 2=0
 ·rw [if_pos e]
  show List.map _ (List.filter _ [p])=_
  rw [List.filter_cons,if_pos (decide_eq_true e)]
  rfl
 ·rw [if_neg e]
  show List.map _ (List.filter _ [p])=_
  rw [List.filter_cons,if_neg (by rw [decide_eq_false e]; decide)]
  rfl
noncomputable def jG (K:W.Frag) (ca:bM):Sp:=fun vs H Q _=>∃ (l:Addr) (ps:List Pair),vs=[.ref l]/\cJ H l ps/\ps.length<=40/\aV ps/\∀ (p:Addr) (rs:List (List Int)) (H':Hp),ag H H'->H p=none->aO H H' p rs->Paired (dk ps) (starts ps) rs->Q (.ref p) H'
theorem pZ (a b:Int):((if b < a then b else a),(if b > a then b else a))=nm a b:=by
 unfold nm
 by_cases h:a < b
 ·rw [if_neg (by lia),if_pos h,if_pos h]
 ·rw [if_neg h]
  by_cases e:a=b
  ·subst e; simp
  ·rw [if_pos (by lia),if_neg (by lia)]
noncomputable def nX (K:W.Frag) (_:bM):Sp:=fun vs H Q _=>∃ (l:Addr) (ps:List Pair),vs=[.ref l]/\cJ H l ps/\ps.length < 64/\∀ (q:Addr) (qs:List Pair) (H':Hp),ag H H'->H q=none->cJ H' q qs->qs.Perm (ps.map fun p=>nm p.1 p.2)->qs.Pairwise cc->Q (.ref q) H'
noncomputable def tn (st m:Int) (p:Pair):Pair:=((p.1+st) % m,(p.2+st) % m)
noncomputable def kc (K:W.Frag) (_:bM):Sp:=fun vs H Q _=>∃ (l:Addr) (ps:List Pair) (st m:Int),vs=[.ref l,.int st,.int m]/\cJ H l ps/\ps.length < 64/\(ps≠[]->0 < m)/\∀ (q:Addr) (qs:List Pair) (H':Hp),ag H H'->H q=none->cJ H' q qs->qs.Perm (ps.map fun p=>nm (tn st m p).1 (tn st m p).2)->qs.Pairwise cc->Q (.ref q) H'
noncomputable def nG (K:W.Frag) (ca:bM):Sp:=fun vs H Q _=>∃ (l:Addr) (ps:List Pair),vs=[.ref l]/\cJ H l ps/\ps.length<=40/\aV ps/\∀ (q:Addr) (qs:List Pair) (H':Hp),ag H H'->H q=none->cJ H' q qs->qs.Perm (ps.map (rtD (2*(ps.length:Int))))->qs.Pairwise cc->Q (.ref q) H'
noncomputable def qe (_:W.Frag) (ca:bM):Sp:=fun vs H Q _=>∃ (x dx:Addr) (w:Str) (l:Int),vs=[.ref x,.str w,.int l]/\H x=some (.ins ca.aJ dx [])/\∀ (fs:List (Str × V)) (H':Hp),H'=upd H x (.ins ca.aJ dx fs)->jA fs w l->Q .non H'
noncomputable def pU (_:W.Frag) (ca:bM):Sp:=fun vs H Q _=>∃ (x dx:Addr) (w:Str),vs=[.ref x,.str w]/\H x=some (.ins ca.aJ dx [])/\∀ (fs:List (Str × V)) (H':Hp),H'=upd H x (.ins ca.aJ dx fs)->jA fs w 0->Q .non H'
noncomputable def qf (_:W.Frag) (ca:bM):Sp:=fun vs H Q _=>∃ x dx,vs=[.ref x]/\H x=some (.ins ca.aJ dx [])/\∀ (fs:List (Str × V)) (H':Hp),H'=upd H x (.ins ca.aJ dx fs)->jA fs "rooms" 0->Q .non H'
noncomputable def kd (K:W.Frag) (_:bM):Sp:=fun vs H Q _=>∃ (l:Addr) (H0:Hp) (rs:List (List Int)),vs=[.ref l]/\aO H0 H l rs/\rs.length<=100/\rs.flatten.length<=1000/\∀ (p:Addr) (H':Hp),ag H H'->H p=none->cJ H' p (bV rs)->Q (.ref p) H'
noncomputable def mX (K:W.Frag) (_:bM):Sp:=fun vs H Q _=>∃ (x l:Addr) (H0:Hp) (rs:List (List Int)),vs=[.ref x,.ref l]/\aO H0 H l rs/\rs.length<=60/\rs.flatten.length < 128/\(∀ r∈rs,r.length < 64)/\∀ H',ag H H'->Q (.bl (cm rs)) H'
noncomputable def qi (K:W.Frag) (ca:bM):Sp:=fun vs H Q _=>∃ (x dx:Addr) (fs:List (Str × V)) (l:Addr) (H0:Hp) (rs:List (List Int)),vs=[.ref x,.ref l]/\H x=some (.ins ca.aJ dx fs)/\fs.lookup ("is_one" : Str)=none/\aO H0 H l rs/\rs.length<=60/\rs.flatten.length < 128/\(∀ r∈rs,r.length < 64)/\cm rs=true/\∀ H',ag H H'->Q .non H'
noncomputable def jY (K:W.Frag) (ca:bM):Sp:=fun vs H Q _=>∃ (l:Addr) (H0:Hp) (rs:List (List Int)) (n:Nat),vs=[.ref l]/\aO H0 H l rs/\Gd rs n/\n<=40/\∀ (p:Addr) (qs:List Pair) (H':Hp),ag H H'->H p=none->cJ H' p qs->qs.Perm (ft rs)->qs.Pairwise cc->Q (.ref p) H'
noncomputable def nP (K:W.Frag) (ca:bM):Sp:=fun vs H Q _=>∃ (l:Addr) (H0:Hp) (rs:List (List Int)) (n:Nat),vs=[.ref l]/\aO H0 H l rs/\Gd rs n/\n<=40/\∀ (p:Addr) (ps qs:List Pair) (gs:List (List Int)) (H':Hp),ag H H'->H p=none->aO H H' p gs->ps.Perm (ft rs)->aV ps->ps.length=n->qs.Perm (ps.map (rtD (2*(ps.length:Int))))->aV qs->qs.length=n->Paired (dk qs) (starts qs) gs->Q (.ref p) H'
noncomputable def mI (K:W.Frag) (ca:bM):Sp:=fun vs H Q _=>∃ (l:Addr) (ps:List Pair),vs=[.ref l]/\cJ H l ps/\ps.length<=40/\aV ps/\∀ (q:Addr) (qs:List Pair) (H':Hp),ag H H'->H q=none->cJ H' q qs->qs.Perm (ps.map (rtU (2*(ps.length:Int))))->qs.Pairwise cc->Q (.ref q) H'
noncomputable def mO (K:W.Frag) (ca:bM):Sp:=fun vs H Q _=>∃ (l:Addr) (H0:Hp) (rs:List (List Int)) (n:Nat),vs=[.ref l]/\aO H0 H l rs/\Gd rs n/\n<=40/\∀ (p:Addr) (ps qs:List Pair) (gs:List (List Int)) (H':Hp),ag H H'->H p=none->aO H H' p gs->ps.Perm (ft rs)->aV ps->ps.length=n->qs.Perm (ps.map (rtU (2*(ps.length:Int))))->aV qs->qs.length=n->Paired (dk qs) (starts qs) gs->Q (.ref p) H'
noncomputable def j0 (_:W.Frag) (_:bM):Sp:=fun vs H Q _=>∃ n:Int,vs=[.int n]/\Q (.bl true) H
noncomputable def m5 (K:W.Frag) (_:bM):Sp:=fun vs H Q _=>∃ (p r:Addr) (ns:List Int),vs=[.ref p,.ref r]/\H p=some (.lst (ns.map V.int))/\H r=some (.lst (ns.map V.int))/\ns.length<=1000/\Q (.bl true) H
noncomputable def mH (K:W.Frag) (_:bM):Sp:=fun vs H Q _=>∃ (p r:Addr) (H0 H1:Hp) (rs:List (List Int)),vs=[.ref p,.ref r]/\aO H0 H p rs/\aO H1 H r rs/\rs.length<=1000/\(∀ x∈rs,x.length<=1000)/\Q (.bl true) H
noncomputable def n5 (K:W.Frag) (_:bM):Sp:=fun vs H Q _=>∃ (p r:Addr) (ps:List Pair),vs=[.ref p,.ref r]/\cJ H p ps/\cJ H r ps/\ps.length<=1000/\Q (.bl true) H
noncomputable def p4 (K:W.Frag) (_:bM):Sp:=fun vs H Q _=>∃ (l:Addr) (H0:Hp) (rs:List (List Int)) (n:Nat),vs=[.ref l,.int n]/\aO H0 H l rs/\Gd rs n/\n<=40/\∀ (p:Addr) (qs:List Pair) (H':Hp),ag H H'->H p=none->cJ H' p qs->qs.Perm ((ft rs).map (rtD (2*(n:Int))))->qs.Pairwise cc->Q (.ref p) H'
noncomputable def fv (lo hi x:Int):Bool:=decide (lo<=x/\x < hi)
def oO (lo hi:Int) (r:List Int):Prop:=(∀ x∈r,lo<=x/\x < hi)\/∀ x∈r,¬ (lo<=x/\x < hi)
theorem sU {lo hi:Int} {r:List Int} (h:(r.filter (fv lo hi)).length=0):oO lo hi r:=.inr fun x hx z=>by
 have:x∈r.filter (fv lo hi):=List.mem_filter.mpr ⟨hx,decide_eq_true z⟩
 rw [List.eq_nil_of_length_eq_zero h] at this
 cases this
theorem vK {lo hi:Int} {r:List Int} (h:(r.filter (fv lo hi)).length=r.length):oO lo hi r:=.inl fun x hx=>of_decide_eq_true (List.filter_eq_self.mp (List.Sublist.eq_of_length List.filter_sublist h) x hx)
theorem uT {lo hi:Int} {r:List Int} (h:(r.filter (fv lo hi)).length≠0) (h':(r.filter (fv lo hi)).length≠r.length):¬ oO lo hi r:=by
 rintro (z | z)
 ·exact h' (by rw [List.filter_eq_self.mpr fun x hx=>(show fv lo hi x=true from decide_eq_true (z x hx))])
 ·exact h (by rw [List.filter_eq_nil_iff.mpr fun x hx=>by rw [fv,decide_eq_false (z x hx)]; decide]; rfl)
noncomputable def nv (K:W.Frag) (_:bM):Sp:=fun vs H Q _=>∃ (l:Addr) (H0:Hp) (rs:List (List Int)) (lo hi:Int),vs=[.ref l,.int lo,.int hi]/\aO H0 H l rs/\(∀ r∈rs,r.length<=40)/\∀ (b:Bool) (H':Hp),ag H H'->(b=true↔iS rs lo hi)->Q (.bl b) H'
noncomputable def mt (J:Option Nat) (zs:List V) (i:Nat):List V:=match J with
 | none=>[]
 | some j=>if j < i then (zs[j]?).toList else []
theorem vk (J:Option Nat) {zs:List V} {i:Nat} {v:V} (h:zs[i]? = some v):mt J zs (i+1)=mt J zs i++if J=some i then [v] else []:=by
 cases J with
 | none=>rfl
 | some j =>
  show (if j < i+1 then (zs[j]?).toList else [])=(if j < i then (zs[j]?).toList else [])++if some j=some i then [v] else []
  rcases Nat.lt_trichotomy j i with l | l | l
  ·rw [if_pos (by lia),if_pos l,if_neg (fun z=>by injection z; lia),List.append_nil]
  ·subst l
   rw [if_pos (by lia),if_neg (by lia),if_pos rfl,h]
   rfl
  ·rw [if_neg (by lia),if_neg (by lia),if_neg (fun z=>by injection z; lia)]
   rfl
theorem wo (J:Option Nat) (zs:List V) (i:Nat):(mt J zs i).length<=i:=by
 cases J with
 | none=>exact Nat.zero_le _
 | some j =>
  show (if j < i then (zs[j]?).toList else []).length<=i
  by_cases l:j < i
  ·rw [if_pos l]
   cases zs[j]? with
   | none=>exact Nat.zero_le _
   | some v=>show 1<=i; lia
  ·rw [if_neg l]
   exact Nat.zero_le _
noncomputable def nM (K:W.Frag) (_:bM):Sp:=fun vs H Q _=>∃ (l:Addr) (H0:Hp) (rs G:List (List Int)) (n:Nat) (by':Int),vs=[.ref l,.int n,.int by']/\aO H0 H l rs/\(∀ r∈rs,r.length<=40)/\Gd G n/\n<=40/\(∀ s∈G,∀ k:Int,hd s < k->k < (n:Int)->(k∈s↔iS rs (hd s+by') (k+by')))/\∀ (p:Addr) (H':Hp),ag H H'->H p=none->aO H H' p G->Q (.ref p) H'
noncomputable def wY (K:W.Frag) (_:bM):Sp:=fun vs H Q _=>∃ (a:Addr) (ns:List Int),vs=[.ref a]/\aj K H a (ns.map V.int)/\ns.length<=63/\∀ H',Q (.bl true) H'
section
variable {P:Program} {w:World} {K:W.Frag} {mg:Str->Option Value} {base:Heap} {ca:bM} (CA:xg K mg ca) {f:Addr} {fd:FuncData}
include CA
theorem xM (F:bG K "_law_cell_at" "_law_cell_at" iR f fd) (aI:mg "len" = none):aL P w K mg base bC 1 f fd ["_law_script","_law_k"] (m8 K ca):=by
 refine F.ok wD (fun vs H Q E h=>?_) (fun cdv A outer s H vs Q E hr h=>?_)
 ·obtain ⟨a,ns,k,rfl,hS,h0,q⟩:=h
  rfl
 obtain ⟨a,ns,k,rfl,hS,h0,q⟩:=h
 refine ⟨_,aq (bK (bj gy (pv 1) (aw aB rfl aI bt (aa (pv 0) ae)) (bA _)) (ak (aD (br aR (pv 0) (pv 1) (fun _ _=>rfl)))) aW)
  (ak (aD ar)),?_⟩
 have hl:(ns.map V.int).length=ns.length:=List.length_map _
 refine ⟨_,rfl,_,rfl,a,_,rfl,.inl hS,_,_,rfl,rfl,_,rfl,uu (fun c=>?_) (fun c=>?_)⟩
 ·have c':k < (((ns.map V.int).length:Nat):Int):=of_decide_eq_true c
  rw [hl] at c'
  exact ⟨_,rfl,_,rfl,a,_,_,_,rfl,rfl,hS,dF h0 c',q⟩
 ·have c':¬ k < (((ns.map V.int).length:Nat):Int):=of_decide_eq_false (Bool.eq_false_iff.mpr c)
  rw [hl] at c'
  have e:ns.getD k.toNat 0=0:=by rw [List.getD_eq_getElem?_getD,List.getElem?_eq_none (by lia)]; rfl
  rw [e] at q
  exact q
theorem wZ (F:bG K "_law_mix" "_law_mix" iH f fd):aL P w K mg base bC 1 f fd ["_law_cell","_law_turn"] (mY K ca):=by
 refine F.ok rj (fun vs H Q E h=>?_) (fun cdv A outer s H vs Q E hr h=>?_)
 ·obtain ⟨c,t,rfl,h0,h1,q⟩:=h
  rfl
 obtain ⟨c,t,rfl,h0,h1,q⟩:=h
 refine ⟨_,aq (bh (i:=2) rj.nd rfl (Or.inl rfl) (ay bN (ay bY (ay cG (ay cG (ay bN (pv 0) ar) (ay bY (ay bY (pv 1) (pv 1)) ar)) ar) ar) ar))
  (ak (aD (ay bN (ay cG (ay bY (pv 2) (pv 2)) (ay bY ar (pv 1))) ar))),?_⟩
 refine ⟨_,rfl,_,_,rfl,rfl,pm (by decide),_,rfl,_,rfl,_,_,rfl,rfl,.inl ⟨by lia,by lia⟩,_,_,rfl,rfl,.inr ⟨by decide,by decide⟩,_,_,rfl,rfl,_,_,rfl,rfl,_,_,rfl,rfl,.inr ⟨by decide,by decide⟩,_,_,rfl,rfl,pm (by decide),?_⟩
 have b0:=Int.emod_nonneg ((c % 2147483647+t*t*7919+104729)*48271) (show (2147483647:Int)≠0 by decide)
 have b1:=Int.emod_lt_of_pos ((c % 2147483647+t*t*7919+104729)*48271) (show (0:Int) < 2147483647 by decide)
 try dsimp only
 generalize (c % 2147483647+t*t*7919+104729)*48271 % 2147483647=n at *
 exact ⟨_,rfl,_,rfl,_,_,rfl,rfl,.inl ⟨by lia,by lia⟩,_,rfl,_,_,rfl,rfl,.inl ⟨by decide,by decide⟩,_,_,rfl,rfl,_,_,rfl,rfl,pm (by decide),q _ (Int.emod_nonneg _ (by decide)) (Int.emod_lt_of_pos _ (by decide))⟩
theorem xH (F:bG K "_law_draws" "_law_draws" iY f fd) {f0:Addr} {fd0:FuncData} (qc:Def P w K mg base "_law_mix" ["_law_cell","_law_turn"] 1 (mY K ca) f0 fd0) (aT:mg "range" = none) (aI:mg "len" = none):aL P w K mg base bC 2 f fd ["_law_script","_law_turn","_law_many"] (n6 K ca):=by
 refine F.ok ee (fun vs H Q E h=>?_) (fun cdv A outer s H vs Q E hr h=>?_)
 ·obtain ⟨a,ns,t,m,rfl,hS,h63,t0,t1,m0,m1,q⟩:=h
  rfl
 obtain ⟨a,ns,t,m,rfl,hS,h63,t0,t1,m0,m1,q⟩:=h
 refine ⟨_,aq (bh (i:=3) ee.nd rfl (Or.inl rfl) (ay nW (gi iP (pv 0) iu (iT ar)) (cq (aa (pv 1) ae))))
  (aq (bh (i:=4) ee.nd rfl (Or.inl rfl) (cq ae))
  (aq (bK (bj mv (ay bN (ay cV (br aR (pv 3) ar (fun _ _=>rfl)) ar) ar) ar (bA _)) (aq (eQ (i:=5) ee.nd rfl (Or.inl rfl) rfl rfl (bz (pv 3)) rfl rfl rfl rfl (N:=["_law_cell"]) (.own .nil) (fun _ _ _ _ _ _=>(aF (i:=0) (by show List.Nodup (["_law_cell"]:List Str); decide +kernel) rfl (Or.inl rfl))) (fun _ _ _ _ _ _=>dh) (fun _ _ _ _ _ _=>(ay cV (pv 0) ar)))
  (aq (cz PassesOwn.never rfl (dc rfl aT (aa (ay cG (pv 1) (pv 2)) ae)) (aF (i:=6) ee.nd rfl (Or.inl rfl)) (aq (bh (i:=7) ee.nd rfl (Or.inl rfl) (ay bN (pv 6) (aw aB rfl aI bt (aa (pv 5) ae))))
  (aq (aX (di PySem.F.plainAttrs_list PySem.F.slot_list_append PySem.F.type_list_append bE (pv 4) (aa (ay bN (br aR (pv 5) (pv 7) (fun _ _=>rfl)) ar) ae)))
  (ak (we (ay cV (br aR (pv 5) (pv 7) (fun _ _=>rfl)) ar) (vX (pv 5) (pv 7) set_list))))))
  (ak (aD (gi iP (pv 4) (iT (pv 1)) iu))))) aW)
  (aq (cz PassesOwn.never rfl (dc rfl aT (aa (pv 2) ae)) (aF (i:=6) ee.nd rfl (Or.inl rfl)) (aq (bh (i:=8) ee.nd rfl (Or.inl rfl) (aG qc hr (aa (br aR (pv 3) (ay bN (pv 6) (aw aB rfl aI bt (aa (pv 3) ae))) (fun _ _=>rfl)) (aa (ay cG (pv 6) (pv 1)) ae))))
  (ak (aX (di PySem.F.plainAttrs_list PySem.F.slot_list_append PySem.F.type_list_append bE (pv 4) (aa (ay bN (ay cG (ay bY (pv 8) (pv 8)) (ay bY ar (pv 6))) ar) ae))))))
  (ak (aD (pv 4)))))),?_⟩
 have M:∀ x:Int,0<=x % 2147483587/\x % 2147483587 < 2147483587:=fun x=>⟨Int.emod_nonneg x (by decide),Int.emod_lt_of_pos x (by decide)⟩
 refine ⟨_,rfl,_,rfl,a,_,rfl,hS,fun p1 hp1=>⟨_,rfl,(by show 1<=sizeLine; decide),fun p2 hp2=>?_⟩⟩
 have n12:p1≠p2:=au af hp2
 have s1:=ag.new (ag.refl H) hp1 (.lst (de (ns.map V.int) none (some 63)))
 have s2:=ag.new s1 hp2 (.lst [.int t])
 have lc:(dy ns none (some 63)).length<=63:=Nat.le_trans (ot _ _ _) h63
 refine ⟨p1,p2,_,_,rfl,rfl,(ao n12).trans af,af,?_,fun pc hpc=>?_⟩
 ·rw [gz,List.length_map]; exact sz (by simp; lia)
 have s3:=ag.new s2 hpc (.lst (de (ns.map V.int) none (some 63)++[.int t]))
 have ecs:de (ns.map V.int) none (some 63)++[.int t]=(dy ns none (some 63)++[t]).map V.int:=by rw [gz,List.map_append]; rfl
 have lcs:1<=(dy ns none (some 63)++[t]).length/\(dy ns none (some 63)++[t]).length<=64:=by rw [List.length_append]; constructor<;>simp<;>lia
 rw [ecs] at s3 |-
 generalize hH3:upd (upd (upd H p1 (.lst (de (ns.map V.int) none (some 63)))) p2 (.lst [.int t])) pc (.lst ((dy ns none (some 63)++[t]).map V.int))=H3 at s3 |-
 have hc3:H3 pc=some (.lst ((dy ns none (some 63)++[t]).map V.int)):=by rw [<- hH3]; exact af
 generalize dy ns none (some 63)++[t]=cs at hc3 lcs |-
 refine ⟨Nat.zero_le _,fun pf hpf=>?_⟩
 have s4:=ag.new s3 hpf (.lst [])
 have fpf:H pf=none:=s3.free hpf
 have ncf:pc≠pf:=au hc3 hpf
 have hc4:upd H3 pf (.lst []) pc=some (.lst (cs.map V.int)):=(ao ncf).trans hc3
 have hf4:upd H3 pf (.lst []) pf=some (.lst (([]:List Int).map V.int)):=af
 generalize upd H3 pf (.lst [])=H4 at s4 hc4 hf4 |-
 have at0:=dF (ns:=cs) (i:=0) (by decide) (by lia)
 have lm:(cs.map V.int).length=cs.length:=List.length_map _
 refine ⟨_,rfl,pc,_,_,_,rfl,rfl,aj.of hc4,at0,_,_,rfl,rfl,⟨by decide,by decide +kernel⟩,_,_,rfl,rfl,pm (by decide),rfl,_,rfl,uu (fun _=>?_) (fun _=>?_)⟩
 ·refine ⟨_,rfl,pc,rfl,⟨_,aj.of hc4⟩,fun D hD=>sC (fun v=>match v with | .int c=>.int (c / 100000) | v=>v) (by rw [lm]; exact sz (by lia)) (aj.of hc4) hD (fun i x H' R R0 hx hb hR=>?_) ?_⟩
  ·obtain ⟨c,rfl⟩:=fU hx
   exact ⟨Ext.set rfl,jZ (cp ⟨_,rfl,_,_,rfl,rfl,⟨by decide,by decide +kernel⟩,hR⟩)⟩
  ·have fD:H D=none:=s4.free hD
   have nfD:pf≠D:=au hf4 hD
   have el:(cs.map V.int).map (fun v=>match v with | .int c=>V.int (c / 100000) | v=>v)=(cs.map (· / 100000)).map V.int:=by rw [List.map_map,List.map_map]; rfl
   rw [el]
   refine ⟨_,rfl,_,rfl,_,_,rfl,rfl,_,rfl,by lia,by lia,cW (lo:=0) (n:=(t+m).toNat) (fun i σ H'=>∃ (o1 o2 o3:Option V) (ls fs:List Int),σ=[some (.ref a),some (.int t),some (.int m),some (.ref pc),some (.ref pf),some (.ref D),o1,o2,o3]/\ag H H'/\H' D=some (.lst (ls.map V.int))/\ls.length=cs.length/\H' pf=some (.lst (fs.map V.int))/\fs.length=i/\∀ x∈fs,0<=x/\x < 2147483587)
    ⟨_,_,_,_,[],rfl,ag.new s4 hD _,af,by simp,(ao nfD).trans hf4,rfl,by simp⟩ ?_ ?_⟩
   ·rintro i σ H5 hi ⟨o1,o2,o3,ls,fs,rfl,sm,hl,ll,hf,lf,bf⟩
    have lml:(ls.map V.int).length=ls.length:=List.length_map _
    have pos:(0:Int) < (((ls.map V.int).length:Nat):Int):=by rw [lml]; lia
    have k0:=Int.emod_nonneg ((0:Int)+(i:Int)) (show (((ls.map V.int).length:Nat):Int)≠0 by lia)
    have k1:=Int.emod_lt_of_pos ((0:Int)+(i:Int)) pos
    refine ⟨_,rfl,_,rfl,D,_,rfl,.inl (aj.of hl),_,_,rfl,rfl,pos,?_⟩
    try dsimp only
    generalize ((0:Int)+(i:Int)) % (((ls.map V.int).length:Nat):Int)=k at k0 k1 |-
    rw [lml] at k1
    have atk:=dF (ns:=ls) (i:=k) k0 k1
    refine ⟨_,rfl,.inl ⟨rfl,_,aj.of hf⟩,_,rfl,_,rfl,D,_,_,_,rfl,rfl,aj.of hl,atk,_,_,rfl,rfl,pm (by decide),pf,_,_,rfl,rfl,hf,by rw [List.length_map]; exact eI (by lia),?_⟩
    have hl6:upd H5 pf (.lst (fs.map V.int++[.int (ls.getD k.toNat 0 % 2147483587)])) D=some (.lst (ls.map V.int)):=(ao (Ne.symm nfD)).trans hl
    refine ⟨_,rfl,_,rfl,D,_,_,_,rfl,rfl,aj.of hl6,atk,_,_,rfl,rfl,⟨by decide,by decide +kernel⟩,_,rfl,_,rfl,D,_,_,_,rfl,rfl,hl6,vC k0 (by rw [lml]; exact k1),?_⟩
    refine ⟨_,_,_,ls.set k.toNat (ls.getD k.toNat 0 / 2147483587),fs++[ls.getD k.toNat 0 % 2147483587],rfl,(sm.upd fpf _).upd fD _,?_,by simpa using ll,?_,by simp [lf],?_⟩
    ·rw [af,List.map_set]
    ·rw [ao nfD,af,List.map_append]; rfl
    ·intro x hx
     rcases List.mem_append.mp hx with z | z
     ·exact bf x z
     ·have:x=ls.getD k.toNat 0 % 2147483587:=by simpa using z
      rw [this]; exact M _
   ·rintro σ H5 ⟨o1,o2,o3,ls,fs,rfl,sm,hl,ll,hf,lf,bf⟩
    refine ⟨_,rfl,_,rfl,_,rfl,pf,_,rfl,aj.of hf,fun pr hpr=>?_⟩
    rw [gz,sG fs t0]
    refine q pr (fs.drop t.toNat) _ (ag.new sm hpr _) (sm.free hpr) af ?_ fun x hx=>bf x (List.mem_of_mem_drop hx)
    rw [List.length_drop,lf]; lia
 ·refine ⟨_,rfl,_,rfl,by lia,by lia,cW (lo:=0) (n:=m.toNat) (fun i σ H'=>∃ (o1 o2 o3 o4:Option V) (fs:List Int),σ=[some (.ref a),some (.int t),some (.int m),some (.ref pc),some (.ref pf),o1,o2,o3,o4]/\ag H H'/\H' pc=some (.lst (cs.map V.int))/\H' pf=some (.lst (fs.map V.int))/\fs.length=i/\∀ x∈fs,0<=x/\x < 2147483587)
   ⟨_,_,_,_,[],rfl,s4,hc4,hf4,rfl,by simp⟩ ?_ ?_⟩
  ·rintro i σ H5 hi ⟨o1,o2,o3,o4,fs,rfl,sm,hc,hf,lf,bf⟩
   have pos:(0:Int) < (((cs.map V.int).length:Nat):Int):=by rw [lm]; lia
   have k0:=Int.emod_nonneg ((0:Int)+(i:Int)) (show (((cs.map V.int).length:Nat):Int)≠0 by lia)
   have k1:=Int.emod_lt_of_pos ((0:Int)+(i:Int)) pos
   have atk:=dF (ns:=cs) (i:=((0:Int)+(i:Int)) % (((cs.map V.int).length:Nat):Int)) k0 (by rw [<- lm]; exact k1)
   refine ⟨_,rfl,_,rfl,_,rfl,pc,_,rfl,.inl (aj.of hc),_,_,rfl,rfl,pos,pc,_,_,_,rfl,rfl,aj.of hc,atk,_,rfl,_,rfl,_,_,rfl,rfl,_,_,rfl,by lia,by lia,fun x x0 x1=>?_⟩
   refine ⟨_,rfl,.inl ⟨rfl,_,aj.of hf⟩,_,rfl,_,rfl,_,_,rfl,rfl,.inl ⟨by lia,by lia⟩,_,rfl,_,_,rfl,rfl,.inl ⟨by decide,by decide⟩,_,_,rfl,rfl,_,_,rfl,rfl,pm (by decide),pf,_,_,rfl,rfl,hf,by rw [List.length_map]; exact eI (by lia),?_⟩
   refine ⟨_,_,_,_,fs++[(x*x+7*((0:Int)+(i:Int))) % 2147483587],rfl,sm.upd fpf _,(ao ncf).trans hc,?_,by simp [lf],?_⟩
   ·rw [af,List.map_append]; rfl
   ·intro y hy
    rcases List.mem_append.mp hy with z | z
    ·exact bf y z
    ·have:y=(x*x+7*((0:Int)+(i:Int))) % 2147483587:=by simpa using z
     rw [this]; exact M _
  ·rintro σ H5 ⟨o1,o2,o3,o4,fs,rfl,sm,hc,hf,lf,bf⟩
   exact ⟨_,rfl,q pf fs H5 sm fpf hf lf bf⟩
theorem xk (F:bG K "_law_rooms_by" "_law_rooms_by" iU f fd) {f0:Addr} {fd0:FuncData} (pV:Def P w K mg base "_law_draws" ["_law_script","_law_turn","_law_many"] 2 (n6 K ca) f0 fd0) (fL:mg "enumerate" = none) (aI:mg "len" = none):aL P w K mg base bC 3 f fd ["_law_script","_law_size","_law_turn"] (mS K ca):=by
 refine F.ok fO (fun vs H Q E h=>?_) (fun cdv A outer s H vs Q E hr h=>?_)
 ·obtain ⟨a,ns,n,t,rfl,hS,h63,hn,t0,t1,q⟩:=h
  rfl
 obtain ⟨a,ns,n,t,rfl,hS,h63,hn,t0,t1,q⟩:=h
 refine ⟨_,aq (bh (i:=3) fO.nd rfl (Or.inl rfl) (cq ae))
  (aq (bh (i:=4) fO.nd rfl (Or.inl rfl) (cq ae))
  (aq (cz PassesOwn.never rfl (u4 rfl fL (aa (aG pV hr (aa (pv 0) (aa (pv 2) (aa (pv 1) ae)))) ae)) (gZ rfl (aY (aF (i:=5) fO.nd rfl (Or.inl rfl)) (aY (aF (i:=6) fO.nd rfl (Or.inl rfl)) dj))) (aq (bh (i:=4) fO.nd rfl (Or.inl rfl) (gi iP (pv 4) iu (iT (ay nF (aw aB rfl aI bt (aa (pv 4) ae)) (ay bY (ay bN (pv 6) (ay cG (aw aB rfl aI bt (aa (pv 4) ae)) ar)) (ay bN (ay cV (pv 6) ar) ar))))))
  (ak (bK (PW.pt (om (bj (pT (yP hr)) (pv 4) (cq ae) (bA _)) (kT (bj mv (ay bN (ay cV (pv 6) ar) ar) ar (bA _))))) (ak (aX (di PySem.F.plainAttrs_list PySem.F.slot_list_append PySem.F.type_list_append bE (br aR (pv 3) (br aR (pv 4) (j9 gU ar) (fun _ _=>rfl)) (fun _ _=>rfl)) (aa (pv 5) ae)))) (aq (aX (di PySem.F.plainAttrs_list PySem.F.slot_list_append PySem.F.type_list_append bE (pv 4) (aa (aw aB rfl aI bt (aa (pv 3) ae)) ae)))
  (ak (aX (di PySem.F.plainAttrs_list PySem.F.slot_list_append PySem.F.type_list_append bE (pv 3) (aa (cq (aa (pv 5) ae)) ae)))))))))
  (ak (aD (pv 3))))),?_⟩
 refine ⟨Nat.zero_le _,fun pr hpr=>⟨Nat.zero_le _,fun pp hpp=>?_⟩⟩
 have s1:=ag.new (ag.refl H) hpr (.lst [])
 have nrp:pr≠pp:=au af hpp
 have s2:=ag.new s1 hpp (.lst [])
 have er2:upd (upd H pr (.lst [])) pp (.lst []) pr=some (.lst []):=(ao nrp).trans af
 have hp2:upd (upd H pr (.lst [])) pp (.lst []) pp=some (.lst ((([]:List Nat).map fun m:Nat=>(m:Int)).map V.int)):=af
 generalize upd (upd H pr (.lst [])) pp (.lst [])=H2 at s2 er2 hp2 |-
 refine ⟨_,rfl,_,rfl,_,rfl,a,ns,t,(n:Int),rfl,s2.seq hS,h63,t0,by lia,by lia,by lia,fun pd xs H3 s3 fd hd' lx bx=>?_⟩
 have t3:=s2.trans s3
 have hr3:aO H3 H3 pr []:=aO.nil (s3 _ _ er2)
 have lx':xs.length=n:=by lia
 have lm:(xs.map V.int).length=xs.length:=List.length_map _
 refine ⟨pd,rfl,⟨_,aj.of hd'⟩,sZ (xs:=xs.map V.int) (fun i σ H'=>∃ (o1 o2:Option V) (pq:Addr) (rs:List (List Int)) (pl:List Nat),σ=[some (.ref a),some (.int (n:Int)),some (.int t),some (.ref pr),some (.ref pq),o1,o2]/\ag H H'/\H' pd=some (.lst (xs.map V.int))/\du H3 H'/\aO H3 H' pr rs/\H' pq=some (.lst ((pl.map fun m:Nat=>(m:Int)).map V.int))/\cT rs pl i) ⟨_,_,pp,[],[],rfl,t3,hd',du.refl H3,hr3,s3 _ _ hp2,.start⟩ (fun i σ H' _ h=>by obtain ⟨_,_,_,_,_,_,_,e,_⟩:=h; exact aj.of e) ?_ ?_⟩
 ·rintro i v σ H4 T hv ⟨o1,o2,pq,rs,pl,rfl,s4,hd4,y4,hr4,hq4,rom⟩ hT
  obtain ⟨c,rfl⟩:=fU hv
  have hi:i < xs.length:=by
   have:=(List.getElem?_eq_some_iff.mp hv).1
   lia
  have lens:=rom.lens
  have k5:=ag.new (ag.refl H4) hT (.tup [.int (i:Int),.int c])
  have s5:=s4.trans k5
  have hd5:=k5 _ _ hd4
  have y5:du H3 (upd H4 T (.tup [.int (i:Int),.int c])):=y4.new T
  have hr5:=hr4.same k5
  have hq5:=k5 _ _ hq4
  have hT5:upd H4 T (.tup [.int (i:Int),.int c]) T=some (.tup [.int (i:Int),.int c]):=af
  generalize upd H4 T (.tup [.int (i:Int),.int c])=H5 at k5 s5 hd5 y5 hr5 hq5 hT5 |-
  refine ⟨T,_,rfl,cI.of hT5,rfl,_,_,rfl,_,_,rfl,rfl,?_⟩
  have lpm:((pl.map fun m:Nat=>(m:Int)).map V.int).length=pl.length:=by rw [List.length_map,List.length_map]
  have w0:=Int.emod_nonneg c (show ((((pl.map fun m:Nat=>(m:Int)).map V.int).length:Nat):Int)+1≠0 by lia)
  have w1:=Int.emod_lt_of_pos c (show (0:Int) < ((((pl.map fun m:Nat=>(m:Int)).map V.int).length:Nat):Int)+1 by lia)
  have u0:=Int.emod_nonneg (c / 97) (show (2:Int)≠0 by decide)
  have u1:=Int.emod_lt_of_pos (c / 97) (show (0:Int) < 2 by decide)
  refine ⟨_,rfl,_,rfl,pq,_,rfl,.inl (aj.of hq5),_,rfl,_,rfl,pq,_,rfl,.inl (aj.of hq5),_,_,rfl,rfl,_,_,rfl,rfl,by lia,_,rfl,_,_,rfl,rfl,⟨by decide,by decide +kernel⟩,_,_,rfl,rfl,pm (by decide),_,_,rfl,rfl,.inr ⟨by lia,by lia⟩,_,_,rfl,rfl,?_⟩
  try dsimp only
  obtain ⟨cut,ecut,hcut⟩:∃ cut:Nat,((((pl.map fun m:Nat=>(m:Int)).map V.int).length:Nat):Int) - c % (((((pl.map fun m:Nat=>(m:Int)).map V.int).length:Nat):Int)+1)*(c / 97 % 2)=(cut:Int)/\cut<=pl.length:=by
   rcases (by lia:c / 97 % 2=0\/c / 97 % 2=1) with z | z
   ·rw [z,Int.mul_zero]
    exact ⟨pl.length,by lia,Nat.le_refl _⟩
   ·rw [z,Int.mul_one]
    exact ⟨(((((pl.map fun m:Nat=>(m:Int)).map V.int).length:Nat):Int) - c % (((((pl.map fun m:Nat=>(m:Int)).map V.int).length:Nat):Int)+1)).toNat,by lia,by lia⟩
  rw [ecut]
  refine ⟨_,rfl,pq,_,rfl,aj.of hq5,fun pn hpn=>?_⟩
  rw [vd,<- List.map_take,<- List.map_take]
  have rom6:cT rs (pl.take cut) i:=cT.shuts (q:=pl.drop cut) (by rw [List.take_append_drop]; exact rom)
  generalize pl.take cut=p6 at rom6 |-
  have k6:=ag.new (ag.refl H5) hpn (.lst ((p6.map fun m:Nat=>(m:Int)).map V.int))
  have s6:=s5.trans k6
  have fpn:H pn=none:=s5.free hpn
  have hd6:=k6 _ _ hd5
  have y6:du H3 (upd H5 pn (.lst ((p6.map fun m:Nat=>(m:Int)).map V.int))):=y5.new pn
  have hr6:=hr5.same k6
  obtain ⟨zs5,ez5,lz5⟩:=hr5.len
  have nrn:pr≠pn:=au ez5 hpn
  have ndn:pd≠pn:=au hd5 hpn
  have ndr:pd≠pr:=fun z=>by rw [z,er2] at fd; cases fd
  have nbs':∀ (j:Nat) (b:Addr),zs5[j]? = some (.ref b)->b≠pn:=fun j b hb=>by
   obtain ⟨b',ns',e,_,h',_⟩:=hr5.at ez5 hb
   cases e
   exact au h' hpn
  have hn6:upd H5 pn (.lst ((p6.map fun m:Nat=>(m:Int)).map V.int)) pn=some (.lst ((p6.map fun m:Nat=>(m:Int)).map V.int)):=af
  have ez6:=k6 _ _ ez5
  generalize upd H5 pn (.lst ((p6.map fun m:Nat=>(m:Int)).map V.int))=H6 at k6 s6 hd6 y6 hr6 hn6 ez6 |-
  have lens6:=rom6.lens
  have lp6:((p6.map fun m:Nat=>(m:Int)).map V.int).length=p6.length:=by rw [List.length_map,List.length_map]
  refine ⟨_,rfl,Nat.zero_le _,fun pe hpe=>?_⟩
  have k7:=ag.new (ag.refl H6) hpe (.lst [])
  have s7:=s6.trans k7
  have hd7:=k7 _ _ hd6
  have y7:du H3 (upd H6 pe (.lst [])):=y6.new pe
  have hr7:=hr6.same k7
  have hn7:=k7 _ _ hn6
  have ez7:=k7 _ _ ez6
  have he7:upd H6 pe (.lst []) pe=some (.lst []):=af
  generalize upd H6 pe (.lst [])=H7 at k7 s7 hd7 y7 hr7 hn7 ez7 he7 |-
  have nrn7:∀ (j:Nat) (b:Addr),zs5[j]? = some (.ref b)->b≠pn:=nbs'
  refine ⟨pn,pe,_,_,rfl,rfl,aj.of hn7,aj.of he7,gQ _,rfl,_,rfl,?_⟩
  rw [show ([]:List V)=([]:List Int).map V.int from rfl,jy]
  rcases List.eq_nil_or_concat p6 with rfl | ⟨pl0,m,rfl⟩
  ·refine bB (bB ?_)
   refine ⟨_,rfl,.inl ⟨rfl,_,aj.of hn7⟩,_,rfl,pr,_,rfl,.inl (aj.of ez7),pn,_,_,rfl,rfl,hn7,by rw [lp6]; exact eI (by lia),?_⟩
   have ez8:=(ao (o:=.lst (((([]:List Nat).map fun m:Nat=>(m:Int)).map V.int)++[.int ((zs5.length:Nat):Int)])) nrn).trans ez7
   have hr8:=hr7.updX (o:=.lst (((([]:List Nat).map fun m:Nat=>(m:Int)).map V.int)++[.int ((zs5.length:Nat):Int)])) ez7 nrn nbs'
   refine ⟨_,rfl,.inl ⟨rfl,_,aj.of ez8⟩,_,rfl,(by show 1<=sizeLine; decide),fun b hb=>?_⟩
   refine ⟨pr,_,_,rfl,rfl,(ao (au ez8 hb)).trans ez8,eI (by lia),?_⟩
   have nbn:pn≠b:=au af hb
   have ndb:pd≠b:=au ((ao ndn).trans hd7) hb
   refine ⟨_,_,pn,rs++[[((i:Nat):Int)]],[]++[rs.length],rfl,((ag.new (s7.upd fpn _) hb _).upd hpr _),(ao ndr).trans ((ao ndb).trans ((ao ndn).trans hd7)),((y7.upd pn _).new b).upd pr _,hr8.snoc ez8 hb ((y7.upd pn _).free' hb) [((i:Nat):Int)],?_,rom6.opn⟩
   rw [ao (Ne.symm nrn),ao nbn,af,List.map_append,List.map_append,lz5]
   rfl
  ·rw [List.concat_eq_append] at hn7 lp6 lens6 rom6 |-
   rw [decide_eq_false (by simp)]
   refine cp ⟨_,rfl,_,_,rfl,rfl,⟨by decide,by decide +kernel⟩,_,_,rfl,rfl,pm (by decide),rfl,_,rfl,uu (fun _=>?_) (fun _=>?_)⟩
   ·have hm:m < rs.length:=lens6.2.1 m (by simp)
    obtain ⟨b,hb1,hb2,hb3,hb4⟩:=hr7.get ez7 (List.getElem?_eq_getElem hm)
    have atl:dm (((pl0++[m]).map fun m:Nat=>(m:Int)).map V.int) (-1)=some (.int (m:Int)):=by rw [List.map_append,List.map_append]; exact ny _ _
    have hml:=lens6.2.2.2 rs[m] (List.getElem_mem hm)
    have ndb:pd≠b:=fun z=>by rw [<- z,hd'] at hb3; cases hb3
    have nbn:pn≠b:=Ne.symm (nbs' m b hb1)
    refine ⟨_,rfl,_,rfl,_,rfl,pn,_,_,_,rfl,rfl,aj.of hn7,atl,pr,_,_,_,rfl,rfl,aj.of ez7,eV hb1,.inl ⟨rfl,_,aj.of hb2⟩,_,rfl,b,_,_,rfl,rfl,hb2,by rw [List.length_map]; exact eI (by lia),?_⟩
    refine ⟨_,_,pn,rs.set m (rs[m]++[((i:Nat):Int)]),pl0++[m],rfl,s7.upd (t3.free hb3) _,(ao ndb).trans hd7,y7.upd b _,?_,(ao nbn).trans hn7,rom6.put (List.getElem?_eq_getElem hm)⟩
    have:=hr7.put ez7 hb1 (rs[m]++[((i:Nat):Int)])
    rw [List.map_append] at this
    exact this
   ·refine ⟨_,rfl,.inl ⟨rfl,_,aj.of hn7⟩,_,rfl,pr,_,rfl,.inl (aj.of ez7),pn,_,_,rfl,rfl,hn7,by rw [lp6]; exact eI (by lia),?_⟩
    have ez8:=(ao (o:=.lst ((((pl0++[m]).map fun m:Nat=>(m:Int)).map V.int)++[.int ((zs5.length:Nat):Int)])) nrn).trans ez7
    have hr8:=hr7.updX (o:=.lst ((((pl0++[m]).map fun m:Nat=>(m:Int)).map V.int)++[.int ((zs5.length:Nat):Int)])) ez7 nrn nbs'
    refine ⟨_,rfl,.inl ⟨rfl,_,aj.of ez8⟩,_,rfl,(by show 1<=sizeLine; decide),fun b hb=>?_⟩
    refine ⟨pr,_,_,rfl,rfl,(ao (au ez8 hb)).trans ez8,eI (by lia),?_⟩
    have nbn:pn≠b:=au af hb
    have ndb:pd≠b:=au ((ao ndn).trans hd7) hb
    refine ⟨_,_,pn,rs++[[((i:Nat):Int)]],(pl0++[m])++[rs.length],rfl,((ag.new (s7.upd fpn _) hb _).upd hpr _),(ao ndr).trans ((ao ndb).trans ((ao ndn).trans hd7)),((y7.upd pn _).new b).upd pr _,hr8.snoc ez8 hb ((y7.upd pn _).free' hb) [((i:Nat):Int)],?_,rom6.opn⟩
    have ea:∀ (zz:List Nat) (k:Nat),(((zz++[k]).map fun m:Nat=>(m:Int)).map V.int)=((zz.map fun m:Nat=>(m:Int)).map V.int)++[V.int ((k:Nat):Int)]:=fun zz k=>by rw [List.map_append,List.map_append]; rfl
    rw [ao (Ne.symm nrn),ao nbn,af,ea (pl0++[m]) rs.length,lz5]
 ·rintro σ H4 ⟨o1,o2,pq,rs,pl,rfl,s4,hd4,y4,hr4,hq4,rom⟩
  rw [lm,lx'] at rom
  exact ⟨_,rfl,q pr rs pl H4 s4 hpr (hr4.since t3) rom⟩
theorem wM (F:bG K "_law_copy" "_law_copy" iB f fd) (bP:mg "list" = none):aL P w K mg base bC 1 f fd ["_law_rooms"] (nq K ca):=by
 refine F.ok wu (fun vs H Q E h=>?_) (fun cdv A outer s H vs Q E hr h=>?_)
 ·obtain ⟨l,H0,rs,rfl,hl,hz,q⟩:=h
  rfl
 obtain ⟨l,H0,rs,rfl,hl,hz,q⟩:=h
 refine ⟨_,ak (aD (dC rfl (bz (pv 0)) rfl rfl rfl rfl (N:=["_law_room"]) (.own .nil) (fun _ _ _ _ _ _=>(aF (i:=0) (by show List.Nodup (["_law_room"]:List Str); decide +kernel) rfl (Or.inl rfl))) (fun _ _ _ _ _ _=>dh) (fun _ _ _ _ _ _=>(rP (l0 (K:=K) rfl) rfl bP eX (aa (pv 0) ae))))),?_⟩
 obtain ⟨xl,el,lxl⟩:=hl.len
 refine ⟨_,rfl,l,rfl,⟨_,aj.of el⟩,fun D hD=>bX (xs:=xl) (fun k ys H'=>ag H H'/\H' D=some (.lst ys)/\aO H H' D (rs.take k)/\k<=rs.length) (sz (by lia)) ⟨ag.new (ag.refl H) hD _,af,aO.nil af,Nat.zero_le _⟩ (fun k ys H' hk h=>⟨aj.of (h.1 _ _ el),?_⟩) (fun k v ys H' Ra Rb hx h r r0=>?_) (fun ys H' h=>?_)⟩
 ·obtain ⟨us,eu,lu⟩:=h.2.2.1.len
  rw [h.2.1] at eu
  cases eu
  rw [lu,List.length_take]
  lia
 ·obtain ⟨sk,hy,lk,hk⟩:=h
  obtain ⟨b,ns',rfl,hn,hb',_⟩:=hl.at el hx
  have hlt:k < rs.length:=(List.getElem?_eq_some_iff.mp hn).1
  refine ⟨Ext.set rfl,jZ (cp ⟨_,rfl,b,_,rfl,.inl (aj.of (sk _ _ hb')),fun c hc=>?_⟩)⟩
  have k9:=ag.new (ag.refl H') hc (.lst (ns'.map V.int))
  refine r _ _ (k9 _ _ hy) ⟨(sk.trans k9).upd hD _,af,?_,hlt⟩
  rw [List.take_add_one,hn]
  exact lk.push hy k9 hc af (sk.free hc)
 obtain ⟨s2,hy,l2,_⟩:=h
 rw [List.take_of_length_le (by lia)] at l2
 exact q D _ s2 hD l2
theorem yg (F:bG K "__init__" "Family.__init__" kR ca.pF fd):aL P w K mg base bC 1 ca.pF fd ["self","word","least"] (qg K ca):=by
 refine F.ok yo (fun vs H Q E h=>?_) (fun cdv A outer s H vs Q E hr h=>?_)
 ·obtain ⟨x,dx,w,l,rfl,hx,q⟩:=h
  rfl
 obtain ⟨x,dx,w,l,rfl,hx,q⟩:=h
 refine ⟨_,aq (jJ (pv 0) (pv 1) rfl)
  (ak (jJ (pv 0) (pv 2) rfl)),?_⟩
 refine ⟨_,rfl,_,rfl,x,ca.aN,dx,_,rfl,hx,CA.fZ,CA.fm,(by show 0 < 1000; decide),?_⟩
 refine ⟨_,rfl,_,rfl,x,ca.aN,dx,_,rfl,af,CA.fZ,CA.eF,(by show 1 < 1000; decide),?_⟩
 exact q _ _ kz (oN w l)
theorem yd (F:bG K "__init__" "SplitFamily.__init__" kG ca.qk fd) {fd0:FuncData} (tZ:bS P w K mg base ["self","word","least"] 1 (qg K ca) ca.pF fd0):aL P w K mg base bC 3 ca.qk fd ["self","word"] (qj K ca):=by
 refine F.ok yw (fun vs H Q E h=>?_) (fun cdv A outer s H vs Q E hr h=>?_)
 ·obtain ⟨x,dx,w,rfl,hx,q⟩:=h
  rfl
 obtain ⟨x,dx,w,rfl,hx,q⟩:=h
 refine ⟨_,ak (aX (qu CA.mZ CA.cm_Family___init___Bows tZ hr (aa (pv 0) (aa (pv 1) (aa ar ae))))),?_⟩
 exact ⟨_,rfl,_,rfl,x,dx,w,0,rfl,hx,fun fs H' e f=>q fs H' e f⟩
theorem yB (F:bG K "__init__" "Bows.__init__" kN ca.kh fd) {fd0:FuncData} (t7:bS P w K mg base ["self","word"] 3 (qj K ca) ca.qk fd0):aL P w K mg base bC 5 ca.kh fd ["self"] (jL K ca):=by
 refine F.ok yH (fun vs H Q E h=>?_) (fun cdv A outer s H vs Q E hr h=>?_)
 ·obtain ⟨x,dx,rfl,hx,q⟩:=h
  rfl
 obtain ⟨x,dx,rfl,hx,q⟩:=h
 refine ⟨_,ak (aX (qu CA.gH CA.cm_SplitFamily___init___Bows t7 hr (aa (pv 0) (aa sr ae)))),?_⟩
 exact ⟨_,rfl,x,dx,_,rfl,hx,fun fs H' e f=>q fs H' e f⟩
theorem v3 (F:bG K "each_once" "each_once" ik f fd) (aU:mg "sorted" = none) (bP:mg "list" = none) (aT:mg "range" = none) (aI:mg "len" = none):aL P w K mg base bC 1 f fd ["numbers"] (jQ K ca):=by
 refine F.ok xK (fun vs H Q E h=>?_) (fun cdv A outer s H vs Q E hr h=>?_)
 ·obtain ⟨l,ns,rfl,hl,h64,q⟩:=h
  rfl
 obtain ⟨l,ns,rfl,hl,h64,q⟩:=h
 refine ⟨_,ak (aD (kU (ql (yP hr)) (aw nV rfl aU c0 (aa (pv 0) ae)) (xS rfl rfl bP rfl aT (aa (aw aB rfl aI bt (aa (pv 0) ae)) ae)) (bA _))),?_⟩
 have lm:(ns.map V.int).length=ns.length:=List.length_map _
 refine ⟨_,rfl,l,ns,rfl,aj.of hl,h64,fun ps ms hps hp hs=>?_⟩
 have s1:=ag.new (ag.refl H) hps (.lst (ms.map V.int))
 have hm1:upd H ps (.lst (ms.map V.int)) ps=some (.lst (ms.map V.int)):=af
 generalize upd H ps (.lst (ms.map V.int))=H1 at s1 hm1 |-
 refine ⟨_,rfl,l,_,rfl,.inl (aj.of (s1 _ _ hl)),_,rfl,by lia,by lia,by lia,fun pr hpr=>?_⟩
 have s2:=ag.new (ag.refl H1) hpr (.lst (d0 0 (((ns.map V.int).length:Nat):Int).toNat))
 refine ⟨ps,pr,_,_,rfl,rfl,aj.of (s2 _ _ hm1),aj.of af,gQ ms,?_,?_⟩
 ·rw [lX]; exact gQ _
 have e:jh (ms.map V.int) (d0 0 (((ns.map V.int).length:Nat):Int).toNat)=cA ns:=by
  rw [lX,jy,nL hp hs,show (((ns.map V.int).length:Nat):Int).toNat=ns.length by lia]
 have last:∀ b:Bool,b=cA ns->Q (.bl b) (upd H1 pr (.lst (d0 0 (((ns.map V.int).length:Nat):Int).toNat))):=fun b z=>by rw [z]; exact q _ (s1.trans s2)
 exact last _ e
theorem wd (F:bG K "flat" "flat" ir f fd):aL P w K mg base bC 1 f fd ["rows"] (g8 K ca):=by
 refine F.ok nu (fun vs H Q E h=>?_) (fun cdv A outer s H vs Q E hr h=>?_)
 ·obtain ⟨l,rfl,hor⟩:=h
  rfl
 obtain ⟨l,rfl,hor⟩:=h
 refine ⟨_,aq (bh (i:=1) nu.nd rfl (Or.inl rfl) (cq ae))
  (aq (cz PassesOwn.never rfl (bz (pv 0)) (aF (i:=2) nu.nd rfl (Or.inl rfl)) (ak (aX (di PySem.F.plainAttrs_list PySem.F.slot_list_extend PySem.F.type_list_extend ve (pv 1) (aa (pv 2) ae)))))
  (ak (aD (pv 1)))),?_⟩
 rcases hor with ⟨ps,hl,hz,q⟩ | ⟨bs,xss,hl,rw_,hz,q⟩
 ·obtain ⟨xs,el,lxs,pr⟩:=hl.len
  refine ⟨Nat.zero_le _,fun pf hpf=>?_⟩
  have s1:=ag.new (ag.refl H) hpf (.lst [])
  refine ⟨_,rfl,l,rfl,⟨_,aj.of (s1 _ _ el)⟩,df (xs:=xs) (fun i σ H'=>∃ (o1:Option V),σ=[some (.ref l),some (.ref pf),o1]/\ag H H'/\H' pf=some (.lst ((ax (ps.take i)).map V.int))) ⟨_,rfl,s1,af⟩ (fun i σ H' _ h=>aj.of (h.choose_spec.2.1 _ _ el)) ?_ ?_⟩
  ·rintro i v σ H2 hv ⟨o1,rfl,sm,hf⟩
   obtain ⟨pp,tt,hpp,rfl,htt⟩:=pr.get hv
   have hz2:((ax (ps.take i)).map V.int).length<=2000:=by
    rw [List.length_map,dE,List.length_take]
    lia
   refine ⟨_,rfl,.inl ⟨rfl,_,aj.of hf⟩,_,rfl,.inr ⟨pf,tt,_,_,rfl,rfl,hf,cI.of (sm _ _ htt),(by show _+2<=_; exact sz (by lia)),?_⟩⟩
   refine ⟨_,rfl,sm.upd hpf _,?_⟩
   rw [af,List.take_add_one,hpp,eA,List.map_append]
   rfl
  ·rintro σ H2 ⟨o1,rfl,sm,hf⟩
   rw [List.take_of_length_le (by lia)] at hf
   exact ⟨_,rfl,q pf H2 sm hpf hf⟩
 ·have lb:=rw_.len
  refine ⟨Nat.zero_le _,fun pf hpf=>?_⟩
  have s1:=ag.new (ag.refl H) hpf (.lst [])
  refine ⟨_,rfl,l,rfl,⟨_,aj.of (s1 _ _ hl)⟩,df (xs:=bs.map V.ref) (fun i σ H'=>∃ (o1:Option V),σ=[some (.ref l),some (.ref pf),o1]/\ag H H'/\H' pf=some (.lst (xss.take i).flatten)) ⟨_,rfl,s1,af⟩ (fun i σ H' _ h=>aj.of (h.choose_spec.2.1 _ _ hl)) ?_ ?_⟩
  ·rintro i v σ H2 hv ⟨o1,rfl,sm,hf⟩
   obtain ⟨b,xs,rfl,hx,hb⟩:=rw_.get hv
   have et:(xss.take (i+1)).flatten=(xss.take i).flatten++xs:=by
    rw [List.take_add_one,hx,List.flatten_append]
    simp
   have hz2:(xss.take i).flatten.length+xs.length<=1000:=by
    have h1:(xss.take (i+1)).flatten.length<=xss.flatten.length:=by
     conv=>rhs; rw [<- List.take_append_drop (i+1) xss,List.flatten_append,List.length_append]
     lia
    rw [et,List.length_append] at h1
    lia
   have nb:b≠pf:=au hb hpf
   refine ⟨_,rfl,.inl ⟨rfl,_,aj.of hf⟩,_,rfl,.inl ⟨pf,b,_,_,rfl,rfl,hf,sm _ _ hb,sz (by lia),?_⟩⟩
   exact ⟨_,rfl,sm.upd hpf _,by rw [af,et]⟩
  ·rintro σ H2 ⟨o1,rfl,sm,hf⟩
   rw [List.take_of_length_le (by rw [List.length_map]; lia)] at hf
   exact ⟨_,rfl,q pf H2 sm hpf hf⟩
theorem xj (F:bG K "any_cross" "any_cross" iX f fd):aL P w K mg base bC 1 f fd ["pairs"] (jE K ca):=by
 refine F.ok gT (fun vs H Q E h=>?_) (fun cdv A outer s H vs Q E hr h=>?_)
 ·obtain ⟨l,ps,rfl,hl,q⟩:=h
  rfl
 obtain ⟨l,ps,rfl,hl,q⟩:=h
 refine ⟨_,aq (cz PassesOwn.never rfl (bz (pv 0)) (gZ rfl (aY (aF (i:=1) gT.nd rfl (Or.inl rfl)) (aY (aF (i:=2) gT.nd rfl (Or.inl rfl)) dj))) (ak (cz PassesOwn.never rfl (bz (pv 0)) (gZ rfl (aY (aF (i:=3) gT.nd rfl (Or.inl rfl)) (aY (aF (i:=4) gT.nd rfl (Or.inl rfl)) dj))) (ak (bK (wX gy gy gy (pv 1) (pv 3) (pv 2) (pv 4)) (ak (aD bZ)) aW)))))
  (ak (aD bZ)),?_⟩
 obtain ⟨xs,el,lxs,pr⟩:=hl.len
 refine ⟨_,rfl,l,rfl,⟨_,aj.of el⟩,df (xs:=xs) (fun i σ H'=>∃ (o1 o2 o3 o4:Option V),σ=[some (.ref l),o1,o2,o3,o4]/\H=H'/\∀ p∈ps.take i,ps.any (fJ p)=false) ⟨_,_,_,_,rfl,rfl,by simp⟩ (fun i σ H' _ h=>by obtain ⟨_,_,_,_,_,rfl,_⟩:=h; exact aj.of el) ?_ ?_⟩
 ·rintro i v σ H2 hv ⟨o1,o2,o3,o4,rfl,rfl,al⟩
  obtain ⟨pp,tt,hpp,rfl,htt⟩:=pr.get hv
  refine ⟨tt,_,rfl,cI.of htt,rfl,_,_,rfl,_,_,rfl,rfl,?_⟩
  refine ⟨_,rfl,l,rfl,⟨_,aj.of el⟩,df (xs:=xs) (fun j σ H'=>∃ (o3 o4:Option V),σ=[some (.ref l),some (.int pp.1),some (.int pp.2),o3,o4]/\H=H'/\∀ r∈ps.take j,fJ pp r=false) ⟨_,_,rfl,rfl,by simp⟩ (fun i σ H' _ h=>by obtain ⟨_,_,_,rfl,_⟩:=h; exact aj.of el) ?_ ?_⟩
  ·rintro j v σ H3 hv ⟨o3,o4,rfl,rfl,al2⟩
   obtain ⟨rr,t2,hrr,rfl,ht2⟩:=pr.get hv
   refine ⟨t2,_,rfl,cI.of ht2,rfl,_,_,rfl,_,_,rfl,rfl,?_⟩
   have next:fJ pp rr=false->∀ r∈ps.take (j+1),fJ pp r=false:=fun hc r hr=>by
    rw [List.take_add_one,hrr] at hr
    rcases List.mem_append.mp hr with z | z
    ·exact al2 r z
    ·have:r=rr:=by simpa using z
     rw [this]; exact hc
   refine ⟨_,rfl,_,rfl,_,_,rfl,rfl,_,rfl,?_⟩
   by_cases c1:pp.1 < rr.1
   ·refine g5 c1 ⟨_,rfl,_,_,rfl,rfl,_,rfl,?_⟩
    by_cases c2:rr.1 < pp.2
    ·refine g5 c2 ⟨_,rfl,_,_,rfl,rfl,_,rfl,?_⟩
     by_cases c3:pp.2 < rr.2
     ·refine g5 c3 ?_
      have:cE ps=true:=eR.mpr ⟨pp,List.mem_of_getElem? hpp,rr,List.mem_of_getElem? hrr,c1,c2,c3⟩
      rw [this] at q
      exact q
     ·exact hV c3 ⟨_,_,rfl,rfl,next (by unfold fJ; simp [c3])⟩
    ·exact hV c2 ⟨_,rfl,bB ⟨_,_,rfl,rfl,next (by unfold fJ; simp [c2])⟩⟩
   ·exact hV c1 ⟨_,rfl,bB ⟨_,_,rfl,rfl,next (by unfold fJ; simp [c1])⟩⟩
  ·rintro σ H3 ⟨o3,o4,rfl,rfl,al2⟩
   rw [List.take_of_length_le (by lia)] at al2
   refine ⟨_,_,_,_,rfl,rfl,fun p hp=>?_⟩
   rw [List.take_add_one,hpp] at hp
   rcases List.mem_append.mp hp with z | z
   ·exact al p z
   ·have:p=pp:=by simpa using z
    rw [this,List.any_eq_false]
    intro r hr
    rw [al2 r hr]
    decide
 ·rintro σ H2 ⟨o1,o2,o3,o4,rfl,rfl,al⟩
  rw [List.take_of_length_le (by lia)] at al
  have:cE ps=false:=by
   unfold cE
   rw [List.any_eq_false]
   intro p hp
   rw [al p hp]
   decide
  rw [this] at q
  exact q
theorem xq (F:bG K "is_one" "Bows.is_one" ig ca.ml fd) {f0:Addr} {fd0:FuncData} (i4:Def P w K mg base "each_once" ["numbers"] 1 (jQ K ca) f0 fd0) {f1:Addr} {fd1:FuncData} (eM:Def P w K mg base "flat" ["rows"] 1 (g8 K ca) f1 fd1) {f2:Addr} {fd2:FuncData} (iM:Def P w K mg base "any_cross" ["pairs"] 1 (jE K ca) f2 fd2) (aU:mg "sorted" = none) (qo:mg "all" = none):aL P w K mg base bC 2 ca.ml fd ["self","thing"] (ni K ca):=by
 refine F.ok vU (fun vs H Q E h=>?_) (fun cdv A outer s H vs Q E hr h=>?_)
 ·obtain ⟨x,l,ps,rfl,hl,hz,q⟩:=h
  rfl
 obtain ⟨x,l,ps,rfl,hl,hz,q⟩:=h
 refine ⟨_,aq (bK (PW.pt (dH (bO (bL (aG i4 hr (aa (aG eM hr (aa (pv 1) ae)) ae)))) (dq (bj (rX (gv hr)) (pv 1) (aw dG rfl aU c0 (aa (pv 1) ae)) (bA _))))) (ak (aD bZ)) aW)
  (ak (aD (nA (aw (tN rfl) rfl qo vR (aa (dC rfl (bz (pv 1)) rfl rfl rfl rfl (N:=["a","b"]) (.own (.own .nil)) (fun _ _ _ _ _ _=>(fV (K:=K) (n:=2) rfl rfl (aY (aF (i:=0) (by show List.Nodup (["a","b"]:List Str); decide +kernel) rfl (Or.inl rfl)) (aY (aF (i:=1) (by show List.Nodup (["a","b"]:List Str); decide +kernel) rfl (Or.inl rfl)) dj)))) (fun _ _ _ _ _ _=>dh) (fun _ _ _ _ _ _=>(kU gy (pv 0) (pv 1) (bA _)))) ae)) (mG (nr (aG iM hr (aa (pv 1) ae))))))),?_⟩
 refine ⟨_,rfl,l,rfl,.inl ⟨ps,hl,by lia,fun pf H1 s1 f1 h1=>⟨pf,_,rfl,h1,by rw [dE]; lia,fun H2 s2=>⟨_,rfl,?_⟩⟩⟩⟩
 have s12:=s1.trans s2
 have hl2:=hl.same s12
 cases hE:cA (ax ps) with
 | false =>
  rw [rF hE] at q
  exact cp (cp (q _ s12))
 | true =>
  refine bB ⟨_,rfl,_,rfl,l,ps,rfl,hl2,by lia,fun pq qs H3 s3 f3 h3 hp hs=>?_⟩
  have s13:=s12.trans s3
  have hl3:=hl.same s13
  have ne:l≠pq:=by
   obtain ⟨_,e,_⟩:=hl2
   exact au e f3
  refine ⟨2,_,by decide,bg.prs ne hl3 h3,⟨l,pq,rfl,rfl,ne⟩,_,rfl,?_⟩
  by_cases e:ps=qs
  ·rw [oy hp hs hE e] at q
   obtain ⟨xs,el,lxs,pr⟩:=hl3.len
   rw [decide_eq_true e]
   refine bB ⟨_,rfl,l,rfl,⟨_,aj.of el⟩,fun D hD=>bX (xs:=xs) (fun i ys H'=>ag H3 H'/\H' D=some (.lst ys)/\ys=((ps.take i).map fun p=>decide (p.1 < p.2)).map V.bl/\i<=ps.length) (sz (by lia)) ⟨ag.new (ag.refl H3) hD _,af,rfl,Nat.zero_le _⟩ (fun i ys H' hi h=>⟨aj.of (h.1 _ _ el),?_⟩) (fun i x ys H' R R0 hx h r r0=>?_) (fun ys H' h=>?_)⟩
   ·rw [h.2.2.1]
    simp
    lia
   ·obtain ⟨sm,hy,ey,hi⟩:=h
    obtain ⟨pp,tt,hpp,rfl,htt⟩:=pr.get hx
    have hlt:i < ps.length:=(List.getElem?_eq_some_iff.mp hpp).1
    refine ⟨tt,_,rfl,cI.of (sm _ _ htt),rfl,_,_,rfl,_,_,rfl,rfl,(Ext.set rfl).trans (Ext.set rfl),jZ (cp ⟨_,rfl,_,rfl,_,_,rfl,rfl,?_⟩)⟩
    refine r _ _ hy ⟨sm.upd hD _,af,?_,hlt⟩
    rw [List.take_add_one,hpp,List.map_append,List.map_append,<- ey]
    rfl
   ·obtain ⟨sm,hy,ey,hi⟩:=h
    rw [List.take_of_length_le (by lia)] at ey
    have ha:(((ps.map fun p=>decide (p.1 < p.2)).map V.bl).length)=ps.length:=by simp
    rw [ey] at hy
    refine ⟨D,_,rfl,aj.of hy,_,rfl,?_⟩
    have e2:((ps.map fun p=>decide (p.1 < p.2)).all id)=ps.all fun p=>decide (p.1 < p.2):=by rw [List.all_map]; rfl
    rw [e2]
    cases hA:ps.all fun p=>decide (p.1 < p.2) with
    | false =>
     rw [hA,Bool.false_and] at q
     exact bB (q _ (s13.trans sm))
    | true =>
     rw [hA,Bool.true_and] at q
     exact cp ⟨_,rfl,l,ps,rfl,hl3.same sm,_,rfl,q _ (s13.trans sm)⟩
  ·rw [pG hp hs hE e] at q
   rw [decide_eq_false e]
   exact cp (q _ s13)
theorem yr (F:bG K "refuse_other" "Family.refuse_other" lC ca.kI fd) {fd0:FuncData} (p0:bS P w K mg base ["self","thing"] 2 (ni K ca) ca.ml fd0):aL P w K mg base bC 3 ca.kI fd ["self","thing"] (jW K ca):=by
 refine F.ok ya (fun vs H Q E h=>?_) (fun cdv A outer s H vs Q E hr h=>?_)
 ·obtain ⟨x,dx,fs,l,ps,rfl,hx,fo,hl,hz,hB,q⟩:=h
  rfl
 obtain ⟨x,dx,fs,l,ps,rfl,hx,fo,hl,hz,hB,q⟩:=h
 refine ⟨_,ak (bK (bO (bL (iG (pv 0) CA.fZ CA.mt_Bows_is_one p0 hr (aa (pv 1) ae)))) (ak nE) aW),?_⟩
 exact ⟨_,rfl,x,dx,fs,rfl,hx,fo,_,rfl,x,l,ps,rfl,hl,hz,fun H1 s1=>⟨_,rfl,by rw [hB]; exact bB (q H1 s1)⟩⟩
theorem vN (F:bG K "room_from" "room_from" iL f fd):aL P w K mg base bC 1 f fd ["following","first"] (mD K ca):=by
 refine F.ok qN (fun vs H Q E h=>?_) (fun cdv A outer s H vs Q E hr h=>?_)
 ·obtain ⟨pd,kvs,f,s,n,rfl,hp,hf,inc,hn,s0,s1,q⟩:=h
  rfl
 obtain ⟨pd,kvs,f,s,n,rfl,hp,hf,inc,hn,s0,s1,q⟩:=h
 refine ⟨_,aq (bh (i:=2) qN.nd rfl (Or.inl rfl) (cq (aa (pv 1) ae)))
  (aq (tF PassesOwn.never (xu (wB (dO hr) (br aR (pv 2) (j9 gU ar) (fun _ _=>rfl)) (pv 0)) (by rfl)) (ak (aX (di PySem.F.plainAttrs_list PySem.F.slot_list_append PySem.F.type_list_append bE (pv 2) (aa (vJ (dO hr) (pv 0) (br aR (pv 2) (j9 gU ar) (fun _ _=>rfl)) (fun _ _=>rfl)) ae)))))
  (ak (aD (pv 2)))),?_⟩
 refine ⟨_,rfl,(by show 1<=sizeLine; decide),fun pr hpr=>?_⟩
 have k1:=ag.new (ag.refl H) hpr (.lst [.int s])
 have npr:pd≠pr:=au hp hpr
 refine ⟨fun m σ H'=>∃ (r:List Int),σ=[some (.ref pd),some (.int s),some (.ref pr)]/\ag H H'/\H' pr=some (.lst (r.map V.int))/\r≠[]/\hd r=s/\(∀ q∈r.zip (r.drop 1),f q.1=some q.2)/\lst r < (n:Int)/\(r.length:Int)<=lst r+1/\m=n - (lst r).toNat,⟨_,[s],rfl,k1,af,by simp,rfl,fun q hq=>(by cases hq),s1,(by show (1:Int)<=s+1; lia),rfl⟩,?_⟩
 rintro m σ H2 ⟨r,rfl,s2,hr,ne,eh,zp,ll,le,em⟩
 have hp2:=s2 _ _ hp
 have h0:0<=lst r:=by
  have:0 < r.length:=List.length_pos_iff.mpr ne
  lia
 refine ⟨_,rfl,_,rfl,pr,_,_,_,rfl,rfl,aj.of hr,g7 ne,_,rfl,pd,_,rfl,fH.k (k:=.inl (lst r)) hp2,_,rfl,?_⟩
 have dg:fH H2 pd (.int (lst r)) ((f (lst r)).map V.int):=by rw [<- hf]; exact fH.k (k:=.inl (lst r)) hp2
 rw [hf]
 cases e:f (lst r) with
 | none =>
  exact bB ⟨_,rfl,q pr r H2 s2 hpr hr ne eh zp e (by lia)⟩
 | some b =>
  rw [e] at dg
  have ib:=inc _ _ e
  have lb:lst (r++[b])=b:=by
   show (r++[b]).getD ((r++[b]).length - 1) 0=b
   rw [List.length_append,List.getD_eq_getElem?_getD]
   show ((r++[b])[r.length+1 - 1]?).getD 0=b
   rw [Nat.add_sub_cancel,List.getElem?_append_right (Nat.le_refl _),Nat.sub_self]
   rfl
  refine cp ⟨fun σ' H'=>∃ (r:List Int),σ'=[some (.ref pd),some (.int s),some (.ref pr)]/\ag H H'/\H' pr=some (.lst (r.map V.int))/\r≠[]/\hd r=s/\(∀ q∈r.zip (r.drop 1),f q.1=some q.2)/\lst r < (n:Int)/\(r.length:Int)<=lst r+1/\lst r=b,?_,?_⟩
  ·rintro σ' H' ⟨r',rfl,a1,a2,a3,a4,a5,a6,a7,a8⟩
   exact ⟨n - (lst r').toNat,by lia,r',rfl,a1,a2,a3,a4,a5,a6,a7,rfl⟩
  refine ⟨_,rfl,.inl ⟨rfl,_,aj.of hr⟩,_,rfl,_,rfl,_,rfl,pr,_,_,_,rfl,rfl,aj.of hr,g7 ne,pd,_,rfl,dg,pr,_,_,rfl,rfl,hr,by rw [List.length_map]; exact eI (by lia),?_⟩
  refine ⟨r++[b],rfl,s2.upd hpr _,by rw [af,List.map_append]; rfl,by simp,by rw [vG ne,eh],fun q hq=>?_,by rw [lb]; exact ib.2,by rw [lb,List.length_append]; show ((r.length+1:Nat):Int)<=_; lia,lb⟩
  rcases qZ ne hq with z | rfl
  ·exact zp q z
  ·exact e
theorem xf (F:bG K "feet_to_rooms" "feet_to_rooms" ip f fd) {fd0:FuncData} (gB:bS P w K mg base ["self"] 5 (jL K ca) ca.kh fd0) {fd1:FuncData} (gf:bS P w K mg base ["self","thing"] 3 (jW K ca) ca.kI fd1) {f2:Addr} {fd2:FuncData} (qD:Def P w K mg base "room_from" ["following","first"] 1 (mD K ca) f2 fd2):aL P w K mg base bC 7 f fd ["thing"] (jG K ca):=by
 refine F.ok jO (fun vs H Q E h=>?_) (fun cdv A outer s H vs Q E hr h=>?_)
 ·obtain ⟨l,ps,rfl,hl,hz,bw,q⟩:=h
  rfl
 obtain ⟨l,ps,rfl,hl,hz,bw,q⟩:=h
 refine ⟨_,aq (aX (iG (jN CA.mk_Bows CA.nN gB hr) CA.fZ CA.mt_Bows_refuse_other gf hr (aa (pv 0) ae)))
  (aq (bh (i:=1) jO.nd rfl (Or.inr rfl) sR)
  (aq (cz PassesOwn.never rfl (bz (pv 0)) (gZ rfl (aY (aF (i:=2) jO.nd rfl (Or.inl rfl)) (aY (aF (i:=3) jO.nd rfl (Or.inl rfl)) dj))) (ak (bK (bj mv (ay bN (pv 2) ar) ar (bA _)) (ak (vy (dO hr) (pv 1) (ay cV (pv 2) ar) (ay cV (pv 3) ar) rfl)) aW)))
  (ak (aD (dC rfl (bz (pv 0)) rfl rfl rfl rfl (N:=["a","b","following"]) (.own (.own (.cap (j:=1) rfl rfl rfl .nil))) (fun _ _ _ _ _ _=>(fV (K:=K) (n:=2) rfl rfl (aY (aF (i:=0) (by show List.Nodup (["a","b","following"]:List Str); decide +kernel) rfl (Or.inl rfl)) (aY (aF (i:=1) (by show List.Nodup (["a","b","following"]:List Str); decide +kernel) rfl (Or.inl rfl)) dj)))) (fun _ _ _ _ _ _=>(kS (bj mv (ay bN (pv 0) ar) ar (bA _)))) (fun _ _ _ _ _ _=>(aG qD hr (aa (pv 2) (aa (ay cV (pv 0) ar) ae))))))))),?_⟩
 intro x dx nx ndx nex
 refine ⟨x,dx,rfl,af,fun fsx Hx1 ex fx=>⟨rfl,?_⟩⟩
 have sx:ag H Hx1:=by rw [ex]; exact ((ag.new (ag.refl H) ndx _).upd nx _).upd nx _
 have hx:Hx1 x=some (.ins ca.aN dx fsx):=by rw [ex]; exact af
 refine ⟨x,dx,fsx,rfl,hx,fx.no "refuse_other" (by decide) (by decide),_,rfl,x,dx,fsx,l,ps,rfl,hx,fx.no "is_one" (by decide) (by decide),hl.same sx,by lia,bw.bows,fun H2 s2=>?_⟩
 have t2:=sx.trans s2
 have hl2:=hl.same t2
 obtain ⟨xs,el,lxs,pr⟩:=hl2.len
 refine fun pd hpd=>?_
 have s3:=ag.new (ag.refl H2) hpd (.dK [])
 refine ⟨_,rfl,l,rfl,⟨_,aj.of (s3 _ _ el)⟩,df (xs:=xs) (fun i σ H'=>∃ (o1 o2:Option V) (kvs:List (Key × V)),σ=[some (.ref l),some (.ref pd),o1,o2]/\ag H2 H'/\H' pd=some (.dK kvs)/\(∀ a:Int,cC kvs (.inl a)=(fol (ps.take i) a).map V.int)/\kvs.length<=i) ⟨_,_,[],rfl,s3,af,fun a=>rfl,Nat.le_refl _⟩ (fun i σ H' _ h=>by obtain ⟨_,_,_,_,sm,_⟩:=h; exact aj.of (sm _ _ el)) ?_ ?_⟩
 ·rintro i v σ H3 hv ⟨o1,o2,kvs,rfl,sm,hd3,hval,lk⟩
  obtain ⟨pp,tt,hpp,rfl,htt⟩:=pr.get hv
  have hlt:i < ps.length:=(List.getElem?_eq_some_iff.mp hpp).1
  refine ⟨tt,_,rfl,cI.of (sm _ _ htt),rfl,_,_,rfl,_,_,rfl,rfl,?_⟩
  refine ⟨_,rfl,_,_,rfl,rfl,pm (by decide),rfl,_,rfl,?_⟩
  by_cases e:pp.1 % 2=1
  ·refine g5 (congrArg V.int e) ⟨_,rfl,_,_,rfl,rfl,⟨by decide,by decide +kernel⟩,_,rfl,_,rfl,_,_,rfl,rfl,⟨by decide,by decide +kernel⟩,pd,_,rfl,m4.k (k:=.inl (pp.1 / 2)) hd3 (eI (by lia)),?_⟩
   refine ⟨_,_,_,rfl,sm.upd hpd _,af,fun a=>?_,?_⟩
   ·rw [ua,mF hpp]
    by_cases c:pp.1=2*a+1
    ·rw [if_pos c,if_pos (by rw [show pp.1 / 2=a by lia])]
     rfl
    ·rw [if_neg c,if_neg (fun z=>by injection z with z; lia)]
     exact hval a
   ·have:=fK (k:=(Sum.inl (pp.1 / 2):Key)) (v:=V.int (pp.2 / 2)) kvs
    lia
  ·refine hV (fun z=>e (V.int.inj z)) ⟨_,_,kvs,rfl,sm,hd3,fun a=>?_,by lia⟩
   rw [mF hpp,if_neg (by lia)]
   exact hval a
 rintro σ H3 ⟨o1,o2,kvs,rfl,sm,hd3,hval,lk⟩
 rw [List.take_of_length_le (by lia)] at hval
 have t3:=t2.trans sm
 have el3:=sm _ _ el
 have pr3:=pr.same sm
 refine ⟨_,rfl,l,rfl,⟨_,aj.of el3⟩,fun D hD=>bX (xs:=xs) (fun i ys H'=>∃ rs:List (List Int),ag H3 H'/\H' D=some (.lst ys)/\aO H3 H' D rs/\Paired (dk ps) (starts (ps.take i)) rs/\i<=ps.length) (sz (by lia)) ⟨[],ag.new (ag.refl H3) hD _,af,aO.nil af,.nil,Nat.zero_le _⟩ (fun i ys H' hi h=>?_) (fun i v ys H' R R0 hx h r r0=>?_) (fun ys H' h=>?_)⟩
 ·obtain ⟨rs,sk,hy,lk2,pt,hi2⟩:=h
  obtain ⟨us,eu,lu⟩:=lk2.len
  rw [hy] at eu
  cases eu
  refine ⟨aj.of (sk _ _ el3),?_⟩
  rw [lu,<- Paired.length pt]
  unfold starts
  rw [List.length_map]
  refine Nat.le_trans (List.length_filter_le _ _) ?_
  rw [List.length_take]
  lia
 ·obtain ⟨rs,sk,hy,lk2,pt,hi2⟩:=h
  obtain ⟨pp,tt,hpp,rfl,htt⟩:=pr3.get hx
  have hlt:i < ps.length:=(List.getElem?_eq_some_iff.mp hpp).1
  have stt:=oH hpp
  refine ⟨tt,_,rfl,cI.of (sk _ _ htt),rfl,_,_,rfl,_,_,rfl,rfl,(Ext.set rfl).trans (Ext.set rfl),⟨_,rfl,_,_,rfl,rfl,pm (by decide),rfl,_,rfl,?_⟩⟩
  by_cases e:pp.1 % 2=0
  ·rw [if_pos e] at stt
   have bd:=bw.inr pp (List.mem_of_getElem? hpp)
   unfold bu at bd
   refine g5 (congrArg V.int e) ⟨_,rfl,_,rfl,_,_,rfl,rfl,⟨by decide,by decide +kernel⟩,pd,kvs,fol ps,pp.1 / 2,ps.length,rfl,sk _ _ hd3,hval,fun a b z=>?_,by lia,by lia,by lia,fun c ms H4 s4 f4 h4 ne eh zp fin lm=>?_⟩
   ·have:=bw.inr _ (rQ bw z)
    unfold bu at this
    simp only at this
    lia
   ·refine r _ _ (s4 _ _ hy) ⟨rs++[ms],(sk.trans s4).upd hD _,af,lk2.push hy s4 f4 h4 (sk.free f4),?_,hlt⟩
    rw [stt]
    exact gr pt (.cons ⟨ne,eh,fun p hp=>rQ bw (zp p hp),fun y=>w6 fin y⟩ .nil)
  ·rw [if_neg e,List.append_nil] at stt
   exact hV (fun z=>e (V.int.inj z)) (r0 _ ⟨rs,sk,hy,lk2,by rw [stt]; exact pt,hlt⟩)
 ·obtain ⟨rs,sk,hy,lk2,pt,hi2⟩:=h
  rw [List.take_of_length_le (by lia)] at pt
  exact q D rs H' (t3.trans sk) (t3.free hD) (lk2.since t3) pt
theorem xv (F:bG K "pairs_anew" "pairs_anew" i3 f fd) (aU:mg "sorted" = none) (jb:mg "max" = none) (iN:mg "min" = none):aL P w K mg base bC 1 f fd ["pairs"] (nX K ca):=by
 refine F.ok v7 (fun vs H Q E h=>?_) (fun cdv A outer s H vs Q E hr h=>?_)
 ·obtain ⟨l,ps,rfl,hl,h64,q⟩:=h
  rfl
 obtain ⟨l,ps,rfl,hl,h64,q⟩:=h
 refine ⟨_,ak (aD (aw dG rfl aU c0 (aa (dC rfl (bz (pv 0)) rfl rfl rfl rfl (N:=["a","b"]) (.own (.own .nil)) (fun _ _ _ _ _ _=>(fV (K:=K) (n:=2) rfl rfl (aY (aF (i:=0) (by show List.Nodup (["a","b"]:List Str); decide +kernel) rfl (Or.inl rfl)) (aY (aF (i:=1) (by show List.Nodup (["a","b"]:List Str); decide +kernel) rfl (Or.inl rfl)) dj)))) (fun _ _ _ _ _ _=>dh) (fun _ _ _ _ _ _=>(hW (aa (aw (lK rfl) rfl iN qR (aa (pv 0) (aa (pv 1) ae))) (aa (aw (lJ rfl) rfl jb rY (aa (pv 0) (aa (pv 1) ae))) ae))))) ae))),?_⟩
 obtain ⟨xs,el,lxs,pr⟩:=hl.len
 refine ⟨_,rfl,l,rfl,⟨_,aj.of el⟩,fun D hD=>bX (xs:=xs) (fun i ys H'=>ag H H'/\H' D=some (.lst ys)/\bQ H' ys ((ps.take i).map fun p=>nm p.1 p.2)/\i<=ps.length) (sz (by lia)) ⟨ag.new (ag.refl H) hD _,af,.nil,Nat.zero_le _⟩ (fun i ys H' hi h=>⟨aj.of (h.1 _ _ el),?_⟩) (fun i x ys H' R R0 hx h r r0=>?_) (fun ys H' h=>?_)⟩
 ·rw [h.2.2.1.length,List.length_map,List.length_take]
  lia
 ·obtain ⟨sm,hy,py,hi⟩:=h
  obtain ⟨pp,tt,hpp,rfl,htt⟩:=pr.get hx
  have hlt:i < ps.length:=(List.getElem?_eq_some_iff.mp hpp).1
  refine ⟨tt,_,rfl,cI.of (sm _ _ htt),rfl,_,_,rfl,_,_,rfl,rfl,(Ext.set rfl).trans (Ext.set rfl),jZ (cp ?_)⟩
  refine ⟨_,rfl,_,rfl,_,_,rfl,_,rfl,_,rfl,_,_,rfl,(by show 2<=sizeLine; decide),fun u1 dO=>?_⟩
  have nD:D≠u1:=au hy dO
  have e:=pZ pp.1 pp.2
  have hu:upd H' u1 (.tup [.int (if pp.2 < pp.1 then pp.2 else pp.1),.int (if pp.2 > pp.1 then pp.2 else pp.1)]) u1=some (.tup [.int (nm pp.1 pp.2).1,.int (nm pp.1 pp.2).2]):=by rw [af,<- e]
  have y1:=(ao (o:=.tup [.int (if pp.2 < pp.1 then pp.2 else pp.1),.int (if pp.2 > pp.1 then pp.2 else pp.1)]) nD).trans hy
  have s1:=ag.new sm dO (.tup [.int (if pp.2 < pp.1 then pp.2 else pp.1),.int (if pp.2 > pp.1 then pp.2 else pp.1)])
  have p1:=py.updN dO (.tup [.int (if pp.2 < pp.1 then pp.2 else pp.1),.int (if pp.2 > pp.1 then pp.2 else pp.1)])
  refine r _ _ y1 ⟨s1.upd hD _,af,?_,hlt⟩
  rw [List.take_add_one,hpp,List.map_append]
  exact (p1.snoc (t:=u1) (p:=nm pp.1 pp.2) hu).updL y1 _
 ·obtain ⟨sm,hy,py,hi⟩:=h
  rw [List.take_of_length_le (by lia)] at py
  exact ⟨D,_,rfl,⟨ys,hy,py⟩,by rw [List.length_map]; exact h64,fun p qs H5 s5 f5 h5 pm rs=>q p qs H5 (sm.trans s5) (sm.free f5) h5 pm rs⟩
theorem xT (F:bG K "turned_pairs" "turned_pairs" iD f fd) {f0:Addr} {fd0:FuncData} (pQ:Def P w K mg base "pairs_anew" ["pairs"] 1 (nX K ca) f0 fd0):aL P w K mg base bC 2 f fd ["pairs","step","ring"] (kc K ca):=by
 refine F.ok vP (fun vs H Q E h=>?_) (fun cdv A outer s H vs Q E hr h=>?_)
 ·obtain ⟨l,ps,st,m,rfl,hl,h64,hm,q⟩:=h
  rfl
 obtain ⟨l,ps,st,m,rfl,hl,h64,hm,q⟩:=h
 refine ⟨_,ak (aD (aG pQ hr (aa (dC rfl (bz (pv 0)) rfl rfl rfl rfl (N:=["a","b","ring","step"]) (.own (.own (.cap (j:=2) rfl rfl rfl (.cap (j:=1) rfl rfl rfl .nil)))) (fun _ _ _ _ _ _=>(fV (K:=K) (n:=2) rfl rfl (aY (aF (i:=0) (by show List.Nodup (["a","b","ring","step"]:List Str); decide +kernel) rfl (Or.inl rfl)) (aY (aF (i:=1) (by show List.Nodup (["a","b","ring","step"]:List Str); decide +kernel) rfl (Or.inl rfl)) dj)))) (fun _ _ _ _ _ _=>dh) (fun _ _ _ _ _ _=>(hW (aa (ay bN (ay cG (pv 0) (pv 3)) (pv 2)) (aa (ay bN (ay cG (pv 1) (pv 3)) (pv 2)) ae))))) ae))),?_⟩
 obtain ⟨xs,el,lxs,pr⟩:=hl.len
 refine ⟨_,rfl,l,rfl,⟨_,aj.of el⟩,fun D hD=>bX (xs:=xs) (fun i ys H'=>ag H H'/\H' D=some (.lst ys)/\bQ H' ys ((ps.take i).map (tn st m))/\i<=ps.length) (sz (by lia)) ⟨ag.new (ag.refl H) hD _,af,.nil,Nat.zero_le _⟩ (fun i ys H' hi h=>⟨aj.of (h.1 _ _ el),?_⟩) (fun i x ys H' R R0 hx h r r0=>?_) (fun ys H' h=>?_)⟩
 ·rw [h.2.2.1.length,List.length_map,List.length_take]
  lia
 ·obtain ⟨sm,hy,py,hi⟩:=h
  obtain ⟨pp,tt,hpp,rfl,htt⟩:=pr.get hx
  have hlt:i < ps.length:=(List.getElem?_eq_some_iff.mp hpp).1
  have hm0:=hm (fun z=>by rw [z] at hlt; simp at hlt)
  refine ⟨tt,_,rfl,cI.of (sm _ _ htt),rfl,_,_,rfl,_,_,rfl,rfl,(Ext.set rfl).trans (Ext.set rfl),jZ (cp ?_)⟩
  refine ⟨_,rfl,_,rfl,_,_,rfl,rfl,_,rfl,_,_,rfl,rfl,hm0,_,rfl,_,rfl,_,_,rfl,rfl,_,rfl,_,_,rfl,rfl,hm0,(by show 2<=sizeLine; decide),fun u1 dO=>?_⟩
  have nD:D≠u1:=au hy dO
  have y1:=(ao (o:=.tup [.int ((pp.1+st) % m),.int ((pp.2+st) % m)]) nD).trans hy
  have s1:=ag.new sm dO (.tup [.int ((pp.1+st) % m),.int ((pp.2+st) % m)])
  have p1:=py.updN dO (.tup [.int ((pp.1+st) % m),.int ((pp.2+st) % m)])
  refine r _ _ y1 ⟨s1.upd hD _,af,?_,hlt⟩
  rw [List.take_add_one,hpp,List.map_append]
  exact (p1.snoc (t:=u1) (p:=tn st m pp) af).updL y1 _
 ·obtain ⟨sm,hy,py,hi⟩:=h
  rw [List.take_of_length_le (by lia)] at py
  refine ⟨D,ps.map (tn st m),rfl,⟨ys,hy,py⟩,by rw [List.length_map]; exact h64,fun p qs H5 s5 f5 h5 pm rs=>q p qs H5 (sm.trans s5) (sm.free f5) h5 ?_ rs⟩
  rw [List.map_map] at pm
  exact pm
theorem vZ (F:bG K "bows_turnback" "bows_turnback" iW f fd) {fd0:FuncData} (gB:bS P w K mg base ["self"] 5 (jL K ca) ca.kh fd0) {fd1:FuncData} (gf:bS P w K mg base ["self","thing"] 3 (jW K ca) ca.kI fd1) {f2:Addr} {fd2:FuncData} (iF:Def P w K mg base "turned_pairs" ["pairs","step","ring"] 2 (kc K ca) f2 fd2) (aI:mg "len" = none):aL P w K mg base bC 7 f fd ["thing"] (nG K ca):=by
 refine F.ok wg (fun vs H Q E h=>?_) (fun cdv A outer s H vs Q E hr h=>?_)
 ·obtain ⟨l,ps,rfl,hl,hz,bw,q⟩:=h
  rfl
 obtain ⟨l,ps,rfl,hl,hz,bw,q⟩:=h
 refine ⟨_,aq (aX (iG (jN CA.mk_Bows CA.nN gB hr) CA.fZ CA.mt_Bows_refuse_other gf hr (aa (pv 0) ae)))
  (ak (aD (aG iF hr (aa (pv 0) (aa (j9 gU ar) (aa (ay bY ar (aw aB rfl aI bt (aa (pv 0) ae))) ae)))))),?_⟩
 intro x dx nx ndx nex
 refine ⟨x,dx,rfl,af,fun fsx Hx1 ex fx=>⟨rfl,?_⟩⟩
 have sx:ag H Hx1:=by rw [ex]; exact ((ag.new (ag.refl H) ndx _).upd nx _).upd nx _
 have hx:Hx1 x=some (.ins ca.aN dx fsx):=by rw [ex]; exact af
 refine ⟨x,dx,fsx,rfl,hx,fx.no "refuse_other" (by decide) (by decide),_,rfl,x,dx,fsx,l,ps,rfl,hx,fx.no "is_one" (by decide) (by decide),hl.same sx,by lia,bw.bows,fun H2 s2=>?_⟩
 have t2:=sx.trans s2
 have hl2:=hl.same t2
 obtain ⟨xs,el,lxs,pr⟩:=hl2.len
 refine ⟨_,rfl,_,rfl,_,rfl,l,_,rfl,.inl (aj.of el),_,_,rfl,rfl,.inl ⟨by decide,by decide⟩,l,ps,(-1),2*(ps.length:Int),(by rw [lxs]; rfl),hl2,by lia,fun ne=>by have:=List.length_pos_iff.mpr ne; lia,fun q' qs H3 s3 f3 h3 pm rs=>q q' qs H3 (t2.trans s3) (t2.free f3) h3 ?_ rs⟩
 have e:(ps.map fun p=>nm (tn (-1) (2*(ps.length:Int)) p).1 (tn (-1) (2*(ps.length:Int)) p).2)=ps.map (rtD (2*(ps.length:Int))):=List.map_congr_left fun p hp=>uk (bw.inr p hp)
 rw [e] at pm
 exact pm
theorem yz (F:bG K "__init__" "Family.__init__" lh ca.pO fd):aL P w K mg base bC 1 ca.pO fd ["self","word","least"] (qe K ca):=by
 refine F.ok yF (fun vs H Q E h=>?_) (fun cdv A outer s H vs Q E hr h=>?_)
 ·obtain ⟨x,dx,w,l,rfl,hx,q⟩:=h
  rfl
 obtain ⟨x,dx,w,l,rfl,hx,q⟩:=h
 refine ⟨_,aq (jJ (pv 0) (pv 1) rfl)
  (ak (jJ (pv 0) (pv 2) rfl)),?_⟩
 refine ⟨_,rfl,_,rfl,x,ca.aJ,dx,_,rfl,hx,CA.iq,CA.eG,(by show 0 < 1000; decide),?_⟩
 refine ⟨_,rfl,_,rfl,x,ca.aJ,dx,_,rfl,af,CA.iq,CA.dY,(by show 1 < 1000; decide),?_⟩
 exact q _ _ kz (oN w l)
theorem yJ (F:bG K "__init__" "SplitFamily.__init__" kj ca.qp fd) {fd0:FuncData} (uj:bS P w K mg base ["self","word","least"] 1 (qe K ca) ca.pO fd0):aL P w K mg base bC 3 ca.qp fd ["self","word"] (pU K ca):=by
 refine F.ok yt (fun vs H Q E h=>?_) (fun cdv A outer s H vs Q E hr h=>?_)
 ·obtain ⟨x,dx,w,rfl,hx,q⟩:=h
  rfl
 obtain ⟨x,dx,w,rfl,hx,q⟩:=h
 refine ⟨_,ak (aX (qu CA.mZ CA.cm_Family___init___Rooms uj hr (aa (pv 0) (aa (pv 1) (aa ar ae))))),?_⟩
 exact ⟨_,rfl,_,rfl,x,dx,w,0,rfl,hx,fun fs H' e f=>q fs H' e f⟩
theorem yl (F:bG K "__init__" "Rooms.__init__" kB ca.pR fd) {fd0:FuncData} (tR:bS P w K mg base ["self","word"] 3 (pU K ca) ca.qp fd0):aL P w K mg base bC 5 ca.pR fd ["self"] (qf K ca):=by
 refine F.ok yx (fun vs H Q E h=>?_) (fun cdv A outer s H vs Q E hr h=>?_)
 ·obtain ⟨x,dx,rfl,hx,q⟩:=h
  rfl
 obtain ⟨x,dx,rfl,hx,q⟩:=h
 refine ⟨_,ak (aX (qu CA.gH CA.cm_SplitFamily___init___Rooms tR hr (aa (pv 0) (aa sr ae)))),?_⟩
 exact ⟨_,rfl,x,dx,_,rfl,hx,fun fs H' e f=>q fs H' e f⟩
theorem w8 (F:bG K "neighbours" "neighbours" iw f fd) {f0:Addr} {fd0:FuncData} (eM:Def P w K mg base "flat" ["rows"] 1 (g8 K ca) f0 fd0) (bP:mg "list" = none) (pY:mg "zip" = none):aL P w K mg base bC 2 f fd ["rooms"] (kd K ca):=by
 refine F.ok xB (fun vs H Q E h=>?_) (fun cdv A outer s H vs Q E hr h=>?_)
 ·obtain ⟨l,H0,rs,rfl,hl,hz,hz2,q⟩:=h
  rfl
 obtain ⟨l,H0,rs,rfl,hl,hz,hz2,q⟩:=h
 refine ⟨_,ak (aD (aG eM hr (aa (dC rfl (bz (pv 0)) rfl rfl rfl rfl (N:=["room"]) (.own .nil) (fun _ _ _ _ _ _=>(aF (i:=0) (by show List.Nodup (["room"]:List Str); decide +kernel) rfl (Or.inl rfl))) (fun _ _ _ _ _ _=>dh) (fun _ _ _ _ _ _=>(vt (K:=K) rfl rfl rfl bP rfl pY (aa (pv 0) (aa (gi (sP (K:=K) rfl) (pv 0) (iT ar) iu) ae))))) ae))),?_⟩
 obtain ⟨xs,el,lxs⟩:=hl.len
 refine ⟨_,rfl,l,rfl,⟨_,aj.of el⟩,fun D hD=>bX (xs:=xs) (fun k ys H'=>∃ (bs:List Addr) (xss:List (List V)),ag H H'/\H' D=some (.lst ys)/\ys=bs.map V.ref/\cK H' bs xss/\(∀ b∈bs,b≠D)/\bQ H' xss.flatten (bV (rs.take k))/\k<=rs.length/\bs.length=k) (sz (by lia)) ⟨[],[],ag.new (ag.refl H) hD _,af,rfl,.nil,fun b hb=>absurd hb (by simp),.nil,Nat.zero_le _,rfl⟩ (fun k ys H' hk h=>?_) (fun k v ys H' R R0 hx h r r0=>?_) (fun ys H' h=>?_)⟩
 ·obtain ⟨bs,xss,sm,_,rfl,_,_,_,_,lb⟩:=h
  exact ⟨aj.of (sm _ _ el),by rw [List.length_map]; lia⟩
 ·obtain ⟨bs,xss,sm,hy,rfl,rws,nD,pr,hk,lb⟩:=h
  obtain ⟨b,ns,rfl,hn,hb,_⟩:=hl.at el hx
  have hlt:k < rs.length:=(List.getElem?_eq_some_iff.mp hn).1
  have hb2:=sm _ _ hb
  have ln:ns.length<=rs.flatten.length:=len_one rs ns (List.mem_of_getElem? hn)
  refine ⟨Ext.set rfl,jZ (cp ⟨_,rfl,_,rfl,_,rfl,b,_,rfl,aj.of hb2,fun ps hps=>?_⟩)⟩
  have s3:=ag.new (ag.refl H') hps (.lst (de (ns.map V.int) (some 1) none))
  have e1:de (ns.map V.int) (some 1) none=(ns.drop 1).map V.int:=by rw [gz,rD]
  refine ⟨b,ps,ns,ns.drop 1,rfl,aj.of (s3 _ _ hb2),aj.of (by rw [af,e1]),by lia,fun pz H3 s4 f4 h4=>?_⟩
  have s5:=s3.trans s4
  obtain ⟨zs,ez,lz,pz4⟩:=h4.len
  have hy5:=s5 _ _ hy
  have nz:pz≠D:=fun z=>by
   rw [z] at f4
   rw [s3 _ _ hy] at f4
   cases f4
  refine r _ _ hy5 ⟨bs++[pz],xss++[zs],(sm.trans s5).upd hD _,af,by rw [List.map_append]; rfl,?_,?_,?_,hlt,by rw [List.length_append]; show bs.length+1=k+1; lia⟩
  ·have up:∀ {c:Addr} {ws:List V},c≠D->H3 c=some (.lst ws)->upd H3 D (.lst (bs.map V.ref++[.ref pz])) c=some (.lst ws):=fun n e=>(ao n).trans e
   have go:∀ {bs:List Addr} {xss:List (List V)},cK H' bs xss->(∀ b∈bs,b≠D)->cK (upd H3 D (.lst (bs.map V.ref++[.ref pz]))) bs xss->True:=fun _ _ _=>trivial
   have rws5:=rws.same s5
   have g:∀ {cs:List Addr} {wss:List (List V)},cK H3 cs wss->(∀ c∈cs,c≠D)->cK (upd H3 D (.lst (bs.map V.ref++[.ref pz]))) (cs++[pz]) (wss++[zs]):=by
    intro cs wss h hc
    induction h with
    | nil=>exact .cons (up nz ez) .nil
    | cons x _ ih=>exact .cons (up (hc _ (by simp)) x) (ih fun c hc'=>hc c (by simp [hc']))
   exact g rws5 nD
  ·intro c hc
   rcases List.mem_append.mp hc with z | z
   ·exact nD c z
   ·rw [show c=pz by simpa using z]; exact nz
  ·have e2:bV (rs.take (k+1))=bV (rs.take k)++ns.zip (ns.drop 1):=by
    unfold bV
    rw [List.take_add_one,hn,List.map_append,List.flatten_append]
    simp
   rw [e2,List.flatten_append]
   have p1:=(pr.same s5).app pz4
   rw [show ([zs]:List (List V)).flatten=zs by simp]
   exact p1.updL hy5 _
 ·obtain ⟨bs,xss,sm,hy,rfl,rws,nD,pr,hk,lb⟩:=h
  rw [List.take_of_length_le (by lia)] at pr
  have lf:(bV rs).length<=rs.flatten.length:=by
   unfold bV
   rw [List.length_flatten,List.length_flatten,List.map_map]
   have go:∀ rs:List (List Int),(rs.map (List.length ∘ fun r=>r.zip (r.drop 1))).sum<=(rs.map List.length).sum:=fun rs=>by
    induction rs with
    | nil=>exact Nat.le_refl _
    | cons r rs ih =>
     rw [List.map_cons,List.map_cons,List.sum_cons,List.sum_cons]
     have:(r.zip (r.drop 1)).length<=r.length:=by rw [List.length_zip]; exact Nat.min_le_left _ _
     show (r.zip (r.drop 1)).length+_<=_
     lia
   exact go rs
  refine ⟨D,rfl,.inr ⟨bs,xss,hy,rws,by rw [pr.length]; lia,fun pf H3 s3 f3 h3=>q pf H3 (sm.trans s3) (sm.free f3) ⟨_,h3,pr.same s3⟩⟩⟩
theorem xJ (F:bG K "is_one" "Rooms.is_one" i5 ca.mr fd) {f0:Addr} {fd0:FuncData} (i4:Def P w K mg base "each_once" ["numbers"] 1 (jQ K ca) f0 fd0) {f1:Addr} {fd1:FuncData} (eM:Def P w K mg base "flat" ["rows"] 1 (g8 K ca) f1 fd1) {f2:Addr} {fd2:FuncData} (iM:Def P w K mg base "any_cross" ["pairs"] 1 (jE K ca) f2 fd2) {f3:Addr} {fd3:FuncData} (iV:Def P w K mg base "neighbours" ["rooms"] 2 (kd K ca) f3 fd3) (aU:mg "sorted" = none):aL P w K mg base bC 3 ca.mr fd ["self","thing"] (mX K ca):=by
 refine F.ok xR (fun vs H Q E h=>?_) (fun cdv A outer s H vs Q E hr h=>?_)
 ·obtain ⟨x,l,H0,rs,rfl,hl,hz,hz2,hz1,q⟩:=h
  rfl
 obtain ⟨x,l,H0,rs,rfl,hl,hz,hz2,hz1,q⟩:=h
 refine ⟨_,aq (bK (PW.pt (dH (bj (xA (gv hr)) (cq ae) (pv 1) (by rfl)) (dq (bO (bL (aG i4 hr (aa (aG eM hr (aa (pv 1) ae)) ae))))))) (ak (aD bZ)) aW)
  (ak (aD (nA (kU (sN (gv hr)) (pv 1) (aw (mM (gv hr)) rfl aU c0 (aa (dC rfl (bz (pv 1)) rfl rfl rfl rfl (N:=["room"]) (.own .nil) (fun _ _ _ _ _ _=>(aF (i:=0) (by show List.Nodup (["room"]:List Str); decide +kernel) rfl (Or.inl rfl))) (fun _ _ _ _ _ _=>dh) (fun _ _ _ _ _ _=>(aw (nH (K:=K) rfl) rfl aU c0 (aa (pv 0) ae)))) ae)) (bA _)) (mG (nr (aG iM hr (aa (aG iV hr (aa (pv 1) ae)) ae))))))),?_⟩
 refine ⟨Nat.zero_le _,fun pe hpe=>?_⟩
 have s1:=ag.new (ag.refl H) hpe (.lst [])
 have hl1:=hl.same s1
 have he1:upd H pe (.lst []) pe=some (.lst []):=af
 generalize upd H pe (.lst [])=H1 at s1 hl1 he1 |-
 refine ⟨_,rfl,pe,l,H0,rs,rfl,rfl,he1,hl1,_,rfl,?_⟩
 cases hv:rs.any fun r=>decide (r=[]) with
 | true =>
  obtain ⟨r,hr,e⟩:=List.any_eq_true.mp hv
  rw [tL ⟨r,hr,of_decide_eq_true e⟩] at q
  exact cp (cp (q _ s1))
 | false =>
  have hne:∀ r∈rs,r≠[]:=fun r hr e=>by
   have:=List.any_eq_false.mp hv r hr
   exact this (decide_eq_true e)
  obtain ⟨bs,el,rws⟩:=hl1.rws
  refine bB ⟨_,rfl,l,rfl,.inr ⟨bs,_,el,rws,by rw [mQ,List.length_map]; lia,fun pf H2 s2 f2 h2=>?_⟩⟩
  rw [mQ] at h2
  refine ⟨pf,rs.flatten,rfl,h2,hz2,fun H3 s3=>⟨_,rfl,?_⟩⟩
  have s13:=s1.trans (s2.trans s3)
  have hl3:=hl.same s13
  cases hE:cA rs.flatten with
  | false =>
   rw [uc hE] at q
   exact cp (q _ s13)
  | true =>
   rw [mL hne hE] at q
   obtain ⟨xs,ex,lxs⟩:=hl3.len
   refine bB ⟨_,rfl,_,rfl,l,rfl,⟨_,aj.of ex⟩,fun D hD=>bX (xs:=xs) (fun k ys H'=>∃ ts:List (List Int),ag H3 H'/\H' D=some (.lst ys)/\aO H3 H' D ts/\Paired (fun (r t:List Int)=>t.Perm r/\t.Pairwise (·<=·)) (rs.take k) ts/\k<=rs.length) (sz (by lia)) ⟨[],ag.new (ag.refl H3) hD _,af,aO.nil af,.nil,Nat.zero_le _⟩ (fun k ys H' hk h=>?_) (fun k v ys H' R R0 hx h r r0=>?_) (fun ys H' h=>?_)⟩
   ·obtain ⟨ts,sm,hy,lt,pt,hk'⟩:=h
    obtain ⟨us,eu,lu⟩:=lt.len
    rw [hy] at eu
    cases eu
    refine ⟨aj.of (sm _ _ ex),?_⟩
    rw [lu,<- Paired.length pt,List.length_take]
    lia
   ·obtain ⟨ts,sm,hy,lt,pt,hk'⟩:=h
    obtain ⟨b,ns,rfl,hn,hb,_⟩:=hl3.at ex hx
    have hlt:k < rs.length:=(List.getElem?_eq_some_iff.mp hn).1
    refine ⟨Ext.set rfl,jZ (cp ⟨_,rfl,b,ns,rfl,aj.of (sm _ _ hb),hz1 ns (List.mem_of_getElem? hn),fun c ms hc hp hs=>?_⟩)⟩
    have k9:=ag.new (ag.refl H') hc (.lst (ms.map V.int))
    refine r _ _ (k9 _ _ hy) ⟨ts++[ms],(sm.trans k9).upd hD _,af,lt.push hy k9 hc af (sm.free hc),?_,hlt⟩
    rw [List.take_add_one,hn]
    exact gr pt (.cons ⟨hp,hs⟩ .nil)
   ·obtain ⟨ts,sm,hy,lt,pt,hk'⟩:=h
    rw [List.take_of_length_le (by lia)] at pt
    have ltl:=Paired.length pt
    refine ⟨D,_,ts,rfl,lt,by lia,fun pq ss H5 s5 f5 l5 hp hs _=>?_⟩
    have s15:=s13.trans (sm.trans s5)
    have hl5:=hl.same s15
    have ne:l≠pq:=by
     obtain ⟨_,e,_⟩:=hl3.same sm
     exact au e f5
    refine ⟨2,_,by decide,bg.rooms hl5 l5 ne,⟨l,pq,rfl,rfl,ne⟩,_,rfl,?_⟩
    rw [sS pt hp hs hne hE]
    cases hR:jj rs with
    | false =>
     rw [hR,Bool.false_and] at q
     exact bB (q _ s15)
    | true =>
     rw [hR,Bool.true_and] at q
     exact cp ⟨_,rfl,l,H0,rs,rfl,hl5,by lia,by lia,fun pn H6 s6 f6 h6=>⟨pn,bV rs,rfl,h6,_,rfl,q _ (s15.trans s6)⟩⟩
theorem yy (F:bG K "refuse_other" "Family.refuse_other" kK ca.qz fd) {fd0:FuncData} (qv:bS P w K mg base ["self","thing"] 3 (mX K ca) ca.mr fd0):aL P w K mg base bC 4 ca.qz fd ["self","thing"] (qi K ca):=by
 refine F.ok yc (fun vs H Q E h=>?_) (fun cdv A outer s H vs Q E hr h=>?_)
 ·obtain ⟨x,dx,fs,l,H0,rs,rfl,hx,fo,hl,z1,z2,z3,hB,q⟩:=h
  rfl
 obtain ⟨x,dx,fs,l,H0,rs,rfl,hx,fo,hl,z1,z2,z3,hB,q⟩:=h
 refine ⟨_,ak (bK (bO (bL (iG (pv 0) CA.iq CA.mt_Rooms_is_one qv hr (aa (pv 1) ae)))) (ak nE) aW),?_⟩
 exact ⟨_,rfl,x,dx,fs,rfl,hx,fo,_,rfl,x,l,H0,rs,rfl,hl,z1,z2,z3,fun H1 s1=>⟨_,rfl,by rw [hB]; exact bB (q H1 s1)⟩⟩
theorem yf (F:bG K "rooms_to_feet" "rooms_to_feet" kJ f fd) {fd0:FuncData} (uo:bS P w K mg base ["self"] 5 (qf K ca) ca.pR fd0) {fd1:FuncData} (tE:bS P w K mg base ["self","thing"] 4 (qi K ca) ca.qz fd1) {f2:Addr} {fd2:FuncData} (iV:Def P w K mg base "neighbours" ["rooms"] 2 (kd K ca) f2 fd2) (aU:mg "sorted" = none):aL P w K mg base bC 7 f fd ["thing"] (jY K ca):=by
 refine F.ok qq (fun vs H Q E h=>?_) (fun cdv A outer s H vs Q E hr h=>?_)
 ·obtain ⟨l,H0,rs,n,rfl,hl,gd,hn,q⟩:=h
  rfl
 obtain ⟨l,H0,rs,n,rfl,hl,gd,hn,q⟩:=h
 refine ⟨_,aq (aX (iG (jN CA.mk_Rooms CA.vm uo hr) CA.iq CA.mt_Rooms_refuse_other tE hr (aa (pv 0) ae)))
  (aq (eQ (i:=1) qq.nd rfl (Or.inl rfl) rfl rfl (bz (aG iV hr (aa (pv 0) ae))) rfl rfl rfl rfl (N:=["a","b"]) (.own (.own .nil)) (fun _ _ _ _ _ _=>(fV (K:=K) (n:=2) rfl rfl (aY (aF (i:=0) (by show List.Nodup (["a","b"]:List Str); decide +kernel) rfl (Or.inl rfl)) (aY (aF (i:=1) (by show List.Nodup (["a","b"]:List Str); decide +kernel) rfl (Or.inl rfl)) dj)))) (fun _ _ _ _ _ _=>dh) (fun _ _ _ _ _ _=>(hW (aa (ay cG (ay bY ar (pv 0)) ar) (aa (ay bY ar (pv 1)) ae)))))
  (aq (eQ (i:=2) qq.nd rfl (Or.inl rfl) rfl rfl (bz (pv 0)) rfl rfl rfl rfl (N:=["room"]) (.own .nil) (fun _ _ _ _ _ _=>(aF (i:=0) (by show List.Nodup (["room"]:List Str); decide +kernel) rfl (Or.inl rfl))) (fun _ _ _ _ _ _=>dh) (fun _ _ _ _ _ _=>(hW (aa (ay bY ar (br (ji (K:=K) rfl) (pv 0) ar (fun _ _=>rfl))) (aa (ay cG (ay bY ar (br (ji (K:=K) rfl) (pv 0) (j9 gU ar) (fun _ _=>rfl))) ar) ae)))))
  (ak (aD (aw dG rfl aU c0 (aa (ay nW (pv 1) (pv 2)) ae)))))),?_⟩
 have fl:rs.flatten.length=n:=by rw [gd.flat.length_eq,dZ]
 have lr:∀ r∈rs,r.length<=n:=fun r hr=>by
  have:=(List.sublist_flatten_of_mem hr).length_le
  lia
 have ln:rs.length<=n:=fE gd.ne fl
 have lf:=gd.ftl
 have lnb:(bV rs).length+rs.length=n:=by
  unfold ft at lf
  rw [List.length_append,List.length_map,List.length_map] at lf
  exact lf
 intro x dx nx ndx nex
 refine ⟨x,dx,rfl,af,fun fsx Hx1 ex fx=>⟨rfl,?_⟩⟩
 have sx:ag H Hx1:=by rw [ex]; exact ((ag.new (ag.refl H) ndx _).upd nx _).upd nx _
 have hx:Hx1 x=some (.ins ca.aJ dx fsx):=by rw [ex]; exact af
 refine ⟨x,dx,fsx,rfl,hx,fx.no "refuse_other" (by decide) (by decide),_,rfl,x,dx,fsx,l,H0,rs,rfl,hx,fx.no "is_one" (by decide) (by decide),hl.same sx,by lia,by lia,fun r hr=>by have:=lr r hr; lia,gd.is,fun H2 s2=>?_⟩
 have t2:=sx.trans s2
 refine ⟨_,rfl,l,H0,rs,rfl,hl.same t2,by lia,by lia,fun pn H3 s3 f3 h3=>?_⟩
 obtain ⟨xn,en,lxn,prn⟩:=h3.len
 refine ⟨pn,rfl,⟨_,aj.of en⟩,fun D hD=>bX (xs:=xn) (fun i ys H'=>ag H3 H'/\H' D=some (.lst ys)/\bQ H' ys (((bV rs).take i).map dA)/\i<=(bV rs).length) (sz (by lia)) ⟨ag.new (ag.refl H3) hD _,af,.nil,Nat.zero_le _⟩ (fun i ys H' hi h=>⟨aj.of (h.1 _ _ en),?_⟩) (fun i x ys H' R R0 hx h r r0=>?_) (fun ys H' h=>?_)⟩
 ·rw [h.2.2.1.length,List.length_map,List.length_take]
  lia
 ·obtain ⟨sm,hy,py,hi⟩:=h
  obtain ⟨pp,tt,hpp,rfl,htt⟩:=prn.get hx
  have hlt:i < (bV rs).length:=(List.getElem?_eq_some_iff.mp hpp).1
  refine ⟨tt,_,rfl,cI.of (sm _ _ htt),rfl,_,_,rfl,_,_,rfl,rfl,(Ext.set rfl).trans (Ext.set rfl),jZ (cp ?_)⟩
  refine ⟨_,rfl,_,_,rfl,rfl,.inl ⟨by decide,by decide⟩,_,_,rfl,rfl,_,rfl,_,_,rfl,rfl,.inl ⟨by decide,by decide⟩,(by show 2<=sizeLine; decide),fun u1 dO=>?_⟩
  have nD:D≠u1:=au hy dO
  have y1:=(ao (o:=.tup [.int (2*pp.1+1),.int (2*pp.2)]) nD).trans hy
  have s1:=ag.new sm dO (.tup [.int (2*pp.1+1),.int (2*pp.2)])
  have p1:=py.updN dO (.tup [.int (2*pp.1+1),.int (2*pp.2)])
  refine r _ _ y1 ⟨s1.upd hD _,af,?_,hlt⟩
  rw [List.take_add_one,hpp,List.map_append]
  exact (p1.snoc (t:=u1) (p:=dA pp) af).updL y1 _
 obtain ⟨s4,hy,py,_⟩:=h
 rw [List.take_of_length_le (by lia)] at py
 generalize H'=H4 at *
 have t4:=(t2.trans s3).trans s4
 have hl4:=hl.same t4
 obtain ⟨xl,el,lxl⟩:=hl4.len
 refine ⟨_,rfl,l,rfl,⟨_,aj.of el⟩,fun G hG=>bX (xs:=xl) (fun i zs H'=>ag H4 H'/\H' G=some (.lst zs)/\bQ H' zs ((rs.take i).map fW)/\i<=rs.length) (sz (by lia)) ⟨ag.new (ag.refl H4) hG _,af,.nil,Nat.zero_le _⟩ (fun i zs H' hi h=>⟨aj.of (h.1 _ _ el),?_⟩) (fun i x zs H' R R0 hx h r r0=>?_) (fun zs H' h=>?_)⟩
 ·rw [h.2.2.1.length,List.length_map,List.length_take]
  lia
 ·obtain ⟨sm,hz,pz,hi⟩:=h
  obtain ⟨b,ms,rfl,hms,hb,_⟩:=hl4.at el hx
  have hlt:i < rs.length:=(List.getElem?_eq_some_iff.mp hms).1
  have ne:=gd.ne ms (List.mem_of_getElem? hms)
  have hb':=sm _ _ hb
  refine ⟨Ext.set rfl,jZ (cp ?_)⟩
  refine ⟨_,rfl,b,_,_,_,rfl,rfl,aj.of hb',sE ne,_,_,rfl,rfl,.inl ⟨by decide,by decide⟩,_,rfl,_,rfl,b,_,_,_,rfl,rfl,aj.of hb',g7 ne,_,_,rfl,rfl,.inl ⟨by decide,by decide⟩,_,_,rfl,rfl,(by show 2<=sizeLine; decide),fun u1 dO=>?_⟩
  have nD:G≠u1:=au hz dO
  have y1:=(ao (o:=.tup [.int (2*hd ms),.int (2*lst ms+1)]) nD).trans hz
  have s1:=ag.new sm dO (.tup [.int (2*hd ms),.int (2*lst ms+1)])
  have p1:=pz.updN dO (.tup [.int (2*hd ms),.int (2*lst ms+1)])
  refine r _ _ y1 ⟨s1.upd hG _,af,?_,hlt⟩
  rw [List.take_add_one,hms,List.map_append]
  exact (p1.snoc (t:=u1) (p:=fW ms) af).updL y1 _
 obtain ⟨s5,hz,pz,_⟩:=h
 rw [List.take_of_length_le (by lia)] at pz
 generalize H'=H5 at *
 have py5:=py.same s5
 have hy5:=s5 _ _ hy
 have l1:=py5.length
 have l2:=pz.length
 rw [List.length_map] at l1 l2
 refine ⟨_,rfl,_,rfl,D,G,_,_,rfl,rfl,hy5,hz,sz (by lia),fun p hp=>?_⟩
 have k6:=ag.new (ag.refl H5) hp (.lst (ys++zs))
 exact ⟨p,ft rs,rfl,⟨_,af,(py5.app pz).same k6⟩,by lia,fun p' qs H7 s7 f7 h7 pmq rsq=>q p' qs H7 ((t4.trans s5).trans (k6.trans s7)) ((t4.trans s5).free (k6.free f7)) h7 pmq rsq⟩
theorem vW (F:bG K "gaps" "gaps" iE f fd) {f0:Addr} {fd0:FuncData} (iI:Def P w K mg base "feet_to_rooms" ["thing"] 7 (jG K ca) f0 fd0) {f1:Addr} {fd1:FuncData} (pL:Def P w K mg base "bows_turnback" ["thing"] 7 (nG K ca) f1 fd1) {f2:Addr} {fd2:FuncData} (gb:Def P w K mg base "rooms_to_feet" ["thing"] 7 (jY K ca) f2 fd2):aL P w K mg base bC 8 f fd ["thing"] (nP K ca):=by
 refine F.ok wH (fun vs H Q E h=>?_) (fun cdv A outer s H vs Q E hr h=>?_)
 ·obtain ⟨l,H0,rs,n,rfl,hl,gd,hn,q⟩:=h
  rfl
 obtain ⟨l,H0,rs,n,rfl,hl,gd,hn,q⟩:=h
 refine ⟨_,ak (aD (aG iI hr (aa (aG pL hr (aa (aG gb hr (aa (pv 0) ae)) ae)) ae))),?_⟩
 refine ⟨_,rfl,l,H0,rs,n,rfl,hl,gd,hn,fun p1 ps H1 s1 f1 h1 pm1 rs1=>?_⟩
 obtain ⟨bw,lp⟩:=gd.feet pm1 rs1
 refine ⟨p1,ps,rfl,h1,by lia,bw,fun p2 qs H2 s2 f2 h2 pm2 rs2=>?_⟩
 have bq:=bw.rtD pm2 rs2
 have lq:qs.length=n:=by rw [pm2.length_eq,List.length_map,lp]
 have t2:=s1.trans s2
 exact ⟨p2,qs,rfl,h2,by lia,bq,fun p3 gs H3 s3 f3 h3 F=>q p3 ps qs gs H3 (t2.trans s3) (t2.free f3) (h3.since t2) pm1 bw lp pm2 bq lq F⟩
theorem vY (F:bG K "bows_turn" "bows_turn" iQ f fd) {fd0:FuncData} (gB:bS P w K mg base ["self"] 5 (jL K ca) ca.kh fd0) {fd1:FuncData} (gf:bS P w K mg base ["self","thing"] 3 (jW K ca) ca.kI fd1) {f2:Addr} {fd2:FuncData} (iF:Def P w K mg base "turned_pairs" ["pairs","step","ring"] 2 (kc K ca) f2 fd2) (aI:mg "len" = none):aL P w K mg base bC 7 f fd ["thing"] (mI K ca):=by
 refine F.ok xx (fun vs H Q E h=>?_) (fun cdv A outer s H vs Q E hr h=>?_)
 ·obtain ⟨l,ps,rfl,hl,hz,bw,q⟩:=h
  rfl
 obtain ⟨l,ps,rfl,hl,hz,bw,q⟩:=h
 refine ⟨_,aq (aX (iG (jN CA.mk_Bows CA.nN gB hr) CA.fZ CA.mt_Bows_refuse_other gf hr (aa (pv 0) ae)))
  (ak (aD (aG iF hr (aa (pv 0) (aa ar (aa (ay bY ar (aw aB rfl aI bt (aa (pv 0) ae))) ae)))))),?_⟩
 intro x dx nx ndx nex
 refine ⟨x,dx,rfl,af,fun fsx Hx1 ex fx=>⟨rfl,?_⟩⟩
 have sx:ag H Hx1:=by rw [ex]; exact ((ag.new (ag.refl H) ndx _).upd nx _).upd nx _
 have hx:Hx1 x=some (.ins ca.aN dx fsx):=by rw [ex]; exact af
 refine ⟨x,dx,fsx,rfl,hx,fx.no "refuse_other" (by decide) (by decide),_,rfl,x,dx,fsx,l,ps,rfl,hx,fx.no "is_one" (by decide) (by decide),hl.same sx,by lia,bw.bows,fun H2 s2=>?_⟩
 have t2:=sx.trans s2
 have hl2:=hl.same t2
 obtain ⟨xs,el,lxs,pr⟩:=hl2.len
 refine ⟨_,rfl,_,rfl,l,_,rfl,.inl (aj.of el),_,_,rfl,rfl,.inl ⟨by decide,by decide⟩,l,ps,1,2*(ps.length:Int),(by rw [lxs]; rfl),hl2,by lia,fun ne=>by have:=List.length_pos_iff.mpr ne; lia,fun q' qs H3 s3 f3 h3 pm rs=>q q' qs H3 (t2.trans s3) (t2.free f3) h3 ?_ rs⟩
 have e:(ps.map fun p=>nm (tn 1 (2*(ps.length:Int)) p).1 (tn 1 (2*(ps.length:Int)) p).2)=ps.map (rtU (2*(ps.length:Int))):=List.map_congr_left fun p hp=>uY (bw.inr p hp)
 rw [e] at pm
 exact pm
theorem xh (F:bG K "gapsback" "gapsback" i0 f fd) {f0:Addr} {fd0:FuncData} (iI:Def P w K mg base "feet_to_rooms" ["thing"] 7 (jG K ca) f0 fd0) {f1:Addr} {fd1:FuncData} (pM:Def P w K mg base "bows_turn" ["thing"] 7 (mI K ca) f1 fd1) {f2:Addr} {fd2:FuncData} (gb:Def P w K mg base "rooms_to_feet" ["thing"] 7 (jY K ca) f2 fd2):aL P w K mg base bC 8 f fd ["thing"] (mO K ca):=by
 refine F.ok v5 (fun vs H Q E h=>?_) (fun cdv A outer s H vs Q E hr h=>?_)
 ·obtain ⟨l,H0,rs,n,rfl,hl,gd,hn,q⟩:=h
  rfl
 obtain ⟨l,H0,rs,n,rfl,hl,gd,hn,q⟩:=h
 refine ⟨_,ak (aD (aG iI hr (aa (aG pM hr (aa (aG gb hr (aa (pv 0) ae)) ae)) ae))),?_⟩
 refine ⟨_,rfl,l,H0,rs,n,rfl,hl,gd,hn,fun p1 ps H1 s1 f1 h1 pm1 rs1=>?_⟩
 obtain ⟨bw,lp⟩:=gd.feet pm1 rs1
 refine ⟨p1,ps,rfl,h1,by lia,bw,fun p2 qs H2 s2 f2 h2 pm2 rs2=>?_⟩
 have bq:=bw.rtU pm2 rs2
 have lq:qs.length=n:=by rw [pm2.length_eq,List.length_map,lp]
 have t2:=s1.trans s2
 exact ⟨p2,qs,rfl,h2,by lia,bq,fun p3 gs H3 s3 f3 h3 F=>q p3 ps qs gs H3 (t2.trans s3) (t2.free f3) (h3.since t2) pm1 bw lp pm2 bq lq F⟩
theorem wt (F:bG K "_law_whole" "_law_whole" il f fd) (aQ:mg "isinstance" = none) (qm:mg "int" = none) (oh:mg "bool" = none):aL P w K mg base bC 1 f fd ["_law_found"] (j0 K ca):=by
 refine F.ok xD (fun vs H Q E h=>?_) (fun cdv A outer s H vs Q E hr h=>?_)
 ·obtain ⟨n,rfl,q⟩:=h
  rfl
 obtain ⟨n,rfl,q⟩:=h
 refine ⟨_,ak (aD (nA (aw cR rfl aQ cD (aa (pv 0) (aa (eW (v:=.ty "int") rfl qm wG rfl) ae))) (mG (nr (aw cR rfl aQ cD (aa (pv 0) (aa (eW (v:=.ty "bool") rfl oh vI rfl) ae))))))),?_⟩
 exact ⟨_,rfl,_,_,_,_,_,rfl,iA,.int _,oF,_,rfl,cp ⟨_,rfl,_,_,_,_,_,rfl,iA,.int _,mT,_,rfl,q⟩⟩
theorem wF (F:bG K "_law_numbers" "_law_numbers" iK f fd) {f0:Addr} {fd0:FuncData} (gE:Def P w K mg base "_law_whole" ["_law_found"] 1 (j0 K ca) f0 fd0) (aQ:mg "isinstance" = none) (bP:mg "list" = none) (aI:mg "len" = none) (aT:mg "range" = none):aL P w K mg base bC 2 f fd ["_law_found","_law_due"] (m5 K ca):=by
 refine F.ok rT (fun vs H Q E h=>?_) (fun cdv A outer s H vs Q E hr h=>?_)
 ·obtain ⟨p,r,ns,rfl,hp,hr2,hz,q⟩:=h
  rfl
 obtain ⟨p,r,ns,rfl,hp,hr2,hz,q⟩:=h
 refine ⟨_,aq (bK (PW.pt (dH (bO (bL (aw cR rfl aQ cD (aa (pv 0) (aa (eW (v:=.ty "list") rfl bP eX rfl) ae))))) (dq (bj gx (aw aB rfl aI bt (aa (pv 0) ae)) (aw aB rfl aI bt (aa (pv 1) ae)) (bA _))))) (ak (aD bZ)) aW)
  (aq (cz PassesOwn.never rfl (dc rfl aT (aa (aw aB rfl aI bt (aa (pv 1) ae)) ae)) (aF (i:=2) rT.nd rfl (Or.inl rfl)) (ak (bK (PW.pt (dH (bO (bL (aG gE hr (aa (br aR (pv 0) (pv 2) (fun _ _=>rfl)) ae)))) (dq (bj gx (br aR (pv 0) (pv 2) (fun _ _=>rfl)) (br aR (pv 1) (pv 2) (fun _ _=>rfl)) (bA _))))) (ak (aD bZ)) aW)))
  (ak (aD bZ))),?_⟩
 have lm:(ns.map V.int).length=ns.length:=List.length_map _
 refine ⟨_,rfl,_,_,_,_,_,rfl,iA,.lst hp,eD,_,rfl,bB ⟨_,rfl,p,_,rfl,.inl (aj.of hp),_,rfl,r,_,rfl,.inl (aj.of hr2),rfl,_,rfl,gk rfl ?_⟩⟩
 refine ⟨_,rfl,r,_,rfl,.inl (aj.of hr2),_,rfl,by lia,by lia,cW (lo:=0) (n:=(((ns.map V.int).length:Nat):Int).toNat) (fun i σ H'=>H=H'/\∃ o,σ=[some (.ref p),some (.ref r),o]) ⟨rfl,_,rfl⟩ ?_ ?_⟩
 ·rintro i σ H' hi ⟨rfl,o,rfl⟩
  have at1:=dF (ns:=ns) (i:=(0:Int)+(i:Int)) (by lia) (by lia)
  exact ⟨_,rfl,_,rfl,p,_,_,_,rfl,rfl,aj.of hp,at1,_,rfl,_,rfl,bB ⟨_,rfl,_,rfl,p,_,_,_,rfl,rfl,aj.of hp,at1,_,rfl,_,rfl,r,_,_,_,rfl,rfl,aj.of hr2,at1,rfl,_,rfl,gk rfl ⟨rfl,_,rfl⟩⟩⟩
 ·rintro σ H' ⟨rfl,o,rfl⟩
  exact q
theorem wI (F:bG K "_law_rows" "_law_rows" ja f fd) {f0:Addr} {fd0:FuncData} (pI:Def P w K mg base "_law_numbers" ["_law_found","_law_due"] 2 (m5 K ca) f0 fd0) (aQ:mg "isinstance" = none) (bP:mg "list" = none) (aI:mg "len" = none) (aT:mg "range" = none):aL P w K mg base bC 3 f fd ["_law_found","_law_due"] (mH K ca):=by
 refine F.ok rp (fun vs H Q E h=>?_) (fun cdv A outer s H vs Q E hr h=>?_)
 ·obtain ⟨p,r,H0,H1,rs,rfl,hp,hr2,hz,hm,q⟩:=h
  rfl
 obtain ⟨p,r,H0,H1,rs,rfl,hp,hr2,hz,hm,q⟩:=h
 refine ⟨_,aq (bK (PW.pt (dH (bO (bL (aw cR rfl aQ cD (aa (pv 0) (aa (eW (v:=.ty "list") rfl bP eX rfl) ae))))) (dq (bj gx (aw aB rfl aI bt (aa (pv 0) ae)) (aw aB rfl aI bt (aa (pv 1) ae)) (bA _))))) (ak (aD bZ)) aW)
  (aq (cz PassesOwn.never rfl (dc rfl aT (aa (aw aB rfl aI bt (aa (pv 1) ae)) ae)) (aF (i:=2) rp.nd rfl (Or.inl rfl)) (ak (bK (bO (bL (aG pI hr (aa (br aR (pv 0) (pv 2) (fun _ _=>rfl)) (aa (br aR (pv 1) (pv 2) (fun _ _=>rfl)) ae))))) (ak (aD bZ)) aW)))
  (ak (aD bZ))),?_⟩
 obtain ⟨xs,ex,lx⟩:=hp.len
 obtain ⟨ys,ey,ly⟩:=hr2.len
 refine ⟨_,rfl,_,_,_,_,_,rfl,iA,.lst ex,eD,_,rfl,bB ⟨_,rfl,p,_,rfl,.inl (aj.of ex),_,rfl,r,_,rfl,.inl (aj.of ey),rfl,_,rfl,gk (congrArg (fun k:Nat=>V.int (k:Int)) (lx.trans ly.symm)) ?_⟩⟩
 refine ⟨_,rfl,r,_,rfl,.inl (aj.of ey),_,rfl,by lia,by lia,cW (lo:=0) (n:=((ys.length:Nat):Int).toNat) (fun i σ H'=>H=H'/\∃ o,σ=[some (.ref p),some (.ref r),o]) ⟨rfl,_,rfl⟩ ?_ ?_⟩
 ·rintro i σ H' hi ⟨rfl,o,rfl⟩
  have hik:i < rs.length:=by lia
  have ei:rs[i]? = some rs[i]:=List.getElem?_eq_getElem hik
  obtain ⟨b1,e1,h1,_⟩:=hp.get ex ei
  obtain ⟨b2,e2,h2,_⟩:=hr2.get ey ei
  have at1:dm xs ((0:Int)+(i:Int))=some (.ref b1):=by rw [Int.zero_add]; exact eV e1
  have at2:dm ys ((0:Int)+(i:Int))=some (.ref b2):=by rw [Int.zero_add]; exact eV e2
  exact ⟨_,rfl,_,rfl,p,_,_,_,rfl,rfl,aj.of ex,at1,_,rfl,_,rfl,r,_,_,_,rfl,rfl,aj.of ey,at2,b1,b2,rs[i],rfl,h1,h2,hm _ (List.getElem_mem hik),_,rfl,bB ⟨rfl,_,rfl⟩⟩
 ·rintro σ H' ⟨rfl,o,rfl⟩
  exact q
theorem wq (F:bG K "_law_pairs" "_law_pairs" iZ f fd) {f0:Addr} {fd0:FuncData} (gE:Def P w K mg base "_law_whole" ["_law_found"] 1 (j0 K ca) f0 fd0) (aQ:mg "isinstance" = none) (bP:mg "list" = none) (aI:mg "len" = none) (aT:mg "range" = none) (km:mg "tuple" = none):aL P w K mg base bC 2 f fd ["_law_found","_law_due"] (n5 K ca):=by
 refine F.ok rq (fun vs H Q E h=>?_) (fun cdv A outer s H vs Q E hr h=>?_)
 ·obtain ⟨p,r,ps,rfl,hp,hr2,hz,q⟩:=h
  rfl
 obtain ⟨p,r,ps,rfl,hp,hr2,hz,q⟩:=h
 refine ⟨_,aq (bK (PW.pt (dH (bO (bL (aw cR rfl aQ cD (aa (pv 0) (aa (eW (v:=.ty "list") rfl bP eX rfl) ae))))) (dq (bj gx (aw aB rfl aI bt (aa (pv 0) ae)) (aw aB rfl aI bt (aa (pv 1) ae)) (bA _))))) (ak (aD bZ)) aW)
  (aq (cz PassesOwn.never rfl (dc rfl aT (aa (aw aB rfl aI bt (aa (pv 1) ae)) ae)) (aF (i:=2) rq.nd rfl (Or.inl rfl)) (aq (bK (PW.pt (dH (bO (bL (aw cR rfl aQ cD (aa (br aR (pv 0) (pv 2) (fun _ _=>rfl)) (aa (eW (v:=.ty "tuple") rfl km tO rfl) ae))))) (dq (bj gx (aw aB rfl aI bt (aa (br aR (pv 0) (pv 2) (fun _ _=>rfl)) ae)) ar (bA _))))) (ak (aD bZ)) aW)
  (ak (bK (PW.pt (dH (bO (bL (aG gE hr (aa (br rk (br aR (pv 0) (pv 2) (fun _ _=>rfl)) ar (fun _ _=>rfl)) ae)))) (dH (bO (bL (aG gE hr (aa (br rk (br aR (pv 0) (pv 2) (fun _ _=>rfl)) ar (fun _ _=>rfl)) ae)))) (dq (bj ((rX (gv hr)).or (wW (gv hr))) (br aR (pv 0) (pv 2) (fun _ _=>rfl)) (br aR (pv 1) (pv 2) (fun _ _=>rfl)) (bA _)))))) (ak (aD bZ)) aW))))
  (ak (aD bZ))),?_⟩
 obtain ⟨xs,ep,lx,px⟩:=hp.len
 obtain ⟨ys,er,ly,py⟩:=hr2.len
 refine ⟨_,rfl,_,_,_,_,_,rfl,iA,.lst ep,eD,_,rfl,bB ⟨_,rfl,p,_,rfl,.inl (aj.of ep),_,rfl,r,_,rfl,.inl (aj.of er),rfl,_,rfl,gk (congrArg V.int (by lia)) ?_⟩⟩
 refine ⟨_,rfl,r,_,rfl,.inl (aj.of er),_,rfl,by lia,by lia,cW (lo:=0) (n:=((ys.length:Nat):Int).toNat) (fun i σ H'=>H=H'/\∃ o,σ=[some (.ref p),some (.ref r),o]) ⟨rfl,_,rfl⟩ ?_ ?_⟩
 ·rintro i σ H' hi ⟨rfl,o,rfl⟩
  have hix:i < xs.length:=by lia
  have hiy:i < ys.length:=by lia
  obtain ⟨p1,t1,e1,hx1,h1⟩:=px.get (List.getElem?_eq_getElem hix)
  obtain ⟨p2,t2,e2,hy2,h2⟩:=py.get (List.getElem?_eq_getElem hiy)
  have ep12:p1=p2:=by rw [e1] at e2; injection e2
  subst ep12
  have a1:dm xs ((0:Int)+(i:Int))=some (.ref t1):=by
   have:=eV (xs:=xs) (j:=i) (by rw [List.getElem?_eq_getElem hix,hx1])
   rw [show (0:Int)+(i:Int)=(i:Int) by lia]
   exact this
  have a2:dm ys ((0:Int)+(i:Int))=some (.ref t2):=by
   have:=eV (xs:=ys) (j:=i) (by rw [List.getElem?_eq_getElem hiy,hy2])
   rw [show (0:Int)+(i:Int)=(i:Int) by lia]
   exact this
  have b0:dm [V.int p1.1,V.int p1.2] 0=some (.int p1.1):=rfl
  have b1:dm [V.int p1.1,V.int p1.2] 1=some (.int p1.2):=rfl
  refine ⟨_,rfl,_,rfl,p,_,_,_,rfl,rfl,aj.of ep,a1,_,_,_,_,_,rfl,iA,.tup h1,jD,_,rfl,bB ⟨_,rfl,_,rfl,p,_,_,_,rfl,rfl,aj.of ep,a1,t1,_,rfl,.inr (cI.of h1),rfl,_,rfl,gk rfl ?_⟩⟩
  refine ⟨_,rfl,_,rfl,p,_,_,_,rfl,rfl,aj.of ep,a1,t1,_,_,_,rfl,rfl,cI.of h1,b0,_,rfl,_,rfl,bB ⟨_,rfl,_,rfl,p,_,_,_,rfl,rfl,aj.of ep,a1,t1,_,_,_,rfl,rfl,cI.of h1,b1,_,rfl,_,rfl,bB ?_⟩⟩
  refine ⟨_,rfl,_,rfl,p,_,_,_,rfl,rfl,aj.of ep,a1,_,rfl,_,rfl,r,_,_,_,rfl,rfl,aj.of er,a2,?_⟩
  by_cases et:t1=t2
  ·subst et
   exact .inr ⟨t1,_,_,rfl,rfl,h1,_,rfl,bB ⟨rfl,_,rfl⟩⟩
  ·refine .inl ⟨1,_,by decide,bg.two et h1 h2,⟨t1,t2,rfl,rfl,et⟩,_,rfl,?_⟩
   rw [decide_eq_true (rfl:p1.1=p1.1),decide_eq_true (rfl:p1.2=p1.2)]
   exact bB ⟨rfl,_,rfl⟩
 ·rintro σ H' ⟨rfl,o,rfl⟩
  exact q
theorem yi (F:bG K "_law_feet_back" "_law_feet_back" ko f fd) (aT:mg "range" = none) (aI:mg "len" = none) (jb:mg "max" = none) (iN:mg "min" = none) (aU:mg "sorted" = none):aL P w K mg base bC 1 f fd ["_law_rooms","_law_size"] (p4 K ca):=by
 refine F.ok gn (fun vs H Q E h=>?_) (fun cdv A outer s H vs Q E hr h=>?_)
 ·obtain ⟨l,H0,rs,n,rfl,hl,gd,hn,q⟩:=h
  rfl
 obtain ⟨l,H0,rs,n,rfl,hl,gd,hn,q⟩:=h
 refine ⟨_,aq (bh (i:=2) gn.nd rfl (Or.inl rfl) (cq ae))
  (aq (cz PassesOwn.never rfl (bz (pv 0)) (aF (i:=3) gn.nd rfl (Or.inl rfl)) (ak (cz PassesOwn.never rfl (dc rfl aT (aa (aw aB rfl aI bt (aa (pv 3) ae)) ae)) (aF (i:=4) gn.nd rfl (Or.inl rfl)) (aq (bh (i:=5) gn.nd rfl (Or.inl rfl) (ay bY ar (br aR (pv 3) (pv 4) (fun _ _=>rfl))))
  (aq (bh (i:=6) gn.nd rfl (Or.inl rfl) (ay nF (ay bY ar (br aR (pv 3) (ay bN (ay cG (pv 4) ar) (aw aB rfl aI bt (aa (pv 3) ae))) (fun _ _=>rfl))) ar))
  (aq (bK (bj gy (pv 6) ar (bA _)) (ak (bh (i:=6) gn.nd rfl (Or.inl rfl) (ay nF (ay bY ar (pv 1)) ar))) aW)
  (ak (aX (di PySem.F.plainAttrs_list PySem.F.slot_list_append PySem.F.type_list_append bE (pv 2) (aa (hW (aa (aw (lK rfl) rfl iN qR (aa (pv 5) (aa (pv 6) ae))) (aa (aw (lJ rfl) rfl jb rY (aa (pv 5) (aa (pv 6) ae))) ae))) ae))))))))))
  (ak (aD (aw dG rfl aU c0 (aa (pv 2) ae))))),?_⟩
 obtain ⟨xl,el,lxl⟩:=hl.len
 have lf:=gd.ftl
 have la:=(kL (2*(n:Int)) rs).length_eq
 rw [List.length_map] at la
 have pre:∀ i,(((rs.take i).flatMap (eK (2*(n:Int)))).length<=40):=fun i=>by
  have:=congrArg (fun z=>(List.flatMap (eK (2*(n:Int))) z).length) (List.take_append_drop i rs)
  simp only [List.flatMap_append,List.length_append] at this
  lia
 refine ⟨Nat.zero_le _,fun pf hpf=>?_⟩
 have s1:=ag.new (ag.refl H) hpf (.lst [])
 have PUT:∀ {H3:Hp} {ys:List V} {ps:List Pair} {a b:Int} {u:Addr},ag H H3->H3 pf=some (.lst ys)->bQ H3 ys ps->H3 u=none->ag H (upd (upd H3 u (.tup [.int a,.int b])) pf (.lst (ys++[.ref u])))/\(upd H3 u (.tup [.int a,.int b])) pf=some (.lst ys)/\bQ (upd (upd H3 u (.tup [.int a,.int b])) pf (.lst (ys++[.ref u]))) (ys++[.ref u]) (ps++[(a,b)]):=by
  intro H3 ys ps a b u sm hy py hu
  have y1:upd H3 u (.tup [.int a,.int b]) pf=some (.lst ys):=(ao (au hy hu)).trans hy
  exact ⟨(ag.new sm hu _).upd hpf _,y1,((py.updN hu _).snoc (p:=(a,b)) af).updL y1 _⟩
 refine ⟨_,rfl,l,rfl,⟨_,aj.of (s1 _ _ el)⟩,df (xs:=xl) (fun i σ H'=>∃ (o1 o2 o3 o4:Option V) (ys:List V),σ=[some (.ref l),some (.int n),some (.ref pf),o1,o2,o3,o4]/\ag H H'/\H' pf=some (.lst ys)/\bQ H' ys ((rs.take i).flatMap (eK (2*(n:Int))))) ⟨_,_,_,_,[],rfl,s1,af,.nil⟩ (fun i σ H' _ h=>by obtain ⟨_,_,_,_,_,_,sm,_⟩:=h; exact aj.of (sm _ _ el)) ?_ ?_⟩
 ·rintro i v σ H3 hv ⟨o1,o2,o3,o4,ys,rfl,sm,hy,py⟩
  obtain ⟨b,r,rfl,hr,hb,_⟩:=hl.at el hv
  have hr1:=List.mem_of_getElem? hr
  have ne:=gd.ne r hr1
  have lr0:=List.length_pos_iff.mpr ne
  have ly:=py.length
  have lp:=pre i
  have lp1:=pre (i+1)
  have etk:(rs.take (i+1)).flatMap (eK (2*(n:Int)))=(rs.take i).flatMap (eK (2*(n:Int)))++eK (2*(n:Int)) r:=by rw [List.take_add_one,hr,List.flatMap_append]; simp
  rw [etk] at lp1
  rw [List.length_append] at lp1
  have lrm:(r.map V.int).length=r.length:=List.length_map _
  have lrt:=uS (2*(n:Int)) ne
  refine ⟨_,rfl,b,_,rfl,.inl (aj.of (sm _ _ hb)),_,rfl,by lia,by lia,cW (lo:=0) (n:=(((r.map V.int).length:Nat):Int).toNat) (fun k σ H'=>∃ (o2 o3 o4:Option V) (zs:List V),σ=[some (.ref l),some (.int n),some (.ref pf),some (.ref b),o2,o3,o4]/\ag H H'/\H' pf=some (.lst zs)/\bQ H' zs ((rs.take i).flatMap (eK (2*(n:Int)))++(eK (2*(n:Int)) r).take k)) ⟨_,_,_,_,rfl,sm,hy,by rw [List.take_zero,List.append_nil]; exact py⟩ ?_ ?_⟩
  ·rintro k σ H5 hk ⟨o2,o3,o4,zs,rfl,s5,hz5,pz5⟩
   have hk1:k < r.length:=by lia
   have lz:=pz5.length
   rw [List.length_append,List.length_take] at lz
   have at0:=dF (ns:=r) (i:=(0:Int)+(k:Int)) (by lia) (by lia)
   rw [show ((0:Int)+(k:Int)).toNat=k by lia] at at0
   have ei:((0:Int)+(k:Int)+1) % (((r.map V.int).length:Nat):Int)=(((k+1) % r.length:Nat):Int):=by rw [lrm,show (0:Int)+(k:Int)+1=((k+1:Nat):Int) by lia]; exact (Int.natCast_emod _ _).symm
   have li:=Nat.mod_lt (k+1) lr0
   have at1:dm (r.map V.int) (((0:Int)+(k:Int)+1) % (((r.map V.int).length:Nat):Int))=some (.int (r.getD ((k+1) % r.length) 0)):=by
    rw [ei]
    have:=dF (ns:=r) (i:=(((k+1) % r.length:Nat):Int)) (by lia) (by lia)
    rwa [Int.toNat_natCast] at this
   have hb5:=s5 _ _ hb
   refine ⟨_,rfl,_,rfl,b,_,_,_,rfl,rfl,aj.of hb5,at0,_,_,rfl,rfl,.inl ⟨by decide,by decide⟩,?_⟩
   refine ⟨_,rfl,_,rfl,_,_,rfl,rfl,_,rfl,b,_,rfl,.inl (aj.of hb5),_,_,rfl,rfl,by lia,b,_,_,_,rfl,rfl,aj.of hb5,at1,_,_,rfl,rfl,.inl ⟨by decide,by decide⟩,_,_,rfl,rfl,?_⟩
   refine ⟨_,rfl,_,_,rfl,rfl,_,rfl,?_⟩
   by_cases c:2*r.getD ((k+1) % r.length) 0 - 1 < 0
   ·refine g5 c ⟨_,rfl,_,_,rfl,rfl,.inl ⟨by decide,by decide⟩,_,_,rfl,rfl,?_⟩
    refine ⟨_,rfl,.inl ⟨rfl,_,aj.of hz5⟩,_,rfl,_,rfl,_,_,rfl,_,rfl,_,rfl,_,_,rfl,(by show 2<=sizeLine; decide),fun u hu=>?_⟩
    obtain ⟨c1,c2,c3⟩:=PUT (a:=if 2*(n:Int) - 1 < 2*r.getD k 0 then 2*(n:Int) - 1 else 2*r.getD k 0) (b:=if 2*(n:Int) - 1 > 2*r.getD k 0 then 2*(n:Int) - 1 else 2*r.getD k 0) s5 hz5 pz5 hu
    refine ⟨pf,_,_,rfl,rfl,c2,eI (by lia),_,_,_,_,rfl,c1,af,?_⟩
    rw [List.take_add_one,qY gd hr1 hk1,<- List.append_assoc]
    rw [pZ (2*r.getD k 0) (2*(n:Int) - 1)] at c3
    unfold uE
    rw [if_pos c]
    exact c3
   ·refine hV c ?_
    refine ⟨_,rfl,.inl ⟨rfl,_,aj.of hz5⟩,_,rfl,_,rfl,_,_,rfl,_,rfl,_,rfl,_,_,rfl,(by show 2<=sizeLine; decide),fun u hu=>?_⟩
    obtain ⟨c1,c2,c3⟩:=PUT (a:=if 2*r.getD ((k+1) % r.length) 0 - 1 < 2*r.getD k 0 then 2*r.getD ((k+1) % r.length) 0 - 1 else 2*r.getD k 0) (b:=if 2*r.getD ((k+1) % r.length) 0 - 1 > 2*r.getD k 0 then 2*r.getD ((k+1) % r.length) 0 - 1 else 2*r.getD k 0) s5 hz5 pz5 hu
    refine ⟨pf,_,_,rfl,rfl,c2,eI (by lia),_,_,_,_,rfl,c1,af,?_⟩
    rw [List.take_add_one,qY gd hr1 hk1,<- List.append_assoc]
    rw [pZ (2*r.getD k 0) (2*r.getD ((k+1) % r.length) 0 - 1)] at c3
    unfold uE
    rw [if_neg c]
    exact c3
  ·rintro σ H5 ⟨o2,o3,o4,zs,rfl,s5,hz5,pz5⟩
   refine ⟨_,_,_,_,zs,rfl,s5,hz5,?_⟩
   rw [etk]
   have eT:(eK (2*(n:Int)) r).take (((r.map V.int).length:Nat):Int).toNat=eK (2*(n:Int)) r:=List.take_of_length_le (by lia)
   rw [eT] at pz5
   exact pz5
 ·rintro σ H3 ⟨o1,o2,o3,o4,ys,rfl,sm,hy,py⟩
  rw [List.take_of_length_le (by lia)] at py
  exact ⟨_,rfl,pf,_,rfl,⟨_,hy,py⟩,by lia,fun p' qs H7 s7 f7 h7 pmq rsq=>q p' qs H7 (sm.trans s7) (sm.free f7) h7 (pmq.trans (kL _ rs)) rsq⟩
theorem vV (F:bG K "_law_one" "_law_one" i9 f fd) (aI:mg "len" = none):aL P w K mg base bC 1 f fd ["_law_rooms","_law_low","_law_high"] (nv K ca):=by
 refine F.ok nJ (fun vs H Q E h=>?_) (fun cdv A outer s H vs Q E hr h=>?_)
 ·obtain ⟨l,H0,rs,lo,hi,rfl,hl,hm,q⟩:=h
  rfl
 obtain ⟨l,H0,rs,lo,hi,rfl,hl,hm,q⟩:=h
 refine ⟨_,aq (cz PassesOwn.never rfl (bz (pv 0)) (aF (i:=3) nJ.nd rfl (Or.inl rfl)) (aq (bh (i:=4) nJ.nd rfl (Or.inl rfl) (aw aB rfl aI bt (aa (dC rfl (bz (pv 3)) rfl rfl rfl rfl (N:=["_law_number","_law_low","_law_high"]) (.own (.cap (j:=1) rfl rfl rfl (.cap (j:=2) rfl rfl rfl .nil))) (fun _ _ _ _ _ _=>(aF (i:=0) (by show List.Nodup (["_law_number","_law_low","_law_high"]:List Str); decide +kernel) rfl (Or.inl rfl))) (fun _ _ _ _ _ _=>(kS (PW.pt (om (bj x8 (pv 1) (pv 0) (bA _)) (kT (bj gy (pv 0) (pv 2) (bA _))))))) (fun _ _ _ _ _ _=>(pv 0))) ae)))
  (ak (bK (PW.pt (om (bj gx (pv 4) ar (bA _)) (kT (bj gx (pv 4) (aw aB rfl aI bt (aa (pv 3) ae)) (bA _))))) (ak (aD bZ)) aW))))
  (ak (aD bZ)),?_⟩
 obtain ⟨xl,el,lxl⟩:=hl.len
 refine ⟨_,rfl,l,rfl,⟨_,aj.of el⟩,df (xs:=xl) (fun i σ H'=>∃ (o1 o2:Option V),σ=[some (.ref l),some (.int lo),some (.int hi),o1,o2]/\ag H H'/\∀ r∈rs.take i,oO lo hi r) ⟨_,_,rfl,ag.refl H,by simp⟩ (fun i σ H' _ h=>by obtain ⟨_,_,_,sm,_⟩:=h; exact aj.of (sm _ _ el)) ?_ ?_⟩
 ·rintro i v σ H2 hv ⟨o1,o2,rfl,sm,al⟩
  obtain ⟨b,r,rfl,hr,hb,_⟩:=hl.at el hv
  have hr1:=List.mem_of_getElem? hr
  have hlr:=hm r hr1
  have hb2:=sm _ _ hb
  have lrm:(r.map V.int).length=r.length:=List.length_map _
  have next:oO lo hi r->∀ s∈rs.take (i+1),oO lo hi s:=fun hc s hs=>by
   rw [List.take_add_one,hr] at hs
   rcases List.mem_append.mp hs with z | z
   ·exact al s z
   ·have:s=r:=by simpa using z
    rw [this]; exact hc
  refine ⟨_,rfl,b,rfl,⟨_,aj.of hb2⟩,fun D hD=>bX (xs:=r.map V.int) (fun k ys H'=>ag H2 H'/\H' D=some (.lst ys)/\ys.length=((r.take k).filter (fv lo hi)).length/\k<=r.length) (sz (by lia)) ⟨ag.new (ag.refl H2) hD _,af,rfl,Nat.zero_le _⟩ (fun k ys H' hk h=>⟨aj.of (h.1 _ _ hb2),?_⟩) (fun k x ys H' R R0 hx h r' r0=>?_) (fun ys H' h=>?_)⟩
  ·rw [h.2.2.1]
   exact Nat.le_trans (List.length_filter_le _ _) (by rw [List.length_take]; lia)
  ·obtain ⟨sk,hy,ey,hk⟩:=h
   obtain ⟨c,rfl⟩:=fU hx
   have hk1:k < r.length:=by
    have:=(List.getElem?_eq_some_iff.mp hx).1
    lia
   have hc:r[k]? = some c:=by
    rw [List.getElem?_map] at hx
    cases e:r[k]? with
    | none=>rw [e] at hx; cases hx
    | some d =>
     rw [e] at hx
     injection hx with hx
     injection hx with hx
     rw [hx]
   have etk:(r.take (k+1)).filter (fv lo hi)=(r.take k).filter (fv lo hi)++if lo<=c/\c < hi then [c] else []:=by
    rw [List.take_add_one,hc,List.filter_append]
    refine congrArg _ ?_
    show List.filter _ [c]=_
    rw [List.filter_cons]
    by_cases z:lo<=c/\c < hi
    ·rw [if_pos z,if_pos (show fv lo hi c=true from decide_eq_true z)]; rfl
    ·rw [if_neg z,if_neg (by rw [fv,decide_eq_false z]; decide)]; rfl
   refine ⟨Ext.set rfl,⟨_,rfl,_,rfl,_,_,rfl,rfl,_,rfl,?_⟩⟩
   by_cases c1:lo<=c
   ·refine g5 c1 ⟨_,rfl,_,rfl,_,_,rfl,rfl,_,rfl,?_⟩
    by_cases c2:c < hi
    ·rw [if_pos ⟨c1,c2⟩] at etk
     refine g5 c2 ⟨_,rfl,r' _ _ hy ⟨sk.upd hD _,af,?_,by lia⟩⟩
     rw [etk,List.length_append,List.length_append,ey]
     rfl
    ·rw [if_neg (fun z=>c2 z.2),List.append_nil] at etk
     exact hV c2 (r0 _ ⟨sk,hy,by rw [etk,ey],by lia⟩)
   ·rw [if_neg (fun z=>c1 z.1),List.append_nil] at etk
    exact hV c1 (r0 _ ⟨sk,hy,by rw [etk,ey],by lia⟩)
  ·obtain ⟨sk,hy,ey,_⟩:=h
   rw [List.take_of_length_le (by lia)] at ey
   have t2:=sm.trans sk
   refine ⟨D,_,rfl,.inl (aj.of hy),?_⟩
   refine ⟨_,rfl,rfl,_,rfl,?_⟩
   by_cases c1:ys.length=0
   ·exact gk (congrArg (fun z:Nat=>V.int (z:Int)) c1) ⟨_,_,rfl,t2,next (sU (by lia))⟩
   ·refine uK (fun z=>c1 (by have:=V.int.inj z; lia)) ⟨_,rfl,_,rfl,b,_,rfl,.inl (aj.of (sk _ _ hb2)),rfl,_,rfl,?_⟩
    by_cases c2:ys.length=r.length
    ·exact gk (congrArg (fun z:Nat=>V.int (z:Int)) (c2.trans lrm.symm)) ⟨_,_,rfl,t2,next (vK (by lia))⟩
    ·refine uK (fun z=>c2 (by have:=V.int.inj z; lia)) ?_
     exact q false H' t2 ⟨fun z=>(by cases z),fun w=>absurd (w r hr1) (uT (by lia) (by lia))⟩
 ·rintro σ H2 ⟨o1,o2,rfl,sm,al⟩
  rw [List.take_of_length_le (by lia)] at al
  exact q true H2 sm ⟨fun _=>al,fun _=>rfl⟩
theorem vS (F:bG K "_law_by_words" "_law_by_words" ie f fd) {f0:Addr} {fd0:FuncData} (qh:Def P w K mg base "_law_one" ["_law_rooms","_law_low","_law_high"] 1 (nv K ca) f0 fd0) (aT:mg "range" = none):aL P w K mg base bC 2 f fd ["_law_rooms","_law_size","_law_by"] (nM K ca):=by
 refine F.ok jT (fun vs H Q E h=>?_) (fun cdv A outer s H vs Q E hr h=>?_)
 ·obtain ⟨l,H0,rs,G,n,by',rfl,hl,hm,g,hn,W,q⟩:=h
  rfl
 obtain ⟨l,H0,rs,G,n,by',rfl,hl,hm,g,hn,W,q⟩:=h
 refine ⟨_,aq (bh (i:=3) jT.nd rfl (Or.inl rfl) (cq ae))
  (aq (cz PassesOwn.never rfl (dc rfl aT (aa (pv 1) ae)) (aF (i:=4) jT.nd rfl (Or.inr rfl)) (aq (eQ (i:=5) jT.nd rfl (Or.inl rfl) rfl rfl (bz (pv 3)) rfl rfl rfl rfl (N:=["_law_room","_law_rooms","_law_by","_law_k"]) (.own (.cap (j:=0) rfl rfl rfl (.cap (j:=2) rfl rfl rfl (.cap (j:=4) rfl rfl rfl .nil)))) (fun _ _ _ _ _ _=>(aF (i:=0) (by show List.Nodup (["_law_room","_law_rooms","_law_by","_law_k"]:List Str); decide +kernel) rfl (Or.inl rfl))) (fun _ _ _ _ _ _=>(kS (bL (aG qh hr (aa (pv 1) (aa (ay cG (br (ji (K:=K) rfl) (pv 0) ar (fun _ _=>rfl)) (pv 2)) (aa (ay cG (pv 3) (pv 2)) ae))))))) (fun _ _ _ _ _ _=>(pv 0)))
  (ak (bK (bj (sN (gv hr)) (pv 5) (cq ae) (bA _)) (ak (aX (di PySem.F.plainAttrs_list PySem.F.slot_list_append PySem.F.type_list_append bE (pv 3) (aa (cq (aa (pv 4) ae)) ae)))) (ak (aX (di PySem.F.plainAttrs_list PySem.F.slot_list_append PySem.F.type_list_append bE (br aR (pv 5) ar (fun _ _=>rfl)) (aa (pv 4) ae))))))))
  (ak (aD (pv 3)))),?_⟩
 have fl:G.flatten.length=n:=by rw [g.flat.length_eq,dZ]
 have lG:=fE g.ne fl
 refine ⟨Nat.zero_le _,fun pf hpf=>?_⟩
 have s1:=ag.new (ag.refl H) hpf (.lst [])
 have u0:aM ((0:Nat):Int) G=[]:=gO fun r hr=>by
  have:=(g.bd hr (cB (g.ne r hr))).1
  lia
 refine ⟨_,rfl,_,rfl,by lia,by lia,cW (lo:=0) (n:=(n:Int).toNat) (fun k σ H'=>∃ (o1 o2:Option V),σ=[some (.ref l),some (.int n),some (.int by'),some (.ref pf),o1,o2]/\ag H H'/\aO H H' pf (aM (k:Int) G)) ⟨_,_,rfl,s1,by rw [u0]; exact aO.nil af⟩ ?_ ?_⟩
 ·rintro k σ H2 hk ⟨o1,o2,rfl,s2,hf⟩
  have hkn:k < n:=by lia
  obtain ⟨zs,ez,lz⟩:=hf.len
  have lu:=@tw (k:Int) G
  obtain ⟨r,hr,kr,cases'⟩:=rG g hkn
  obtain ⟨J,hJ,fin⟩:∃ J:Option Nat,(∀ (i:Nat) (d:List Int),(aM (k:Int) G)[i]? = some d->(hd d=hd r↔J=some i))/\(J=none/\aM ((k:Int)+1) G=aM (k:Int) G++[[(k:Int)]]\/∃ (j:Nat) (c:List Int),J=some j/\(aM (k:Int) G)[j]? = some c/\aM ((k:Int)+1) G=(aM (k:Int) G).set j (c++[(k:Int)])):=by
   rcases cases' with ⟨e,u⟩ | ⟨j,c,hc,eh,u⟩
   ·refine ⟨none,fun i d hd'=>⟨fun z=>?_,fun z=>by cases z⟩,.inl ⟨rfl,u⟩⟩
    obtain ⟨s,hs,e1,e2,_⟩:=pk (List.mem_of_getElem? hd') g.ne
    lia
   ·refine ⟨some j,fun i d hd'=>⟨fun z=>?_,fun z=>?_⟩,.inr ⟨j,c,rfl,hc,u⟩⟩
    ·rw [uf g.ne g.heads hd' hc (z.trans eh.symm)]
    ·injection z with z
     subst z
     rw [hc] at hd'
     injection hd' with hd'
     rw [<- hd',eh]
  refine ⟨_,rfl,pf,rfl,⟨_,aj.of ez⟩,fun D hD=>bX (xs:=zs) (fun i ys H'=>ag H2 H'/\H' D=some (.lst ys)/\ys=mt J zs i/\i<=zs.length) (sz (by lia)) ⟨ag.new (ag.refl H2) hD _,af,(by cases J<;>rfl),Nat.zero_le _⟩ (fun i ys H' hi h=>⟨aj.of (h.1 _ _ ez),by rw [h.2.2.1]; exact wo _ _ _⟩) (fun i x ys H' R R0 hx h r' r0=>?_) (fun ys H' h=>?_)⟩
  ·obtain ⟨sk,hy,ey,hi⟩:=h
   have st:=vk J hx
   have hi1:i < zs.length:=(List.getElem?_eq_some_iff.mp hx).1
   obtain ⟨b,d,rfl,hd',hb,_⟩:=hf.at ez hx
   obtain ⟨s,hs,e1,e2,ne⟩:=pk (List.mem_of_getElem? hd') g.ne
   have T:iS rs (hd d+by') ((k:Int)+by')↔J=some i:=by
    rw [<- hJ i d hd',<- sI g hr kr (List.mem_of_getElem? hd') hs e1,e1]
    exact (W s hs (k:Int) e2 (by lia)).symm
   refine ⟨Ext.set rfl,⟨_,rfl,_,rfl,b,_,_,_,rfl,rfl,aj.of (sk _ _ hb),sE ne,_,rfl,_,_,rfl,rfl,_,rfl,_,rfl,_,_,rfl,rfl,l,H0,rs,hd d+by',(k:Int)+by',by rw [Int.zero_add]; rfl,hl.same (s2.trans sk),hm,fun t H3 s3 et=>⟨_,rfl,?_⟩⟩⟩
   cases t with
   | true =>
    rw [if_pos (T.mp (et.mp rfl))] at st
    exact cp ⟨_,rfl,r' _ _ (s3 _ _ hy) ⟨(sk.trans s3).upd hD _,af,by rw [st,<- ey],hi1⟩⟩
   | false =>
    rw [if_neg (fun z=>by have:=et.mpr (T.mpr z); cases this),List.append_nil] at st
    exact bB (r0 _ ⟨sk.trans s3,s3 _ _ hy,by rw [st,<- ey],hi1⟩)
  ·obtain ⟨sk,hy,ey,_⟩:=h
   generalize H'=H3 at *
   have t3:=s2.trans sk
   have hf3:=hf.same sk
   have ez3:=sk _ _ ez
   refine ⟨_,rfl,Nat.zero_le _,fun pe hpe=>?_⟩
   have k4:=ag.new (ag.refl H3) hpe (.lst [])
   have neo:D≠pe:=au hy hpe
   have hy4:=k4 _ _ hy
   have hf4:=hf3.same k4
   have ez4:=k4 _ _ ez3
   have t4:=t3.trans k4
   have he4:upd H3 pe (.lst []) pe=some (.lst []):=af
   generalize upd H3 pe (.lst [])=H4 at k4 hy4 hf4 ez4 t4 he4 |-
   refine ⟨1,_,by decide,bg.void neo (aj.of hy4) (aj.of he4),⟨D,pe,rfl,rfl,neo⟩,_,rfl,?_⟩
   rcases fin with ⟨rfl,u⟩ | ⟨j,c,rfl,hc,u⟩
   ·have e0:ys=[]:=ey
    refine eqT (decide_eq_true e0) ⟨_,rfl,.inl ⟨rfl,_,aj.of ez4⟩,_,rfl,(by show 1<=sizeLine; decide),fun b hb=>?_⟩
    refine ⟨pf,_,_,rfl,rfl,(ao (au ez4 hb)).trans ez4,eI (by lia),?_⟩
    rw [Int.zero_add]
    refine ⟨_,_,rfl,(ag.new t4 hb _).upd hpf _,?_⟩
    rw [show ((k+1:Nat):Int)=(k:Int)+1 from rfl,u]
    exact hf4.snoc ez4 hb (t4.free hb) [(k:Int)]
   ·obtain ⟨b,hb1,hb2,hb3,hb4⟩:=hf4.get ez4 hc
    have hj:j < zs.length:=(List.getElem?_eq_some_iff.mp hb1).1
    have e1:ys=[.ref b]:=by
     rw [ey]
     show (if j < zs.length then (zs[j]?).toList else [])=_
     rw [if_pos hj,hb1]
     rfl
    have lc:c.length<=40:=by
     obtain ⟨s,hs,e⟩:=List.mem_map.mp (List.mem_of_getElem? hc)
     have a1:=List.length_filter_le (fun x=>decide (x < (k:Int))) s
     have a2:=(List.sublist_flatten_of_mem (List.mem_filter.mp hs).1).length_le
     have a3:(s.filter fun x=>decide (x < (k:Int))).length=c.length:=congrArg List.length e
     lia
    rw [e1] at hy4
    refine zH (decide_eq_false (by rw [e1]; simp)) ⟨_,rfl,D,_,_,_,rfl,rfl,aj.of hy4,(rfl:dm [V.ref b] 0=some _),.inl ⟨rfl,_,aj.of hb2⟩,_,rfl,b,_,_,rfl,rfl,hb2,by rw [List.length_map]; exact eI (by lia),?_⟩
    rw [Int.zero_add]
    refine ⟨_,_,rfl,t4.upd hb3 _,?_⟩
    rw [show ((k+1:Nat):Int)=(k:Int)+1 from rfl,u]
    have:=hf4.put ez4 hb1 (c++[(k:Int)])
    rw [List.map_append] at this
    exact this
 ·rintro σ H2 ⟨o1,o2,rfl,s2,hf⟩
  rw [show (((n:Int).toNat:Nat):Int)=(n:Int) by lia,ub g] at hf
  exact ⟨_,rfl,q pf H2 s2 hpf hf⟩
theorem wA (F:bG K "law" "law" eU f fd) {f0:Addr} {fd0:FuncData} (mi:Def P w K mg base "_law_cell_at" ["_law_script","_law_k"] 1 (m8 K ca) f0 fd0) {f1:Addr} {fd1:FuncData} (mq:Def P w K mg base "_law_rooms_by" ["_law_script","_law_size","_law_turn"] 3 (mS K ca) f1 fd1) {f2:Addr} {fd2:FuncData} (jH:Def P w K mg base "_law_copy" ["_law_rooms"] 1 (nq K ca) f2 fd2) {f3:Addr} {fd3:FuncData} (jS:Def P w K mg base "gaps" ["thing"] 8 (nP K ca) f3 fd3) {f4:Addr} {fd4:FuncData} (j8:Def P w K mg base "gapsback" ["thing"] 8 (mO K ca) f4 fd4) {f5:Addr} {fd5:FuncData} (fF:Def P w K mg base "_law_rows" ["_law_found","_law_due"] 3 (mH K ca) f5 fd5) {f6:Addr} {fd6:FuncData} (pX:Def P w K mg base "_law_pairs" ["_law_found","_law_due"] 2 (n5 K ca) f6 fd6) {f7:Addr} {fd7:FuncData} (t5:Def P w K mg base "_law_feet_back" ["_law_rooms","_law_size"] 1 (p4 K ca) f7 fd7) {f8:Addr} {fd8:FuncData} (gb:Def P w K mg base "rooms_to_feet" ["thing"] 7 (jY K ca) f8 fd8) {f9:Addr} {fd9:FuncData} (mx:Def P w K mg base "_law_by_words" ["_law_rooms","_law_size","_law_by"] 2 (nM K ca) f9 fd9):aL P w K mg base bC 9 f fd ["_law_script"] (wY K ca):=by
 refine F.ok dN (fun vs H Q E h=>?_) (fun cdv A outer s H vs Q E hr h=>?_)
 ·obtain ⟨a,ns,rfl,hS,h63,q⟩:=h
  rfl
 obtain ⟨a,ns,rfl,hS,h63,q⟩:=h
 refine ⟨_,aq (bh (i:=1) dN.nd rfl (Or.inl rfl) (ay bN (aG mi hr (aa (pv 0) (aa ar ae))) ar))
  (aq (bh (i:=2) dN.nd rfl (Or.inl rfl) (aG mq hr (aa (pv 0) (aa (pv 1) (aa ar ae)))))
  (aq (bh (i:=3) dN.nd rfl (Or.inl rfl) (aG jH hr (aa (pv 2) ae)))
  (aq (bh (i:=4) dN.nd rfl (Or.inl rfl) (aG jS hr (aa (pv 3) ae)))
  (aq (bh (i:=5) dN.nd rfl (Or.inl rfl) (aG j8 hr (aa (pv 3) ae)))
  (aq (bK (PW.pt (dH (bO (bL (aG fF hr (aa (pv 3) (aa (pv 2) ae))))) (dq (bO (bL (aG pX hr (aa (aG gb hr (aa (pv 4) ae)) (aa (aG t5 hr (aa (pv 2) (aa (pv 1) ae))) ae)))))))) (ak (aD bZ)) aW)
  (aq (bK (PW.pt (dH (bO (bL (aG fF hr (aa (aG j8 hr (aa (pv 4) ae)) (aa (pv 2) ae))))) (dq (bO (bL (aG fF hr (aa (aG jS hr (aa (pv 5) ae)) (aa (pv 2) ae)))))))) (ak (aD bZ)) aW)
  (aq (cz PassesOwn.never rfl (bz (ay nW (pv 4) (pv 5))) (aF (i:=6) dN.nd rfl (Or.inl rfl)) (ak (aX (di PySem.F.plainAttrs_list PySem.F.slot_list_append PySem.F.type_list_append bE (pv 6) (aa ar ae)))))
  (aq (aX (di PySem.F.plainAttrs_list PySem.F.slot_list_append PySem.F.type_list_append bE (pv 4) (aa (cq (aa ar ae)) ae)))
  (aq (aX (di PySem.F.plainAttrs_list PySem.F.slot_list_append PySem.F.type_list_append bE (pv 5) (aa (cq (aa ar ae)) ae)))
  (aq (bK (bO (bL (aG fF hr (aa (pv 3) (aa (pv 2) ae))))) (ak (aD bZ)) aW)
  (aq (bh (i:=1) dN.nd rfl (Or.inl rfl) (ay bN (aG mi hr (aa (pv 0) (aa ar ae))) ar))
  (aq (bh (i:=2) dN.nd rfl (Or.inl rfl) (aG mq hr (aa (pv 0) (aa (pv 1) (aa ar ae)))))
  (aq (bK (bO (bL (aG fF hr (aa (aG jS hr (aa (aG jH hr (aa (pv 2) ae)) ae)) (aa (aG mx hr (aa (pv 2) (aa (pv 1) (aa ar ae)))) ae))))) (ak (aD bZ)) aW)
  (ak (aD (aG fF hr (aa (aG j8 hr (aa (aG jH hr (aa (pv 2) ae)) ae)) (aa (aG mx hr (aa (pv 2) (aa (pv 1) (aa ar ae)))) ae)))))))))))))))))),?_⟩
 have hb:∀ x k:Int,0 < k->0<=x % k/\x % k < k:=fun x k hk=>⟨Int.emod_nonneg _ (by lia),Int.emod_lt_of_pos _ hk⟩
 have m0:=hb (ns.getD (0:Int).toNat 0) 41 (by decide)
 have m1:=hb (ns.getD (1:Int).toNat 0) 12 (by decide)
 have good:∀ {rs:List (List Int)} {op:List Nat} {n:Nat},cT rs op n->n<=40->Gd rs n/\rs.length<=n/\∀ r∈rs,r.length<=40:=by
  intro rs op n rom hn
  have gd:=yI rom.rooms
  have fl:rs.flatten.length=n:=by
   have:=rom.rms.flat.length_eq
   rw [tj] at this
   exact this
  rw [fl] at gd
  exact ⟨gd,fE gd.ne fl,fun r hr=>by
   have:=rom.lens.2.2.2 r hr
   lia⟩
 have lens:∀ {gs:List (List Int)} {n:Nat},Gd gs n->n<=40->gs.length<=n/\∀ r∈gs,r.length<=40:=by
  intro gs n g hn
  have fl:gs.flatten.length=n:=by rw [g.flat.length_eq,dZ]
  exact ⟨fE g.ne fl,fun r hr=>by
   have:=(List.sublist_flatten_of_mem hr).length_le
   lia⟩
 have up:∀ {gs:List (List Int)},(∀ r∈gs,r.length<=40)->∀ r∈gs,r.length<=1000:=fun h r hr=>by
  have:=h r hr
  lia
 refine ⟨_,rfl,a,ns,0,rfl,hS,by decide,_,_,rfl,rfl,pm (by decide),?_⟩
 try dsimp only
 generalize ns.getD (0:Int).toNat 0 % 41=z at m0 |-
 obtain ⟨n0,rfl⟩:∃ n:Nat,z=(n:Int):=⟨z.toNat,by lia⟩
 refine ⟨_,rfl,_,rfl,a,ns,n0,100,rfl,hS,h63,by lia,by decide,by decide,fun pr rs op H1 s1 f1 h1 rom=>?_⟩
 obtain ⟨gd,ln,lr⟩:=good rom (by lia)
 refine ⟨_,rfl,pr,H,rs,rfl,h1,by lia,fun D H2 s2 fD hD=>?_⟩
 refine ⟨_,rfl,D,H1,rs,n0,rfl,hD,gd,by lia,fun pb ps qs gs H3 s3 f3 h3 pm3 bw3 lp3 pq3 bq3 lq3 F3=>?_⟩
 refine ⟨_,rfl,D,H1,rs,n0,rfl,hD.same s3,gd,by lia,fun pa ps' us as H4 s4 f4 h4 pm4 bw4 lp4 pq4 bq4 lq4 F4=>?_⟩
 have gdb:=gh bq3 F3
 rw [lq3] at gdb
 have gda:=gh bq4 F4
 rw [lq4] at gda
 obtain ⟨lgb,lrb⟩:=lens gdb (by lia)
 obtain ⟨lga,lra⟩:=lens gda (by lia)
 have s24:=s3.trans s4
 refine ⟨_,rfl,_,rfl,D,pr,H1,H,rs,rfl,hD.same s24,h1.same (s2.trans s24),by lia,up lr,_,rfl,bB ?_⟩
 refine ⟨_,rfl,pb,H2,gs,n0,rfl,h3.same s4,gdb,by lia,fun pw ws H5 s5 f5 h5 pm5 rs5=>?_⟩
 have s25:=s24.trans s5
 refine ⟨_,rfl,_,rfl,pr,H,rs,n0,rfl,h1.same (s2.trans s25),gd,by lia,fun pv vs H6 s6 f6 h6 pm6 rs6=>?_⟩
 have s26:=s25.trans s6
 have ew:ws=vs:=by
  have e:=pm3.map (rtD (2*(ps.length:Int)))
  have e2:=pq3.trans e
  rw [lp3] at e2
  exact t8 rs5 rs6 ((pm5.trans (jF bq3 F3)).trans (e2.trans pm6.symm))
 rw [ew] at h5
 have lv:vs.length<=40:=by
  rw [pm6.length_eq,List.length_map,gd.ftl]
  lia
 refine ⟨pw,pv,vs,rfl,h5.same s6,h6,by lia,_,rfl,bB ?_⟩
 have hb6:=((h3.same s4).same s5).same s6
 have ha6:=(h4.same s5).same s6
 refine ⟨_,rfl,pb,H2,gs,n0,rfl,hb6,gdb,by lia,fun pc ps5 qs5 hs H7 s7 f7 h7 pm7 bw7 lp7 pq7 bq7 lq7 F7=>?_⟩
 have e7:hs=rs:=ud gd pm3 bw3 lp3 pq3 bq3 F3 pm7 lp7 pq7 bq7 F7
 rw [e7] at h7
 have s27:=s26.trans s7
 refine ⟨_,rfl,pc,pr,H6,H,rs,rfl,h7,h1.same (s2.trans s27),by lia,up lr,_,rfl,bB ?_⟩
 refine ⟨_,rfl,pa,H3,as,n0,rfl,ha6.same s7,gda,by lia,fun pd ps6 qs6 ks H8 s8 f8 h8 pm8 bw8 lp8 pq8 bq8 lq8 F8=>?_⟩
 have e8:ks=rs:=tQ gd pm4 bw4 lp4 pq4 bq4 F4 pm8 lp8 pq8 bq8 F8
 rw [e8] at h8
 have s28:=s27.trans s8
 refine ⟨_,rfl,pd,pr,H7,H,rs,rfl,h8,h1.same (s2.trans s28),by lia,up lr,_,rfl,bB ?_⟩
 have hb8:=(hb6.same s7).same s8
 have ha8:=(ha6.same s7).same s8
 obtain ⟨xb,eb,lxb⟩:=hb8.len
 obtain ⟨xa,ea,lxa⟩:=ha8.len
 have fpa:H2 pa=none:=s3.free f4
 have lxx:(xb++xa).length<=80:=by rw [List.length_append]; lia
 refine ⟨_,rfl,_,rfl,pb,pa,_,_,rfl,rfl,eb,ea,sz (by lia),fun px hpx=>?_⟩
 have kx:=ag.new (ag.refl H8) hpx (.lst (xb++xa))
 have ex:upd H8 px (.lst (xb++xa)) px=some (.lst (xb++xa)):=af
 have hbx:=hb8.same kx
 have hax:=ha8.same kx
 have ebx:=kx _ _ eb
 have eax:=kx _ _ ea
 have s29:=s28.trans kx
 have fbr:∀ v∈xb++xa,∃ (b:Addr) (ys:List V),v = .ref b/\upd H8 px (.lst (xb++xa)) b=some (.lst ys)/\ys.length<=40+0/\H2 b=none/\b≠px/\b≠pb/\b≠pa:=by
  intro v hv
  obtain ⟨xb3,eb3,_⟩:=h3.len
  rcases List.mem_append.mp hv with z | z
  ·obtain ⟨j,hj⟩:=List.mem_iff_getElem?.mp z
   obtain ⟨b,ms,rfl,hms,hbb,hb0,hbn⟩:=hb8.at eb hj
   have l1:=lrb ms (List.mem_of_getElem? hms)
   refine ⟨b,_,rfl,kx _ _ hbb,by rw [List.length_map]; lia,hb0,au hbb hpx,hbn,fun z=>?_⟩
   have e3:xb3=xb:=by
    have:=(s4.trans ((s5.trans s6).trans (s7.trans s8))) _ _ eb3
    rw [eb] at this
    injection this with this
    injection this with this
    exact this.symm
   rw [<- e3] at hj
   obtain ⟨b',ms',e',_,hbb',_⟩:=h3.at eb3 hj
   cases e'
   rw [z,f4] at hbb'
   cases hbb'
  ·obtain ⟨j,hj⟩:=List.mem_iff_getElem?.mp z
   obtain ⟨b,ms,rfl,hms,hbb,hb0,hbn⟩:=ha8.at ea hj
   have l1:=lra ms (List.mem_of_getElem? hms)
   refine ⟨b,_,rfl,kx _ _ hbb,by rw [List.length_map]; lia,s3.free hb0,au hbb hpx,fun z=>?_,hbn⟩
   rw [z,eb3] at hb0
   cases hb0
 generalize upd H8 px (.lst (xb++xa))=H9 at kx ex hbx hax ebx eax s29 fbr |-
 refine ⟨px,rfl,⟨_,aj.of ex⟩,df (xs:=xb++xa) (fun i σ H'=>∃ (o:Option V),σ=[some (.ref a),some (.int n0),some (.ref pr),some (.ref D),some (.ref pb),some (.ref pa),o]/\ag H2 H'/\H' px=some (.lst (xb++xa))/\H' pb=some (.lst xb)/\H' pa=some (.lst xa)/\∀ v∈xb++xa,∃ (b:Addr) (ys:List V),v = .ref b/\H' b=some (.lst ys)/\ys.length<=40+i/\H2 b=none/\b≠px/\b≠pb/\b≠pa) ⟨_,rfl,s29,ex,ebx,eax,fbr⟩ (fun i σ H' _ h=>by obtain ⟨_,_,_,e,_⟩:=h; exact aj.of e) ?_ ?_⟩
 ·rintro i v σ Hi hv ⟨o,rfl,si,xi,bi,ai,al⟩
  have hi:=(List.getElem?_eq_some_iff.mp hv).1
  obtain ⟨b,ys,rfl,hbi,ly,b0,bx,bb,ba⟩:=al v (List.mem_of_getElem? hv)
  refine ⟨_,rfl,.inl ⟨rfl,_,aj.of hbi⟩,b,_,_,rfl,rfl,hbi,eI (by lia),?_⟩
  refine ⟨_,rfl,si.upd b0 _,(ao (Ne.symm bx)).trans xi,(ao (Ne.symm bb)).trans bi,(ao (Ne.symm ba)).trans ai,fun v' hv'=>?_⟩
  obtain ⟨b',ys',e',hb',ly',r'⟩:=al v' hv'
  by_cases z:b'=b
  ·refine ⟨b',ys++[.int 0],e',by rw [z]; exact af,by rw [List.length_append]; show ys.length+1<=_; lia,r'⟩
  ·exact ⟨b',ys',e',(ao z).trans hb',by lia,r'⟩
 rintro σ Ha ⟨o,rfl,sa,xa',ba',aa',_⟩
 refine ⟨_,rfl,.inl ⟨rfl,_,aj.of ba'⟩,(by show 1<=sizeLine; decide),fun c hc=>?_⟩
 refine ⟨pb,_,_,rfl,rfl,(ao (au ba' hc)).trans ba',eI (by lia),?_⟩
 have npab:pa≠pb:=fun z=>by
  obtain ⟨xb3,eb3,_⟩:=h3.len
  rw [z,eb3] at f4
  cases f4
 have sb:=(ag.new sa hc (.lst [.int 0])).upd f3 (.lst (xb++[.ref c]))
 have ab':=(ao (o:=.lst (xb++[.ref c])) npab).trans ((ao (o:=.lst [.int 0]) (au aa' hc)).trans aa')
 generalize upd (upd Ha c (.lst [.int 0])) pb (.lst (xb++[.ref c]))=Hb at sb ab' |-
 refine ⟨_,rfl,.inl ⟨rfl,_,aj.of ab'⟩,(by show 1<=sizeLine; decide),fun c2 hc2=>?_⟩
 refine ⟨pa,_,_,rfl,rfl,(ao (au ab' hc2)).trans ab',eI (by lia),?_⟩
 have sc:=(ag.new sb hc2 (.lst [.int 0])).upd fpa (.lst (xa++[.ref c2]))
 generalize upd (upd Hb c2 (.lst [.int 0])) pa (.lst (xa++[.ref c2]))=Hc at sc |-
 refine ⟨_,rfl,_,rfl,D,pr,H1,H,rs,rfl,hD.same sc,h1.same (s2.trans sc),by lia,up lr,_,rfl,bB ?_⟩
 have tc:ag H Hc:=(s1.trans s2).trans sc
 refine ⟨_,rfl,a,ns,1,rfl,tc.seq hS,by decide,_,_,rfl,rfl,pm (by decide),?_⟩
 try dsimp only
 generalize ns.getD (1:Int).toNat 0 % 12=z at m1 |-
 obtain ⟨n1,rfl⟩:∃ n:Nat,z=(n:Int):=⟨z.toNat,by lia⟩
 refine ⟨_,rfl,_,rfl,a,ns,n1,200,rfl,tc.seq hS,h63,by lia,by decide,by decide,fun pr2 rs2 op2 Hd sd fd hd2 rom2=>?_⟩
 obtain ⟨gd2,ln2,lr2⟩:=good rom2 (by lia)
 refine ⟨_,rfl,pr2,Hc,rs2,rfl,hd2,by lia,fun D2 He se fe he=>?_⟩
 refine ⟨D2,Hd,rs2,n1,rfl,he,gd2,by lia,fun pg ps2 qs2 gs2 Hf sf ff hf pmf bwf lpf pqf bqf lqf Ff=>?_⟩
 have gdf:=gh bqf Ff
 rw [lqf] at gdf
 obtain ⟨lgf,lrf⟩:=lens gdf (by lia)
 have sef:=se.trans sf
 refine ⟨_,rfl,_,rfl,pr2,Hc,rs2,gs2,n1,1,rfl,hd2.same sef,lr2,gdf,by lia,vq gd2 pmf bwf lpf pqf bqf lqf Ff,fun pz Hg sg fg hg=>?_⟩
 refine ⟨pg,pz,He,Hf,gs2,rfl,hf.same sg,hg,by lia,up lrf,_,rfl,bB ?_⟩
 have seg:=sef.trans sg
 refine ⟨_,rfl,pr2,Hc,rs2,rfl,hd2.same seg,by lia,fun D3 Hh sh fh hh=>?_⟩
 refine ⟨D3,Hg,rs2,n1,rfl,hh,gd2,by lia,fun pg3 ps3 qs3 gs3 Hi si fi hi3 pmi bwi lpi pqi bqi lqi Fi=>?_⟩
 have gdi:=gh bqi Fi
 rw [lqi] at gdi
 obtain ⟨lgi,lri⟩:=lens gdi (by lia)
 refine ⟨_,rfl,_,rfl,pr2,Hc,rs2,gs3,n1,0,rfl,hd2.same (seg.trans (sh.trans si)),lr2,gdi,by lia,u9 gd2 pmi bwi lpi pqi bqi lqi Fi,fun pz3 Hj sj fj hj=>?_⟩
 exact ⟨pg3,pz3,Hh,Hi,gs3,rfl,hi3.same sj,hj,by lia,up lri,q _⟩
end
noncomputable def xI (K:W.Frag):Sp:=fun vs H Q _=>∃ (a:Addr) (ns:List Int),vs=[.ref a]/\aj K H a (ns.map V.int)/\ns.length<=63/\∀ H',Q (.bl true) H'
theorem bU {P:List Value->Prop} (h:∀ a0:Value,P [a0]):∀ us:List Value,us.length=1->P us
 | [a0],_=>h a0
theorem ck {P:List Value->Prop} (h:∀ a0 a1:Value,P [a0,a1]):∀ us:List Value,us.length=2->P us
 | [a0,a1],_=>h a0 a1
theorem dX {P:List Value->Prop} (h:∀ a0 a1 a2:Value,P [a0,a1,a2]):∀ us:List Value,us.length=3->P us
 | [a0,a1,a2],_=>h a0 a1 a2
theorem all_mk {l:W.OpenLaw} {w:World} {K:W.Frag} {h:Heap} {mg:Str->Option Value} {fa:Addr} (X:K.In h) (G:h.Ns mainGlobals mg) (hfa:mg "law" = some (.ref fa)) {aN:Addr} {aS:Addr} {cb:Addr} {aJ:Addr}
 {f1 f2 f3 f4 f5 f6 f7 f8 f9 f10 f11 f12 f13 f14 f15 f16 f17 f18 f19 f20 f21 f22 f23 f24 f25 f26 f27 f28 f29 f30 f31 f32 f33 f34 f35 f36:Addr} {od1 an1 od2 an2 od3 an3 od4 an4 od5 an5 od6 an6 od7 an7 od8 an8 od9 an9 od10 an10 od11 an11 od12 an12 od13 an13 od14 an14 od15 an15 od16 an16 od17 an17 od18 an18 od19 an19 od20 an20 od21 an21 od22 an22 od23 an23 od24 an24 od25 an25 od26 an26 od27 an27 od28 an28 od29 an29 od30 an30 od31 an31 od32 an32 od33 an33 od34 an34 od35 an35 od36 an36:Option Addr} {sl1 sl2 sl3 sl4 sl5 sl6 sl7 sl8 sl9 sl10 sl11 sl12 sl13 sl14 sl15 sl16 sl17 sl18 sl19 sl20 sl21 sl22 sl23 sl24 sl25 sl26 sl27 sl28 sl29 sl30 sl31 sl32 sl33 sl34 sl35 sl36:Array (Option Value)} {oc1 kV1 dc1 pm1 cd1 ct1 oc2 kV2 dc2 pm2 cd2 ct2 oc3 kV3 dc3 pm3 cd3 ct3 oc4 kV4 dc4 pm4 cd4 ct4 oc5 kV5 dc5 pm5 cd5 ct5 oc6 kV6 dc6 pm6 cd6 ct6 oc7 kV7 dc7 pm7 cd7 ct7 oc8 kV8 dc8 pm8 cd8 ct8 oc9 kV9 dc9 pm9 cd9 ct9 oc10 kV10 dc10 pm10 cd10 ct10 oc11 kV11 dc11 pm11 cd11 ct11 oc12 kV12 dc12 pm12 cd12 ct12 oc13 kV13 dc13 pm13 cd13 ct13 oc14 kV14 dc14 pm14 cd14 ct14 oc15 kV15 dc15 pm15 cd15 ct15 oc16 kV16 dc16 pm16 cd16 ct16 oc17 kV17 dc17 pm17 cd17 ct17 oc18 kV18 dc18 pm18 cd18 ct18 oc19 kV19 dc19 pm19 cd19 ct19 oc20 kV20 dc20 pm20 cd20 ct20 oc21 kV21 dc21 pm21 cd21 ct21 oc22 kV22 dc22 pm22 cd22 ct22 oc23 kV23 dc23 pm23 cd23 ct23 oc24 kV24 dc24 pm24 cd24 ct24 oc25 kV25 dc25 pm25 cd25 ct25 oc26 kV26 dc26 pm26 cd26 ct26 oc27 kV27 dc27 pm27 cd27 ct27 oc28 kV28 dc28 pm28 cd28 ct28 oc29 kV29 dc29 pm29 cd29 ct29 oc30 kV30 dc30 pm30 cd30 ct30 oc31 kV31 dc31 pm31 cd31 ct31 oc32 kV32 dc32 pm32 cd32 ct32 oc33 kV33 dc33 pm33 cd33 ct33 oc34 kV34 dc34 pm34 cd34 ct34 oc35 kV35 dc35 pm35 cd35 ct35 oc36 kV36 dc36 pm36 cd36 ct36:Value}
  (vh:W.nsIn K mainGlobals "Bows" = some (some (.ref aN)))
  (lB:W.nsIn K mainGlobals "SplitFamily" = some (some (.ref aS)))
  (ra:W.nsIn K mainGlobals "Family" = some (some (.ref cb)))
  (sY:W.nsIn K mainGlobals "Rooms" = some (some (.ref aJ)))
  (gL:W.findIn K (.ref aN) "refuse_other" = some (some (.ref f13)))
  (ma:W.findIn K (.ref aN) "is_one" = some (some (.ref f12)))
  (gu:W.findIn K (.ref aJ) "refuse_other" = some (some (.ref f24)))
  (kP:W.findIn K (.ref aJ) "is_one" = some (some (.ref f23)))
  (vF:W.findIn K (.ref aN) "__init__" = some (some (.ref f8)))
  (ui:W.findIn K (.ref aJ) "__init__" = some (some (.ref f21)))
  (dS:W.findCls K (.ref aS) (.type "type") "__init__" = some (.val (.ref f7)))
  (d6:W.specialIn K (.ref aS) "__getattribute__" = some (some (.builtin "type.__getattribute__")))
  (d5:W.readsIn K aS (.type "type")=true)
  (fB:W.findCls K (.ref cb) (.type "type") "__init__" = some (.val (.ref f6)))
  (fA:W.specialIn K (.ref cb) "__getattribute__" = some (some (.builtin "type.__getattribute__")))
  (fz:W.readsIn K cb (.type "type")=true)
  (dQ:W.findCls K (.ref aS) (.type "type") "__init__" = some (.val (.ref f20)))
  (dR:W.specialIn K (.ref aS) "__getattribute__" = some (some (.builtin "type.__getattribute__")))
  (dP:W.readsIn K aS (.type "type")=true)
  (fc:W.findCls K (.ref cb) (.type "type") "__init__" = some (.val (.ref f19)))
  (eZ:W.specialIn K (.ref cb) "__getattribute__" = some (some (.builtin "type.__getattribute__")))
  (fk:W.readsIn K cb (.type "type")=true)
  (a1:W.nsIn K mainGlobals "_law_cell_at" = some (some (.ref f1)))
  (l1:K.lookup f1=some ⟨oc1,od1,.func (W.fnOf "_law_cell_at" "_law_cell_at" (aA iR) (az iR) (ah iR) .none kV1 dc1 pm1 an1 cd1 ct1),sl1⟩)
  (c1:W.codeIn K cd1 "_law_cell_at" = true)
  (k1:W.keepIn K (.ref f1)=true)
  (a2:W.nsIn K mainGlobals "_law_mix" = some (some (.ref f2)))
  (l2:K.lookup f2=some ⟨oc2,od2,.func (W.fnOf "_law_mix" "_law_mix" (aA iH) (az iH) (ah iH) .none kV2 dc2 pm2 an2 cd2 ct2),sl2⟩)
  (c2:W.codeIn K cd2 "_law_mix" = true)
  (k2:W.keepIn K (.ref f2)=true)
  (a3:W.nsIn K mainGlobals "_law_draws" = some (some (.ref f3)))
  (l3:K.lookup f3=some ⟨oc3,od3,.func (W.fnOf "_law_draws" "_law_draws" (aA iY) (az iY) (ah iY) .none kV3 dc3 pm3 an3 cd3 ct3),sl3⟩)
  (c3:W.codeIn K cd3 "_law_draws" = true)
  (k3:W.keepIn K (.ref f3)=true)
  (a4:W.nsIn K mainGlobals "_law_rooms_by" = some (some (.ref f4)))
  (l4:K.lookup f4=some ⟨oc4,od4,.func (W.fnOf "_law_rooms_by" "_law_rooms_by" (aA iU) (az iU) (ah iU) .none kV4 dc4 pm4 an4 cd4 ct4),sl4⟩)
  (c4:W.codeIn K cd4 "_law_rooms_by" = true)
  (k4:W.keepIn K (.ref f4)=true)
  (a5:W.nsIn K mainGlobals "_law_copy" = some (some (.ref f5)))
  (l5:K.lookup f5=some ⟨oc5,od5,.func (W.fnOf "_law_copy" "_law_copy" (aA iB) (az iB) (ah iB) .none kV5 dc5 pm5 an5 cd5 ct5),sl5⟩)
  (c5:W.codeIn K cd5 "_law_copy" = true)
  (k5:W.keepIn K (.ref f5)=true)
  (l6:K.lookup f6=some ⟨oc6,od6,.func (W.fnOf "__init__" "Family.__init__" (aA kR) (az kR) (ah kR) .none kV6 dc6 pm6 an6 cd6 ct6),sl6⟩)
  (c6:W.codeIn K cd6 "Family.__init__" = true)
  (k6:W.keepIn K (.ref f6)=true)
  (i6:W.isFn K (.ref f6)=true)
  (l7:K.lookup f7=some ⟨oc7,od7,.func (W.fnOf "__init__" "SplitFamily.__init__" (aA kG) (az kG) (ah kG) .none kV7 dc7 pm7 an7 cd7 ct7),sl7⟩)
  (c7:W.codeIn K cd7 "SplitFamily.__init__" = true)
  (k7:W.keepIn K (.ref f7)=true)
  (i7:W.isFn K (.ref f7)=true)
  (l8:K.lookup f8=some ⟨oc8,od8,.func (W.fnOf "__init__" "Bows.__init__" (aA kN) (az kN) (ah kN) .none kV8 dc8 pm8 an8 cd8 ct8),sl8⟩)
  (c8:W.codeIn K cd8 "Bows.__init__" = true)
  (k8:W.keepIn K (.ref f8)=true)
  (i8:W.isFn K (.ref f8)=true)
  (a9:W.nsIn K mainGlobals "each_once" = some (some (.ref f9)))
  (l9:K.lookup f9=some ⟨oc9,od9,.func (W.fnOf "each_once" "each_once" (aA ik) (az ik) (ah ik) .none kV9 dc9 pm9 an9 cd9 ct9),sl9⟩)
  (c9:W.codeIn K cd9 "each_once" = true)
  (k9:W.keepIn K (.ref f9)=true)
  (a10:W.nsIn K mainGlobals "flat" = some (some (.ref f10)))
  (l10:K.lookup f10=some ⟨oc10,od10,.func (W.fnOf "flat" "flat" (aA ir) (az ir) (ah ir) .none kV10 dc10 pm10 an10 cd10 ct10),sl10⟩)
  (c10:W.codeIn K cd10 "flat" = true)
  (k10:W.keepIn K (.ref f10)=true)
  (a11:W.nsIn K mainGlobals "any_cross" = some (some (.ref f11)))
  (l11:K.lookup f11=some ⟨oc11,od11,.func (W.fnOf "any_cross" "any_cross" (aA iX) (az iX) (ah iX) .none kV11 dc11 pm11 an11 cd11 ct11),sl11⟩)
  (c11:W.codeIn K cd11 "any_cross" = true)
  (k11:W.keepIn K (.ref f11)=true)
  (l12:K.lookup f12=some ⟨oc12,od12,.func (W.fnOf "is_one" "Bows.is_one" (aA ig) (az ig) (ah ig) .none kV12 dc12 pm12 an12 cd12 ct12),sl12⟩)
  (c12:W.codeIn K cd12 "Bows.is_one" = true)
  (k12:W.keepIn K (.ref f12)=true)
  (i12:W.isFn K (.ref f12)=true)
  (l13:K.lookup f13=some ⟨oc13,od13,.func (W.fnOf "refuse_other" "Family.refuse_other" (aA lC) (az lC) (ah lC) .none kV13 dc13 pm13 an13 cd13 ct13),sl13⟩)
  (c13:W.codeIn K cd13 "Family.refuse_other" = true)
  (k13:W.keepIn K (.ref f13)=true)
  (i13:W.isFn K (.ref f13)=true)
  (a14:W.nsIn K mainGlobals "room_from" = some (some (.ref f14)))
  (l14:K.lookup f14=some ⟨oc14,od14,.func (W.fnOf "room_from" "room_from" (aA iL) (az iL) (ah iL) .none kV14 dc14 pm14 an14 cd14 ct14),sl14⟩)
  (c14:W.codeIn K cd14 "room_from" = true)
  (k14:W.keepIn K (.ref f14)=true)
  (a15:W.nsIn K mainGlobals "feet_to_rooms" = some (some (.ref f15)))
  (l15:K.lookup f15=some ⟨oc15,od15,.func (W.fnOf "feet_to_rooms" "feet_to_rooms" (aA ip) (az ip) (ah ip) .none kV15 dc15 pm15 an15 cd15 ct15),sl15⟩)
  (c15:W.codeIn K cd15 "feet_to_rooms" = true)
  (k15:W.keepIn K (.ref f15)=true)
  (a16:W.nsIn K mainGlobals "pairs_anew" = some (some (.ref f16)))
  (l16:K.lookup f16=some ⟨oc16,od16,.func (W.fnOf "pairs_anew" "pairs_anew" (aA i3) (az i3) (ah i3) .none kV16 dc16 pm16 an16 cd16 ct16),sl16⟩)
  (c16:W.codeIn K cd16 "pairs_anew" = true)
  (k16:W.keepIn K (.ref f16)=true)
  (a17:W.nsIn K mainGlobals "turned_pairs" = some (some (.ref f17)))
  (l17:K.lookup f17=some ⟨oc17,od17,.func (W.fnOf "turned_pairs" "turned_pairs" (aA iD) (az iD) (ah iD) .none kV17 dc17 pm17 an17 cd17 ct17),sl17⟩)
  (c17:W.codeIn K cd17 "turned_pairs" = true)
  (k17:W.keepIn K (.ref f17)=true)
  (a18:W.nsIn K mainGlobals "bows_turnback" = some (some (.ref f18)))
  (l18:K.lookup f18=some ⟨oc18,od18,.func (W.fnOf "bows_turnback" "bows_turnback" (aA iW) (az iW) (ah iW) .none kV18 dc18 pm18 an18 cd18 ct18),sl18⟩)
  (c18:W.codeIn K cd18 "bows_turnback" = true)
  (k18:W.keepIn K (.ref f18)=true)
  (l19:K.lookup f19=some ⟨oc19,od19,.func (W.fnOf "__init__" "Family.__init__" (aA lh) (az lh) (ah lh) .none kV19 dc19 pm19 an19 cd19 ct19),sl19⟩)
  (c19:W.codeIn K cd19 "Family.__init__" = true)
  (k19:W.keepIn K (.ref f19)=true)
  (i19:W.isFn K (.ref f19)=true)
  (l20:K.lookup f20=some ⟨oc20,od20,.func (W.fnOf "__init__" "SplitFamily.__init__" (aA kj) (az kj) (ah kj) .none kV20 dc20 pm20 an20 cd20 ct20),sl20⟩)
  (c20:W.codeIn K cd20 "SplitFamily.__init__" = true)
  (k20:W.keepIn K (.ref f20)=true)
  (i20:W.isFn K (.ref f20)=true)
  (l21:K.lookup f21=some ⟨oc21,od21,.func (W.fnOf "__init__" "Rooms.__init__" (aA kB) (az kB) (ah kB) .none kV21 dc21 pm21 an21 cd21 ct21),sl21⟩)
  (c21:W.codeIn K cd21 "Rooms.__init__" = true)
  (k21:W.keepIn K (.ref f21)=true)
  (i21:W.isFn K (.ref f21)=true)
  (a22:W.nsIn K mainGlobals "neighbours" = some (some (.ref f22)))
  (l22:K.lookup f22=some ⟨oc22,od22,.func (W.fnOf "neighbours" "neighbours" (aA iw) (az iw) (ah iw) .none kV22 dc22 pm22 an22 cd22 ct22),sl22⟩)
  (c22:W.codeIn K cd22 "neighbours" = true)
  (k22:W.keepIn K (.ref f22)=true)
  (l23:K.lookup f23=some ⟨oc23,od23,.func (W.fnOf "is_one" "Rooms.is_one" (aA i5) (az i5) (ah i5) .none kV23 dc23 pm23 an23 cd23 ct23),sl23⟩)
  (c23:W.codeIn K cd23 "Rooms.is_one" = true)
  (k23:W.keepIn K (.ref f23)=true)
  (i23:W.isFn K (.ref f23)=true)
  (l24:K.lookup f24=some ⟨oc24,od24,.func (W.fnOf "refuse_other" "Family.refuse_other" (aA kK) (az kK) (ah kK) .none kV24 dc24 pm24 an24 cd24 ct24),sl24⟩)
  (c24:W.codeIn K cd24 "Family.refuse_other" = true)
  (k24:W.keepIn K (.ref f24)=true)
  (i24:W.isFn K (.ref f24)=true)
  (a25:W.nsIn K mainGlobals "rooms_to_feet" = some (some (.ref f25)))
  (l25:K.lookup f25=some ⟨oc25,od25,.func (W.fnOf "rooms_to_feet" "rooms_to_feet" (aA kJ) (az kJ) (ah kJ) .none kV25 dc25 pm25 an25 cd25 ct25),sl25⟩)
  (c25:W.codeIn K cd25 "rooms_to_feet" = true)
  (k25:W.keepIn K (.ref f25)=true)
  (a26:W.nsIn K mainGlobals "gaps" = some (some (.ref f26)))
  (l26:K.lookup f26=some ⟨oc26,od26,.func (W.fnOf "gaps" "gaps" (aA iE) (az iE) (ah iE) .none kV26 dc26 pm26 an26 cd26 ct26),sl26⟩)
  (c26:W.codeIn K cd26 "gaps" = true)
  (k26:W.keepIn K (.ref f26)=true)
  (a27:W.nsIn K mainGlobals "bows_turn" = some (some (.ref f27)))
  (l27:K.lookup f27=some ⟨oc27,od27,.func (W.fnOf "bows_turn" "bows_turn" (aA iQ) (az iQ) (ah iQ) .none kV27 dc27 pm27 an27 cd27 ct27),sl27⟩)
  (c27:W.codeIn K cd27 "bows_turn" = true)
  (k27:W.keepIn K (.ref f27)=true)
  (a28:W.nsIn K mainGlobals "gapsback" = some (some (.ref f28)))
  (l28:K.lookup f28=some ⟨oc28,od28,.func (W.fnOf "gapsback" "gapsback" (aA i0) (az i0) (ah i0) .none kV28 dc28 pm28 an28 cd28 ct28),sl28⟩)
  (c28:W.codeIn K cd28 "gapsback" = true)
  (k28:W.keepIn K (.ref f28)=true)
  (a29:W.nsIn K mainGlobals "_law_whole" = some (some (.ref f29)))
  (l29:K.lookup f29=some ⟨oc29,od29,.func (W.fnOf "_law_whole" "_law_whole" (aA il) (az il) (ah il) .none kV29 dc29 pm29 an29 cd29 ct29),sl29⟩)
  (c29:W.codeIn K cd29 "_law_whole" = true)
  (k29:W.keepIn K (.ref f29)=true)
  (a30:W.nsIn K mainGlobals "_law_numbers" = some (some (.ref f30)))
  (l30:K.lookup f30=some ⟨oc30,od30,.func (W.fnOf "_law_numbers" "_law_numbers" (aA iK) (az iK) (ah iK) .none kV30 dc30 pm30 an30 cd30 ct30),sl30⟩)
  (c30:W.codeIn K cd30 "_law_numbers" = true)
  (k30:W.keepIn K (.ref f30)=true)
  (a31:W.nsIn K mainGlobals "_law_rows" = some (some (.ref f31)))
  (l31:K.lookup f31=some ⟨oc31,od31,.func (W.fnOf "_law_rows" "_law_rows" (aA ja) (az ja) (ah ja) .none kV31 dc31 pm31 an31 cd31 ct31),sl31⟩)
  (c31:W.codeIn K cd31 "_law_rows" = true)
  (k31:W.keepIn K (.ref f31)=true)
  (a32:W.nsIn K mainGlobals "_law_pairs" = some (some (.ref f32)))
  (l32:K.lookup f32=some ⟨oc32,od32,.func (W.fnOf "_law_pairs" "_law_pairs" (aA iZ) (az iZ) (ah iZ) .none kV32 dc32 pm32 an32 cd32 ct32),sl32⟩)
  (c32:W.codeIn K cd32 "_law_pairs" = true)
  (k32:W.keepIn K (.ref f32)=true)
  (a33:W.nsIn K mainGlobals "_law_feet_back" = some (some (.ref f33)))
  (l33:K.lookup f33=some ⟨oc33,od33,.func (W.fnOf "_law_feet_back" "_law_feet_back" (aA ko) (az ko) (ah ko) .none kV33 dc33 pm33 an33 cd33 ct33),sl33⟩)
  (c33:W.codeIn K cd33 "_law_feet_back" = true)
  (k33:W.keepIn K (.ref f33)=true)
  (a34:W.nsIn K mainGlobals "_law_one" = some (some (.ref f34)))
  (l34:K.lookup f34=some ⟨oc34,od34,.func (W.fnOf "_law_one" "_law_one" (aA i9) (az i9) (ah i9) .none kV34 dc34 pm34 an34 cd34 ct34),sl34⟩)
  (c34:W.codeIn K cd34 "_law_one" = true)
  (k34:W.keepIn K (.ref f34)=true)
  (a35:W.nsIn K mainGlobals "_law_by_words" = some (some (.ref f35)))
  (l35:K.lookup f35=some ⟨oc35,od35,.func (W.fnOf "_law_by_words" "_law_by_words" (aA ie) (az ie) (ah ie) .none kV35 dc35 pm35 an35 cd35 ct35),sl35⟩)
  (c35:W.codeIn K cd35 "_law_by_words" = true)
  (k35:W.keepIn K (.ref f35)=true)
  (a36:W.nsIn K mainGlobals "law" = some (some (.ref f36)))
  (l36:K.lookup f36=some ⟨oc36,od36,.func (W.fnOf "law" "law" (aA eU) (az eU) (ah eU) .none kV36 dc36 pm36 an36 cd36 ct36),sl36⟩)
  (c36:W.codeIn K cd36 "law" = true)
  (k36:W.keepIn K (.ref f36)=true)
  (pg_Bows:W.plainGet K aN Str.empty=true)
  (hd_Bows:W.hasDictIn K aN=true)
  (po_Bows:W.plainOver K aN=true)
  (sa_Bows:W.findIn K (.ref aN) "__setattr__" = some (some (.builtin "object.__setattr__")))
  (pg_Rooms:W.plainGet K aJ Str.empty=true)
  (hd_Rooms:W.hasDictIn K aJ=true)
  (po_Rooms:W.plainOver K aJ=true)
  (sa_Rooms:W.findIn K (.ref aJ) "__setattr__" = some (some (.builtin "object.__setattr__")))
  (mk_Bows:W.makesIn K aN=true)
  (kc_Bows:W.keepIn K (.ref aN)=true)
  (mk_Rooms:W.makesIn K aJ=true)
  (kc_Rooms:W.keepIn K (.ref aJ)=true)
  (fm:W.findIn K (.ref aN) "word" = some none)
  (eF:W.findIn K (.ref aN) "least" = some none)
  (eG:W.findIn K (.ref aJ) "word" = some none)
  (dY:W.findIn K (.ref aJ) "least" = some none)
  (z_len:W.nsIn K mainGlobals "len" = some none)
  (z_range:W.nsIn K mainGlobals "range" = some none)
  (z_enumerate:W.nsIn K mainGlobals "enumerate" = some none)
  (z_list:W.nsIn K mainGlobals "list" = some none)
  (z_sorted:W.nsIn K mainGlobals "sorted" = some none)
  (z_all:W.nsIn K mainGlobals "all" = some none)
  (z_max:W.nsIn K mainGlobals "max" = some none)
  (z_min:W.nsIn K mainGlobals "min" = some none)
  (z_zip:W.nsIn K mainGlobals "zip" = some none)
  (z_isinstance:W.nsIn K mainGlobals "isinstance" = some none)
  (z_int:W.nsIn K mainGlobals "int" = some none)
  (z_bool:W.nsIn K mainGlobals "bool" = some none)
  (z_tuple:W.nsIn K mainGlobals "tuple" = some none) :
  ∃ fd:FuncData,(∀ (s:Shared) (v:Value),BindsTo s fd ⟨[v],[]⟩ [("_law_script",v)])/\∀ base:Heap,K.In base->base.Ns mainGlobals mg->aL l.prog w K mg base bC 9 fa fd ["_law_script"] (xI K):=by
 have e:=hfa.symm.trans (W.mg_of X G a36)
 cases e
 have CA:xg K mg ⟨aN,aS,cb,aJ,f6,f7,f8,f12,f13,f19,f20,f21,f23,f24⟩:=⟨W.mg_of X G vh,W.mg_of X G lB,W.mg_of X G ra,W.mg_of X G sY,⟨pg_Bows,hd_Bows,po_Bows,sa_Bows⟩,⟨pg_Rooms,hd_Rooms,po_Rooms,sa_Rooms⟩,⟨gL,i13,k13⟩,⟨ma,i12,k12⟩,⟨gu,i24,k24⟩,⟨kP,i23,k23⟩,⟨mk_Bows,vF,i8,kc_Bows⟩,⟨mk_Rooms,ui,i21,kc_Rooms⟩,⟨d6,d5,dS,k7⟩,⟨fA,fz,fB,k6⟩,⟨dR,dP,dQ,k20⟩,⟨eZ,fk,fc,k19⟩,fm,eF,eG,dY⟩
 have F1:=aK (st:=iR) l1 c1 k1
 have b1:=F1.binds (ps:=["_law_script","_law_k"]) fun _ _ _ _ _ _=>ck (fun _ _=>rfl)
 have F2:=aK (st:=iH) l2 c2 k2
 have b2:=F2.binds (ps:=["_law_cell","_law_turn"]) fun _ _ _ _ _ _=>ck (fun _ _=>rfl)
 have F3:=aK (st:=iY) l3 c3 k3
 have b3:=F3.binds (ps:=["_law_script","_law_turn","_law_many"]) fun _ _ _ _ _ _=>dX (fun _ _ _=>rfl)
 have F4:=aK (st:=iU) l4 c4 k4
 have b4:=F4.binds (ps:=["_law_script","_law_size","_law_turn"]) fun _ _ _ _ _ _=>dX (fun _ _ _=>rfl)
 have F5:=aK (st:=iB) l5 c5 k5
 have b5:=F5.binds (ps:=["_law_rooms"]) fun _ _ _ _ _ _=>bU (fun _=>rfl)
 have F6:=aK (st:=kR) l6 c6 k6
 have b6:=F6.binds (ps:=["self","word","least"]) fun _ _ _ _ _ _=>dX (fun _ _ _=>rfl)
 have F7:=aK (st:=kG) l7 c7 k7
 have b7:=F7.binds (ps:=["self","word"]) fun _ _ _ _ _ _=>ck (fun _ _=>rfl)
 have F8:=aK (st:=kN) l8 c8 k8
 have b8:=F8.binds (ps:=["self"]) fun _ _ _ _ _ _=>bU (fun _=>rfl)
 have F9:=aK (st:=ik) l9 c9 k9
 have b9:=F9.binds (ps:=["numbers"]) fun _ _ _ _ _ _=>bU (fun _=>rfl)
 have F10:=aK (st:=ir) l10 c10 k10
 have b10:=F10.binds (ps:=["rows"]) fun _ _ _ _ _ _=>bU (fun _=>rfl)
 have F11:=aK (st:=iX) l11 c11 k11
 have b11:=F11.binds (ps:=["pairs"]) fun _ _ _ _ _ _=>bU (fun _=>rfl)
 have F12:=aK (st:=ig) l12 c12 k12
 have b12:=F12.binds (ps:=["self","thing"]) fun _ _ _ _ _ _=>ck (fun _ _=>rfl)
 have F13:=aK (st:=lC) l13 c13 k13
 have b13:=F13.binds (ps:=["self","thing"]) fun _ _ _ _ _ _=>ck (fun _ _=>rfl)
 have F14:=aK (st:=iL) l14 c14 k14
 have b14:=F14.binds (ps:=["following","first"]) fun _ _ _ _ _ _=>ck (fun _ _=>rfl)
 have F15:=aK (st:=ip) l15 c15 k15
 have b15:=F15.binds (ps:=["thing"]) fun _ _ _ _ _ _=>bU (fun _=>rfl)
 have F16:=aK (st:=i3) l16 c16 k16
 have b16:=F16.binds (ps:=["pairs"]) fun _ _ _ _ _ _=>bU (fun _=>rfl)
 have F17:=aK (st:=iD) l17 c17 k17
 have b17:=F17.binds (ps:=["pairs","step","ring"]) fun _ _ _ _ _ _=>dX (fun _ _ _=>rfl)
 have F18:=aK (st:=iW) l18 c18 k18
 have b18:=F18.binds (ps:=["thing"]) fun _ _ _ _ _ _=>bU (fun _=>rfl)
 have F19:=aK (st:=lh) l19 c19 k19
 have b19:=F19.binds (ps:=["self","word","least"]) fun _ _ _ _ _ _=>dX (fun _ _ _=>rfl)
 have F20:=aK (st:=kj) l20 c20 k20
 have b20:=F20.binds (ps:=["self","word"]) fun _ _ _ _ _ _=>ck (fun _ _=>rfl)
 have F21:=aK (st:=kB) l21 c21 k21
 have b21:=F21.binds (ps:=["self"]) fun _ _ _ _ _ _=>bU (fun _=>rfl)
 have F22:=aK (st:=iw) l22 c22 k22
 have b22:=F22.binds (ps:=["rooms"]) fun _ _ _ _ _ _=>bU (fun _=>rfl)
 have F23:=aK (st:=i5) l23 c23 k23
 have b23:=F23.binds (ps:=["self","thing"]) fun _ _ _ _ _ _=>ck (fun _ _=>rfl)
 have F24:=aK (st:=kK) l24 c24 k24
 have b24:=F24.binds (ps:=["self","thing"]) fun _ _ _ _ _ _=>ck (fun _ _=>rfl)
 have F25:=aK (st:=kJ) l25 c25 k25
 have b25:=F25.binds (ps:=["thing"]) fun _ _ _ _ _ _=>bU (fun _=>rfl)
 have F26:=aK (st:=iE) l26 c26 k26
 have b26:=F26.binds (ps:=["thing"]) fun _ _ _ _ _ _=>bU (fun _=>rfl)
 have F27:=aK (st:=iQ) l27 c27 k27
 have b27:=F27.binds (ps:=["thing"]) fun _ _ _ _ _ _=>bU (fun _=>rfl)
 have F28:=aK (st:=i0) l28 c28 k28
 have b28:=F28.binds (ps:=["thing"]) fun _ _ _ _ _ _=>bU (fun _=>rfl)
 have F29:=aK (st:=il) l29 c29 k29
 have b29:=F29.binds (ps:=["_law_found"]) fun _ _ _ _ _ _=>bU (fun _=>rfl)
 have F30:=aK (st:=iK) l30 c30 k30
 have b30:=F30.binds (ps:=["_law_found","_law_due"]) fun _ _ _ _ _ _=>ck (fun _ _=>rfl)
 have F31:=aK (st:=ja) l31 c31 k31
 have b31:=F31.binds (ps:=["_law_found","_law_due"]) fun _ _ _ _ _ _=>ck (fun _ _=>rfl)
 have F32:=aK (st:=iZ) l32 c32 k32
 have b32:=F32.binds (ps:=["_law_found","_law_due"]) fun _ _ _ _ _ _=>ck (fun _ _=>rfl)
 have F33:=aK (st:=ko) l33 c33 k33
 have b33:=F33.binds (ps:=["_law_rooms","_law_size"]) fun _ _ _ _ _ _=>ck (fun _ _=>rfl)
 have F34:=aK (st:=i9) l34 c34 k34
 have b34:=F34.binds (ps:=["_law_rooms","_law_low","_law_high"]) fun _ _ _ _ _ _=>dX (fun _ _ _=>rfl)
 have F35:=aK (st:=ie) l35 c35 k35
 have b35:=F35.binds (ps:=["_law_rooms","_law_size","_law_by"]) fun _ _ _ _ _ _=>dX (fun _ _ _=>rfl)
 have F36:=aK (st:=eU) l36 c36 k36
 have aI:=W.mg_none_of X G z_len
 have aT:=W.mg_none_of X G z_range
 have fL:=W.mg_none_of X G z_enumerate
 have bP:=W.mg_none_of X G z_list
 have aU:=W.mg_none_of X G z_sorted
 have qo:=W.mg_none_of X G z_all
 have jb:=W.mg_none_of X G z_max
 have iN:=W.mg_none_of X G z_min
 have pY:=W.mg_none_of X G z_zip
 have aQ:=W.mg_none_of X G z_isinstance
 have qm:=W.mg_none_of X G z_int
 have oh:=W.mg_none_of X G z_bool
 have km:=W.mg_none_of X G z_tuple
 refine ⟨W.fnOf "law" "law" (aA eU) (az eU) (ah eU) .none kV36 dc36 pm36 an36 cd36 ct36,fun s v=>.of_eq rfl,fun base _ _=>?_⟩
 have mi:Def l.prog w K mg base "_law_cell_at" ["_law_script","_law_k"] 1 (m8 K _) f1 _:=⟨(xM (P:=l.prog) (w:=w) (base:=base) CA F1 aI).up,b1,k1,W.mg_of X G a1⟩
 have qc:Def l.prog w K mg base "_law_mix" ["_law_cell","_law_turn"] 1 (mY K _) f2 _:=⟨(wZ (P:=l.prog) (w:=w) (base:=base) CA F2).up,b2,k2,W.mg_of X G a2⟩
 have pV:Def l.prog w K mg base "_law_draws" ["_law_script","_law_turn","_law_many"] 2 (n6 K _) f3 _:=⟨(xH (P:=l.prog) (w:=w) (base:=base) CA F3 qc aT aI).up,b3,k3,W.mg_of X G a3⟩
 have mq:Def l.prog w K mg base "_law_rooms_by" ["_law_script","_law_size","_law_turn"] 3 (mS K _) f4 _:=⟨(xk (P:=l.prog) (w:=w) (base:=base) CA F4 pV fL aI).up,b4,k4,W.mg_of X G a4⟩
 have jH:Def l.prog w K mg base "_law_copy" ["_law_rooms"] 1 (nq K _) f5 _:=⟨(wM (P:=l.prog) (w:=w) (base:=base) CA F5 bP).up,b5,k5,W.mg_of X G a5⟩
 have tZ:bS l.prog w K mg base ["self","word","least"] 1 (qg K _) f6 _:=⟨(yg (P:=l.prog) (w:=w) (base:=base) CA F6).up,b6⟩
 have t7:bS l.prog w K mg base ["self","word"] 3 (qj K _) f7 _:=⟨(yd (P:=l.prog) (w:=w) (base:=base) CA F7 tZ).up,b7⟩
 have gB:bS l.prog w K mg base ["self"] 5 (jL K _) f8 _:=⟨(yB (P:=l.prog) (w:=w) (base:=base) CA F8 t7).up,b8⟩
 have i4:Def l.prog w K mg base "each_once" ["numbers"] 1 (jQ K _) f9 _:=⟨(v3 (P:=l.prog) (w:=w) (base:=base) CA F9 aU bP aT aI).up,b9,k9,W.mg_of X G a9⟩
 have eM:Def l.prog w K mg base "flat" ["rows"] 1 (g8 K _) f10 _:=⟨(wd (P:=l.prog) (w:=w) (base:=base) CA F10).up,b10,k10,W.mg_of X G a10⟩
 have iM:Def l.prog w K mg base "any_cross" ["pairs"] 1 (jE K _) f11 _:=⟨(xj (P:=l.prog) (w:=w) (base:=base) CA F11).up,b11,k11,W.mg_of X G a11⟩
 have p0:bS l.prog w K mg base ["self","thing"] 2 (ni K _) f12 _:=⟨(xq (P:=l.prog) (w:=w) (base:=base) CA F12 i4 eM iM aU qo).up,b12⟩
 have gf:bS l.prog w K mg base ["self","thing"] 3 (jW K _) f13 _:=⟨(yr (P:=l.prog) (w:=w) (base:=base) CA F13 p0).up,b13⟩
 have qD:Def l.prog w K mg base "room_from" ["following","first"] 1 (mD K _) f14 _:=⟨(vN (P:=l.prog) (w:=w) (base:=base) CA F14).up,b14,k14,W.mg_of X G a14⟩
 have iI:Def l.prog w K mg base "feet_to_rooms" ["thing"] 7 (jG K _) f15 _:=⟨(xf (P:=l.prog) (w:=w) (base:=base) CA F15 gB gf qD).up,b15,k15,W.mg_of X G a15⟩
 have pQ:Def l.prog w K mg base "pairs_anew" ["pairs"] 1 (nX K _) f16 _:=⟨(xv (P:=l.prog) (w:=w) (base:=base) CA F16 aU jb iN).up,b16,k16,W.mg_of X G a16⟩
 have iF:Def l.prog w K mg base "turned_pairs" ["pairs","step","ring"] 2 (kc K _) f17 _:=⟨(xT (P:=l.prog) (w:=w) (base:=base) CA F17 pQ).up,b17,k17,W.mg_of X G a17⟩
 have pL:Def l.prog w K mg base "bows_turnback" ["thing"] 7 (nG K _) f18 _:=⟨(vZ (P:=l.prog) (w:=w) (base:=base) CA F18 gB gf iF aI).up,b18,k18,W.mg_of X G a18⟩
 have uj:bS l.prog w K mg base ["self","word","least"] 1 (qe K _) f19 _:=⟨(yz (P:=l.prog) (w:=w) (base:=base) CA F19).up,b19⟩
 have tR:bS l.prog w K mg base ["self","word"] 3 (pU K _) f20 _:=⟨(yJ (P:=l.prog) (w:=w) (base:=base) CA F20 uj).up,b20⟩
 have uo:bS l.prog w K mg base ["self"] 5 (qf K _) f21 _:=⟨(yl (P:=l.prog) (w:=w) (base:=base) CA F21 tR).up,b21⟩
 have iV:Def l.prog w K mg base "neighbours" ["rooms"] 2 (kd K _) f22 _:=⟨(w8 (P:=l.prog) (w:=w) (base:=base) CA F22 eM bP pY).up,b22,k22,W.mg_of X G a22⟩
 have qv:bS l.prog w K mg base ["self","thing"] 3 (mX K _) f23 _:=⟨(xJ (P:=l.prog) (w:=w) (base:=base) CA F23 i4 eM iM iV aU).up,b23⟩
 have tE:bS l.prog w K mg base ["self","thing"] 4 (qi K _) f24 _:=⟨(yy (P:=l.prog) (w:=w) (base:=base) CA F24 qv).up,b24⟩
 have gb:Def l.prog w K mg base "rooms_to_feet" ["thing"] 7 (jY K _) f25 _:=⟨(yf (P:=l.prog) (w:=w) (base:=base) CA F25 uo tE iV aU).up,b25,k25,W.mg_of X G a25⟩
 have jS:Def l.prog w K mg base "gaps" ["thing"] 8 (nP K _) f26 _:=⟨(vW (P:=l.prog) (w:=w) (base:=base) CA F26 iI pL gb).up,b26,k26,W.mg_of X G a26⟩
 have pM:Def l.prog w K mg base "bows_turn" ["thing"] 7 (mI K _) f27 _:=⟨(vY (P:=l.prog) (w:=w) (base:=base) CA F27 gB gf iF aI).up,b27,k27,W.mg_of X G a27⟩
 have j8:Def l.prog w K mg base "gapsback" ["thing"] 8 (mO K _) f28 _:=⟨(xh (P:=l.prog) (w:=w) (base:=base) CA F28 iI pM gb).up,b28,k28,W.mg_of X G a28⟩
 have gE:Def l.prog w K mg base "_law_whole" ["_law_found"] 1 (j0 K _) f29 _:=⟨(wt (P:=l.prog) (w:=w) (base:=base) CA F29 aQ qm oh).up,b29,k29,W.mg_of X G a29⟩
 have pI:Def l.prog w K mg base "_law_numbers" ["_law_found","_law_due"] 2 (m5 K _) f30 _:=⟨(wF (P:=l.prog) (w:=w) (base:=base) CA F30 gE aQ bP aI aT).up,b30,k30,W.mg_of X G a30⟩
 have fF:Def l.prog w K mg base "_law_rows" ["_law_found","_law_due"] 3 (mH K _) f31 _:=⟨(wI (P:=l.prog) (w:=w) (base:=base) CA F31 pI aQ bP aI aT).up,b31,k31,W.mg_of X G a31⟩
 have pX:Def l.prog w K mg base "_law_pairs" ["_law_found","_law_due"] 2 (n5 K _) f32 _:=⟨(wq (P:=l.prog) (w:=w) (base:=base) CA F32 gE aQ bP aI aT km).up,b32,k32,W.mg_of X G a32⟩
 have t5:Def l.prog w K mg base "_law_feet_back" ["_law_rooms","_law_size"] 1 (p4 K _) f33 _:=⟨(yi (P:=l.prog) (w:=w) (base:=base) CA F33 aT aI jb iN aU).up,b33,k33,W.mg_of X G a33⟩
 have qh:Def l.prog w K mg base "_law_one" ["_law_rooms","_law_low","_law_high"] 1 (nv K _) f34 _:=⟨(vV (P:=l.prog) (w:=w) (base:=base) CA F34 aI).up,b34,k34,W.mg_of X G a34⟩
 have mx:Def l.prog w K mg base "_law_by_words" ["_law_rooms","_law_size","_law_by"] 2 (nM K _) f35 _:=⟨(vS (P:=l.prog) (w:=w) (base:=base) CA F35 qh aT).up,b35,k35,W.mg_of X G a35⟩
 exact wA (P:=l.prog) (w:=w) (base:=base) CA F36 mi mq jH jS j8 fF pX t5 gb mx
theorem walk {l:W.OpenLaw} {q:Program} {loose:List Str} {XP:(Str->Option Value)->Heap->Prop} {YP:World->Heap->Prop} {d:DefRec} {K:Params->W.Frag} (hn:l.most=some 63) (hdf:d.params.defaults=[])
  (hY:∀ (w:World) (h:Heap),YP w h->(K w.params).In h)
  (F:∀ (w:World) (mg:Str->Option Value) (fa:Addr) (h:Heap),(K w.params).In h->h.Ns mainGlobals mg->mg d.name=some (.ref fa) ->
   ∃ fd:FuncData,(∀ (s:Shared) (u:Value),BindsTo s fd ⟨[u],[]⟩ [("_law_script",u)])/\∀ base:Heap,(K w.params).In base->base.Ns mainGlobals mg->aL l.prog w (K w.params) mg base bC 9 fa fd ["_law_script"] (xI (K w.params))) :
  W.WalkO q loose XP YP l.row.toRowW d [] (fun f vs=>PySem.call f vs) :=
 L2.walk_of (n:=63) (k:=9) (x:="_law_script") (CX:=fun _=>bC) (sp:=fun w=>xI (K w.params)) hn (by decide) hdf ⟨rfl,by decide,by decide⟩ hY F (fun _ _ a ns hl _ hS=>⟨a,ns,rfl,hS,hl,fun _=>rfl⟩) fun _ _ _ _ _ z=>z
end Ck
open L2
namespace Ck
open PySem PySem.W PySem.Calls PyProof.Rows
noncomputable def hB:List Stmt:=behindTheImports PySem.Challenge.pw_countkin_k44_gaps
noncomputable def hE:Env:={ scope:=PySem.Challenge.pw_countkin_k44_gaps.main.scope,locals:=mainNs,globals:=mainNs,cells:=[],code:=(.ref 13),frame:=some 14 }
noncomputable def hC:Code:=.body hB hE
noncomputable def hTree (P:Params):BT:=(.node (boot_o_0 P) (.node (boot_o_1 P) (.node (boot_o_3 P) (.node (boot_o_7 P) .nil .nil) (.node ⟨(.type "tuple"),none,(.seq #[] 0),#[]⟩ .nil .nil)) (.node (boot_o_5 P) (.node (boot_o_9 P) .nil .nil) (.node ⟨(.type "code"),none,(.fields #[(.str "<module>" 182),(.str "<module>" 183),(.str "/claim/cut.py" 184),(.int 1 0),(.int 0 0),(.int 0 0),(.int 0 0),(.int 0 0),(.ref 11),(.bool false),(.int 181 0),(.ref 12),.none,.none,.none,.none,(.int 185 0),(.int 1 0),(.str "/claim/cut.py" 186)]),#[]⟩ .nil .nil))) (.node (boot_o_2 P) (.node (boot_o_4 P) (.node (boot_o_8 P) .nil .nil) (.node ⟨.none,none,(.fields #[]),#[]⟩ .nil .nil)) (.node (boot_o_6 P) (.node (boot_o_10 P) .nil .nil) (.node ⟨(.type "frame"),none,.plain,#[(some (.ref 13)),(some (.ref 3)),(some (.ref 3)),none,(some (.str "__main__" 164)),none,(some (.ref 0))]⟩ .nil .nil))))
noncomputable def hS (w:World) (os:OsState):SharedT:=⟨hTree w.params,15,({}:Life),Array.mk [],⟨0,0,0,0⟩,187,os⟩
noncomputable def hQ:Program:={ PySem.Challenge.pw_countkin_k44_gaps with main:={ PySem.Challenge.pw_countkin_k44_gaps.main with body:=[top 42] } }
noncomputable def hL:List Str:=(Str.ofString "_wall"::Str.ofString "flat"::Str.ofString "each_once"::Str.ofString "any_cross"::Str.ofString "pairs_anew"::Str.ofString "GREATEST_SIZE"::Str.ofString "by_rule"::Str.ofString "KinError"::Str.ofString "NoSize"::Str.ofString "NoThing"::Str.ofString "Family"::Str.ofString "SplitFamily"::Str.ofString "Bows"::Str.ofString "Rooms"::Str.ofString "neighbours"::Str.ofString "turned_pairs"::Str.ofString "bows_turn"::Str.ofString "bows_turnback"::Str.ofString "rooms_to_feet"::Str.ofString "feet_to_rooms"::Str.ofString "room_from"::Str.ofString "gaps"::Str.ofString "gapsback"::Str.ofString "_law_cell_at"::Str.ofString "_law_whole"::Str.ofString "_law_mix"::Str.ofString "_law_draws"::Str.ofString "_law_rooms_by"::Str.ofString "_law_numbers"::Str.ofString "_law_rows"::Str.ofString "_law_pairs"::Str.ofString "_law_feet_back"::Str.ofString "_law_copy"::Str.ofString "_law_one"::Str.ofString "_law_by_words"::[])
noncomputable def kD (P:Params) (x:Str) (n:Tok) (v:Value):DictEntry:=⟨PyData.keyHash P x,.str x n,v⟩
noncomputable def kF (a b:Str) (s:Stmt) (m:Str) (n:Tok) (c:Addr):Obj:=⟨.type "function",none,.func (fnOf a b (aA s) (az s) (ah s) .none .none .none (.str m n) none (.ref c) .none),#[]⟩
noncomputable def kC (a b:Str) (t:Nat) (l n:Int) (r q x y z w:Value) (e:Nat):Obj:=⟨.type "code",none,.fields #[.str a t,.str b (t+1),.str "/claim/cut.py" (t+2),.int l 0,.int n 0,.int 0 0,.int 0 0,.int 3 0,r,.bool true,.int 181 0,q,x,y,z,w,.int (Int.ofNat e) 0,.int l 0,.str "/claim/cut.py" (e+1)],#[]⟩
noncomputable def hK:Params->Frag:=fun P=>(nat_lit 2,⟨.none,none,(.dict #[] 0),#[]⟩)::(nat_lit 3,⟨(.type "dict"),none,(.dict (List.toArray (kD P "__name__" 165 (.str "law_countkin_k44_gaps" 686)::kD P "__doc__" 166 .none::kD P "__package__" 167 .none::kD P "__loader__" 168 (.builtin "__main__.__loader__#opaque")::kD P "__spec__" 169 .none::kD P "__annotations__" 170 (.ref 6)::kD P "__builtins__" 171 (.ref 4)::kD P "__file__" 173 (.str "/claim/cut.py" 172)::kD P "__cached__" 174 .none::kD P "_wall" 193 (.ref 21)::kD P "flat" 204 (.ref 28)::kD P "each_once" 211 (.ref 35)::kD P "any_cross" 222 (.ref 42)::kD P "pairs_anew" 228 (.ref 47)::kD P "GREATEST_SIZE" 232 (.int 40 231)::kD P "by_rule" 241 (.ref 54)::kD P "KinError" 261 (.ref 64)::kD P "NoSize" 277 (.ref 77)::kD P "NoThing" 293 (.ref 89)::kD P "Family" 408 (.ref 178)::kD P "SplitFamily" 500 (.ref 255)::kD P "Bows" 563 (.ref 307)::kD P "Rooms" 622 (.ref 357)::kD P "neighbours" 628 (.ref 364)::kD P "turned_pairs" 636 (.ref 369)::kD P "bows_turn" 643 (.ref 376)::kD P "bows_turnback" 650 (.ref 383)::kD P "rooms_to_feet" 656 (.ref 388)::kD P "feet_to_rooms" 662 (.ref 393)::kD P "room_from" 671 (.ref 400)::kD P "gaps" 678 (.ref 407)::kD P "gapsback" 685 (.ref 414)::kD P "_law_cell_at" 695 (.ref 421)::kD P "_law_whole" 702 (.ref 428)::kD P "_law_mix" 711 (.ref 435)::kD P "_law_draws" 717 (.ref 440)::kD P "_law_rooms_by" 730 (.ref 447)::kD P "_law_numbers" 739 (.ref 454)::kD P "_law_rows" 748 (.ref 461)::kD P "_law_pairs" 757 (.ref 468)::kD P "_law_feet_back" 770 (.ref 475)::kD P "_law_copy" 776 (.ref 480)::kD P "_law_one" 782 (.ref 485)::kD P "_law_by_words" 788 (.ref 490)::kD P "law" 801 (.ref 497)::[])) 45),#[]⟩)::(nat_lit 27,(kC "flat" "flat" 196 5 1 (.ref 22) (.ref 23) .none (.ref 24) (.ref 25) (.ref 26) 202))::(nat_lit 28,(kF "flat" "flat" (top 2) "countkin.common" 194 27))::(nat_lit 34,(kC "each_once" "each_once" 205 10 1 (.ref 29) (.ref 30) .none (.ref 31) (.ref 32) (.ref 33) 209))::(nat_lit 35,(kF "each_once" "each_once" (top 3) "countkin.common" 194 34))::(nat_lit 41,(kC "any_cross" "any_cross" 212 12 1 (.ref 36) (.ref 37) .none (.ref 38) (.ref 39) (.ref 40) 220))::(nat_lit 42,(kF "any_cross" "any_cross" (top 4) "countkin.common" 194 41))::(nat_lit 46,(kC "pairs_anew" "pairs_anew" 223 18 1 (.ref 43) (.ref 44) .none .none .none (.ref 45) 226))::(nat_lit 47,(kF "pairs_anew" "pairs_anew" (top 5) "countkin.common" 194 46))::(nat_lit 63,⟨(.type "dict"),none,(.dict #[kD P "__module__" 251 (.str "countkin.errors" 242),kD P "__firstlineno__" 255 (.int 28 254),kD P "__static_attributes__" 256 (.ref 62),kD P "__weakref__" 258 (.ref 65),kD P "__doc__" 259 .none] 3),#[]⟩)::(nat_lit 64,⟨(.type "type"),none,(.cls ⟨"KinError",[(.type "ValueError")],[(.ref 64),(.type "ValueError"),(.type "Exception"),(.type "BaseException"),(.type "object")],63,"KinError",true,[],[(.ref 77),(.ref 89)],false,none,false⟩),#[(some (.ref 55)),none,(some (.str "KinError" 244)),(some (.str "KinError" 252)),(some (.builtin "ValueError.__new__")),(some (.bool true))]⟩)::(nat_lit 65,⟨(.type "getset_descriptor"),none,(.fields #[(.str "__weakref__" 257),(.ref 64),(.builtin "ExceptionGroup.__weakref__"),.none]),#[]⟩)::(nat_lit 76,⟨(.type "dict"),none,(.dict #[kD P "__module__" 269 (.str "countkin.errors" 242),kD P "__firstlineno__" 273 (.int 30 272),kD P "__static_attributes__" 274 (.ref 75),kD P "__doc__" 275 .none] 2),#[]⟩)::(nat_lit 77,⟨(.type "type"),none,(.cls ⟨"NoSize",[(.ref 64)],[(.ref 77),(.ref 64),(.type "ValueError"),(.type "Exception"),(.type "BaseException"),(.type "object")],76,"NoSize",true,[],[],false,none,false⟩),#[(some (.ref 68)),none,(some (.str "NoSize" 262)),(some (.str "NoSize" 270)),(some (.builtin "ValueError.__new__")),(some (.bool true))]⟩)::(nat_lit 88,⟨(.type "dict"),none,(.dict #[kD P "__module__" 285 (.str "countkin.errors" 242),kD P "__firstlineno__" 289 (.int 32 288),kD P "__static_attributes__" 290 (.ref 87),kD P "__doc__" 291 .none] 2),#[]⟩)::(nat_lit 89,⟨(.type "type"),none,(.cls ⟨"NoThing",[(.ref 64)],[(.ref 89),(.ref 64),(.type "ValueError"),(.type "Exception"),(.type "BaseException"),(.type "object")],88,"NoThing",true,[],[],false,none,false⟩),#[(some (.ref 80)),none,(some (.str "NoThing" 278)),(some (.str "NoThing" 286)),(some (.builtin "ValueError.__new__")),(some (.bool true))]⟩)::(nat_lit 104,(kC "__init__" "Family.__init__" 308 37 3 (.ref 99) (.ref 100) .none (.ref 101) (.ref 102) (.ref 103) 314))::(nat_lit 105,(kF "__init__" "Family.__init__" (inClass (top 14) 0) "countkin.kin" 294 104))::(nat_lit 153,(kC "refuse_other" "Family.refuse_other" 366 61 2 (.ref 148) (.ref 149) .none (.ref 150) (.ref 151) (.ref 152) 371))::(nat_lit 154,(kF "refuse_other" "Family.refuse_other" (inClass (top 14) 7) "countkin.kin" 294 153))::(nat_lit 177,⟨(.type "dict"),none,(.dict #[kD P "__module__" 303 (.str "countkin.kin" 294),kD P "__firstlineno__" 307 (.int 35 306),kD P "__init__" 316 (.ref 105),kD P "size_of" 324 (.ref 112),kD P "is_one" 332 (.ref 119),kD P "unchecked_many" 340 (.ref 126),kD P "unchecked_number" 348 (.ref 133),kD P "unchecked_thing" 357 (.ref 140),kD P "many" 365 (.ref 147),kD P "refuse_other" 373 (.ref 154),kD P "number_of" 381 (.ref 161),kD P "thing_of" 390 (.ref 168),kD P "next_of" 398 (.ref 175),kD P "__static_attributes__" 401 (.ref 176),kD P "__dict__" 403 (.ref 179),kD P "__weakref__" 405 (.ref 180),kD P "__doc__" 406 .none] 4),#[]⟩)::(nat_lit 178,⟨(.type "type"),none,(.cls ⟨"Family",[(.type "object")],[(.ref 178),(.type "object")],177,"Family",true,[],[(.ref 255)],false,none,false⟩),#[none,none,(some (.str "Family" 296)),(some (.str "Family" 304)),(some (.builtin "object.__new__")),(some (.bool true))]⟩)::(nat_lit 179,⟨(.type "getset_descriptor"),none,(.fields #[(.str "__dict__" 402),(.ref 178),(.builtin "function.__dict__"),(.builtin "function.__dict__#set")]),#[]⟩)::(nat_lit 180,⟨(.type "getset_descriptor"),none,(.fields #[(.str "__weakref__" 404),(.ref 178),(.builtin "ExceptionGroup.__weakref__"),.none]),#[]⟩)::(nat_lit 195,(kC "__init__" "SplitFamily.__init__" 421 75 2 (.ref 190) (.ref 191) .none (.ref 192) (.ref 193) (.ref 194) 426))::(nat_lit 196,(kF "__init__" "SplitFamily.__init__" (inClass (top 15) 0) "countkin.kin" 294 195))::(nat_lit 254,⟨(.type "dict"),none,(.dict #[kD P "__module__" 416 (.str "countkin.kin" 294),kD P "__firstlineno__" 420 (.int 73 419),kD P "__init__" 428 (.ref 196),kD P "bare" 435 (.ref 203),kD P "parted" 443 (.ref 210),kD P "joined" 452 (.ref 217),kD P "unchecked_many" 460 (.ref 224),kD P "unchecked_number" 468 (.ref 231),kD P "unchecked_thing" 477 (.ref 238),kD P "number_by_parts" 486 (.ref 245),kD P "thing_by_parts" 496 (.ref 252),kD P "__static_attributes__" 497 (.ref 253),kD P "__doc__" 498 .none] 2),#[]⟩)::(nat_lit 255,⟨(.type "type"),none,(.cls ⟨"SplitFamily",[(.ref 178)],[(.ref 255),(.ref 178),(.type "object")],254,"SplitFamily",true,[],[(.ref 307),(.ref 357)],false,none,false⟩),#[(some (.ref 183)),none,(some (.str "SplitFamily" 409)),(some (.str "SplitFamily" 417)),(some (.builtin "object.__new__")),(some (.bool true))]⟩)::(nat_lit 270,(kC "__init__" "Bows.__init__" 515 104 1 (.ref 265) (.ref 266) .none (.ref 267) (.ref 268) (.ref 269) 519))::(nat_lit 271,(kF "__init__" "Bows.__init__" (inClass (top 17) 0) "countkin.bends" 501 270))::(nat_lit 282,(kC "is_one" "Bows.is_one" 530 110 2 (.ref 279) (.ref 280) .none .none .none (.ref 281) 533))::(nat_lit 283,(kF "is_one" "Bows.is_one" (inClass (top 17) 2) "countkin.bends" 501 282))::(nat_lit 306,⟨(.type "dict"),none,(.dict #[kD P "__module__" 510 (.str "countkin.bends" 501),kD P "__firstlineno__" 514 (.int 102 513),kD P "__init__" 521 (.ref 271),kD P "size_of" 529 (.ref 278),kD P "is_one" 535 (.ref 283),kD P "bare" 542 (.ref 290),kD P "parted" 550 (.ref 297),kD P "joined" 559 (.ref 304),kD P "__static_attributes__" 560 (.ref 305),kD P "__doc__" 561 .none] 2),#[]⟩)::(nat_lit 307,⟨(.type "type"),none,(.cls ⟨"Bows",[(.ref 255)],[(.ref 307),(.ref 255),(.ref 178),(.type "object")],306,"Bows",true,[],[],false,none,false⟩),#[(some (.ref 258)),none,(some (.str "Bows" 503)),(some (.str "Bows" 511)),(some (.builtin "object.__new__")),(some (.bool true))]⟩)::(nat_lit 322,(kC "__init__" "Rooms.__init__" 576 125 1 (.ref 317) (.ref 318) .none (.ref 319) (.ref 320) (.ref 321) 580))::(nat_lit 323,(kF "__init__" "Rooms.__init__" (inClass (top 18) 0) "countkin.bends" 501 322))::(nat_lit 332,(kC "is_one" "Rooms.is_one" 589 131 2 (.ref 329) (.ref 330) .none .none .none (.ref 331) 592))::(nat_lit 333,(kF "is_one" "Rooms.is_one" (inClass (top 18) 2) "countkin.bends" 501 332))::(nat_lit 356,⟨(.type "dict"),none,(.dict #[kD P "__module__" 571 (.str "countkin.bends" 501),kD P "__firstlineno__" 575 (.int 123 574),kD P "__init__" 582 (.ref 323),kD P "size_of" 588 (.ref 328),kD P "is_one" 594 (.ref 333),kD P "bare" 601 (.ref 340),kD P "parted" 609 (.ref 347),kD P "joined" 618 (.ref 354),kD P "__static_attributes__" 619 (.ref 355),kD P "__doc__" 620 .none] 2),#[]⟩)::(nat_lit 357,⟨(.type "type"),none,(.cls ⟨"Rooms",[(.ref 255)],[(.ref 357),(.ref 255),(.ref 178),(.type "object")],356,"Rooms",true,[],[],false,none,false⟩),#[(some (.ref 310)),none,(some (.str "Rooms" 564)),(some (.str "Rooms" 572)),(some (.builtin "object.__new__")),(some (.bool true))]⟩)::(nat_lit 363,(kC "neighbours" "neighbours" 623 144 1 (.ref 360) (.ref 361) .none .none .none (.ref 362) 626))::(nat_lit 364,(kF "neighbours" "neighbours" (top 19) "countkin.bends" 501 363))::(nat_lit 368,(kC "turned_pairs" "turned_pairs" 631 147 3 (.ref 365) (.ref 366) .none .none .none (.ref 367) 634))::(nat_lit 369,(kF "turned_pairs" "turned_pairs" (top 21) "countkin.turnings" 629 368))::(nat_lit 375,(kC "bows_turn" "bows_turn" 637 149 1 (.ref 370) (.ref 371) .none (.ref 372) (.ref 373) (.ref 374) 641))::(nat_lit 376,(kF "bows_turn" "bows_turn" (top 22) "countkin.turnings" 629 375))::(nat_lit 382,(kC "bows_turnback" "bows_turnback" 644 152 1 (.ref 377) (.ref 378) .none (.ref 379) (.ref 380) (.ref 381) 648))::(nat_lit 383,(kF "bows_turnback" "bows_turnback" (top 23) "countkin.turnings" 629 382))::(nat_lit 387,(kC "rooms_to_feet" "rooms_to_feet" 651 155 1 (.ref 384) (.ref 385) .none .none .none (.ref 386) 654))::(nat_lit 388,(kF "rooms_to_feet" "rooms_to_feet" (top 24) "countkin.turnings" 629 387))::(nat_lit 392,(kC "feet_to_rooms" "feet_to_rooms" 657 160 1 (.ref 389) (.ref 390) .none .none .none (.ref 391) 660))::(nat_lit 393,(kF "feet_to_rooms" "feet_to_rooms" (top 25) "countkin.turnings" 629 392))::(nat_lit 399,(kC "room_from" "room_from" 663 167 2 (.ref 394) (.ref 395) .none (.ref 396) (.ref 397) (.ref 398) 669))::(nat_lit 400,(kF "room_from" "room_from" (top 26) "countkin.turnings" 629 399))::(nat_lit 406,(kC "gaps" "gaps" 672 172 1 (.ref 401) (.ref 402) .none (.ref 403) (.ref 404) (.ref 405) 676))::(nat_lit 407,(kF "gaps" "gaps" (top 27) "countkin.turnings" 629 406))::(nat_lit 413,(kC "gapsback" "gapsback" 679 174 1 (.ref 408) (.ref 409) .none (.ref 410) (.ref 411) (.ref 412) 683))::(nat_lit 414,(kF "gapsback" "gapsback" (top 28) "countkin.turnings" 629 413))::(nat_lit 420,(kC "_law_cell_at" "_law_cell_at" 688 177 2 (.ref 415) (.ref 416) .none (.ref 417) (.ref 418) (.ref 419) 693))::(nat_lit 421,(kF "_law_cell_at" "_law_cell_at" (top 30) "law_countkin_k44_gaps" 686 420))::(nat_lit 427,(kC "_law_whole" "_law_whole" 696 181 1 (.ref 422) (.ref 423) .none (.ref 424) (.ref 425) (.ref 426) 700))::(nat_lit 428,(kF "_law_whole" "_law_whole" (top 31) "law_countkin_k44_gaps" 686 427))::(nat_lit 434,(kC "_law_mix" "_law_mix" 703 183 2 (.ref 429) (.ref 430) .none (.ref 431) (.ref 432) (.ref 433) 709))::(nat_lit 435,(kF "_law_mix" "_law_mix" (top 32) "law_countkin_k44_gaps" 686 434))::(nat_lit 439,(kC "_law_draws" "_law_draws" 712 186 3 (.ref 436) (.ref 437) .none .none .none (.ref 438) 715))::(nat_lit 440,(kF "_law_draws" "_law_draws" (top 33) "law_countkin_k44_gaps" 686 439))::(nat_lit 446,(kC "_law_rooms_by" "_law_rooms_by" 718 200 3 (.ref 441) (.ref 442) .none (.ref 443) (.ref 444) (.ref 445) 728))::(nat_lit 447,(kF "_law_rooms_by" "_law_rooms_by" (top 34) "law_countkin_k44_gaps" 686 446))::(nat_lit 453,(kC "_law_numbers" "_law_numbers" 731 211 2 (.ref 448) (.ref 449) .none (.ref 450) (.ref 451) (.ref 452) 737))::(nat_lit 454,(kF "_law_numbers" "_law_numbers" (top 35) "law_countkin_k44_gaps" 686 453))::(nat_lit 460,(kC "_law_rows" "_law_rows" 740 218 2 (.ref 455) (.ref 456) .none (.ref 457) (.ref 458) (.ref 459) 746))::(nat_lit 461,(kF "_law_rows" "_law_rows" (top 36) "law_countkin_k44_gaps" 686 460))::(nat_lit 467,(kC "_law_pairs" "_law_pairs" 749 225 2 (.ref 462) (.ref 463) .none (.ref 464) (.ref 465) (.ref 466) 755))::(nat_lit 468,(kF "_law_pairs" "_law_pairs" (top 37) "law_countkin_k44_gaps" 686 467))::(nat_lit 474,(kC "_law_feet_back" "_law_feet_back" 758 234 2 (.ref 469) (.ref 470) .none (.ref 471) (.ref 472) (.ref 473) 768))::(nat_lit 475,(kF "_law_feet_back" "_law_feet_back" (top 38) "law_countkin_k44_gaps" 686 474))::(nat_lit 479,(kC "_law_copy" "_law_copy" 771 244 1 (.ref 476) (.ref 477) .none .none .none (.ref 478) 774))::(nat_lit 480,(kF "_law_copy" "_law_copy" (top 39) "law_countkin_k44_gaps" 686 479))::(nat_lit 484,(kC "_law_one" "_law_one" 777 246 3 (.ref 481) (.ref 482) .none .none .none (.ref 483) 780))::(nat_lit 485,(kF "_law_one" "_law_one" (top 40) "law_countkin_k44_gaps" 686 484))::(nat_lit 489,(kC "_law_by_words" "_law_by_words" 783 252 3 (.ref 486) (.ref 487) .none .none .none (.ref 488) 786))::(nat_lit 490,(kF "_law_by_words" "_law_by_words" (top 41) "law_countkin_k44_gaps" 686 489))::(nat_lit 496,(kC "law" "law" 789 261 1 (.ref 491) (.ref 492) .none (.ref 493) (.ref 494) (.ref 495) 799))::(nat_lit 497,(kF "law" "law" (top 42) "law_countkin_k44_gaps" 686 496))::[]
noncomputable def bT:Bool:=true
noncomputable def bF:Bool:=false
noncomputable def hM:List Bool:=(bF::bF::bT::bT::bF::bF::bF::bF::bF::bF::bF::bF::bF::bF::bF::bF::bF::bF::bF::bF::bF::bF::bF::bF::bF::bF::bF::bT::bT::bF::bF::bF::bF::bF::bT::bT::bF::bF::bF::bF::bF::bT::bT::bF::bF::bF::bT::bT::bF::bF::bF::bF::bF::bF::bF::bF::bF::bF::bF::bF::bF::bF::bF::bT::bT::bT::bF::bF::bF::bF::bF::bF::bF::bF::bF::bF::bT::bT::bF::bF::bF::bF::bF::bF::bF::bF::bF::bF::bT::bT::bF::bF::bF::bF::bF::bF::bF::bF::bF::bF::bF::bF::bF::bF::bT::bT::bF::bF::bF::bF::bF::bF::bF::bF::bF::bF::bF::bF::bF::bF::bF::bF::bF::bF::bF::bF::bF::bF::bF::bF::bF::bF::bF::bF::bF::bF::bF::bF::bF::bF::bF::bF::bF::bF::bF::bF::bF::bF::bF::bF::bF::bF::bF::bT::bT::bF::bF::bF::bF::bF::bF::bF::bF::bF::bF::bF::bF::bF::bF::bF::bF::bF::bF::bF::bF::bF::bF::bT::bT::bT::bT::bF::bF::bF::bF::bF::bF::bF::bF::bF::bF::bF::bF::bF::bF::bT::bT::bF::bF::bF::bF::bF::bF::bF::bF::bF::bF::bF::bF::bF::bF::bF::bF::bF::bF::bF::bF::bF::bF::bF::bF::bF::bF::bF::bF::bF::bF::bF::bF::bF::bF::bF::bF::bF::bF::bF::bF::bF::bF::bF::bF::bF::bF::bF::bF::bF::bF::bF::bF::bF::bF::bF::bF::bF::bT::bT::bF::bF::bF::bF::bF::bF::bF::bF::bF::bF::bF::bF::bF::bF::bT::bT::bF::bF::bF::bF::bF::bF::bF::bF::bF::bF::bT::bT::bF::bF::bF::bF::bF::bF::bF::bF::bF::bF::bF::bF::bF::bF::bF::bF::bF::bF::bF::bF::bF::bF::bT::bT::bF::bF::bF::bF::bF::bF::bF::bF::bF::bF::bF::bF::bF::bF::bT::bT::bF::bF::bF::bF::bF::bF::bF::bF::bT::bT::bF::bF::bF::bF::bF::bF::bF::bF::bF::bF::bF::bF::bF::bF::bF::bF::bF::bF::bF::bF::bF::bF::bT::bT::bF::bF::bF::bF::bF::bT::bT::bF::bF::bF::bT::bT::bF::bF::bF::bF::bF::bT::bT::bF::bF::bF::bF::bF::bT::bT::bF::bF::bF::bT::bT::bF::bF::bF::bT::bT::bF::bF::bF::bF::bF::bT::bT::bF::bF::bF::bF::bF::bT::bT::bF::bF::bF::bF::bF::bT::bT::bF::bF::bF::bF::bF::bT::bT::bF::bF::bF::bF::bF::bT::bT::bF::bF::bF::bF::bF::bT::bT::bF::bF::bF::bT::bT::bF::bF::bF::bF::bF::bT::bT::bF::bF::bF::bF::bF::bT::bT::bF::bF::bF::bF::bF::bT::bT::bF::bF::bF::bF::bF::bT::bT::bF::bF::bF::bF::bF::bT::bT::bF::bF::bF::bT::bT::bF::bF::bF::bT::bT::bF::bF::bF::bT::bT::bF::bF::bF::bF::bF::bT::bT::[])
noncomputable def hA:List Addr:=gY hM 0
theorem hAM:hA=gY hM 0:=rfl
noncomputable abbrev hX:Shared->Bool:=(fun s=>xlAt hQ [] s&&recOk (RowW.records (OpenRow.toRowW (OpenLaw.row PySem.Challenge.rw_countkin_k44_gaps))) s)
theorem hKA:∀ P:Params,hA=(hK P).map (·.1):=fun _=>by kernel_rfl
noncomputable abbrev hH:Hook:=kHook hK hA hKA
noncomputable def hLook (P:Params) (s:Shared):=((staticsOk (importedModules PySem.Challenge.pw_countkin_k44_gaps.main.body) (boot_heap P) s.heap&&namesBound PySem.Challenge.pw_countkin_k44_gaps s.heap&&gensDone s&&laidKept (boot_heap P) s.heap),openSeen hQ hL (importedModules PySem.Challenge.pw_countkin_k44_gaps.main.body) hX true s,d8 s.heap.objs.toList hM)
noncomputable def hPreF (w:World) (os:OsState):=topGo treeTable PySem.Challenge.pw_countkin_k44_gaps w 11 (some (.ref 6)) 12 ⟨boot_heap w.params,Array.mk [],boot_drawn,boot_toks,os⟩ (topStub PySem.Challenge.pw_countkin_k44_gaps)
noncomputable def hPreG (w:World) (os:OsState):Option (Shared × Thread):=some ((hS w os).abs,⟨denote treeTable hC,hC,⟨0,0,0,0⟩,[topFrame ⟨0,0,0,0⟩]⟩)
noncomputable def hBlkF (w:World) (os:OsState):=segRun treeTable PySem.Challenge.pw_countkin_k44_gaps w 11 (some (.ref 6)) 1 1 (hS w os).abs (blockOf hB hE hC ⟨0,0,0,0⟩ [topFrame ⟨0,0,0,0⟩])
noncomputable def hBlkG (w:World) (os:OsState):Option (Flow × Shared × Code × Pos):=some (.next,(hS w os).abs,hC,⟨0,0,0,0⟩)
noncomputable def hRunF (w:World) (os:OsState):=(segRunT treeTable PySem.Challenge.pw_countkin_k44_gaps w 11 (some (.ref 6)) 1 3379 (hS w os) (piecesOf hB hE hC ⟨0,0,0,0⟩ [topFrame ⟨0,0,0,0⟩])).map (ki treeTable PySem.Challenge.pw_countkin_k44_gaps w 11 (some (.ref 6)) ⟨0,0,0,0⟩ hC 2 (hLook w.params))
noncomputable def hRunG (w:World) (_:OsState):=some (Flow.next,hC,some (true,openGood hQ hL,(hK w.params).map fun p=>some p.2))
noncomputable def hSizF (w:World):=((boot_heap w.params).isNs mainGlobals&&(Array.mk []:Array GenState).size == 0,(boot_heap w.params).objs.size,(boot_heap w.params).nsMap mainGlobals "__annotations__")
noncomputable def hSizG (_:World):Bool × Nat × Option Value:=(true,11,(some (.ref 6)))
theorem hSeed:(fun _ _ _ _ _ _ _ _=>true) hPreF hPreG hBlkF hBlkG hRunF hRunG hSizF hSizG=true:=by k_qdec
theorem hPre:hPreF=hPreG:=Eq.trans PySem.W.Fast.te5317814654954331368 (Eq.trans (by kernel_rfl) (Eq.symm PySem.W.Fast.te14277440360295502494))
theorem hBlk:hBlkF=hBlkG:=Eq.trans PySem.W.Fast.te2033988648308832629 (Eq.trans (by kernel_rfl) (Eq.symm PySem.W.Fast.te1798457917166677164))
theorem hRun:hRunF=hRunG:=Eq.trans PySem.W.Fast.te6412348297585774662 (Eq.trans (by kernel_rfl) (Eq.symm PySem.W.Fast.te15447895654253735931))
theorem hSiz:hSizF=hSizG:=Eq.trans PySem.W.Fast.te13693962943478796877 (by kernel_rfl)
theorem hLeft:LeftO PySem.Challenge.pw_countkin_k44_gaps hQ hL hX (Hook.obs hH) (Hook.val hH) 6882 :=
 qx (boot_open (by kernel_rfl) (by decide) (fun _=>by kernel_rfl)) (fun w=>congrFun hSiz w)
  (fun w os=>by
   obtain ⟨e,r,l⟩:=rN (b:=hB) (env:=hE) (L:=hLook w.params) rfl (congrFun (congrFun hPre w) os) (congrFun (congrFun hBlk w) os) (congrFun (congrFun hRun w) os)
   exact ⟨e,r,(congrArg (fun z=>(_,_,z)) (vL hAM e.heap)).trans l⟩) (by decide)
end Ck
open PySem PySem.W PyProof.Rows
set_option maxRecDepth 100000 in
set_option maxHeartbeats 0 in
theorem PySem.Challenge.cw_countkin_k44_gaps_holds : PySem.Challenge.rw_countkin_k44_gaps.Holds := by
 w_on; o_law
 refine holds_open (q:=Ck.hQ) (loose:=Ck.hL) (Xt:=Ck.hX) (XP:=XL Ck.hQ []) (Yf:=Hook.obs (kHook Ck.hK Ck.hA Ck.hKA)) (Ya:=Hook.val (kHook Ck.hK Ck.hA Ck.hKA)) (YP:=Hook.says (kHook Ck.hK Ck.hA Ck.hKA)) (N:=6882) Ck.hLeft (Hook.of (kHook Ck.hK Ck.hA Ck.hKA)) (Hook.keeps (kHook Ck.hK Ck.hA Ck.hKA))
  (fun s e=>xl_of s (Bool.and_eq_true_iff.mp e).1) XL.keeps (by rfl) (by rfl) (by rfl) (fun s e=>recFacts_of (Bool.and_eq_true_iff.mp e).2) (by rfl) (by first | assumption | decide +kernel) (by decide +kernel) ⟨rfl,rfl,rfl,rfl,rfl,by decide +kernel⟩ ?hw ?hc
 case hw=>w_witness2
 k_fill
 refine Ck.walk (l:=PySem.Challenge.rw_countkin_k44_gaps) rfl rfl (fun w h Y=>W.kIn_of Y) ?F
 case F =>
  intro w mg fa h KX G hmg
  refine' Ck.all_mk KX G hmg ?_ ?_ ?_ ?_ ?_ ?_ ?_ ?_ ?_ ?_ ?_ ?_ ?_ ?_ ?_ ?_ ?_ ?_ ?_ ?_ ?_ ?_ ?_ ?_ ?_ ?_ ?_ ?_ ?_ ?_ ?_ ?_ ?_ ?_ ?_ ?_ ?_ ?_ ?_ ?_ ?_ ?_ ?_ ?_ ?_ ?_ ?_ ?_ ?_ ?_ ?_ ?_ ?_ ?_ ?_ ?_ ?_ ?_ ?_ ?_ ?_ ?_ ?_ ?_ ?_ ?_ ?_ ?_ ?_ ?_ ?_ ?_ ?_ ?_ ?_ ?_ ?_ ?_ ?_ ?_ ?_ ?_ ?_ ?_ ?_ ?_ ?_ ?_ ?_ ?_ ?_ ?_ ?_ ?_ ?_ ?_ ?_ ?_ ?_ ?_ ?_ ?_ ?_ ?_ ?_ ?_ ?_ ?_ ?_ ?_ ?_ ?_ ?_ ?_ ?_ ?_ ?_ ?_ ?_ ?_ ?_ ?_ ?_ ?_ ?_ ?_ ?_ ?_ ?_ ?_ ?_ ?_ ?_ ?_ ?_ ?_ ?_ ?_ ?_ ?_ ?_ ?_ ?_ ?_ ?_ ?_ ?_ ?_ ?_ ?_ ?_ ?_ ?_ ?_ ?_ ?_ ?_ ?_ ?_ ?_ ?_ ?_ ?_ ?_ ?_ ?_ ?_ ?_ ?_ ?_ ?_ ?_ ?_ ?_ ?_ ?_ ?_ ?_ ?_ ?_ ?_ ?_ ?_ ?_ ?_ ?_ ?_ ?_ ?_ ?_ ?_ ?_ ?_ ?_ ?_
  any_goals k_is
