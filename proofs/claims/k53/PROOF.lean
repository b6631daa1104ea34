import PyProof.Rows.All
import Wide.All
import OpenK.AllK
import Wide.FinOn
import Lean
import PyProof.EqAt
import PyProof.EqKinds
import PyProof.TupleCall
import KE.KLam
import KE.KRevIter
import KE.KRevSl
import KE.KTryMore
import Open.Pieces
import OpenK.KQuick
import OpenK.KWalk
import PyProof.DictDisplay
import PyProof.DictTable
import PyProof.DictUpdate
import PyProof.DictWalks
import PyProof.ExcAttrAll.ValueError
import PyProof.FString
import PyProof.FitsBits
import PyProof.ListRange
import PyProof.MeetsStr
import PyProof.NeKinds
import PyProof.Rows.FStr
import PyProof.Rows.RegStrFacts
import PyProof.Rows.StrInSeq3
import PyProof.StrBlockH
import PySem.Challenge.RW_countkin_k53_ways_by_name
set_option Elab.async false
set_option linter.all false
set_option maxRecDepth 100000
namespace L2
open PySem PySem.Spec PyProof.Rows
noncomputable abbrev Key:=Sum Int Str
noncomputable def lA:Key->Value->Bool
  | .inl k,v=>Value.isInt k v
  | .inr x,v=>Value.isStrOf x v
noncomputable def C8 (w:World):Key->Int
  | .inl k=>hashInt k
  | .inr x=>hashStr w x
theorem cf:∀ {k:Key} {v:Value},lA k v=true->(∃ i t,k=Sum.inl i/\v=Value.int i t)\/(∃ x t,k=Sum.inr x/\v=Value.str x t)
  | .inl i,v,h=>by
    obtain ⟨t,e⟩:=Value.isInt_shape (k:=i) (v:=v) h
    exact .inl ⟨i,t,rfl,e⟩
  | .inr x,v,h=>by
    obtain ⟨t,e⟩:=Value.isStrOf_shape (x:=x) (v:=v) h
    exact .inr ⟨x,t,rfl,e⟩
theorem wB (i:Int) (t:Tok):lA (.inl i) (.int i t)=true:=by simp [lA,Value.isInt]
theorem wI (x:Str) (t:Tok):lA (.inr x) (.str x t)=true:=by simp [lA,Value.isStrOf]
theorem Aw (a b:Int):decide ((Sum.inl a:Key)=Sum.inl b)=(a == b):=by
  by_cases e:a=b
  · subst e; simp
  · have h:¬ (Sum.inl a:Key)=Sum.inl b:=fun q=>e (Sum.inl.inj q)
    rw [decide_eq_false h]
    exact (beq_eq_false_iff_ne.mpr e).symm
theorem A9 (a b:Str):decide ((Sum.inr a:Key)=Sum.inr b)=decide (a=b):=by
  by_cases e:a=b
  · subst e; simp
  · have h:¬ (Sum.inr a:Key)=Sum.inr b:=fun q=>e (Sum.inr.inj q)
    rw [decide_eq_false h,decide_eq_false e]
theorem Ag (a:Int) (b:Str):decide ((Sum.inl a:Key)=Sum.inr b)=false:=decide_eq_false (fun q=>nomatch q)
theorem BI (a:Str) (b:Int):decide ((Sum.inr a:Key)=Sum.inl b)=false:=decide_eq_false (fun q=>nomatch q)
noncomputable def bo (prog:Program) (w:World):PySem.KeyKind prog w Key where
  is:=lA
  hash:=C8 w
  inj:=fun v a b ha hb=>by
    rcases cf ha with ⟨i,t,rfl,rfl⟩ | ⟨x,t,rfl,rfl⟩
    · rcases cf hb with ⟨j,u,rfl,e⟩ | ⟨y,u,rfl,e⟩
      · injection e with e1 _; rw [e1]
      · exact nomatch e
    · rcases cf hb with ⟨j,u,rfl,e⟩ | ⟨y,u,rfl,e⟩
      · exact nomatch e
      · injection e with e1 _; rw [e1]
  byValue:=fun k v h=>by
    rcases cf h with ⟨i,t,rfl,rfl⟩ | ⟨x,t,rfl,rfl⟩<;>rfl
  pyHash:=fun hv h=>by
    rcases cf hv with ⟨i,t,rfl,rfl⟩ | ⟨x,t,rfl,rfl⟩
    · exact wpAny_pyHash_int h
    · exact wpAny_pyHash_str h
  eqBool:=fun hu hv h=>by
    rcases cf hu with ⟨i,t,rfl,rfl⟩ | ⟨x,t,rfl,rfl⟩
    · rcases cf hv with ⟨j,u,rfl,rfl⟩ | ⟨y,u,rfl,rfl⟩
      · rw [Aw] at h; exact wpAny_eqBool_int h
      · rw [Ag] at h; exact SeqAt.EqAt.int_str i t y u _ _ _ _ h
    · rcases cf hv with ⟨j,u,rfl,rfl⟩ | ⟨y,u,rfl,rfl⟩
      · rw [BI] at h; exact SeqAt.EqAt.str_int x t j u _ _ _ _ h
      · rw [A9] at h; exact wpAny_eqBool_str h
  «strs»:=fun k x t v h=>by
    rcases cf h with ⟨i,u,rfl,e⟩ | ⟨y,u,rfl,e⟩
    · exact nomatch e
    · injection e with e1 _
      subst e1
      cases v<;>rfl
theorem tU (prog:Program) (w:World) (i:Int) (t:Tok):(bo prog w).is (.inl i) (.int i t)=true:=wB i t
theorem tV (prog:Program) (w:World) (x:Str) (t:Tok):(bo prog w).is (.inr x) (.str x t)=true:=wI x t
end L2
namespace L2
open PySem PySem.Spec PyProof.Rows
inductive V where
  | non | bl (b:Bool) | int (i:Int) | str (x:Str) | byt (b:Array UInt8) | flt (b:UInt64) | ref (a:Addr) | ty (n:String)
  deriving DecidableEq
noncomputable def RelV:V->Value->Prop
  | .non,u=>u=Value.none
  | .bl b,u=>u=Value.bool b
  | .int i,u=>∃ t,u=Value.int i t
  | .str x,u=>∃ t,u=Value.str x t
  | .byt b,u=>∃ t,u=Value.bytes b t
  | .flt b,u=>∃ t,u=Value.float b t
  | .ref a,u=>u=Value.ref a
  | .ty n,u=>u=Value.type n
noncomputable abbrev Vals:List V->List Value->Prop:=Paired RelV
theorem Vals.length {xs:List V} {us:List Value} (r:Vals xs us):xs.length=us.length:=Paired.length r
theorem Vals.get:∀ {xs:List V} {us:List Value} {i:Nat} {x:V},Vals xs us->xs[i]? = some x->∃ u,us[i]? = some u/\RelV x u
  | _,_,_,_,.nil,e=>by simp at e
  | _,_,0,_,.cons r _,e=>by simp at e; subst e; exact ⟨_,rfl,r⟩
  | _,_,i+1,x,.cons _ t,e=>by
    obtain ⟨u,h1,h2⟩:=Vals.get (i:=i) (x:=x) t (by simpa using e)
    exact ⟨u,by simpa using h1,h2⟩
theorem Vals.set {x:V} {u:Value} (r:RelV x u):∀ {xs:List V} {us:List Value} (i:Nat),Vals xs us->Vals (xs.set i x) (us.set i u)
  | _,_,_,.nil=>.nil
  | _,_,0,.cons _ t=>.cons r t
  | _,_,i+1,.cons q t=>.cons q (Vals.set r i t)
theorem Vals.append:∀ {xs ys:List V} {us ws:List Value},Vals xs us->Vals ys ws->Vals (xs++ys) (us++ws)
  | _,_,_,_,.nil,s=>s
  | _,_,_,_,.cons r t,s=>.cons r (Vals.append t s)
theorem Vals.take:∀ {xs:List V} {us:List Value} (n:Nat),Vals xs us->Vals (xs.take n) (us.take n)
  | _,_,0,_=>.nil
  | _,_,_+1,.nil=>.nil
  | _,_,n+1,.cons r t=>.cons r (Vals.take n t)
theorem Vals.drop:∀ {xs:List V} {us:List Value} (n:Nat),Vals xs us->Vals (xs.drop n) (us.drop n)
  | _,_,0,r=>r
  | _,_,_+1,.nil=>.nil
  | _,_,n+1,.cons _ t=>Vals.drop n t
noncomputable def gA:Option V->Option Value->Prop
  | some v,some u=>RelV v u
  | none,none=>True
  | _,_=>False
noncomputable def KV {κ:Type}:List (κ × V)->List (κ × Value)->Prop:=Paired fun (p:κ × V) (q:κ × Value)=>p.1=q.1/\RelV p.2 q.2
noncomputable def kV:Key->V
  | .inl i=>.int i
  | .inr x=>.str x
inductive HO where
  | lst (xs:List V)
  | tup (xs:List V)
  | dK (kvs:List (Key × V)) | dT (kvs:List (List Key × V))
  | set (S:Int->Bool) (n:Nat)
  | ins (C dx:Addr) (fs:List (Str × V))
  | own (x:Addr)
  | xd (fs:List (Str × V))
  | met (f x:Addr)
  | rng (lo hi:Int)
  | frz (o:Obj) (u:HO)
  | tbl (ps:Array Value)
  | ext (φ:Heap->Prop)
noncomputable abbrev Hp:=Addr->Option HO
noncomputable def upd (H:Hp) (a:Addr) (o:HO):Hp:=fun b=>if b=a then some o else H b
theorem ah {H:Hp} {a:Addr} {o:HO}:upd H a o a=some o:=by unfold upd; rw [if_pos rfl]
theorem aE {H:Hp} {a b:Addr} {o:HO} (h:b≠a):upd H a o b=H b:=by unfold upd; rw [if_neg h]
theorem dX {H:Hp} {a:Addr} {o u:HO}:upd (upd H a o) a u=upd H a u:=by
  funext b; unfold upd; split<;>rfl
theorem Cq {H:Hp} {a b:Addr} {o u:HO} (h:H a=some o) (h':H b=some u) (d:o≠u):a≠b:=by
  intro e; subst e; rw [h] at h'; exact d (Option.some.inj h')
theorem bh {H:Hp} {a b:Addr} {o:HO} (h:H a=some o) (h':H b=none):a≠b:=by
  intro e; subst e; rw [h] at h'; cases h'
section
variable (P:Program) (w:World)
noncomputable def bg (H:Hp) (h:Heap) (a:Addr):HO->Prop
  | .lst xs=>xs.length<=sizeLine/\∃ (its:List Value) (n:Nat),Vals xs its/\h.get? a=some { cls:=.type "list",data:=.seq its.toArray n }
  | .tup xs=>xs.length<=sizeLine/\∃ its:List Value,Vals xs its/\IsTup h a its.toArray
  | .dK kvs=>kvs.length<=sizeLine/\(a == sysModules)=false/\∃ vs,KV kvs vs/\h.DictOf (bo P w) a vs
  | .dT kvs=>kvs.length<=sizeLine/\(a == sysModules)=false/\∃ xs:List (List Key × Addr × Value),
      Paired (fun (p:List Key × V) (q:List Key × Addr × Value)=>p.1=q.1/\H q.2.1=some (.tup (p.1.map kV))/\RelV p.2 q.2.2) kvs xs /\
      ∃ o es ep,h.get? a=some o/\o.ExactDict/\o.data = .dict es ep/\es.toList=xs.map (entryOfKey (tupleKind (bo P w)))/\(xs.map (·.1)).Nodup
  | .set S n=>h.SetOf (intKind P w) a S n
  | .ins C dx fs=>H dx=some (.own a)/\fs.length<=1000/\dx≠a/\h.get? a=some (PySem.W.instObj C dx) /\
      ∃ mA,h.Ns1 dx mA/\(∀ f,gA (fs.lookup f) (mA f))/\PySem.Within mA (fs.map (·.1))
  | .own _=>∃ o,h.get? a=some o
  | .xd fs=>∃ mA,h.Ns1 a mA/\∀ f,gA (fs.lookup f) (mA f)
  | .rng lo hi=>∃ t u v,h.get? a=some { cls:=.type "range",data:=.fields #[.int lo t,.int hi u,.int 1 v] }
  | .frz o u=>h.get? a=some o/\bg H h a u
  | .tbl ps=>h.get? a=some { cls:=.none,data:=.fields ps }
  | .met f x=>h.get? a=some (PySem.W.methodObj (.ref f) (.ref x))
  | .ext φ=>φ h/\(∃ o,h.get? a=some o)/\∀ h1 h2:Heap,φ h1->(∀ o,h1.get? a=some o->h2.get? a=some o)->φ h2
def cF (H:Hp) (h:Heap):Prop:=∀ a o,H a=some o->bg P w H h a o
end
section
variable {P:Program} {w:World} {H H':Hp} {h h':Heap} {a:Addr} {o:HO}
theorem bg.lt (x:bg P w H h a o):a < h.objs.size:=by
  cases o with
  | lst xs=>obtain ⟨_,_,_,_,e⟩:=x; exact Heap.lt_size e
  | tup xs=>obtain ⟨_,_,_,p⟩:=x; exact p.lt
  | dK kvs=>obtain ⟨_,_,_,_,o,_,_,e,_⟩:=x; exact Heap.lt_size e
  | dT kvs=>obtain ⟨_,_,_,_,o,_,_,e,_⟩:=x; exact Heap.lt_size e
  | set S n=>obtain ⟨o,_,_,_,e,_⟩:=x; exact Heap.lt_size e
  | ins C dx fs=>obtain ⟨_,_,_,e,_⟩:=x; exact Heap.lt_size e
  | own y=>obtain ⟨_,e⟩:=x; exact Heap.lt_size e
  | xd fs=>obtain ⟨_,⟨_,_,_,e,_⟩,_⟩:=x; exact Heap.lt_size e
  | rng lo hi=>obtain ⟨_,_,_,e⟩:=x; exact Heap.lt_size e
  | frz ob u=>obtain ⟨e,_⟩:=x; exact Heap.lt_size e
  | tbl ps=>exact Heap.lt_size (show h.get? a=some _ from x)
  | met f y=>exact Heap.lt_size (show h.get? a=some _ from x)
  | ext φ=>obtain ⟨_,⟨_,e⟩,_⟩:=x; exact Heap.lt_size e
theorem Paired.mapP {α β:Type} {F G:α->β->Prop}:∀ {l₁:List α} {l₂:List β},Paired F l₁ l₂->(∀ a b,F a b->G a b)->Paired G l₁ l₂
  | _,_,.nil,_=>.nil
  | _,_,.cons r t,f=>.cons (f _ _ r) (Paired.mapP t f)
theorem bg.stay (x:bg P w H h a o) (k:∀ b u,(b=a\/H b=some (.own a))->h.get? b=some u->h'.get? b=some u)
    (ho:∀ b,H b=some (.own a)->H' b=some (.own a)) (ht:∀ b xs,H b=some (.tup xs)->H' b=some (.tup xs)):bg P w H' h' a o:=by
  induction o with
  | lst xs=>obtain ⟨z,its,n,r,e⟩:=x; exact ⟨z,its,n,r,k _ _ (.inl rfl) e⟩
  | tup xs=>obtain ⟨z,its,r,ob,e,c⟩:=x; exact ⟨z,its,r,ob,k _ _ (.inl rfl) e,c⟩
  | dK kvs=>obtain ⟨z,y,vs,r,ob,es,ep,e,c⟩:=x; exact ⟨z,y,vs,r,ob,es,ep,k _ _ (.inl rfl) e,c⟩
  | dT kvs =>
    obtain ⟨z,y,xs,r,ob,es,ep,e,c⟩:=x
    exact ⟨z,y,xs,Paired.mapP r fun p q z=>⟨z.1,ht _ _ z.2.1,z.2.2⟩,ob,es,ep,k _ _ (.inl rfl) e,c⟩
  | set S n=>obtain ⟨ob,es,ep,t,e,c⟩:=x; exact ⟨ob,es,ep,t,k _ _ (.inl rfl) e,c⟩
  | ins C dx fs =>
    obtain ⟨d,z,ne,e,mA,⟨od,es,ep,e2,c⟩,r⟩:=x
    exact ⟨ho _ d,z,ne,k _ _ (.inl rfl) e,mA,⟨od,es,ep,k _ _ (.inr d) e2,c⟩,r⟩
  | own y=>obtain ⟨ob,e⟩:=x; exact ⟨ob,k _ _ (.inl rfl) e⟩
  | xd fs=>obtain ⟨mA,⟨od,es,ep,e,c⟩,r⟩:=x; exact ⟨mA,⟨od,es,ep,k _ _ (.inl rfl) e,c⟩,r⟩
  | rng lo hi=>obtain ⟨t,u,v,e⟩:=x; exact ⟨t,u,v,k _ _ (.inl rfl) e⟩
  | frz ob u ih=>obtain ⟨e,q⟩:=x; exact ⟨k _ _ (.inl rfl) e,ih q⟩
  | tbl ps =>
    have e:h.get? a=some { cls:=.none,data:=.fields ps }:=x
    show h'.get? a=some { cls:=.none,data:=.fields ps }
    exact k a _ (.inl rfl) e
  | met f y =>
    have e:h.get? a=some (PySem.W.methodObj (.ref f) (.ref y)):=x
    show h'.get? a=some (PySem.W.methodObj (.ref f) (.ref y))
    exact k a _ (.inl rfl) e
  | ext φ=>obtain ⟨p,⟨o,e⟩,st⟩:=x; exact ⟨st _ _ p fun o q=>k _ _ (.inl rfl) q,⟨o,k _ _ (.inl rfl) e⟩,st⟩
theorem cF.lt (x:cF P w H h) (e:H a=some o):a < h.objs.size:=(x a o e).lt
theorem cF.fresh (x:cF P w H h) (e:h.objs.size<=a):H a=none:=by
  cases q:H a with
  | none=>rfl
  | some u=>exact absurd (Nat.lt_of_lt_of_le (x.lt q) e) (Nat.lt_irrefl _)
theorem cF.kept (x:cF P w H h) (k:∀ b u,h.get? b=some u->h'.get? b=some u):cF P w H h':=fun a o e =>
  (x a o e).stay (fun b u _ q=>k b u q) (fun _ q=>q) fun _ _ q=>q
theorem cF.laid (x:cF P w H h) (k:∀ b u,h.get? b=some u->h'.get? b=some u) (hp:h.objs.size<=a) (new:bg P w (upd H a o) h' a o):cF P w (upd H a o) h':=fun b u e=>by
  have hn:=x.fresh hp
  by_cases hb:b=a
  · subst hb; rw [ah] at e; cases e; exact new
  · rw [aE hb] at e
    exact (x b u e).stay (fun c v _ q=>k c v q) (fun c q=>by rw [aE (bh q hn)]; exact q) fun c xs q=>by rw [aE (bh q hn)]; exact q
end
def Rd (H:Hp) (a:Addr) (u:HO):Prop:=H a=some u\/∃ o,H a=some (.frz o u)
theorem Rd.ok {P:Program} {w:World} {H:Hp} {h:Heap} {a:Addr} {u:HO} (r:Rd H a u) (x:cF P w H h):bg P w H h a u:=by
  rcases r with r | ⟨o,r⟩
  · exact x a u r
  · obtain ⟨_,q⟩:=x a _ r
    exact q
noncomputable def xo:Option HO->Prop
  | some (.lst _)=>True
  | some (.dK _)=>True
  | some (.dT _)=>True
  | some (.set _ _)=>True
  | some (.ins _ _ _)=>True
  | some (.ext _)=>True
  | _=>False
section
variable {P:Program} {w:World} {H:Hp} {h h':Heap} {x e:Addr} {o':HO}
theorem cF.write (ok:cF P w H h) (mu:xo (H x)) (he:e=x\/H e=some (.own x)) (k:∀ b u,b≠e->h.get? b=some u->h'.get? b=some u) (heo:∃ u,h'.get? e=some u)
    (new:bg P w (upd H x o') h' x o'):cF P w (upd H x o') h':=fun b u q=>by
  have nown:∀ c y,H c=some (.own y)->c≠x:=fun c y r z=>by subst z; rw [r] at mu; exact mu
  have ntup:∀ c xs,H c=some (.tup xs)->c≠x:=fun c xs r z=>by subst z; rw [r] at mu; exact mu
  by_cases hb:b=x
  · subst hb; rw [ah] at q; cases q; exact new
  · rw [aE hb] at q
    by_cases hbe:b=e
    · have q':H b=some (.own x):=by
        rcases he with z | z
        · exact absurd (hbe.trans z) hb
        · rw [hbe]; exact z
      rw [q] at q'; cases q'
      obtain ⟨v,hv⟩:=heo
      exact ⟨v,by rw [hbe]; exact hv⟩
    · refine (ok b u q).stay (fun c v hc r=>k c v ?_ r) (fun c r=>by rw [aE (nown c b r)]; exact r) fun c xs r=>by rw [aE (ntup c xs r)]; exact r
      rcases hc with rfl | hc
      · exact hbe
      · rintro rfl
        rcases he with z | z
        · exact nown c b hc z
        · rw [hc] at z; cases z; exact hb rfl
end
structure Un (fs ex:List Addr) (H H':Hp) (h h':Heap):Prop where
  keep:∀ b o,h.get? b=some o->H b=none->b∉fs->b∉ex->h'.get? b=some o
  slot:∀ b o,h.get? b=some o->H b=none->b∈fs->b∉ex->∃ sl,h'.get? b=some { o with slots:=sl }
  free:∀ b o,h.get? b=some o->H b=none->b∉ex->H' b=none
  there:∀ b o,h.get? b=some o->b∉ex->∃ o',h'.get? b=some o'
  tups:∀ b xs,H b=some (.tup xs)->H' b=some (.tup xs)
  frzs:∀ b o u,H b=some (.frz o u)->H' b=some (.frz o u)
  tbls:∀ b ps,H b=some (.tbl ps)->∃ more,H' b=some (.tbl (ps++more))
section
variable {fs fs' ex ex':List Addr} {H H1 H2:Hp} {h h1 h2 h':Heap} {a x e:Addr} {o:HO}
theorem Un.any (u:Un fs ex H H1 h h1) {b:Addr} {ob:Obj} (q:h.get? b=some ob) (n:H b=none) (hx:b∉ex):∃ sl,h1.get? b=some { ob with slots:=sl }:=by
  by_cases hb:b∈fs
  · exact u.slot b ob q n hb hx
  · exact ⟨ob.slots,u.keep b ob q n hb hx⟩
theorem Un.kept (k:∀ b u,h.get? b=some u->h'.get? b=some u):Un fs ex H H h h' :=
  ⟨fun b ob q _ _ _=>k b ob q,fun b ob q _ _ _=>⟨ob.slots,k b ob q⟩,fun _ _ _ n _=>n,fun b ob q _=>⟨ob,k b ob q⟩,fun _ _ q=>q,fun _ _ _ q=>q,fun _ ps q=>⟨#[],by rw [q]; simp⟩⟩
theorem Un.refl:Un fs ex H H h h:=Un.kept fun _ _ q=>q
theorem Un.laid (k:∀ b u,h.get? b=some u->h'.get? b=some u) (hp:h.objs.size<=a) (hn:H a=none):Un fs ex H (upd H a o) h h' where
  keep:=fun b u q _ _ _=>k b u q
  slot:=fun b u q _ _ _=>⟨u.slots,k b u q⟩
  free:=fun b u q n _=>by rw [aE (Nat.ne_of_lt (Nat.lt_of_lt_of_le (Heap.lt_size q) hp))]; exact n
  there:=fun b u q _=>⟨u,k b u q⟩
  tups:=fun b xs q=>by rw [aE (bh q hn)]; exact q
  frzs:=fun b u xs q=>by rw [aE (bh q hn)]; exact q
  tbls:=fun b ps q=>⟨#[],by rw [aE (bh q hn),q]; simp⟩
theorem Un.write (mu:xo (H x)) (he:e=x\/H e=some (.own x)) (k:∀ b u,b≠e->h.get? b=some u->h'.get? b=some u) (heo:∃ u,h'.get? e=some u):Un fs ex H (upd H x o) h h':=by
  have hx:∀ b,H b=none->b≠x:=fun b n z=>by subst z; rw [n] at mu; exact mu
  have hb:∀ b,H b=none->b≠e:=fun b n z=>by
    subst z
    rcases he with r | r
    · exact hx b n r
    · rw [n] at r; cases r
  have hm:∀ b u,H b=some u->¬ xo (some u)->b≠x:=fun b u q nm z=>by subst z; rw [q] at mu; exact nm mu
  refine ⟨fun b u q n _ _=>k b u (hb b n) q,fun b u q n _ _=>⟨u.slots,k b u (hb b n) q⟩,fun b u q n _=>by rw [aE (hx b n)]; exact n,fun b u q _=>?_,
    fun b xs q=>by rw [aE (hm b _ q fun z=>z)]; exact q,fun b u xs q=>by rw [aE (hm b _ q fun z=>z)]; exact q,fun b ps q=>⟨#[],by rw [aE (hm b _ q fun z=>z),q]; simp⟩⟩
  by_cases hbe:b=e
  · subst hbe; exact heo
  · exact ⟨u,k b u hbe q⟩
end
noncomputable def yD (h:Heap) (H:Hp):List Addr:=(List.range h.objs.size).filter fun a=>(H a).isSome
noncomputable def iF (h:Heap) (H:Hp):Heap:=PySem.W.hideAll h (yD h H)
theorem qh (h:Heap) (H:Hp):(iF h H).objs.size=h.objs.size:=PySem.W.hideAll_size _ _
theorem m9 {h:Heap} {H:Hp} {b:Addr} {o:Obj} (e:h.get? b=some o) (n:H b=none):(iF h H).get? b=some o :=
  PySem.W.hideAll_get _ e fun hm=>by
    have q:(H b).isSome=true:=(List.mem_filter.mp hm).2
    rw [n] at q; simp at q
theorem uo {h:Heap} {H:Hp} {b:Addr} {o:Obj} (e:(iF h H).get? b=some o):h.get? b=some o/\H b=none:=by
  have e':h.get? b=some o:=PySem.W.of_hideAll (yD h H) e
  refine ⟨e',?_⟩
  cases q:H b with
  | none=>rfl
  | some x =>
    have hm:b∈yD h H:=List.mem_filter.mpr ⟨List.mem_range.mpr (Heap.lt_size e'),by simp [q]⟩
    have z:(iF h H).get? b=none:=PySem.W.hideAll_none (yD h H) hm
    rw [z] at e; cases e
noncomputable def yY (g h:Heap) (L:Addr):List (Addr × Obj):=(List.range h.objs.size).filterMap fun a=>if a=L\/(g.get? a).isSome=true then none else (h.get? a).map fun o=>(a,o)
noncomputable def rest (g h:Heap) (L d:Addr):List (Addr × Obj):=(yY g h L).filter fun p=>decide (p.1≠d)
end L2
namespace L2
open PySem PySem.Spec PyProof.Rows
structure Mod (K:PySem.W.Frag) (mg:Str->Option Value) (base:Heap):Prop where
  kin:K.In base
  glob:base.Ns mainGlobals mg
  blt:∃ mb,base.Ns builtinsNs mb/\∀ x:Str,x≠"__name__"->mb x=bootBuiltins x
  nolimit:base.NoLimit
structure Cx where
  prog:Program
  w:World
  K:PySem.W.Frag
  mg:Str->Option Value
  base:Heap
  A:Around
  N:List Str
  s₀:Shared
  H₀:Hp
  env:Env
  outer:List Env
  stack:List Env
  ex:List Addr
  fn:Str->Bool
  calm:Bool
  pn:List (Addr × Obj)
  xe:Value->Shared->Prop
noncomputable def bJ (l:List Env):List Addr:=l.filterMap (·.frame)
noncomputable abbrev Cx.fs (X:Cx):List Addr:=bJ X.outer
def yw (sc:Scope) (x:Str):Prop:=sc.names.lookup x=some .local\/sc.names.lookup x=some .cell\/sc.names.lookup x=some .free
def Loc (sc:Scope) (x:Str):Prop:=sc.names.lookup x=some .local\/sc.names.lookup x=some .cell
def Look (env:Env) (h:Heap) (m:Str->Option Value) (x:Str) (u:Value):Prop :=
  (env.kindOf x=some .local/\m x=some u)\/((env.kindOf x=some .cell\/env.kindOf x=some .free)/\∃ c,env.cells.lookup x=some c/\h.IsCell c (some u))
structure Cx.Ok (X:Cx):Prop where
  mod:Mod X.K X.mg X.base
  kind:X.env.scope.kind = .function
  glob:X.env.globals=mainGlobals
  blt:X.env.builtins=builtinsNs
  above:X.s₀.heap.objs.size<=X.env.locals
  inj:∀ x y c,X.env.cells.lookup x=some c->X.env.cells.lookup y=some c->x=y
  has:∀ x,(X.env.kindOf x=some .cell\/X.env.kindOf x=some .free)->∃ c,X.env.cells.lookup x=some c
  cab:∀ x c,X.fn x=true->X.env.cells.lookup x=some c->X.s₀.heap.objs.size<=c
  hd:X.calm=true->X.A.handled=none
  frames:X.A.frames=some X.stack
  stk:X.stack=X.outer\/(X.stack=X.env::X.outer/\X.env.frame=some X.env.locals)
  exf:∀ b∈X.ex,b≠X.env.locals/\∀ x c,X.env.cells.lookup x=some c->c≠b
  bs:∀ b o,X.base.get? b=some o->X.s₀.heap.get? b=some o/\X.H₀ b=none
  bsz:X.base.objs.size<=X.s₀.heap.objs.size
  noex:∀ b o,X.base.get? b=some o->b∉X.ex
  exfs:∀ b∈X.ex,b∉X.fs
  funs:X.s₀.heap.FunFrames X.base X.outer
  frf:∀ b∈X.fs,X.H₀ b=none
structure Inv (X:Cx) (pins:List (Addr × Obj)) (σ:List (Option V)) (H:Hp) (s:Shared):Prop where
  ok:X.Ok
  os:s.os=X.s₀.os
  bare:AllBare s.gens
  base:Un X.fs X.ex X.H₀ H X.s₀.heap s.heap
  loc:∃ m,s.heap.Ns X.env.locals m/\∀ (i:Nat) (x:Str) (v:V),X.N[i]? = some x->σ[i]? = some (some v)->yw X.env.scope x->∃ u,RelV v u/\Look X.env s.heap m x u
  cell:∀ x c,X.env.cells.lookup x=some c->∃ v,s.heap.IsCell c v
  free:H X.env.locals=none
  freeC:∀ x c,X.env.cells.lookup x=some c->H c=none
  pin:∀ p∈X.pn++pins,s.heap.get? p.1=some p.2/\H p.1=none/\p.1≠X.env.locals/\p.1∉X.fs/\∀ v,p.2.data≠.cell v
  hok:cF X.prog X.w H s.heap
  len:σ.length=X.N.length
section
variable {X:Cx} {pins:List (Addr × Obj)} {σ:List (Option V)} {H H':Hp} {s:Shared} {h':Heap}
theorem Cx.Ok.nofr (ok:X.Ok) {b:Addr} {o:Obj} (e:X.base.get? b=some o):b∉X.fs:=fun hb=>by
  have:=(ok.funs.mem hb).1
  rw [e] at this; cases this
theorem Inv.bs (I:Inv X pins σ H s):∀ b o,X.base.get? b=some o->s.heap.get? b=some o/\H b=none:=fun b o e =>
  ⟨I.base.keep b o (I.ok.bs b o e).1 (I.ok.bs b o e).2 (I.ok.nofr e) (I.ok.noex b o e),I.base.free b o (I.ok.bs b o e).1 (I.ok.bs b o e).2 (I.ok.noex b o e)⟩
theorem Inv.bk (I:Inv X pins σ H s):∀ b o,X.base.get? b=some o->s.heap.get? b=some o:=fun b o e=>(I.bs b o e).1
theorem Inv.mod (I:Inv X pins σ H s):Mod X.K X.mg X.base:=I.ok.mod
theorem Inv.kIn (I:Inv X pins σ H s):X.K.In s.heap:=I.ok.mod.kin.keeps I.bk
theorem Inv.fr (I:Inv X pins σ H s):∃ m,Fr X.base X.env.locals s.heap m :=
  let ⟨m,hn,_⟩:=I.loc
  ⟨m,hn,I.bk,Nat.le_trans I.ok.bsz I.ok.above⟩
theorem Inv.lt (I:Inv X pins σ H s):X.env.locals < s.heap.objs.size:=let ⟨_,hn,_⟩:=I.loc; hn.lt
theorem Inv.sz (I:Inv X pins σ H s):X.s₀.heap.objs.size<=s.heap.objs.size:=Nat.le_trans I.ok.above (Nat.le_of_lt I.lt)
theorem Inv.nofs (I:Inv X pins σ H s) {a:Addr} (h:s.heap.objs.size<=a):a∉X.fs:=fun hb=>by
  obtain ⟨_,o,ho,_⟩:=I.ok.funs.mem hb
  exact absurd (Nat.lt_of_lt_of_le (Heap.lt_size ho) (Nat.le_trans I.sz h)) (Nat.lt_irrefl _)
theorem Inv.cne (I:Inv X pins σ H s):∀ x c,X.env.cells.lookup x=some c->c≠X.env.locals:=fun x c e z=>by
  obtain ⟨v,o,ho,hd⟩:=I.cell x c e
  obtain ⟨m,⟨o',es,ep,ho',hd',_⟩,_⟩:=I.loc
  rw [z,ho'] at ho; cases ho; rw [hd'] at hd; cases hd
theorem Inv.funs (I:Inv X pins σ H s):s.heap.FunFrames X.base X.outer:=by
  have all:∀ (l:List Env),(∀ b∈bJ l,b∈X.fs)->X.s₀.heap.FunFrames X.base l->s.heap.FunFrames X.base l:=by
    intro l
    induction l with
    | nil=>intro _ _; trivial
    | cons env r ih =>
      intro hs hl
      obtain ⟨hk,⟨L,o,hf,hn,ho,hd⟩,hr⟩:=hl
      have hL:L∈X.fs:=hs L (by unfold bJ; rw [List.filterMap_cons,hf]; exact List.mem_cons_self)
      obtain ⟨sl,e⟩:=I.base.slot L o ho (I.ok.frf L hL) hL fun z=>I.ok.exfs L z hL
      exact ⟨hk,⟨L,_,hf,hn,e,hd⟩,ih (fun b hb=>hs b (by unfold bJ; rw [List.filterMap_cons,hf]; exact List.mem_cons_of_mem _ hb)) hr⟩
  exact all X.outer (fun _ hb=>hb) I.ok.funs
theorem Inv.stack (I:Inv X pins σ H s):s.heap.FunFrames X.base X.stack:=by
  rcases I.ok.stk with e | ⟨e,hf⟩
  · rw [e]; exact I.funs
  · rw [e]
    obtain ⟨m,hn,_⟩:=I.loc
    refine .cons (by rw [I.ok.kind]; decide) hf hn ?_ I.funs
    exact Heap.get?_none_of_le (Nat.le_trans I.ok.bsz I.ok.above)
theorem Inv.stkSub (I:Inv X pins σ H s):∀ b∈bJ X.stack,b∈X.env.locals::X.fs:=fun b hb=>by
  rcases I.ok.stk with e | ⟨e,hf⟩
  · rw [e] at hb; exact List.mem_cons_of_mem _ hb
  · rw [e] at hb
    unfold bJ at hb
    rw [List.filterMap_cons,hf] at hb
    exact hb
theorem Inv.stkFree (I:Inv X pins σ H s):∀ b∈bJ X.stack,H b=none:=fun b hb=>by
  rcases List.mem_cons.mp (I.stkSub b hb) with e | hb
  · rw [e]; exact I.free
  · obtain ⟨_,o,ho,_⟩:=I.ok.funs.mem hb
    exact I.base.free b o ho (I.ok.frf b hb) fun z=>I.ok.exfs b z hb
theorem Inv.step {g':Array GenState} {t':Nat} {d':Drawn} {ch:List Addr} (I:Inv X pins σ H s)
    (hch:∀ b∈ch,(b∈X.ex\/X.s₀.heap.objs.size<=b)/\b≠X.env.locals/\(∀ x c,X.env.cells.lookup x=some c->c≠b)/\∀ p∈X.pn++pins,p.1≠b)
    (keep:∀ b o,b≠X.env.locals->b∉X.fs->b∉ch->s.heap.get? b=some o->H b=none->h'.get? b=some o)
    (slot:∀ b o,b≠X.env.locals->b∈X.fs->b∉ch->s.heap.get? b=some o->H b=none->∃ sl,h'.get? b=some { o with slots:=sl }) (free:∀ b o,b∉ch->s.heap.get? b=some o->H b=none->H' b=none)
    (there:∀ b o,b∉ch->s.heap.get? b=some o->∃ o',h'.get? b=some o')
    (tups:∀ b xs,H b=some (.tup xs)->H' b=some (.tup xs)) (frzs:∀ b o u,H b=some (.frz o u)->H' b=some (.frz o u)) (tbls:∀ b ps,H b=some (.tbl ps)->∃ more,H' b=some (.tbl (ps++more)))
    (ns:∀ m,s.heap.Ns X.env.locals m->h'.Ns X.env.locals m) (hok:cF X.prog X.w H' h') (hg:AllBare g') :
    Inv X pins σ H' { s with heap:=h',gens:=g',drawn:=d',toks:=t' }:=by
  have neL:∀ b o,X.s₀.heap.get? b=some o->b≠X.env.locals:=fun b o e=>Nat.ne_of_lt (Nat.lt_of_lt_of_le (Heap.lt_size e) I.ok.above)
  have neC:∀ b o,X.s₀.heap.get? b=some o->b∉X.ex->b∉ch:=fun b o e hx hb=>by
    rcases (hch b hb).1 with z | z
    · exact hx z
    · exact absurd (Nat.lt_of_lt_of_le (Heap.lt_size e) z) (Nat.lt_irrefl _)
  have cellK:∀ x c,X.env.cells.lookup x=some c->∀ v,s.heap.IsCell c v->h'.IsCell c v:=fun x c e v ⟨o,ho,hd⟩=>by
    have nch:c∉ch:=fun z=>(hch c z).2.2.1 x c e rfl
    by_cases hc:c∈X.fs
    · obtain ⟨sl,q⟩:=slot c o (I.cne x c e) hc nch ho (I.freeC x c e)
      exact ⟨_,q,hd⟩
    · exact ⟨o,keep c o (I.cne x c e) hc nch ho (I.freeC x c e),hd⟩
  refine ⟨I.ok,I.os,hg,⟨fun b o e n hb hx=>?_,fun b o e n hb hx=>?_,fun b o e n hx=>?_,fun b o e hx=>?_,fun b xs e=>tups b xs (I.base.tups b xs e),fun b o xs e=>frzs b o xs (I.base.frzs b o xs e),fun b ps e=>?_⟩,?_,fun x c e=>?_,?_,fun x c e=>?_,fun p hp=>?_,hok,I.len⟩
  · exact keep b o (neL b o e) hb (neC b o e hx) (I.base.keep b o e n hb hx) (I.base.free b o e n hx)
  · obtain ⟨sl,e1⟩:=I.base.slot b o e n hb hx
    obtain ⟨sl',e2⟩:=slot b _ (neL b o e) hb (neC b o e hx) e1 (I.base.free b o e n hx)
    exact ⟨sl',e2⟩
  · obtain ⟨o',e1⟩:=I.base.there b o e hx
    exact free b o' (neC b o e hx) e1 (I.base.free b o e n hx)
  · obtain ⟨o',e1⟩:=I.base.there b o e hx
    exact there b o' (neC b o e hx) e1
  · obtain ⟨m1,e1⟩:=I.base.tbls b ps e
    obtain ⟨m2,e2⟩:=tbls b _ e1
    exact ⟨m1++m2,by rw [e2,Array.append_assoc]⟩
  · obtain ⟨m,hn,hl⟩:=I.loc
    refine ⟨m,ns m hn,fun i x v e1 e2 e3=>?_⟩
    obtain ⟨u,r,l⟩:=hl i x v e1 e2 e3
    refine ⟨u,r,?_⟩
    rcases l with l | ⟨k,c,e,z⟩
    · exact .inl l
    · exact .inr ⟨k,c,e,cellK x c e _ z⟩
  · obtain ⟨v,z⟩:=I.cell x c e
    exact ⟨v,cellK x c e v z⟩
  · obtain ⟨m,⟨o,_,_,ho,_⟩,_⟩:=I.loc
    exact free _ o (fun z=>(hch _ z).2.1 rfl) ho I.free
  · obtain ⟨v,o,ho,hd⟩:=I.cell x c e
    exact free c o (fun z=>(hch c z).2.2.1 x c e rfl) ho (I.freeC x c e)
  · obtain ⟨e,n,ne,nf,d⟩:=I.pin p hp
    have nch:p.1∉ch:=fun z=>(hch p.1 z).2.2.2 p hp rfl
    exact ⟨keep p.1 p.2 ne nf nch e n,free p.1 p.2 nch e n,ne,nf,d⟩
theorem Inv.un {t':Nat} (I:Inv X pins σ H s) (u:Un X.fs [] H H' s.heap h') (hok:cF X.prog X.w H' h'):Inv X pins σ H' { s with heap:=h',toks:=t' }:=by
  obtain ⟨m,⟨o,es,ep,ho,r⟩,_⟩:=id I.loc
  obtain ⟨sl,hL⟩:=u.any ho I.free (by simp)
  exact I.step (g':=s.gens) (d':=s.drawn) (ch:=[]) (fun _ z=>nomatch z) (fun b o _ hb _ e n=>u.keep b o e n hb (by simp)) (fun b o _ hb _ e n=>u.slot b o e n hb (by simp)) (fun b o _ e n=>u.free b o e n (by simp)) (fun b o _ e=>u.there b o e (by simp)) u.tups u.frzs u.tbls (fun m' hm=>by
    obtain ⟨o',es',ep',ho',r'⟩:=hm
    rw [ho] at ho'; cases ho'
    exact ⟨_,es',ep',hL,r'⟩) hok I.bare
theorem Inv.call {g':Array GenState} {t':Nat} {d':Drawn} {ch:List Addr} (I:Inv X pins σ H s) (u:Un (bJ X.stack) ch H H' s.heap h') (hok:cF X.prog X.w H' h') (hg:AllBare g')
    (hch:∀ b∈ch,(b∈X.ex\/X.s₀.heap.objs.size<=b)/\b≠X.env.locals/\(∀ x c,X.env.cells.lookup x=some c->c≠b)/\∀ p∈X.pn++pins,p.1≠b) :
    Inv X pins σ H' { s with heap:=h',gens:=g',drawn:=d',toks:=t' }:=by
  obtain ⟨m,⟨o,es,ep,ho,r⟩,_⟩:=id I.loc
  obtain ⟨sl,hL⟩:=u.any ho I.free fun z=>(hch _ z).2.1 rfl
  exact I.step (ch:=ch) hch (fun b o hL hb hc e n=>u.keep b o e n (fun z=>(List.mem_cons.mp (I.stkSub b z)).elim hL hb) hc) (fun b o _ _ hc e n=>u.any e n hc) (fun b o hc e n=>u.free b o e n hc) (fun b o hc e=>u.there b o e hc) u.tups u.frzs u.tbls (fun m' hm=>by
    obtain ⟨o',es',ep',ho',r'⟩:=hm
    rw [ho] at ho'; cases ho'
    exact ⟨_,es',ep',hL,r'⟩) hok hg
theorem Inv.turned {t':Nat} {it:Addr} (I:Inv X pins σ H s) (k:∀ b o,b≠it->s.heap.get? b=some o->h'.get? b=some o) (hn:H it=none) (hL:it≠X.env.locals)
    (h1:it∈X.ex\/X.s₀.heap.objs.size<=it) (h2:∀ x c,X.env.cells.lookup x=some c->c≠it) (h3:∀ p∈X.pn++pins,p.1≠it):Inv X pins σ H { s with heap:=h',toks:=t' }:=by
  have nit:∀ b u,H b=some u->b≠it:=fun b u e z=>by rw [z,hn] at e; cases e
  refine I.step (g':=s.gens) (d':=s.drawn) (ch:=[it]) (fun b hb=>?_) (fun b o _ _ hc e _=>k b o (fun z=>hc (by simp [z])) e) (fun b o _ _ hc e _=>⟨o.slots,k b o (fun z=>hc (by simp [z])) e⟩) (fun _ _ _ _ n=>n)
    (fun b o hc e=>⟨o,k b o (fun z=>hc (by simp [z])) e⟩) (fun _ _ e=>e) (fun _ _ _ e=>e) (fun b ps e=>⟨#[],by rw [e]; simp⟩) (fun m hm=>?_) (fun b u e=>?_) I.bare
  · have e:b=it:=by simpa using hb
    subst e
    exact ⟨h1,hL,h2,h3⟩
  · obtain ⟨o,es,ep,ho,r⟩:=hm
    exact ⟨o,es,ep,k _ o (Ne.symm hL) ho,r⟩
  · refine (I.hok b u e).stay (fun c v hc q=>k c v ?_ q) (fun _ q=>q) fun _ _ q=>q
    rcases hc with z | z
    · rw [z]; exact nit b u e
    · exact nit c _ z
theorem Inv.tok (I:Inv X pins σ H s) (t:Nat):Inv X pins σ H { s with toks:=t }:=I.un (h':=s.heap) (t':=t) Un.refl I.hok
theorem Inv.kept {t':Nat} (I:Inv X pins σ H s) (k:∀ b u,s.heap.get? b=some u->h'.get? b=some u):Inv X pins σ H { s with heap:=h',toks:=t' }:=I.un (Un.kept k) (I.hok.kept k)
theorem Inv.laid {a:Addr} {o:HO} {t':Nat} (I:Inv X pins σ H s) (k:∀ b u,s.heap.get? b=some u->h'.get? b=some u) (hp:s.heap.objs.size<=a) (new:bg X.prog X.w (upd H a o) h' a o) :
    Inv X pins σ (upd H a o) { s with heap:=h',toks:=t' }:=I.un (Un.laid k hp (I.hok.fresh hp)) (I.hok.laid k hp new)
theorem Inv.write {x e:Addr} {o:HO} {t':Nat} (I:Inv X pins σ H s) (mu:xo (H x)) (he:e=x\/H e=some (.own x)) (k:∀ b u,b≠e->s.heap.get? b=some u->h'.get? b=some u) (heo:∃ u,h'.get? e=some u)
    (new:bg X.prog X.w (upd H x o) h' x o):Inv X pins σ (upd H x o) { s with heap:=h',toks:=t' }:=I.un (Un.write mu he k heo) (I.hok.write mu he k heo new)
theorem Inv.weak {σ':List (Option V)} (I:Inv X pins σ H s) (hl:σ'.length=σ.length) (w:∀ (i:Nat) v,σ'[i]? = some (some v)->σ[i]? = some (some v)):Inv X pins σ' H s :=
  ⟨I.ok,I.os,I.bare,I.base,let ⟨m,hn,hl'⟩:=I.loc; ⟨m,hn,fun i x v e1 e2 e3=>hl' i x v e1 (w i v e2) e3⟩,I.cell,I.free,I.freeC,I.pin,I.hok,hl.trans I.len⟩
theorem Inv.pins_of {pins':List (Addr × Obj)} (I:Inv X pins σ H s) (h:∀ p∈pins',s.heap.get? p.1=some p.2/\H p.1=none/\p.1≠X.env.locals/\p.1∉X.fs/\∀ v,p.2.data≠.cell v):Inv X pins' σ H s :=
  ⟨I.ok,I.os,I.bare,I.base,I.loc,I.cell,I.free,I.freeC,fun p hp=>(List.mem_append.mp hp).elim (fun z=>I.pin p (List.mem_append_left _ z)) (h p),I.hok,I.len⟩
theorem nI {N:List Str} (hN:N.Nodup) {i j:Nat} {x:Str} (a:N[i]? = some x) (b:N[j]? = some x):i=j:=by
  obtain ⟨h1,e1⟩:=List.getElem?_eq_some_iff.mp a
  obtain ⟨h2,e2⟩:=List.getElem?_eq_some_iff.mp b
  exact (List.getElem_inj hN).mp (e1.trans e2.symm)
theorem kK {M:Model} {A:Around} {E:Value->Shared->Prop} {i:Nat} {x:Str} {v:V} {u:Value} {Q:Unit->Shared->Prop} (I:Inv X pins σ H s) (hN:X.N.Nodup) (hi:X.N[i]? = some x) (hx:Loc X.env.scope x) (r:RelV v u)
    (h:∀ s',Inv X pins (σ.set i (some v)) H s'->(∃ a,Heap.SameBut a s.heap s'.heap/\(a=X.env.locals\/X.env.cells.lookup x=some a))->Q () s') (hf:X.fn x=true\/X.env.scope.names.lookup x=some .local:=by first | exact .inl rfl | exact .inr rfl | assumption):wpAny M A (storeName X.env x u) Q E s:=by
  obtain ⟨m,hn,hl⟩:=id I.loc
  have hcls:(X.env.scope.kind == .class || (X.env.scope.kind == .module&&X.env.locals != X.env.globals))=false:=by rw [I.ok.kind]; rfl
  have hiσ:i < σ.length:=by rw [I.len]; exact (List.getElem?_eq_some_iff.mp hi).1
  have cne:=I.cne
  have tracked:∀ {a:Addr} {h':Heap},(∃ o,s.heap.get? a=some o/\H a=none)->Heap.SameBut a s.heap h'->cF X.prog X.w H h':=fun {a h'} ha hs b ob e=>by
    obtain ⟨_,_,hfree⟩:=ha
    refine (I.hok b ob e).stay (fun c w' hc q=>(hs.2 c ?_).trans q) (fun _ q=>q) fun _ _ q=>q
    rintro rfl
    rcases hc with rfl | hc
    · rw [hfree] at e; cases e
    · rw [hfree] at hc; cases hc
  rcases hx with hk | hk
  · refine wpAny_storeName_local hk hn (fun h' hn' hs=>?_) hcls
    obtain ⟨oL,_,_,hoL,_⟩:=id hn
    refine h _ ⟨I.ok,I.os,I.bare,⟨fun b o e n hb hx=>?_,fun b o e n hb hx=>?_,I.base.free,fun b o e hx=>?_,I.base.tups,I.base.frzs,I.base.tbls⟩,⟨_,hn',fun j y v' e1 e2 e3=>?_⟩,fun y c e=>?_,I.free,I.freeC,fun p hp=>?_,tracked ⟨oL,hoL,I.free⟩ hs,by simpa using I.len⟩ ⟨_,hs,.inl rfl⟩
    · exact (hs.2 b (Nat.ne_of_lt (Nat.lt_of_lt_of_le (Heap.lt_size e) I.ok.above))).trans (I.base.keep b o e n hb hx)
    · obtain ⟨sl,e1⟩:=I.base.slot b o e n hb hx
      exact ⟨sl,(hs.2 b (Nat.ne_of_lt (Nat.lt_of_lt_of_le (Heap.lt_size e) I.ok.above))).trans e1⟩
    · obtain ⟨o',e1⟩:=I.base.there b o e hx
      exact ⟨o',(hs.2 b (Nat.ne_of_lt (Nat.lt_of_lt_of_le (Heap.lt_size e) I.ok.above))).trans e1⟩
    · by_cases hj:j=i
      · subst hj
        rw [hi] at e1; cases e1
        rw [List.getElem?_set_self hiσ] at e2
        cases e2
        exact ⟨u,r,.inl ⟨hk,by simp⟩⟩
      · rw [List.getElem?_set_ne (Ne.symm hj)] at e2
        obtain ⟨u',r',q⟩:=hl j y v' e1 e2 e3
        refine ⟨u',r',?_⟩
        rcases q with ⟨k,e⟩ | ⟨k,c,e,z⟩
        · refine .inl ⟨k,?_⟩
          have:y≠x:=fun e=>hj (nI hN e1 (e▸hi))
          simp [this,e]
        · exact .inr ⟨k,c,e,z.sameBut hs (cne y c e)⟩
    · obtain ⟨w',z⟩:=I.cell y c e
      exact ⟨w',z.sameBut hs (cne y c e)⟩
    · obtain ⟨e,n,ne,nf,d⟩:=I.pin p hp
      exact ⟨(hs.2 p.1 ne).trans e,n,ne,nf,d⟩
  · have hfn:X.fn x=true:=by
      rcases hf with z | z
      · exact z
      · rw [z] at hk; cases hk
    obtain ⟨c,hc⟩:=I.ok.has x (.inl hk)
    obtain ⟨w',z⟩:=I.cell x c hc
    refine wpAny_storeName_cell I.ok.kind hk hc z (fun h' hc' hs=>?_)
    obtain ⟨oc,hoc,hocd⟩:=id z
    refine h { s with heap:=h' } ⟨I.ok,I.os,I.bare,⟨fun b o e n hb hx=>?_,fun b o e n hb hx=>?_,I.base.free,fun b o e hx=>?_,I.base.tups,I.base.frzs,I.base.tbls⟩,⟨m,hn.sameBut hs (Ne.symm (cne x c hc)),fun j y v' e1 e2 e3=>?_⟩,fun y c' e=>?_,I.free,I.freeC,fun p hp=>?_,tracked ⟨oc,hoc,I.freeC x c hc⟩ hs,by simpa using I.len⟩ ⟨c,hs,.inr hc⟩
    · exact (hs.2 b (Nat.ne_of_lt (Nat.lt_of_lt_of_le (Heap.lt_size e) (I.ok.cab x c hfn hc)))).trans (I.base.keep b o e n hb hx)
    · obtain ⟨sl,e1⟩:=I.base.slot b o e n hb hx
      exact ⟨sl,(hs.2 b (Nat.ne_of_lt (Nat.lt_of_lt_of_le (Heap.lt_size e) (I.ok.cab x c hfn hc)))).trans e1⟩
    · obtain ⟨o',e1⟩:=I.base.there b o e hx
      exact ⟨o',(hs.2 b (Nat.ne_of_lt (Nat.lt_of_lt_of_le (Heap.lt_size e) (I.ok.cab x c hfn hc)))).trans e1⟩
    · by_cases hj:j=i
      · subst hj
        rw [hi] at e1; cases e1
        rw [List.getElem?_set_self hiσ] at e2
        cases e2
        exact ⟨u,r,.inr ⟨.inl hk,c,hc,hc'⟩⟩
      · rw [List.getElem?_set_ne (Ne.symm hj)] at e2
        obtain ⟨u',r',q⟩:=hl j y v' e1 e2 e3
        refine ⟨u',r',?_⟩
        rcases q with q | ⟨k,c',e,z'⟩
        · exact .inl q
        · refine .inr ⟨k,c',e,z'.sameBut hs ?_⟩
          rintro rfl
          exact hj (nI hN e1 (I.ok.inj _ _ _ e hc▸hi))
    · by_cases hcc:c'=c
      · subst hcc; exact ⟨_,hc'⟩
      · obtain ⟨w2,z2⟩:=I.cell y c' e
        exact ⟨w2,z2.sameBut hs hcc⟩
    · obtain ⟨e,n,ne,nf,d⟩:=I.pin p hp
      refine ⟨(hs.2 p.1 ?_).trans e,n,ne,nf,d⟩
      intro q
      rw [q,hoc] at e
      have q':oc=p.2:=Option.some.inj e
      exact d w' (by rw [<- q']; exact hocd)
theorem rA {M:Model} {A:Around} {E:Value->Shared->Prop} {i:Nat} {x:Str} {v:V} {u:Value} {Q:Unit->Shared->Prop} (I:Inv X pins σ H s) (hN:X.N.Nodup) (hi:X.N[i]? = some x) (hx:Loc X.env.scope x) (r:RelV v u)
    (h:∀ s',Inv X pins (σ.set i (some v)) H s'->Q () s') (hf:X.fn x=true\/X.env.scope.names.lookup x=some .local:=by first | exact .inl rfl | exact .inr rfl | assumption):wpAny M A (storeName X.env x u) Q E s :=
  kK I hN hi hx r (fun s' I' _=>h s' I') hf
theorem Inv.call' {s':Shared} {ch:List Addr} (I:Inv X pins σ H s) (ho:s'.os=s.os) (u:Un (bJ X.stack) ch H H' s.heap s'.heap) (hok:cF X.prog X.w H' s'.heap) (hg:AllBare s'.gens)
    (hch:∀ b∈ch,(b∈X.ex\/X.s₀.heap.objs.size<=b)/\b≠X.env.locals/\(∀ x c,X.env.cells.lookup x=some c->c≠b)/\∀ p∈X.pn++pins,p.1≠b):Inv X pins σ H' s':=by
  obtain ⟨h',g',d',t',o'⟩:=s'
  have e:o'=s.os:=ho
  subst e
  exact I.call (g':=g') (t':=t') (d':=d') u hok hg hch
end
noncomputable abbrev XK:=Value->Option Addr->Hp->Prop
noncomputable abbrev St:=List (Option V)
noncomputable abbrev VK:=V->Hp->Prop
noncomputable abbrev TE:=St->Hp->VK->Prop
noncomputable abbrev TT:=St->Hp->(Bool->Hp->Prop)->Prop
noncomputable abbrev TA:=St->Hp->(List V->Hp->Prop)->Prop
structure Ends where
  nx:St->Hp->Prop
  rt:VK
  bk:St->Hp->Prop:=fun _ _=>False
  ct:St->Hp->Prop:=fun _ _=>False
noncomputable abbrev TS:=Ends->St->Hp->Prop
def EP (X:Cx) (pins:List (Addr × Obj)) (σ:St) (Q:VK) (u:Value) (s':Shared):Prop:=∃ v H',Inv X pins σ H' s'/\RelV v u/\Q v H'
def TP (X:Cx) (pins:List (Addr × Obj)) (σ:St) (Q:Bool->Hp->Prop) (b:Bool) (s':Shared):Prop:=∃ H',Inv X pins σ H' s'/\Q b H'
def AP (X:Cx) (pins:List (Addr × Obj)) (σ:St) (Q:List V->Hp->Prop) (us:List Value) (s':Shared):Prop:=∃ vs H',Inv X pins σ H' s'/\Vals vs us/\Q vs H'
def SP (X:Cx) (pins:List (Addr × Obj)) (D:Ends) (f:Flow) (s':Shared):Prop :=
  match f with
  | .next=>∃ σ' H',Inv X pins σ' H' s'/\D.nx σ' H'
  | .brk=>∃ σ' H',Inv X pins σ' H' s'/\D.bk σ' H'
  | .cont=>∃ σ' H',Inv X pins σ' H' s'/\D.ct σ' H'
  | .ret u=>∃ v σ' H',Inv X pins σ' H' s'/\RelV v u/\D.rt v H'
def PE (X:Cx) (e:Expr) (t:TE):Prop :=
  ∀ (pins:List (Addr × Obj)) (s:Shared) (σ:St) (H:Hp) (Q:VK),Inv X pins σ H s->t σ H Q->wpAny (model X.prog X.w) X.A (eval e X.env) (EP X pins σ Q) X.xe s
def PT (X:Cx) (e:Expr) (t:TT):Prop :=
  ∀ (pins:List (Addr × Obj)) (s:Shared) (σ:St) (H:Hp) (Q:Bool->Hp->Prop),Inv X pins σ H s->t σ H Q->wpAny (model X.prog X.w) X.A (isTrue e X.env (eval e X.env)) (TP X pins σ Q) X.xe s
def PW (X:Cx) (e:Expr) (t:TT):Prop :=
  ∀ (whole:Sem Value) (pins:List (Addr × Obj)) (s:Shared) (σ:St) (H:Hp) (Q:Bool->Hp->Prop),Inv X pins σ H s->t σ H Q->wpAny (model X.prog X.w) X.A (isTrue e X.env whole) (TP X pins σ Q) X.xe s
theorem PW.pt {X:Cx} {e:Expr} {t:TT} (h:PW X e t):PT X e t:=h _
def PA (X:Cx) (es:List Expr) (t:TA):Prop :=
  ∀ (pos:Pos) (pins:List (Addr × Obj)) (s:Shared) (σ:St) (H:Hp) (Q:List V->Hp->Prop),Inv X pins σ H s->t σ H Q->wpAny (model X.prog X.w) X.A (spliced (backTo pos (starEach es X.env))) (AP X pins σ Q) X.xe s
def PS (X:Cx) (st:Stmt) (t:TS):Prop :=
  ∀ (pins:List (Addr × Obj)) (s:Shared) (σ:St) (H:Hp) (D:Ends),Inv X pins σ H s->t D σ H->wpAny (model X.prog X.w) X.A (exec st X.env) (SP X pins D) X.xe s
def gP (X:Cx) (st:List Stmt) (t:TS):Prop :=
  ∀ (pins:List (Addr × Obj)) (s:Shared) (σ:St) (H:Hp) (D:Ends),Inv X pins σ H s->t D σ H->wpAny (model X.prog X.w) X.A (execs st X.env) (SP X pins D) X.xe s
theorem aL {α:Type} {t:Sem α} {Q Q':α->Shared->Prop} {M:Model} {A:Around} {E:Value->Shared->Prop} {s:Shared} (h:wpAny M A t Q E s) (hQ:∀ a s,Q a s->Q' a s):wpAny M A t Q' E s:=wpAny_mono h hQ fun _ _ x=>x
end L2
namespace L2
open PySem PySem.Spec PyProof.Rows
section
variable {X:Cx}
theorem bin {a b:Expr} {ta tb:TE} (ha:PE X a ta) (hb:PE X b tb) {pins:List (Addr × Obj)} {s:Shared} {σ:St} {H:Hp} {R:V->V->Hp->Prop} (I:Inv X pins σ H s) (h:ta σ H fun x H1=>tb σ H1 fun y H2=>R x y H2)
    {α:Type} {Q:α->Shared->Prop} {f:Value->Value->Sem α}
    (hf:∀ v u s2 x y H2,Inv X pins σ H2 s2->RelV x v->RelV y u->R x y H2->wpAny (model X.prog X.w) X.A (f v u) Q X.xe s2) :
    wpAny (model X.prog X.w) X.A (eval a X.env) (fun v s₁=>wpAny (model X.prog X.w) X.A (eval b X.env) (fun u s₂=>wpAny (model X.prog X.w) X.A (f v u) Q X.xe s₂) X.xe s₁) X.xe s:=by
  refine aL (ha pins s σ H _ I h) fun v s1 ⟨x,H1,I1,r1,q1⟩=>?_
  refine aL (hb pins s1 σ H1 _ I1 q1) fun u s2 ⟨y,H2,I2,r2,q2⟩=>?_
  exact hf v u s2 x y H2 I2 r1 r2 q2
noncomputable def Br (i:Nat):TE:=fun σ H Q=>∃ v,σ[i]? = some (some v)/\Q v H
noncomputable def tC (v:V):TE:=fun _ H Q=>Q v H
theorem zA {i:Nat} {x:Str} {pos:Pos} (hN:X.N[i]? = some x) (hv:yw X.env.scope x) (hd:(x == ("__debug__" : Str))=false:=by decide) (hcd:(x == ("__classdict__" : Str))=false:=by decide):PE X (.Name x pos) (Br i):=by
  intro pins s σ H Q I h
  obtain ⟨v,e,h⟩:=h
  obtain ⟨m,hn,hl⟩:=I.loc
  obtain ⟨u,r,l⟩:=hl i x v hN e hv
  have fin:EP X pins σ Q u s:=⟨v,H,I,r,h⟩
  rcases l with ⟨hk,hm⟩ | ⟨hk,c,hc,hcell⟩
  · exact wpAny_Name (wpAny_loadName_local I.ok.kind hk hn hm fin) hd
  · rcases hk with hk | hk
    · exact wpAny_Name (wpAny_loadName_cell I.ok.kind hk hc hcell fin) hd
    · exact wpAny_Name (wpAny_loadName_free I.ok.kind hk hc hcell fin hcd) hd
theorem aw {i j pos}:PE X (.Constant (.int i) j pos) (tC (.int i)):=fun _ _ _ H _ I h=>wpAny_Constant_int ⟨.int i,H,I.tok _,⟨_,rfl⟩,h⟩
theorem ip {b j pos}:PE X (.Constant (.bool b) j pos) (tC (.bl b)):=fun _ _ _ H _ I h=>Constant_bool ⟨.bl b,H,I,rfl,h⟩
theorem A7 {j pos}:PE X (.Constant .none j pos) (tC .non):=fun _ _ _ H _ I h=>Constant_none ⟨.non,H,I,rfl,h⟩
theorem ao {x j pos}:PE X (.Constant (.str x) j pos) (tC (.str x)):=fun _ _ _ H _ I h=>Calls.Constant_str ⟨.str x,H,I.tok _,⟨_,rfl⟩,h⟩
def Gl (X:Cx) (x:Str):Prop:=X.env.kindOf x=some .globalImplicit
theorem gO {E:Value->Shared->Prop} {pins:List (Addr × Obj)} {s:Shared} {σ:St} {H:Hp} {x:Str} {u:Value} {pos:Pos} {Q:Value->Shared->Prop} (I:Inv X pins σ H s) (hg:Gl X x) (hm:X.mg x=some u) (h:Q u s)
    (hd:(x == ("__debug__" : Str))=false:=by decide):wpAny (model X.prog X.w) X.A (eval (.Name x pos) X.env) Q E s :=
  Calls.Name_function_global I.ok.kind hg (Calls.loadGlobal_global (by rw [I.ok.glob]; exact I.mod.glob.keeps I.bk) hm h) hd
theorem oa {E:Value->Shared->Prop} {pins:List (Addr × Obj)} {s:Shared} {σ:St} {H:Hp} {x:Str} {u:Value} {pos:Pos} {Q:Value->Shared->Prop} (I:Inv X pins σ H s) (hg:Gl X x) (hm:X.mg x=none) (hv:bootBuiltins x=some u) (h:Q u s)
    (hn:x≠"__name__":=by decide) (hd:(x == ("__debug__" : Str))=false:=by decide):wpAny (model X.prog X.w) X.A (eval (.Name x pos) X.env) Q E s:=by
  obtain ⟨mb,h1,h2⟩:=I.mod.blt
  exact Calls.Name_function_global I.ok.kind hg (Calls.loadGlobal_builtin (by rw [I.ok.glob]; exact I.mod.glob.keeps I.bk) hm (by rw [I.ok.blt]; exact h1.keeps I.bk) ((h2 x hn).trans hv) h) hd
theorem fW {x:Str} {v:V} {u:Value} {pos:Pos} (hg:Gl X x) (hm:X.mg x=some u) (r:RelV v u) (hd:(x == ("__debug__" : Str))=false:=by decide):PE X (.Name x pos) (tC v) :=
  fun _ _ _ H _ I h=>gO I hg hm ⟨v,H,I,r,h⟩ hd
theorem jJ {x:Str} {v:V} {u:Value} {pos:Pos} (hg:Gl X x) (hm:X.mg x=none) (hv:bootBuiltins x=some u) (r:RelV v u) (hn:x≠"__name__":=by decide) (hd:(x == ("__debug__" : Str))=false:=by decide):PE X (.Name x pos) (tC v) :=
  fun _ _ _ H _ I h=>oa I hg hm hv ⟨v,H,I,r,h⟩ hn hd
variable {a b:Expr} {ta tb:TE} {pos:Pos}
def PC (X:Cx) (op:CmpOp) (a b:Expr) (t:TE):Prop :=
  ∀ (pins:List (Addr × Obj)) (s:Shared) (σ:St) (H:Hp) (Q:VK),Inv X pins σ H s->t σ H Q ->
    wpAny (model X.prog X.w) X.A (eval a X.env) (fun v s₁=>wpAny (model X.prog X.w) X.A (eval b X.env) (fun u s₂=>wpAny (model X.prog X.w) X.A (compareOp op v u) (EP X pins σ Q) X.xe s₂) X.xe s₁) X.xe s
theorem xM (b:Expr) {op:CmpOp} (h:op≠.In) (h2:op≠.NotIn):behindInMarks op b=false:=by
  have e1:(op == CmpOp.In)=false:=by cases op<;>first | rfl | exact absurd rfl h
  have e2:(op == CmpOp.NotIn)=false:=by cases op<;>first | rfl | exact absurd rfl h2
  cases b<;>simp [behindInMarks,e1,e2]
noncomputable def tB (t:TE):TT:=fun σ H Q=>t σ H fun x H1=>∃ c,x = .bl c/\Q c H1
theorem zG {op:CmpOp} {t:TE} (h:PC X op a b t) (h1:behindInMarks op b=false:=by first | exact xM _ (by decide) (by decide) | rfl):PT X (.Compare a [op] [b] pos) (tB t):=by
  intro pins s σ H Q I hw
  refine wpAny_isTrue_Compare1 (aL (h pins s σ H _ I hw) fun v s1 h1=>aL h1 fun u s2 h2=>aL h2 fun c s3 ⟨x,H1,I1,r1,q1⟩=>?_) h1
  obtain ⟨d,rfl,q⟩:=q1
  cases r1
  exact wpAny_truthy_bool ⟨H1,I1,q⟩
theorem cR {e:Expr} {t:TE} (h:PE X e t) (he:∀ whole,isTrue e X.env whole=(do let v <- whole; standAt e.pos; holding [v] (truthy v)):=by intro _; rfl):PT X e (tB t):=by
  intro pins s σ H Q I hw
  refine isTrue_plain (aL (h pins s σ H _ I hw) fun v s1 ⟨x,H1,I1,r1,q1⟩=>?_) (he _)
  obtain ⟨d,rfl,q⟩:=q1
  cases r1
  exact wpAny_truthy_bool ⟨H1,I1,q⟩
variable {tA tB':TT} {rest:List Expr}
noncomputable def C4 (t u:TT):TT:=fun σ H Q=>t σ H fun c H1=>if c=true then u σ H1 Q else Q false H1
noncomputable def Dr (t u:TT):TT:=fun σ H Q=>t σ H fun c H1=>if c=true then Q true H1 else u σ H1 Q
noncomputable def C7 (t:TT):TT:=fun σ H Q=>t σ H fun c H1=>Q (!c) H1
theorem oO (ha:PT X a tA):PW X (.BoolOp .And [a] pos) tA:=by
  intro wh pins s σ H Q I h
  refine isTrue_and (aL (ha pins s σ H Q I h) fun c s1 e=>?_)
  cases c with
  | true=>exact isTrue_and_nil e
  | false=>exact e
theorem gX (ha:PT X a tA):PW X (.BoolOp .Or [a] pos) tA:=by
  intro wh pins s σ H Q I h
  refine isTrue_or (aL (ha pins s σ H Q I h) fun c s1 e=>?_)
  cases c with
  | false=>exact isTrue_or_nil e
  | true=>exact e
theorem n6 (ha:PT X a tA) (hb:PW X (.BoolOp .And (b::rest) pos) tB'):PW X (.BoolOp .And (a::b::rest) pos) (C4 tA tB'):=by
  intro wh pins s σ H Q I h
  refine isTrue_and (aL (ha pins s σ H _ I h) fun c s1 ⟨H1,I1,q1⟩=>?_)
  cases c with
  | true=>exact hb wh pins s1 σ H1 Q I1 q1
  | false=>exact ⟨H1,I1,q1⟩
theorem gb (ha:PT X a tA) (hb:PW X (.BoolOp .Or (b::rest) pos) tB'):PW X (.BoolOp .Or (a::b::rest) pos) (Dr tA tB'):=by
  intro wh pins s σ H Q I h
  refine isTrue_or (aL (ha pins s σ H _ I h) fun c s1 ⟨H1,I1,q1⟩=>?_)
  cases c with
  | true=>exact ⟨H1,I1,q1⟩
  | false=>exact hb wh pins s1 σ H1 Q I1 q1
theorem gI (ha:PT X a tA):PT X (.UnaryOp .Not a pos) (C7 tA):=by
  intro pins s σ H Q I h
  exact isTrue_not (ha pins s σ H (fun c H1=>Q (!c) H1) I h)
noncomputable def Cb (ta tb:TE):TE:=fun σ H Q=>ta σ H fun x H1=>∃ c,x = .bl c/\if c=true then tb σ H1 Q else Q (.bl false) H1
noncomputable def BW (ta:TE):TE:=fun σ H Q=>ta σ H fun x H1=>∃ c,x = .bl c/\Q (.bl (!c)) H1
theorem xm {op} {t:TE} (h:PE X a t):PE X (.BoolOp op [a] pos) t:=fun pins s σ H Q I hw=>BoolOp_one (h pins s σ H Q I hw)
theorem wQ (ha:PE X a ta) (hb:PE X (.BoolOp .And (b::rest) pos) tb):PE X (.BoolOp .And (a::b::rest) pos) (Cb ta tb):=by
  intro pins s σ H Q I h
  refine BoolOp_and (aL (ha pins s σ H _ I h) fun v s1 ⟨x,H1,I1,r1,q1⟩=>?_)
  obtain ⟨c,rfl,q1⟩:=q1
  cases r1
  refine wpAny_truthy_bool ?_
  cases c with
  | true=>exact hb pins s1 σ H1 Q I1 q1
  | false=>exact ⟨.bl false,H1,I1,rfl,q1⟩
theorem wA (ha:PE X a ta):PE X (.UnaryOp .Not a pos) (BW ta):=by
  intro pins s σ H Q I h
  refine UnaryOp_ (aL (ha pins s σ H _ I h) fun v s1 ⟨x,H1,I1,r1,q1⟩=>?_)
  obtain ⟨c,rfl,q1⟩:=q1
  cases r1
  exact not_of (wpAny_truthy_bool ⟨.bl (!c),H1,I1,rfl,q1⟩)
end
end L2
namespace L2
open PySem PySem.Spec PyProof.Rows
def aI (K:PySem.W.Frag) (H:Hp) (a:Addr) (xs:List V):Prop :=
  Rd H a (.lst xs) \/
    ∃ (o:Obj) (its:Array Value) (n:Nat),K.lookup a=some o/\o.cls = .type "list"/\o.dict=none/\o.data = .seq its n/\its.size<=sizeLine/\Vals xs its.toList
def fZ (K:PySem.W.Frag) (H:Hp) (a:Addr) (xs:List V):Prop :=
  Rd H a (.tup xs) \/
    ∃ (o:Obj) (its:Array Value) (n:Nat),K.lookup a=some o/\o.cls = .type "tuple"/\o.data = .seq its n/\its.size<=sizeLine/\Vals xs its.toList
noncomputable def CU:Value->Option V
  | .none=>some .non
  | .bool b=>some (.bl b)
  | .int i _=>some (.int i)
  | .str x _=>some (.str x)
  | .bytes b _=>some (.byt b)
  | .float b _=>some (.flt b)
  | .ref a=>some (.ref a)
  | .type n=>some (.ty n)
  | _=>none
theorem RelV.abs {x:V} {u:Value} (r:RelV x u):CU u=some x:=by
  cases x with
  | non=>cases r; rfl
  | bl _=>cases r; rfl
  | int _=>obtain ⟨t,rfl⟩:=r; rfl
  | str _=>obtain ⟨t,rfl⟩:=r; rfl
  | byt _=>obtain ⟨t,rfl⟩:=r; rfl
  | flt _=>obtain ⟨t,rfl⟩:=r; rfl
  | ref _=>cases r; rfl
  | ty _=>cases r; rfl
theorem RelV.inj {x y:V} {u:Value} (r:RelV x u) (q:RelV y u):x=y:=Option.some.inj (r.abs.symm.trans q.abs)
theorem Vals.inj:∀ {xs ys:List V} {us:List Value},Vals xs us->Vals ys us->xs=ys
  | _,_,_,.nil,.nil=>rfl
  | _,_,_,.cons r t,.cons r' t'=>by rw [r.inj r',Vals.inj t t']
section
variable {X:Cx} {pins:List (Addr × Obj)} {σ:St} {H:Hp} {s:Shared} {a:Addr} {xs ys:List V}
theorem aI.of {K:PySem.W.Frag} (h:H a=some (.lst xs)):aI K H a xs:=.inl (.inl h)
theorem fZ.of {K:PySem.W.Frag} (h:H a=some (.tup xs)):fZ K H a xs:=.inl (.inl h)
theorem Inv.list (I:Inv X pins σ H s) (h:aI X.K H a xs):∃ its:List Value,Vals xs its/\PlainL s.heap a its.toArray/\xs.length<=sizeLine:=by
  rcases h with h | ⟨o,its,n,hk,hc,hd,hs,hz,r⟩
  · obtain ⟨z,its,n,r,e⟩:=h.ok I.hok
    exact ⟨its,r,⟨_,n,e,rfl,rfl,rfl⟩,z⟩
  · refine ⟨its.toList,r,⟨o,n,I.kIn a o hk,hc,hd,by simpa using hs⟩,?_⟩
    have e:=r.length
    simp only [Array.length_toList] at e
    lia
theorem Inv.tuple (I:Inv X pins σ H s) (h:fZ X.K H a xs):∃ its:List Value,Vals xs its/\IsTup s.heap a its.toArray/\xs.length<=sizeLine:=by
  rcases h with h | ⟨o,its,n,hk,hc,hs,hz,r⟩
  · obtain ⟨z,its,r,p⟩:=h.ok I.hok
    exact ⟨its,r,p,z⟩
  · refine ⟨its.toList,r,⟨o,I.kIn a o hk,hc,n,by simpa using hs⟩,?_⟩
    have e:=r.length
    simp only [Array.length_toList] at e
    lia
theorem Inv.list_inj (I:Inv X pins σ H s) (h:aI X.K H a xs) (h':aI X.K H a ys):xs=ys:=by
  obtain ⟨its,r,⟨o,n,e,_,_,d⟩,_⟩:=I.list h
  obtain ⟨its',r',⟨o',n',e',_,_,d'⟩,_⟩:=I.list h'
  rw [e] at e'; cases e'
  rw [d] at d'
  injection d' with d1 _
  have:its=its':=by simpa using congrArg Array.toList d1
  subst this
  exact r.inj r'
end
noncomputable abbrev Cx.wish (X:Cx) (E:Value->Shared->Prop):Cx:={ X with xe:=E }
noncomputable abbrev Cx.nox (X:Cx):Cx:=X.wish fun _ _=>False
theorem Cx.Ok.wish {X:Cx} (ok:X.Ok) (E:Value->Shared->Prop):(X.wish E).Ok :=
  ⟨ok.mod,ok.kind,ok.glob,ok.blt,ok.above,ok.inj,ok.has,ok.cab,ok.hd,ok.frames,ok.stk,ok.exf,ok.bs,ok.bsz,ok.noex,ok.exfs,ok.funs,ok.frf⟩
theorem Cx.Ok.unwish {X:Cx} {E:Value->Shared->Prop} (ok:(X.wish E).Ok):X.Ok :=
  ⟨ok.mod,ok.kind,ok.glob,ok.blt,ok.above,ok.inj,ok.has,ok.cab,ok.hd,ok.frames,ok.stk,ok.exf,ok.bs,ok.bsz,ok.noex,ok.exfs,ok.funs,ok.frf⟩
section
variable {X:Cx} {pins:List (Addr × Obj)} {σ:St} {H:Hp} {s:Shared} {E:Value->Shared->Prop}
theorem Inv.wish (I:Inv X pins σ H s) (E:Value->Shared->Prop):Inv (X.wish E) pins σ H s:=⟨I.ok.wish E,I.os,I.bare,I.base,I.loc,I.cell,I.free,I.freeC,I.pin,I.hok,I.len⟩
theorem Inv.unwish (I:Inv (X.wish E) pins σ H s):Inv X pins σ H s:=⟨I.ok.unwish,I.os,I.bare,I.base,I.loc,I.cell,I.free,I.freeC,I.pin,I.hok,I.len⟩
theorem SP.unwish {D:Ends} {f:Flow} {s':Shared} (h:SP (X.wish E) pins D f s'):SP X pins D f s':=by
  cases f with
  | next=>obtain ⟨σ',H',I,q⟩:=h; exact ⟨σ',H',I.unwish,q⟩
  | brk=>obtain ⟨σ',H',I,q⟩:=h; exact ⟨σ',H',I.unwish,q⟩
  | cont=>obtain ⟨σ',H',I,q⟩:=h; exact ⟨σ',H',I.unwish,q⟩
  | ret u=>obtain ⟨v,σ',H',I,r,q⟩:=h; exact ⟨v,σ',H',I.unwish,r,q⟩
theorem gP.nox {st:List Stmt} {t:TS} (h:gP X.nox st t):gP X st t:=fun pins s σ H D I hw =>
  wpAny_mono (h pins s σ H D (I.wish _) hw) (fun _ _ q=>q.unwish) fun _ _ z=>False.elim z
end
section
variable {X:Cx} {st:Stmt} {rest:List Stmt} {t u:TS} {e:Expr} {te:TE} {pos:Pos}
noncomputable def Cj:TS:=fun D σ H=>D.nx σ H
noncomputable def Dd (t u:TS):TS:=fun D σ H=>t { D with nx:=u D } σ H
theorem aV:gP X [] Cj:=fun _ _ σ H _ I h=>wpAny_execs_nil ⟨σ,H,I,h⟩
theorem ar (h1:PS X st t) (h2:gP X rest u):gP X (st::rest) (Dd t u):=by
  intro pins s σ H D I h
  refine wpAny_execs_cons (aL (h1 pins s σ H { D with nx:=u D } I h) fun f s1 q=>?_)
  cases f with
  | next =>
    obtain ⟨σ',H',I',q⟩:=q
    exact h2 pins s1 σ' H' D I' q
  | ret v=>exact q
  | brk=>exact q
  | cont=>exact q
theorem au (h1:PS X st t):gP X [st] t:=by
  intro pins s σ H D I h
  refine wpAny_execs_cons (aL (h1 pins s σ H D I h) fun f s1 q=>?_)
  cases f with
  | next=>exact wpAny_execs_nil q
  | ret v=>exact q
  | brk=>exact q
  | cont=>exact q
theorem Inv.quiet {pins:List (Addr × Obj)} {σ:St} {H:Hp} {s:Shared} (I:Inv X pins σ H s):interactive X.env=false:=by simp [interactive,I.ok.kind]
noncomputable def BX (te:TE):TS:=fun D σ H=>te σ H fun _ H1=>D.nx σ H1
theorem bz (he:PE X e te) (hs:swapsWith e none pos.line X.env=pure false:=by rfl):PS X (.Expr e pos) (BX te):=by
  intro pins s σ H D I h
  exact wpAny_Expr_any (aL (he pins s σ H _ I h) fun v s1 ⟨x,H1,I1,r1,q1⟩=>⟨σ,H1,I1,q1⟩) I.quiet hs
noncomputable def sQ (te:TE):TS:=fun D σ H=>te σ H D.rt
theorem aG (he:PE X e te):PS X (.Return (some e) pos) (sQ te):=by
  intro pins s σ H D I h
  exact wpAny_Return_some (aL (he pins s σ H _ I h) fun v s1 ⟨x,H1,I1,r1,q1⟩=>⟨x,σ,H1,I1,r1,q1⟩)
noncomputable def Di (c:TT) (t u:TS):TS:=fun D σ H=>c σ H fun b H1=>if b=true then t D σ H1 else u D σ H1
theorem bG {c:Expr} {a b:List Stmt} {tc:TT} (hc:PT X c tc) (ha:gP X a t) (hb:gP X b u):PS X (.If c a b pos) (Di tc t u):=by
  intro pins s σ H D I h
  refine wpAny_If (aL (hc pins s σ H _ I h) fun d s1 ⟨H1,I1,q1⟩=>?_)
  cases d with
  | true=>exact ha pins s1 σ H1 D I1 q1
  | false=>exact hb pins s1 σ H1 D I1 q1
noncomputable def Bb:TS:=fun _ _ _=>False
theorem wO {sts:List Stmt}:gP X sts Bb:=fun _ _ _ _ _ _ h=>h.elim
end
noncomputable abbrev TG:=V->St->Hp->(St->Hp->Prop)->Prop
noncomputable abbrev rE:=List V->St->Hp->(St->Hp->Prop)->Prop
def PG (X:Cx) (target:Expr) (t:TG):Prop :=
  ∀ (pins:List (Addr × Obj)) (s:Shared) (σ:St) (H:Hp) (v:V) (u:Value) (Q:St->Hp->Prop),Inv X pins σ H s->RelV v u->t v σ H Q ->
    wpAny (model X.prog X.w) X.A (assign target X.env u) (fun _ s'=>∃ σ' H',Inv X pins σ' H' s'/\Q σ' H') X.xe s
def yv (X:Cx) (ts:List Expr) (t:rE):Prop :=
  ∀ (pins:List (Addr × Obj)) (s:Shared) (σ:St) (H:Hp) (vs:List V) (us:List Value) (Q:St->Hp->Prop),Inv X pins σ H s->Vals vs us->t vs σ H Q ->
    wpAny (model X.prog X.w) X.A (assignInOrder ((assignEach ts X.env).map (·.2)) us) (fun _ s'=>∃ σ' H',Inv X pins σ' H' s'/\Q σ' H') X.xe s
noncomputable abbrev yj:=V->V->V->Hp->(Hp->Prop)->Prop
def A2 (X:Cx) (t:yj):Prop :=
  ∀ (pins:List (Addr × Obj)) (s:Shared) (σ:St) (H:Hp) (o i v:V) (ov iv u:Value) (Q:Hp->Prop),Inv X pins σ H s->RelV o ov->RelV i iv->RelV v u->t o i v H Q ->
    wpAny (model X.prog X.w) X.A (setItem ov iv u) (fun _ s'=>∃ H',Inv X pins σ H' s'/\Q H') X.xe s
section
variable {X:Cx} {pos:Pos}
noncomputable def yG (i:Nat):TG:=fun v σ H Q=>Q (σ.set i (some v)) H
theorem bD {i:Nat} {x:Str} (hN:X.N.Nodup) (hi:X.N[i]? = some x) (hx:Loc X.env.scope x) (hf:X.fn x=true\/X.env.scope.names.lookup x=some .local:=by first | exact .inl rfl | exact .inr rfl | assumption):PG X (.Name x pos) (yG i):=by
  intro pins s σ H v u Q I r h
  exact wpAny_assign_Name (rA I hN hi hx r (fun s' I'=>⟨_,H,I',h⟩) hf)
noncomputable def C9:rE:=fun vs σ H Q=>vs=[]/\Q σ H
noncomputable def Ci (t:TG) (u:rE):rE:=fun vs σ H Q=>∃ v r,vs=v::r/\t v σ H fun σ' H'=>u r σ' H' Q
theorem ug:yv X [] C9:=by
  intro pins s σ H vs us Q I r h
  obtain ⟨e,h⟩:=h
  subst e
  cases r
  exact assignInOrder_nil ⟨σ,H,I,h⟩
theorem gH {e:Expr} {es:List Expr} {t:TG} {u:rE} (h1:PG X e t) (h2:yv X es u)
    (hs:(assignEach (e::es) X.env).map (·.2)=assign e X.env::(assignEach es X.env).map (·.2):=by rfl):yv X (e::es) (Ci t u):=by
  intro pins s σ H vs us Q I r h
  obtain ⟨v,vr,e1,h⟩:=h
  subst e1
  cases r with
  | cons r rr =>
    rw [hs]
    refine assignInOrder_cons (aL (h1 pins s σ H _ _ _ I r h) fun _ s1 ⟨σ1,H1,I1,q1⟩=>?_)
    exact h2 pins s1 σ1 H1 _ _ Q I1 rr q1
noncomputable def De (K:PySem.W.Frag) (n:Nat) (t:rE):TG:=fun v σ H Q=>∃ a xs,v = .ref a/\fZ K H a xs/\xs.length=n/\t xs σ H Q
theorem xt {es:List Expr} {k:Nat} {t:rE} {n:Nat} (hc:X.calm=true) (h:yv X es t)
    (hn:(assignEach es X.env).length=n:=by rfl) (hst:(assignEach es X.env).findIdx? (·.1)=none:=by rfl):PG X (.Tuple es k pos) (De X.K n t):=by
  intro pins s σ H v u Q I r hw
  obtain ⟨a,xs,e1,hq,hl,hw⟩:=hw
  subst e1
  cases r
  obtain ⟨its,rv,ht,hz⟩:=I.tuple hq
  refine assign_Tuple_tuple (I.ok.hd hc) ht (by simp [hn,<- hl,rv.length]) hst fun h' hx=>?_
  have I1:Inv X pins σ H { s with heap:=h' }:=I.kept (t':=s.toks) fun b o e=>hx b o (Nat.ne_of_lt (Heap.lt_size e)) e
  exact h pins _ σ H xs _ Q I1 (by simpa using rv) hw
noncomputable def C5 (to ti:TE) (t:yj):TG:=fun v σ H Q=>to σ H fun o H1=>ti σ H1 fun i H2=>t o i v H2 fun H3=>Q σ H3
theorem BN {o i:Expr} {to ti:TE} {t:yj} (ho:PE X o to) (hi:PE X i ti) (hs:A2 X t)
    (ha:∀ v,assign (.Subscript o i pos) X.env v=(do
      let ov <- holding [v] (eval o X.env)
      let iv <- holding [v,ov] (eval i X.env)
      standAt pos
      holding [v,ov,iv] (setItem ov iv v)
      release [v,ov,iv] []):=by intro _; rfl):PG X (.Subscript o i pos) (C5 to ti t):=by
  intro pins s σ H v u Q I r h
  rw [ha]
  refine wpAny_bind (wpAny_holding (aL (ho pins s σ H _ I h) fun ov s1 ⟨x,H1,I1,r1,q1⟩=>?_))
  refine wpAny_bind (wpAny_holding (aL (hi pins s1 σ H1 _ I1 q1) fun iv s2 ⟨y,H2,I2,r2,q2⟩=>?_))
  refine wpAny_bind (wpAny_standAt (wpAny_bind (wpAny_holding (aL (hs pins s2 σ H2 x y v ov iv u _ I2 r1 r2 r q2) fun _ s3 ⟨H3,I3,q3⟩=>?_))))
  exact wpAny_release ⟨σ,H3,I3,q3⟩
noncomputable def AH (te:TE) (g:TG):TS:=fun D σ H=>te σ H fun x H1=>g x σ H1 D.nx
theorem rZ {tg e:Expr} {te:TE} {g:TG} (he:PE X e te) (hg:PG X tg g) (hs:swapsWithSole [tg] e pos.line X.env=pure false:=by rfl) (hw:swappedStores [tg] e X.env=pure none:=by rfl)
    (h1:(assignEach [tg] X.env).map (·.2)=[assign tg X.env]:=by rfl):PS X (.Assign [tg] e pos) (AH te g):=by
  intro pins s σ H D I h
  refine wpAny_Assign_stores (aL (he pins s σ H _ I h) fun v s1 ⟨x,H1,I1,r1,q1⟩=>?_) hs hw
  rw [h1]
  exact aL (hg pins s1 σ H1 x v _ I1 r1 q1) fun _ s2 q=>q
theorem aJ {i:Nat} {x:Str} {e:Expr} {te:TE} {pos':Pos} (hN:X.N.Nodup) (hi:X.N[i]? = some x) (hx:Loc X.env.scope x) (he:PE X e te) (hs:swapsWith e (some (.Name x pos')) pos.line X.env=pure false:=by rfl) (hf:X.fn x=true\/X.env.scope.names.lookup x=some .local:=by first | exact .inl rfl | exact .inr rfl | assumption) :
    PS X (.Assign [.Name x pos'] e pos) (AH te (yG i)):=by
  intro pins s σ H D I h
  refine wpAny_Assign_Name (aL (he pins s σ H _ I h) fun v s1 ⟨y,H1,I1,r1,q1⟩=>?_) hs
  exact rA I1 hN hi hx r1 (fun s2 I2=>⟨_,H1,I2,q1⟩) hf
end
section
variable {X:Cx} {pos:Pos}
end
structure It where
  go:Nat->Hp->Prop
  yld:Nat->Hp->V->Hp->Prop
  stop:Nat->Hp->Prop
def m5 (X:Cx) (pins:List (Addr × Obj)) (H:Hp) (b:Addr):Prop :=
  H b=none/\b≠X.env.locals/\b∉X.fs/\(b∈X.ex\/X.s₀.heap.objs.size<=b)/\(∀ x c,X.env.cells.lookup x=some c->c≠b)/\∀ p∈X.pn++pins,p.1≠b
theorem Inv.fpOk {X:Cx} {pins:List (Addr × Obj)} {σ:St} {H H':Hp} {s:Shared} {b:Addr} (I:Inv X pins σ H s) (hb:s.heap.objs.size<=b) (hn:H' b=none):m5 X pins H' b:=by
  refine ⟨hn,Nat.ne_of_gt (Nat.lt_of_lt_of_le I.lt hb),I.nofs hb,.inr (Nat.le_trans I.sz hb),fun x c e z=>?_,fun p hp z=>?_⟩
  · obtain ⟨v,q⟩:=I.cell x c e
    exact absurd (Nat.lt_of_lt_of_le q.lt (by rw [z]; exact hb)) (Nat.lt_irrefl _)
  · exact absurd (Nat.lt_of_lt_of_le (Heap.lt_size (I.pin p hp).1) (by rw [z]; exact hb)) (Nat.lt_irrefl _)
structure Turn (P:Program) (w:World) (K:PySem.W.Frag) (tg:Expr) (J:It) (fp:List Addr) (it:Addr) (tn:Nat->Heap->Prop):Prop where
  mem:it∈fp
  obj:∀ i h,tn i h->∀ b∈fp,∃ o,h.get? b=some o/\∀ v,o.data≠.cell v
  keep:∀ i h h',tn i h->(∀ b∈fp,∀ o,h.get? b=some o->h'.get? b=some o)->tn i h'
  item:∀ (X:Cx),X.prog=P->X.w=w->X.K=K->X.calm=true->∀ (i:Nat) (pins:List (Addr × Obj)) (s:Shared) (σ:St) (H:Hp) (E:Value->Shared->Prop),Inv X pins σ H s->(∀ b∈fp,m5 X pins H b)->tn i s.heap->J.go i H ->
    wpAny (model P w) X.A (pyNext (.ref it)) (fun r s1=>∃ u,r=some u /\
      wpAny (model P w) X.A (letOwnedTupleGo tg (.ref it) u) (fun _ s2=>∃ x H',Inv X pins σ H' s2/\RelV x u/\J.yld i H x H'/\tn (i+1) s2.heap/\∀ b∈fp,H' b=none) E s1) E s
  done:∀ (X:Cx),X.prog=P->X.w=w->X.K=K->X.calm=true->∀ (i:Nat) (pins:List (Addr × Obj)) (s:Shared) (σ:St) (H:Hp) (E:Value->Shared->Prop),Inv X pins σ H s->(∀ b∈fp,m5 X pins H b)->tn i s.heap->J.stop i H ->
    wpAny (model P w) X.A (pyNext (.ref it)) (fun r s1=>r=none/\Inv X pins σ H s1) E s
  self:∀ (A:Around) (i:Nat) (s:Shared) (Q:Value->Shared->Prop) (E:Value->Shared->Prop),tn i s.heap->Q (.ref it) s->wpAny (model P w) A (pyIter (.ref it)) Q E s
noncomputable abbrev TI:=St->Hp->(It->Hp->Prop)->Prop
def CJ (X:Cx) (pins:List (Addr × Obj)) (σ:St) (tg:Expr) (R:It->Hp->Prop) (itv:Value) (s2:Shared):Prop :=
  ∃ (it:Addr) (fp:List Addr) (tn:Nat->Heap->Prop) (J:It) (H':Hp),itv = .ref it/\Inv X pins σ H' s2/\Turn X.prog X.w X.K tg J fp it tn/\tn 0 s2.heap/\(∀ b∈fp,m5 X pins H' b)/\R J H'
def PI (X:Cx) (tg iter:Expr) (wi:TI):Prop :=
  ∀ (pins:List (Addr × Obj)) (s:Shared) (σ:St) (H:Hp) (R:It->Hp->Prop),Inv X pins σ H s->wi σ H R ->
    wpAny (model X.prog X.w) X.A (eval iter X.env) (fun v s1=>wpAny (model X.prog X.w) X.A (pyIter v) (CJ X pins σ tg R) X.xe s1) X.xe s
theorem yE {M:Model} {A:Around} {E:Value->Shared->Prop} {s:Shared} {tg:Expr} {it:Addr} {u:Value} {o:Obj} {n:String} {vs:Array Value} {Q:Unit->Shared->Prop} (ho:s.heap.get? it=some o) (hc:o.cls = .type n) (hd:o.data = .fields vs)
    (hn:["enumerate","zip","dict_itemiterator","dict_reverseitemiterator","odict_iterator","itertools.zip_longest","itertools.pairwise"].contains n=false) (hQ:Q () s):wpAny M A (letOwnedTupleGo tg (.ref it) u) Q E s:=by
  unfold letOwnedTupleGo
  cases tg<;>first
    | exact wpAny_pure hQ
    | (cases u<;>first
        | exact wpAny_pure hQ
        | (refine wpAny_bind (wpAny_load ho ?_)
           rw [hc,hd]
           show wpAny M A (if (["enumerate","zip","dict_itemiterator","dict_reverseitemiterator","odict_iterator","itertools.zip_longest","itertools.pairwise"].contains n&&vs[0]? == some (rawInt _))=true then _ else _) Q E s
           rw [if_neg (by intro h; rw [hn,Bool.false_and] at h; cases h)]
           exact wpAny_pure hQ))
noncomputable def tJ (K:PySem.W.Frag) (a:Addr):It :=
  ⟨fun i H=>∃ xs x,aI K H a xs/\xs[i]? = some x,fun i H x H'=>H'=H/\∀ xs,aI K H a xs->xs[i]? = some x,fun i H=>∃ xs,aI K H a xs/\xs.length<=i⟩
noncomputable def uq (lo:Int) (n:Nat):It:=⟨fun i _=>i < n,fun i H x H'=>H'=H/\x = .int (lo+i),fun i _=>n<=i⟩
theorem xu {P:Program} {w:World} {K:PySem.W.Frag} {tg:Expr} (a it:Addr):Turn P w K tg (tJ K a) [it] it (fun i h=>h.IsListIter it a i) where
  mem:=by simp
  obj:=fun i h st b hb=>by
    have e:b=it:=by simpa using hb
    subst e
    obtain ⟨o,e,c,d⟩:=st
    exact ⟨o,e,fun v z=>by rw [d] at z; cases z⟩
  keep:=fun i h h' st k=>st.at fun o e=>k it (by simp) o e
  item:=by
    intro X hP hw hK hc i pins s σ H E I hf st hg
    subst hP hw hK
    obtain ⟨xs,x,hq,hx⟩:=hg
    obtain ⟨its,rv,p,hz⟩:=I.list hq
    obtain ⟨u,hu,ru⟩:=rv.get hx
    obtain ⟨f0,f1,f2,f3,f4,f5⟩:=hf it (by simp)
    refine wpAny_pyNext_list_item st p.isList (x:=u) (by simpa using hu) fun h' st' sb=>?_
    have I1:Inv X pins σ H { s with heap:=h' }:=I.turned (t':=s.toks) (fun b o hb e=>(sb.2 b hb).trans e) f0 f1 f3 f4 f5
    obtain ⟨o,e,c,d⟩:=id st'
    exact ⟨u,rfl,yE (s:={ s with heap:=h' }) e c d (by decide) ⟨x,H,I1,ru,⟨rfl,fun ys hy=>by rw [I.list_inj hy hq]; exact hx⟩,st',fun b hb=>(hf b hb).1⟩⟩
  done:=by
    intro X hP hw hK hc i pins s σ H E I hf st hg
    subst hP hw hK
    obtain ⟨xs,hq,hx⟩:=hg
    obtain ⟨its,rv,p,hz⟩:=I.list hq
    obtain ⟨f0,f1,f2,f3,f4,f5⟩:=hf it (by simp)
    have hl:=rv.length
    exact wpAny_pyNext_list_end (I.ok.hd hc) st p.isList (by simp; lia) fun h' eb=>⟨rfl,I.turned (t':=s.toks) (fun b o hb e=>eb b o hb e) f0 f1 f3 f4 f5⟩
  self:=fun _ _ _ _ _ st h=>wpAny_pyIter_listiter st h
theorem vH {P:Program} {w:World} {K:PySem.W.Frag} {tg:Expr} (it:Addr) (lo:Int) (n:Nat):Turn P w K tg (uq lo n) [it] it (fun i h=>IsRangeIter h it (lo+(i:Nat)*1) ((n:Int) - (i:Nat)) 1) where
  mem:=by simp
  obj:=fun i h st b hb=>by
    have e:b=it:=by simpa using hb
    subst e
    exact ⟨_,st,fun v z=>by
      have z':Data.fields _=Data.cell v:=z
      cases z'⟩
  keep:=fun i h h' st k=>k it (by simp) _ st
  item:=by
    intro X hP hw hK hc i pins s σ H E I hf st hg
    subst hP hw hK
    obtain ⟨f0,f1,f2,f3,f4,f5⟩:=hf it (by simp)
    have W:=Walks.range (prog:=X.prog) (w:=X.w) (I.ok.hd hc) it lo 1 n
    refine W.item i s _ _ hg st fun v h' tk hv st' kk=>?_
    obtain ⟨t,rfl⟩:=hv
    have I1:Inv X pins σ H { s with heap:=h',toks:=tk }:=I.turned (fun b o hb e=>kk b o (by simpa using hb) e) f0 f1 f3 f4 f5
    refine ⟨_,rfl,yE (s:={ s with heap:=h',toks:=tk }) (n:="range_iterator") st' rfl rfl (by decide) ⟨.int (lo+i),H,I1,⟨t,?_⟩,⟨rfl,rfl⟩,st',fun b hb=>(hf b hb).1⟩⟩
    rw [Int.mul_one]
  done:=by
    intro X hP hw hK hc i pins s σ H E I hf st hg
    subst hP hw hK
    obtain ⟨f0,f1,f2,f3,f4,f5⟩:=hf it (by simp)
    exact wpAny_pyNext_range_end (I.ok.hd hc) st (by have:n<=i:=hg; lia) fun h' eb=>⟨rfl,I.turned (t':=s.toks) (fun b o hb e=>eb b o hb e) f0 f1 f3 f4 f5⟩
  self:=fun _ _ _ _ _ st h=>wpAny_pyIter_rangeiter st h
end L2
namespace L2
open PySem PySem.Spec PyProof.Rows
section
variable {X:Cx} {tg:Expr}
noncomputable def Cz (K:PySem.W.Frag) (tl:TE):TI:=fun σ H R=>tl σ H fun x H1=>∃ a,x = .ref a/\(∃ xs,aI K H1 a xs)/\R (tJ K a) H1
theorem gN {l:Expr} {tl:TE} (hl:PE X l tl):PI X tg l (Cz X.K tl):=by
  intro pins s σ H R I h
  refine aL (hl pins s σ H _ I h) fun v s1 ⟨x,H1,I1,r1,q1⟩=>?_
  obtain ⟨a,e,⟨xs,hq⟩,q⟩:=q1
  subst e
  cases r1
  obtain ⟨its,rv,p,hz⟩:=I1.list hq
  refine wpAny_pyIter_list p.isList ?_
  refine ⟨s1.heap.objs.size,[s1.heap.objs.size],_,_,H1,rfl,I1.kept (t':=s1.toks) fun b o e=>Heap.get?_push_of_some _ e,xu a _,⟨_,Heap.get?_push_size _ rfl,rfl,rfl⟩,fun b hb=>?_,q⟩
  have e:b=s1.heap.objs.size:=by simpa using hb
  subst e
  exact I1.fpOk (Nat.le_refl _) (I1.hok.fresh (Nat.le_refl _))
theorem xP {pins:List (Addr × Obj)} {σ:St} {H:Hp} {s:Shared} {R:It->Hp->Prop} {E:Value->Shared->Prop} {lo hi:Int} {t u v:Tok} {tk:Nat} (I:Inv X pins σ H s) (h1 : -(2 ^ 62)<=lo) (h2:lo < 2 ^ 62) (h3 : -(2 ^ 62)<=hi) (h4:hi < 2 ^ 62)
    (q:R (uq lo (hi - lo).toNat) H):wpAny (model X.prog X.w) X.A (pyIter (.ref s.heap.objs.size)) (CJ X pins σ tg R) E { s with heap:=s.heap.push { cls:=.type "range",data:=.fields #[.int lo t,.int hi u,.int 1 v] },toks:=tk }:=by
  refine wpAny_pyIter_range (IsRange.new ..) (small_one h1 h2 h3 h4) ?_
  have I1:Inv X pins σ H { s with heap:=s.heap.push { cls:=.type "range",data:=.fields #[.int lo t,.int hi u,.int 1 v] },toks:=tk }:=I.kept fun b o e=>Heap.get?_push_of_some _ e
  refine ⟨(s.heap.push { cls:=.type "range",data:=.fields #[.int lo t,.int hi u,.int 1 v] }).objs.size,[(s.heap.push { cls:=.type "range",data:=.fields #[.int lo t,.int hi u,.int 1 v] }).objs.size],_,_,H,rfl,
    I1.kept (t':=tk) fun b o e=>Heap.get?_push_of_some _ e,vH _ lo (hi - lo).toNat,?_,fun b hb=>?_,q⟩
  · have e1:lo+((0:Nat):Int)*1=lo:=by simp
    have e2:(((hi - lo).toNat:Nat):Int) - ((0:Nat):Int)=Builtin.Range.rangeSize lo hi 1:=by rw [rangeSize_one]; split<;>lia
    show IsRangeIter _ _ (lo+((0:Nat):Int)*1) ((((hi - lo).toNat:Nat):Int) - ((0:Nat):Int)) 1
    rw [e1,e2]
    exact Heap.get?_push_size _ rfl
  · have e:b=(s.heap.push { cls:=.type "range",data:=.fields #[.int lo t,.int hi u,.int 1 v] }).objs.size:=by simpa using hb
    subst e
    exact I1.fpOk (Nat.le_refl _) (I1.hok.fresh (Nat.le_refl _))
noncomputable def CF (ta:TA):TI:=fun σ H R=>ta σ H fun vs H1=>∃ j:Int,vs=[.int j]/\-(2 ^ 62)<=j/\j < 2 ^ 62/\R (uq 0 j.toNat) H1
theorem hJ {a:Expr} {ta:TA} {p pos:Pos} (hg:Gl X "range") (hm:X.mg "range" = none) (ha:PA X [a] ta) (hs:starEach [a] X.env=[(false,eval a X.env)]:=by rfl):PI X tg (.Call (.Name "range" p) [a] [] pos) (CF ta):=by
  intro pins s σ H R I h
  refine Call_ (oa I hg hm boot_range (PyProof.Rows.callWith_type1 (aL (ha pos pins s σ H _ I h) fun us s1 ⟨vs,H1,I1,r1,q1⟩=>?_) hs rfl))
  obtain ⟨j,e,q1,q2,q⟩:=q1
  subst e
  cases r1 with
  | cons r rr =>
    cases rr
    obtain ⟨t,rfl⟩:=r
    exact call_range_1 (xP I1 (by lia) (by lia) q1 q2 (by simpa using q))
noncomputable def C6 (wi:TI) (g:TG) (tb:TS):TS:=fun D σ H=>wi σ H fun J H1=>∃ W:Nat->Nat->St->Hp->Prop,(∃ m,W 0 m σ H1)/\∀ i m σ H,W i m σ H ->
  (J.stop i H/\D.nx σ H)\/(J.go i H/\∃ N:St->Hp->Prop,(∀ σ' H',N σ' H'->∃ m',m' < m/\W (i+1) m' σ' H')/\∀ x H',J.yld i H x H'->g x σ H' fun σ2 H2=>tb { D with nx:=N,ct:=N,bk:=D.nx } σ2 H2)
noncomputable def kO (fp:List Addr) (h:Heap):List (Addr × Obj):=fp.filterMap fun b=>(h.get? b).map fun o=>(b,o)
theorem iU {fp:List Addr} {h:Heap} {b:Addr} {o:Obj} (hb:b∈fp) (e:h.get? b=some o):(b,o)∈kO fp h:=List.mem_filterMap.mpr ⟨b,hb,by rw [e]; rfl⟩
theorem wG {fp:List Addr} {h:Heap} {p:Addr × Obj} (hp:p∈kO fp h):p.1∈fp/\h.get? p.1=some p.2:=by
  obtain ⟨b,hb,e⟩:=List.mem_filterMap.mp hp
  cases q:h.get? b with
  | none=>rw [q] at e; cases e
  | some o =>
    rw [q] at e
    have e':(b,o)=p:=Option.some.inj e
    subst e'
    exact ⟨hb,q⟩
theorem Inv.pinned {pins:List (Addr × Obj)} {σ:St} {H:Hp} {s:Shared} {fp:List Addr} (I:Inv X pins σ H s) (hf:∀ b∈fp,m5 X pins H b) (ho:∀ b∈fp,∃ o,s.heap.get? b=some o/\∀ v,o.data≠.cell v):Inv X (pins++kO fp s.heap) σ H s :=
  I.pins_of fun p hp=>(List.mem_append.mp hp).elim (fun z=>I.pin p (List.mem_append_right _ z)) fun z=>by
    obtain ⟨hb,e⟩:=wG z
    obtain ⟨f0,f1,f2,_⟩:=hf p.1 hb
    obtain ⟨o,e',d⟩:=ho p.1 hb
    rw [e] at e'; cases e'
    exact ⟨e,f0,f1,f2,d⟩
theorem Inv.unpinned {pins pl:List (Addr × Obj)} {σ:St} {H:Hp} {s:Shared} (I:Inv X (pins++pl) σ H s):Inv X pins σ H s:=I.pins_of fun p hp=>I.pin p (List.mem_append_right _ (List.mem_append_left _ hp))
theorem gG {iter:Expr} {body:List Stmt} {wi:TI} {g:TG} {tb:TS} {pos:Pos} (hp:PassesOwn (model X.prog X.w) X.A X.env X.xe) (hc:X.calm=true) (hi:PI X tg iter wi) (hg:PG X tg g) (hb:gP X body tb)
    (hs:∀ x,foldedSetIterable iter X.env x=pure x:=by intro _; rfl):PS X (.For tg iter body [] pos) (C6 wi g tb):=by
  intro pins s σ H D I h
  refine wpAny_For (aL (hi pins s σ H _ I h) fun v s1 h1=>aL h1 fun itv s2 h2=>?_) hs
  obtain ⟨it,fp,tn,J,H2,e,I2,T,st2,f2,W,⟨m0,w0⟩,turn⟩:=h2
  subst e
  -- what stays true of the iterator's objects through the loop
  have stat:∀ {H':Hp},(∀ b∈fp,H' b=none)->∀ b∈fp,m5 X pins H' b:=fun hn b hb=>⟨hn b hb,(f2 b hb).2⟩
  refine codeAny_forLoop_any (fun n s'=>∃ i σ' H',Inv X pins σ' H' s'/\tn i s'.heap/\(∀ b∈fp,H' b=none)/\W i n σ' H') ?_ m0 ⟨0,σ,H2,I2,st2,fun b hb=>(f2 b hb).1,w0⟩
  rintro n s3 ⟨i,σ3,H3,I3,st3,fr3,w3⟩
  rcases turn i n σ3 H3 w3 with ⟨stop,qn⟩ | ⟨go,N,hN,step⟩
  · refine wpAny_passesOwn hp (aL (T.done X rfl rfl rfl hc i pins s3 σ3 H3 X.xe I3 (stat fr3) st3 stop) fun r s4 ⟨hr,I4⟩=>?_)
    subst hr
    exact wpAny_execs_nil ⟨σ3,H3,I4,qn⟩
  · refine wpAny_passesOwn hp (aL (T.item X rfl rfl rfl hc i pins s3 σ3 H3 X.xe I3 (stat fr3) st3 go) fun r s4 ⟨u,hr,h4⟩=>?_)
    subst hr
    refine wpAny_passesOwn hp (aL h4 fun _ s5 ⟨x,H5,I5,r5,y5,st5,fr5⟩=>?_)
    have I5':=I5.pinned (stat fr5) (T.obj _ _ st5)
    refine wpAny_passesOwn hp (aL (hg _ s5 σ3 H5 x u _ I5' r5 (step x H5 y5)) fun _ s6 ⟨σ6,H6,I6,q6⟩=>?_)
    refine wpAny_passesOwn hp (aL (hb _ s6 σ6 H6 _ I6 q6) fun f s7 q7=>?_)
    have again:∀ {σ7:St} {H7:Hp},Inv X (pins++kO fp s5.heap) σ7 H7 s7->N σ7 H7->∃ m,m < n/\∃ i σ' H',Inv X pins σ' H' s7/\tn i s7.heap/\(∀ b∈fp,H' b=none)/\W i m σ' H':=fun {σ7 H7} I7 n7=>by
      obtain ⟨m',hm,w7⟩:=hN σ7 H7 n7
      refine ⟨m',hm,i+1,σ7,H7,I7.unpinned,T.keep _ _ _ st5 fun b hb o e=>(I7.pin (b,o) (List.mem_append_right _ (List.mem_append_right _ (iU hb e)))).1,fun b hb=>?_,w7⟩
      obtain ⟨o,e,d⟩:=T.obj _ _ st5 b hb
      exact (I7.pin (b,o) (List.mem_append_right _ (List.mem_append_right _ (iU hb e)))).2.1
    cases f with
    | next=>obtain ⟨σ7,H7,I7,n7⟩:=q7; exact again I7 n7
    | cont=>obtain ⟨σ7,H7,I7,n7⟩:=q7; exact again I7 n7
    | brk=>obtain ⟨σ7,H7,I7,q7⟩:=q7; exact ⟨σ7,H7,I7.unpinned,q7⟩
    | ret v=>obtain ⟨x7,σ7,H7,I7,r7,q7⟩:=q7; exact ⟨x7,σ7,H7,I7.unpinned,r7,q7⟩
end
theorem iZ {K:PySem.W.Frag} {a:Addr} {xs:List V} {g:TG} {tb:TS} {D:Ends} {σ:St} {H:Hp} (Pv:Nat->St->Hp->Prop) (h0:Pv 0 σ H) (hl:∀ i σ H,i<=xs.length->Pv i σ H->aI K H a xs)
    (hs:∀ i x σ H,xs[i]? = some x->Pv i σ H->g x σ H fun σ2 H2=>tb { D with nx:=Pv (i+1),ct:=Pv (i+1),bk:=D.nx } σ2 H2) (hd:∀ σ H,Pv xs.length σ H->D.nx σ H) :
    ∃ W:Nat->Nat->St->Hp->Prop,(∃ m,W 0 m σ H)/\∀ i m σ H,W i m σ H ->
      ((tJ K a).stop i H/\D.nx σ H)\/((tJ K a).go i H/\∃ N:St->Hp->Prop,(∀ σ' H',N σ' H'->∃ m',m' < m/\W (i+1) m' σ' H')/\∀ x H',(tJ K a).yld i H x H'->g x σ H' fun σ2 H2=>tb { D with nx:=N,ct:=N,bk:=D.nx } σ2 H2):=by
  refine ⟨fun i m σ H=>m=xs.length - i/\i<=xs.length/\Pv i σ H,⟨xs.length,by simp,Nat.zero_le _,h0⟩,?_⟩
  rintro i m σ H ⟨rfl,hi,p⟩
  have q:=hl i σ H hi p
  by_cases hlt:i < xs.length
  · refine .inr ⟨⟨xs,xs[i],q,by simp [hlt]⟩,Pv (i+1),fun σ' H' p'=>⟨xs.length - (i+1),by lia,rfl,hlt,p'⟩,fun x H' y=>?_⟩
    obtain ⟨e,y⟩:=y
    subst e
    exact hs i x σ _ (y xs q) p
  · have e:i=xs.length:=by lia
    subst e
    exact .inl ⟨⟨xs,q,Nat.le_refl _⟩,hd σ H p⟩
theorem hU {lo:Int} {n:Nat} {g:TG} {tb:TS} {D:Ends} {σ:St} {H:Hp} (Pv:Nat->St->Hp->Prop) (h0:Pv 0 σ H)
    (hs:∀ i σ H,i < n->Pv i σ H->g (.int (lo+i)) σ H fun σ2 H2=>tb { D with nx:=Pv (i+1),ct:=Pv (i+1),bk:=D.nx } σ2 H2) (hd:∀ σ H,Pv n σ H->D.nx σ H) :
    ∃ W:Nat->Nat->St->Hp->Prop,(∃ m,W 0 m σ H)/\∀ i m σ H,W i m σ H ->
      ((uq lo n).stop i H/\D.nx σ H)\/((uq lo n).go i H/\∃ N:St->Hp->Prop,(∀ σ' H',N σ' H'->∃ m',m' < m/\W (i+1) m' σ' H')/\∀ x H',(uq lo n).yld i H x H'->g x σ H' fun σ2 H2=>tb { D with nx:=N,ct:=N,bk:=D.nx } σ2 H2):=by
  refine ⟨fun i m σ H=>m=n - i/\i<=n/\Pv i σ H,⟨n,by simp,Nat.zero_le _,h0⟩,?_⟩
  rintro i m σ H ⟨rfl,hi,p⟩
  by_cases hlt:i < n
  · refine .inr ⟨hlt,Pv (i+1),fun σ' H' p'=>⟨n - (i+1),by lia,rfl,hlt,p'⟩,fun x H' y=>?_⟩
    obtain ⟨e,y⟩:=y
    subst e y
    exact hs i σ _ hlt p
  · have e:i=n:=by lia
    subst e
    exact .inl ⟨Nat.le_refl _,hd σ H p⟩
end L2
namespace L2
open PySem PySem.Spec PyProof.Rows
noncomputable abbrev R2:=V->V->Hp->VK->Prop
def iq (X:Cx) (f:Value->Value->Sem Value) (r:R2):Prop :=
  ∀ (pins:List (Addr × Obj)) (s:Shared) (σ:St) (H:Hp) (x y:V) (v u:Value) (Q:VK),Inv X pins σ H s->RelV x v->RelV y u->r x y H Q ->
    wpAny (model X.prog X.w) X.A (f v u) (EP X pins σ Q) X.xe s
def jk (X:Cx) (f:Value) (r:List V->Hp->VK->Prop):Prop :=
  ∀ (pins:List (Addr × Obj)) (s:Shared) (σ:St) (H:Hp) (xs:List V) (us:List Value) (Q:VK),Inv X pins σ H s->Vals xs us->r xs H Q ->
    wpAny (model X.prog X.w) X.A (call f us) (EP X pins σ Q) X.xe s
noncomputable def yB (r:R2) (ta tb:TE):TE:=fun σ H Q=>ta σ H fun x H1=>tb σ H1 fun y H2=>r x y H2 Q
noncomputable def rI (C:Int->Int->Prop) (g:Int->Int->V):R2:=fun x y H Q=>∃ i j,x = .int i/\y = .int j/\C i j/\Q (g i j) H
noncomputable def CQ (g:Int->Int->V):R2:=fun x y H Q=>∃ i j,x = .int i/\y = .int j/\Q (g i j) H
section
variable {X:Cx} {a b c:Expr} {ta tb tc:TE} {pos:Pos}
theorem xR (ha:PE X a ta) (hb:PE X b tb) {pins:List (Addr × Obj)} {s:Shared} {σ:St} {H:Hp} {R:V->V->Hp->Prop} (I:Inv X pins σ H s)
    (h:ta σ H fun x H1=>tb σ H1 fun y H2=>R x y H2) {Q:Value->Shared->Prop} {f:Value->Value->Sem Value}
    (hf:∀ v u s2 x y H2,Inv X pins σ H2 s2->RelV x v->RelV y u->R x y H2->wpAny (model X.prog X.w) X.A (f v u) Q X.xe s2) :
    wpAny (model X.prog X.w) X.A (eval a X.env) (fun v s₁=>wpAny (model X.prog X.w) X.A (eval b X.env) (fun u s₂=>wpAny (model X.prog X.w) X.A (f v u) Q X.xe s₂) X.xe s₁) X.xe s:=by
  refine aL (ha pins s σ H _ I h) fun v s1 ⟨x,H1,I1,r1,q1⟩=>?_
  refine aL (hb pins s1 σ H1 _ I1 q1) fun u s2 ⟨y,H2,I2,r2,q2⟩=>?_
  exact hf v u s2 x y H2 I2 r1 r2 q2
theorem aA {op:Operator} {r:R2} (ho:iq X (binaryOp op) r) (ha:PE X a ta) (hb:PE X b tb):PE X (.BinOp a op b pos) (yB r ta tb):=by
  intro pins s σ H Q I h
  exact wpAny_BinOp (xR ha hb I h fun v u s2 x y H2 I2 rx ry q=>ho pins s2 σ H2 x y v u Q I2 rx ry q)
theorem yI {f:Value->Value->Sem Value} {C:Int->Int->Prop} {g:Int->Int->Int}
    (rule:∀ (i j:Int) (t u:Tok) (s:Shared) (Q:Value->Shared->Prop) (E:Value->Shared->Prop),C i j->Q (.int (g i j) s.toks) { s with toks:=s.toks+1 }->wpAny (model X.prog X.w) X.A (f (.int i t) (.int j u)) Q E s) :
    iq X f (rI C fun i j=>.int (g i j)):=by
  intro pins s σ H x y v u Q I rx ry h
  obtain ⟨i,j,rfl,rfl,hc,q⟩:=h
  obtain ⟨t,rfl⟩:=rx
  obtain ⟨t',rfl⟩:=ry
  exact rule i j t t' s _ _ hc ⟨.int (g i j),H,I.tok _,⟨_,rfl⟩,q⟩
theorem C0 {f:Value->Value->Sem Value} {g:Int->Int->Int}
    (rule:∀ (i j:Int) (t u:Tok) (s:Shared) (Q:Value->Shared->Prop) (E:Value->Shared->Prop),Q (.int (g i j) s.toks) { s with toks:=s.toks+1 }->wpAny (model X.prog X.w) X.A (f (.int i t) (.int j u)) Q E s) :
    iq X f (CQ fun i j=>.int (g i j)):=by
  intro pins s σ H x y v u Q I rx ry h
  obtain ⟨i,j,rfl,rfl,q⟩:=h
  obtain ⟨t,rfl⟩:=rx
  obtain ⟨t',rfl⟩:=ry
  exact rule i j t t' s _ _ ⟨.int (g i j),H,I.tok _,⟨_,rfl⟩,q⟩
def C2 (i j:Int):Prop:=0<=j/\j<=1000000/\i.natAbs < 2 ^ 64
def yc (i j:Int):Prop:=(-(2 ^ 64) < i/\i < 2 ^ 64)\/(-(2 ^ 64) < j/\j < 2 ^ 64)
theorem yc.ok {i j:Int} (h:yc i j):IntMulOk i j:=by
  rcases h with ⟨h1,h2⟩ | ⟨h1,h2⟩
  · exact .of_left (intBits_le_64 h1 h2)
  · exact .of_right (intBits_le_64 h1 h2)
theorem gE:iq X (binaryOp .Add) (CQ fun i j=>.int (i+j)):=C0 fun _ _ _ _ _ _ _ q=>add_int q
theorem gS:iq X (binaryOp .Mult) (rI yc fun i j=>.int (i*j)):=yI fun _ _ _ _ _ _ _ hc q=>mul_int q hc.ok
theorem cA:iq X (binaryOp .Mod) (rI (fun _ j=>0 < j) fun i j=>.int (i % j)):=yI fun i j _ _ _ _ _ hc q=>by
  have h1:(0:Int) < j:=hc
  exact mod_int' (by lia) (by rw [Int.fmod_eq_emod_of_nonneg i (by lia)]; exact q)
theorem Aq:iq X (binaryOp .Pow) (rI C2 fun i j=>.int (i ^ j.toNat)):=yI fun _ _ _ _ _ _ _ hc q=>pow_int_small hc.1 hc.2.1 hc.2.2 q
end
noncomputable def Bz:V->V->Bool
  | .non,.non=>true | .non,.int _=>true | .int _,.non=>true | .non,.bl _=>true | .bl _,.non=>true | .non,.str _=>true | .str _,.non=>true
  | .int _,.int _=>true | .bl _,.bl _=>true | .str _,.str _=>true | .byt _,.byt _=>true
  | .int _,.str _=>true | .str _,.int _=>true | .bl _,.str _=>true | .str _,.bl _=>true
  | _,_=>false
noncomputable def Dp:R2:=fun x y H Q=>Bz x y=true/\Q (.bl (decide (x=y))) H
noncomputable def Dm:R2:=fun x y H Q=>Bz x y=true/\Q (.bl (!decide (x=y))) H
theorem pV {i j:Int}:decide (V.int i=V.int j)=(i == j):=by
  rw [Bool.eq_iff_iff]
  simp
theorem w4 {i j:Bool}:decide (V.bl i=V.bl j)=(i == j):=by
  rw [Bool.eq_iff_iff]
  simp
theorem tZ {i j:Str}:decide (V.str i=V.str j)=(i == j):=by
  rw [Bool.eq_iff_iff]
  simp
theorem uc {i j:Array UInt8}:decide (V.byt i=V.byt j)=(i.toList == j.toList):=by
  rw [Bool.eq_iff_iff]
  cases i
  cases j
  simp
section
variable {X:Cx} {a b c:Expr} {ta tb tc:TE} {pos:Pos}
theorem bt {pins:List (Addr × Obj)} {σ:St} {H:Hp} {s:Shared} {Q:VK} {k k':Bool} (I:Inv X pins σ H s) (q:Q (.bl k) H) (e:k=k'):EP X pins σ Q (.bool k') s:=by
  subst e
  exact ⟨.bl k,H,I,rfl,q⟩
theorem cP:iq X (compareOp .Eq) Dp:=by
  intro pins s σ H x y v u Q I rx ry h
  obtain ⟨hs,q⟩:=h
  cases x with
  | non =>
    cases rx
    cases y with
    | non=>cases ry; exact PySem.EqNone.eq_none_none (bt I q (by simp))
    | bl j=>cases ry; exact PySem.EqNone.eq_none_bool (bt I q (by simp))
    | int j=>obtain ⟨t',rfl⟩:=ry; exact PySem.EqNone.eq_none_int (bt I q (by simp))
    | str j=>obtain ⟨t',rfl⟩:=ry; exact PySem.EqNone.eq_none_str (bt I q (by simp))
    | _=>exact absurd (show false=true from hs) Bool.false_ne_true
  | bl i =>
    cases rx
    cases y with
    | non=>cases ry; exact PySem.EqNone.eq_bool_none (bt I q (by simp))
    | bl j=>cases ry; exact eq_bool (bt I q w4)
    | str j=>obtain ⟨t',rfl⟩:=ry; exact PySem.EqMixed.eq_bool_str (bt I q (by simp))
    | _=>exact absurd (show false=true from hs) Bool.false_ne_true
  | int i =>
    obtain ⟨t,rfl⟩:=rx
    cases y with
    | non=>cases ry; exact PySem.EqNone.eq_int_none (bt I q (by simp))
    | int j=>obtain ⟨t',rfl⟩:=ry; exact eq_int (bt I q pV)
    | str j=>obtain ⟨t',rfl⟩:=ry; exact PySem.EqMixed.eq_int_str (bt I q (by simp))
    | _=>exact absurd (show false=true from hs) Bool.false_ne_true
  | str i =>
    obtain ⟨t,rfl⟩:=rx
    cases y with
    | non=>cases ry; exact PySem.EqNone.eq_str_none (bt I q (by simp))
    | bl j=>cases ry; exact PySem.EqMixed.eq_str_bool (bt I q (by simp))
    | int j=>obtain ⟨t',rfl⟩:=ry; exact PySem.EqMixed.eq_str_int (bt I q (by simp))
    | str j=>obtain ⟨t',rfl⟩:=ry; exact eq_str (bt I q tZ)
    | _=>exact absurd (show false=true from hs) Bool.false_ne_true
  | byt i =>
    obtain ⟨t,rfl⟩:=rx
    cases y with
    | byt j=>obtain ⟨t',rfl⟩:=ry; exact PySem.W.eq_bytes (bt I q uc)
    | _=>exact absurd (show false=true from hs) Bool.false_ne_true
  | _=>cases y<;>exact absurd (show false=true from hs) Bool.false_ne_true
theorem jN:iq X (compareOp .NotEq) Dm:=by
  intro pins s σ H x y v u Q I rx ry h
  obtain ⟨hs,q⟩:=h
  cases x with
  | non =>
    cases rx
    cases y with
    | non=>cases ry; exact PySem.EqNone.ne_none_none (bt I q (by simp))
    | bl j=>cases ry; exact PySem.EqNone.ne_none_bool (bt I q (by simp))
    | int j=>obtain ⟨t',rfl⟩:=ry; exact PySem.EqNone.ne_none_int (bt I q (by simp))
    | str j=>obtain ⟨t',rfl⟩:=ry; exact PySem.EqNone.ne_none_str (bt I q (by simp))
    | _=>exact absurd (show false=true from hs) Bool.false_ne_true
  | bl i =>
    cases rx
    cases y with
    | non=>cases ry; exact PySem.EqNone.ne_bool_none (bt I q (by simp))
    | bl j=>cases ry; exact ne_bool (bt I q (congrArg not w4))
    | str j=>obtain ⟨t',rfl⟩:=ry; exact PySem.EqMixed.ne_bool_str (bt I q (by simp))
    | _=>exact absurd (show false=true from hs) Bool.false_ne_true
  | int i =>
    obtain ⟨t,rfl⟩:=rx
    cases y with
    | non=>cases ry; exact PySem.EqNone.ne_int_none (bt I q (by simp))
    | int j=>obtain ⟨t',rfl⟩:=ry; exact ne_int (bt I q (congrArg not pV))
    | str j=>obtain ⟨t',rfl⟩:=ry; exact PySem.EqMixed.ne_int_str (bt I q (by simp))
    | _=>exact absurd (show false=true from hs) Bool.false_ne_true
  | str i =>
    obtain ⟨t,rfl⟩:=rx
    cases y with
    | non=>cases ry; exact PySem.EqNone.ne_str_none (bt I q (by simp))
    | bl j=>cases ry; exact PySem.EqMixed.ne_str_bool (bt I q (by simp))
    | int j=>obtain ⟨t',rfl⟩:=ry; exact PySem.EqMixed.ne_str_int (bt I q (by simp))
    | str j=>obtain ⟨t',rfl⟩:=ry; exact ne_str (bt I q (congrArg not tZ))
    | _=>exact absurd (show false=true from hs) Bool.false_ne_true
  | byt i =>
    obtain ⟨t,rfl⟩:=rx
    cases y with
    | byt j=>obtain ⟨t',rfl⟩:=ry; exact PySem.W.ne_bytes (bt I q (congrArg not uc))
    | _=>exact absurd (show false=true from hs) Bool.false_ne_true
  | _=>cases y<;>exact absurd (show false=true from hs) Bool.false_ne_true
theorem xr:iq X (compareOp .In) (fun x y H Q=>∃ i j,x = .str i/\y = .str j/\Q (.bl (!(Builtin.Str.occurrences j i 0 j.length 1).isEmpty)) H):=by
  intro pins s σ H x y v u Q I rx ry h
  obtain ⟨i,j,rfl,rfl,q⟩:=h
  obtain ⟨t,rfl⟩:=rx
  obtain ⟨t',rfl⟩:=ry
  exact in_str (bt I q rfl)
theorem bb (b:Expr) {op:CmpOp} (h:op≠.In:=by decide) (h2:op≠.NotIn:=by decide):behindInMarks op b=false:=by
  have e1:(op == CmpOp.In)=false:=by cases op<;>first | rfl | exact absurd rfl h
  have e2:(op == CmpOp.NotIn)=false:=by cases op<;>first | rfl | exact absurd rfl h2
  cases b<;>simp [behindInMarks,e1,e2]
theorem lT {op:CmpOp} {r:R2} (ho:iq X (compareOp op) r) (ha:PE X a ta) (hb:PE X b tb) (hm:behindInMarks op b=false):PE X (.Compare a [op] [b] pos) (yB r ta tb):=by
  intro pins s σ H Q I h
  exact wpAny_Compare1 (xR ha hb I h fun v u s2 x y H2 I2 rx ry q=>ho pins s2 σ H2 x y v u Q I2 rx ry q) hm
noncomputable def B9 (t:TE):TT:=fun σ H Q=>t σ H fun x H'=>∃ k,x = .bl k/\Q k H'
theorem aQ {op:CmpOp} {r:R2} (ho:iq X (compareOp op) r) (ha:PE X a ta) (hb:PE X b tb) (hm:behindInMarks op b=false):PT X (.Compare a [op] [b] pos) (B9 (yB r ta tb)):=by
  intro pins s σ H Q I h
  refine wpAny_isTrue_Compare1 (aL (ha pins s σ H _ I h) fun v s1 ⟨x,H1,I1,r1,q1⟩=>aL (hb pins s1 σ H1 _ I1 q1) fun u s2 ⟨y,H2,I2,r2,q2⟩ =>
    aL (ho pins s2 σ H2 x y v u _ I2 r1 r2 q2) fun c s3 ⟨z,H3,I3,r3,k,e,q3⟩=>?_) hm
  subst e
  cases r3
  exact wpAny_truthy_bool ⟨H3,I3,q3⟩
theorem jG:(sizeLine:Nat) < 2 ^ 63:=by rw [sizeLine_eq]; decide
theorem bC:iq X (binaryOp .Add) (fun x y H Q=>∃ i j,x = .str i/\y = .str j/\i.length+j.length<=sizeLine/\Q (.str (i++j)) H):=by
  intro pins s σ H x y v u Q I rx ry h
  obtain ⟨i,j,rfl,rfl,hz,q⟩:=h
  obtain ⟨t,rfl⟩:=rx
  obtain ⟨t',rfl⟩:=ry
  exact add_str (fun t' tk=>⟨.str (i++j),H,I.tok _,⟨_,rfl⟩,q⟩) hz
theorem vals1 {x:V} {us:List Value} (r:Vals [x] us):∃ u,us=[u]/\RelV x u:=by
  cases r with
  | cons r1 r2=>cases r2; exact ⟨_,rfl,r1⟩
theorem vals2 {x y:V} {us:List Value} (r:Vals [x,y] us):∃ u w',us=[u,w']/\RelV x u/\RelV y w':=by
  cases r with
  | cons r1 r2 =>
    cases r2 with
    | cons r3 r4=>cases r4; exact ⟨_,_,rfl,r1,r3⟩
end
end L2
namespace L2
open PySem PySem.Spec PyProof.Rows
structure m8 (h:Heap) (x dx C:Addr) (mA:Str->Option Value):Prop where
  obj:h.get? x=some (PySem.W.instObj C dx)
  ns:h.Ns1 dx mA
  ne:dx≠x
theorem xx {h:Heap} {dx:Addr} {mA:Str->Option Value} (n:h.Ns1 dx mA):∃ od,h.get? dx=some od/\∀ name,PySem.W.lookIn name od=some (mA name):=by
  obtain ⟨o,es,ep,ho,hd,hk,_,hm⟩:=n
  refine ⟨o,ho,fun name=>?_⟩
  have e:=hm name
  unfold nsFind findBy at e
  rw [<- Array.find?_toList] at e
  unfold PySem.W.lookIn
  rw [hd]
  dsimp only
  split
  · rename_i y q
    rw [q] at e
    exact congrArg some e
  · rename_i q
    rw [q] at e
    have a:es.toList.any (·.refKey)=false:=by
      rw [List.any_eq_false]
      intro y hy
      obtain ⟨z,t,hkey⟩:=hk y (Array.mem_toList_iff.mp hy)
      simp [DictEntry.refKey,hkey]
    have a':¬ es.toList.any (·.refKey)=true:=by rw [a]; exact Bool.false_ne_true
    rw [if_neg a']
    exact congrArg some e
theorem m8.look {h:Heap} {x dx C:Addr} {mA:Str->Option Value} (I:m8 h x dx C mA):∃ od,PySem.W.InstAt h x (PySem.W.instObj C dx) C (some od)/\∀ name,PySem.W.lookIn name od=some (mA name) :=
  let ⟨od,ho,hl⟩:=xx I.ns
  ⟨od,⟨I.obj,rfl,rfl,ho⟩,hl⟩
section
variable {prog:Program} {w:World} {A:Around} {E:Value->Shared->Prop} {s:Shared} {K:PySem.W.Frag} {x dx C f:Addr} {mA:Str->Option Value} {name:Str} {v:Value}
theorem get_map {expr:Bool} {Q:Value->Shared->Prop} (X:K.In s.heap) (I:m8 s.heap x dx C mA) (hg:PySem.W.plainGet K C name=true) (hh:PySem.W.hasDictIn K C=true)
    (ha:PySem.W.findIn K (.ref C) name=some none) (hv:mA name=some v) (hv':PySem.W.handedIn v=true) (h:Q v { s with toks:=s.toks+1 }) :
    wpAny (model prog w) A (getAttr (.ref x) name expr) Q E s:=by
  obtain ⟨od,J,hl⟩:=I.look
  exact PySem.W.get_value X J (PySem.W.plainGet_of hg).1 (PySem.W.findObj_own hh ha rfl (by rw [hl,hv])) hv' h
theorem xO {pl:Sem Bool} {Q:Value × List Value->Shared->Prop} (X:K.In s.heap) (I:m8 s.heap x dx C mA) (hg:PySem.W.plainGet K C name=true)
    (hf:PySem.W.findIn K (.ref C) name=some (some (.ref f))) (ht:PySem.W.isFn K (.ref f)=true) (hv:mA name=none) (h:Q (.ref f,[.ref x]) s) :
    wpAny (model prog w) A (getMethod (.ref x) name pl) Q E s:=by
  obtain ⟨od,J,hl⟩:=I.look
  exact PySem.W.method_fn X J (PySem.W.plainGet_of hg).1 (PySem.W.plainGet_of hg).2 hf (beq_iff_eq.mp ht) (by show (PySem.W.lookIn name od).map (·.isSome)=some false; rw [hl,hv]; rfl) h
theorem zc {ns:List Str} {Q:Unit->Shared->Prop} (X:K.In s.heap) (I:m8 s.heap x dx C mA)
    (hs:PySem.W.findIn K (.ref C) "__setattr__" = some (some (.builtin "object.__setattr__"))) (hp:PySem.W.plainOver K C=true) (ht:PySem.W.takerIn K C name=some none) (hh:PySem.W.hasDictIn K C=true)
    (hw:PySem.Within mA ns) (hsz:ns.length<=sizeLine)
    (h:∀ h',m8 h' x dx C (fun y=>if y=name then some v else mA y)->Heap.SameBut dx s.heap h'->Q () { s with heap:=h',toks:=s.toks+2 }) :
    wpAny (model prog w) A (setAttr (.ref x) name v) Q E s:=by
  obtain ⟨od,J,hl⟩:=I.look
  refine PySem.W.set_plain X J hs (PySem.W.osa_open (s:={ s with toks:=s.toks+1 }) (r:=none) X J hp ht fun b=>?_)
  obtain ⟨cd,hc,hd'⟩:=PySem.W.any_some hh
  have hx:s.heap.get? x=some ⟨.ref C,some dx,.plain,#[]⟩:=I.obj
  refine wpAny_bind (wpAny_pure (wpAny_bind (wpAny_bind (wpAny_loadPart hx (wpAny_bind (PySem.W.Looks.here (s:={ s with toks:=s.toks+1 }) (PySem.W.looks_clsIn X hc) ?_))))))
  rw [hd']
  refine wpAny_pure (a:=some dx) (wpAny_bind (wpAny_pure (wpAny_bind ?_)))
  refine wpAny_nsSet1 (s:={ s with toks:=s.toks+1 }) I.ns fun h' hn2 hs2=>?_
  obtain ⟨oD,esD,epD,hoD,hdD,hcD⟩:=hn2.count (PySem.Within.cons name v hw)
  refine wpAny_bind (wpAny_lookBehind hoD (by rw [hdD]; exact pastItsLine_dict (Nat.le_trans hcD (by rw [List.length_cons]; lia))) ?_)
  exact wpAny_pure (h _ ⟨(hs2.2 _ (Ne.symm I.ne)).trans I.obj,hn2,I.ne⟩ hs2)
theorem yh {R:Result->Shared->Prop} {vs:List Value} {kw:List (Str × Value)} (X:K.In s.heap) (hm:PySem.W.makesIn K C=true)
    (hi:PySem.W.findIn K (.ref C) "__init__" = some (some (.ref f))) (hf:PySem.W.typeIn K (.ref f)=some (.type "function"))
    (h:codeAny (model prog w) (A.under (.builtin "type.__call__" ⟨.ref C::vs,kw⟩)) (.call (.ref f) ⟨.ref (s.heap.objs.size+1)::vs,kw⟩) (PySem.W.InitBack (s.heap.objs.size+1) R)
      { s with heap:=(s.heap.push PySem.W.emptyDict).push (PySem.W.instObj C s.heap.objs.size) }) :
    codeAny (model prog w) A (.call (.ref C) ⟨vs,kw⟩) R s:=by
  obtain ⟨hh,g,d,t,os⟩:=s
  exact PySem.W.make_core (PySem.W.makes_of X hm) (PySem.W.looks_findIn X hi) (fun self=>PySem.W.bind_fn X self hf) (.inl rfl) h
end
noncomputable def gy (f:Str) (v:V):List (Str × V)->List (Str × V)
  | []=>[(f,v)]
  | (g,x)::r=>if g=f then (g,v)::r else (g,x)::gy f v r
theorem fo (f g:Str) (v:V):∀ fs:List (Str × V),(gy f v fs).lookup g=if g=f then some v else fs.lookup g
  | []=>by
    show List.lookup g [(f,v)]=_
    by_cases h:g=f
    · have hb:(g == f)=true:=beq_iff_eq.mpr h
      simp only [List.lookup,hb,if_pos h]
    · have hb:(g == f)=false:=beq_eq_false_iff_ne.mpr h
      simp only [List.lookup,hb,if_neg h]
  | (k,x)::r=>by
    have ih:=fo f g v r
    rw [show gy f v ((k,x)::r)=(if k=f then (k,v)::r else (k,x)::gy f v r) from rfl]
    by_cases hk:k=f
    · rw [if_pos hk]
      by_cases h:g=k
      · have hb:(g == k)=true:=beq_iff_eq.mpr h
        simp only [List.lookup,hb,if_pos (h.trans hk)]
      · have hb:(g == k)=false:=beq_eq_false_iff_ne.mpr h
        simp only [List.lookup,hb,if_neg (fun e:g=f=>h (e.trans hk.symm))]
    · rw [if_neg hk]
      by_cases h:g=k
      · have hb:(g == k)=true:=beq_iff_eq.mpr h
        simp only [List.lookup,hb,if_neg (fun e:g=f=>hk (h.symm.trans e))]
      · have hb:(g == k)=false:=beq_eq_false_iff_ne.mpr h
        simp only [List.lookup,hb]
        exact ih
theorem kN (f:Str) (v:V):∀ fs:List (Str × V),f∈(gy f v fs).map (·.1)/\∀ g,g∈fs.map (·.1)->g∈(gy f v fs).map (·.1)
  | []=>⟨by simp [gy],fun g h=>by simp at h⟩
  | (k,x)::r=>by
    obtain ⟨i1,i2⟩:=kN f v r
    rw [show gy f v ((k,x)::r)=(if k=f then (k,v)::r else (k,x)::gy f v r) from rfl]
    by_cases hk:k=f
    · rw [if_pos hk]
      subst hk
      exact ⟨by simp,fun g h=>by simpa using h⟩
    · rw [if_neg hk]
      refine ⟨?_,fun g h=>?_⟩
      · rw [List.map_cons]
        exact List.mem_cons_of_mem _ i1
      · rw [List.map_cons] at h |-
        rcases List.mem_cons.mp h with e | e
        · exact List.mem_cons.mpr (.inl e)
        · exact List.mem_cons_of_mem _ (i2 g e)
theorem mT (f:Str) (v:V):∀ fs:List (Str × V),(gy f v fs).length<=fs.length+1
  | []=>by simp [gy]
  | (k,x)::r=>by
    have ih:=mT f v r
    rw [show gy f v ((k,x)::r)=(if k=f then (k,v)::r else (k,x)::gy f v r) from rfl]
    by_cases hk:k=f
    · rw [if_pos hk,List.length_cons,List.length_cons]; lia
    · rw [if_neg hk,List.length_cons,List.length_cons]; lia
theorem gA.some_of {v:V} {o:Option Value} (r:gA (some v) o):∃ u,o=some u/\RelV v u:=by
  cases o with
  | none=>exact (show False from r).elim
  | some u=>exact ⟨u,rfl,r⟩
theorem gA.none_of {o:Option Value} (r:gA none o):o=none:=by
  cases o with
  | none=>rfl
  | some u=>exact (show False from r).elim
theorem xA {v:V} {u:Value} (r:RelV v u):PySem.W.handedIn u=true:=by
  cases v with
  | non=>cases (show u=Value.none from r); rfl
  | bl b=>cases (show u=Value.bool b from r); rfl
  | int i=>obtain ⟨t,e⟩:=(show ∃ t,u=Value.int i t from r); cases e; rfl
  | str x=>obtain ⟨t,e⟩:=(show ∃ t,u=Value.str x t from r); cases e; rfl
  | byt b=>obtain ⟨t,e⟩:=(show ∃ t,u=Value.bytes b t from r); cases e; rfl
  | flt b=>obtain ⟨t,e⟩:=(show ∃ t,u=Value.float b t from r); cases e; rfl
  | ref a=>cases (show u=Value.ref a from r); rfl
  | ty n=>cases (show u=Value.type n from r); rfl
section
variable {P:Program} {w:World} {H H':Hp} {h h':Heap} {a C dx:Addr} {fs fs':List (Str × V)}
theorem lK (hok:cF P w H h) (e:H a=some (.ins C dx fs)):∃ mA,m8 h a dx C mA/\(∀ f,gA (fs.lookup f) (mA f))/\PySem.Within mA (fs.map (·.1))/\fs.length<=1000/\H dx=some (.own a):=by
  obtain ⟨d,z,ne,ob,mA,n,r,q⟩:=(show bg P w H h a (.ins C dx fs) from hok a _ e)
  exact ⟨mA,⟨ob,n,ne⟩,r,q,z,d⟩
end
structure gK (K:PySem.W.Frag) (C:Addr):Prop where
  pg:PySem.W.plainGet K C Str.empty=true
  hd:PySem.W.hasDictIn K C=true
  po:PySem.W.plainOver K C=true
  sa:PySem.W.findIn K (.ref C) "__setattr__" = some (some (.builtin "object.__setattr__"))
theorem gK.get {K:PySem.W.Frag} {C:Addr} (c:gK K C) (f:Str):PySem.W.plainGet K C f=true:=c.pg
def bA (K:PySem.W.Frag) (C:Addr) (f:Str):Prop:=PySem.W.findIn K (.ref C) f=some none
theorem bA.taker {K:PySem.W.Frag} {C:Addr} {f:Str} (n:bA K C f):PySem.W.takerIn K C f=some none:=by
  unfold PySem.W.takerIn
  rw [show PySem.W.findIn K (.ref C) f=some none from n]
  rfl
structure Meth (K:PySem.W.Frag) (C:Addr) (m:Str) (f:Addr):Prop where
  at_:PySem.W.findIn K (.ref C) m=some (some (.ref f))
  fn:PySem.W.isFn K (.ref f)=true
  kp:PySem.W.keepIn K (.ref f)=true
section
variable {X:Cx} {pins:List (Addr × Obj)} {σ:St} {H:Hp} {s:Shared} {a C dx:Addr} {fs:List (Str × V)} {f:Str} {v:V} {A:Around} {E:Value->Shared->Prop}
theorem uE {b:Bool} {Q:Value->Shared->Prop} (I:Inv X pins σ H s) (e:H a=some (.ins C dx fs)) (c:gK X.K C) (n:bA X.K C f) (l:fs.lookup f=some v)
    (h:∀ u s',Inv X pins σ H s'->RelV v u->Q u s'):wpAny (model X.prog X.w) A (getAttr (.ref a) f b) Q E s:=by
  obtain ⟨mA,O,r,_,_,_⟩:=lK I.hok e
  obtain ⟨u,hu,ru⟩:=gA.some_of (v:=v) (o:=mA f) (by rw [<- l]; exact r f)
  exact get_map I.kIn O (c.get f) c.hd n hu (xA ru) (h u _ (I.tok _) ru)
theorem vz {m:Str} {g:Addr} {pl:Sem Bool} {Q:Value × List Value->Shared->Prop} (I:Inv X pins σ H s) (e:H a=some (.ins C dx fs)) (c:gK X.K C) (k:Meth X.K C m g) (l:fs.lookup m=none)
    (h:Q (.ref g,[.ref a]) s):wpAny (model X.prog X.w) A (getMethod (.ref a) m pl) Q E s:=by
  obtain ⟨mA,O,r,_,_,_⟩:=lK I.hok e
  have hn:mA m=none:=gA.none_of (by rw [<- l]; exact r m)
  exact xO I.kIn O (c.get m) k.at_ k.fn hn h
theorem uW {y:V} {u:Value} {Q:Unit->Shared->Prop} (I:Inv X pins σ H s) (e:H a=some (.ins C dx fs)) (c:gK X.K C) (n:bA X.K C f) (hl:fs.length < 1000) (ry:RelV y u)
    (h:∀ s',Inv X pins σ (upd H a (.ins C dx (gy f y fs))) s'->Q () s'):wpAny (model X.prog X.w) A (setAttr (.ref a) f u) Q E s:=by
  obtain ⟨mA,O,r,wi,_,ho⟩:=lK I.hok e
  have hz:(fs.map (·.1)).length<=sizeLine:=by rw [List.length_map,sizeLine_eq]; lia
  refine zc I.kIn O c.sa c.po n.taker c.hd wi hz fun h' O' sb=>h _ ?_
  have hd:∃ o,h'.get? dx=some o:=let ⟨o,_,_,e',_⟩:=O'.ns; ⟨o,e'⟩
  refine I.write (x:=a) (e:=dx) (by rw [e]; exact True.intro) (.inr ho) (fun b q hb z=>(sb.2 b hb).trans z) hd ?_
  refine ⟨by rw [aE O.ne]; exact ho,?_,O.ne,O'.obj,_,O'.ns,fun g=>?_,fun g hg=>?_⟩
  · have:=mT f y fs; lia
  · show gA ((gy f y fs).lookup g) (if g=f then some u else mA g)
    rw [fo]
    by_cases q:g=f
    · rw [if_pos q,if_pos q]; exact ry
    · rw [if_neg q,if_neg q]; exact r g
  · by_cases q:g=f
    · rw [q]; exact (kN f y fs).1
    · refine (kN f y fs).2 g (wi g fun z=>hg ?_)
      show (if g=f then some u else mA g)=none
      rw [if_neg q]; exact z
theorem Inv.made (I:Inv X pins σ H s):Inv X pins σ (upd (upd H s.heap.objs.size (.own (s.heap.objs.size+1))) (s.heap.objs.size+1) (.ins C s.heap.objs.size []))
    { s with heap:=(s.heap.push PySem.W.emptyDict).push (PySem.W.instObj C s.heap.objs.size) }:=by
  have e1:(s.heap.push PySem.W.emptyDict).get? s.heap.objs.size=some PySem.W.emptyDict:=Heap.get?_push_size s.heap rfl
  have e2:((s.heap.push PySem.W.emptyDict).push (PySem.W.instObj C s.heap.objs.size)).get? (s.heap.objs.size+1)=some (PySem.W.instObj C s.heap.objs.size):=by
    have:=Heap.get?_push_size (s.heap.push PySem.W.emptyDict) (o:=PySem.W.instObj C s.heap.objs.size) rfl
    rwa [Heap.size_push] at this
  have e3:(s.heap.push PySem.W.emptyDict).Ns s.heap.objs.size (fun _=>none):=⟨PySem.W.emptyDict,#[],_,e1,rfl,(fun e he=>absurd he (by simp)),fun _=>rfl⟩
  have I1:=I.laid (a:=s.heap.objs.size) (o:=.own (s.heap.objs.size+1)) (h':=s.heap.push PySem.W.emptyDict) (t':=s.toks) (fun b u q=>Heap.get?_push_of_some _ q) (Nat.le_refl _) ⟨_,e1⟩
  refine I1.laid (a:=s.heap.objs.size+1) (o:=.ins C s.heap.objs.size []) (t':=s.toks) (fun b u q=>Heap.get?_push_of_some _ q) (Nat.le_of_eq (Heap.size_push _ _)) ?_
  have ne:s.heap.objs.size≠s.heap.objs.size+1:=Nat.ne_of_lt (Nat.lt_succ_self _)
  refine ⟨by rw [aE ne,ah],Nat.zero_le _,ne,e2,fun _=>none,(Heap.Ns1.of_empty e3).at fun o q=>Heap.get?_push_of_some _ q,fun _=>True.intro,fun y hy=>absurd rfl hy⟩
theorem yJ {prog:Program} {w:World} {env:Env} {e:Expr} {f:Str} {pos:Pos} {s:Shared} {Q:Value->Shared->Prop} (hb:attributeBase e f env (eval e env)=eval e env)
    (h:wpAny (model prog w) A (eval e env) (fun o s₁=>wpAny (model prog w) A (getAttr o f true) Q E s₁) E s):wpAny (model prog w) A (eval (.Attribute e f pos) env) Q E s :=
  Attribute_any_ h (by rw [arm_eval_Attribute,hb])
end
noncomputable def CY (K:PySem.W.Frag) (ta:TE) (f:Str):TE:=fun σ H Q=>ta σ H fun x H1=>∃ a C dx fs v,x = .ref a/\H1 a=some (.ins C dx fs)/\gK K C/\bA K C f/\fs.lookup f=some v/\Q v H1
noncomputable def Dc (K:PySem.W.Frag) (ta tv:TE) (f:Str):TS:=fun D σ H=>tv σ H fun y H1=>ta σ H1 fun x H2=>∃ a C dx fs,x = .ref a/\H2 a=some (.ins C dx fs)/\gK K C/\bA K C f/\fs.length < 1000 /\
  D.nx σ (upd H2 a (.ins C dx (gy f y fs)))
section
variable {X:Cx} {o e value:Expr} {f:Str} {pos pos' tpos:Pos} {ta tv:TE}
theorem jz (he:PE X e ta) (hb:attributeBase e f X.env (eval e X.env)=eval e X.env):PE X (.Attribute e f pos) (CY X.K ta f):=by
  intro pins s σ H Q I h
  refine yJ hb (aL (he pins s σ H _ I h) fun u s1 ⟨x,H1,I1,rx,a,C,dx,fs,v,ex,ea,c,n,l,q⟩=>?_)
  subst ex
  obtain rfl:u=Value.ref a:=rx
  exact uE I1 ea c n l fun u' s2 I2 ru=>⟨v,H1,I2,ru,q⟩
theorem cb (ha:PE X o ta) (hv:PE X value tv) (hs:swapsWith value (some (.Attribute o f pos')) pos.line X.env=pure false):PS X (.Assign [.Attribute o f pos'] value pos) (Dc X.K ta tv f):=by
  intro pins s σ H D I h
  refine plainObj_wpAny_Assign_Attribute (aL (hv pins s σ H _ I h) fun u s1 ⟨y,H1,I1,ry,q⟩=>aL (ha pins s1 σ H1 _ I1 q) fun ov s2 ⟨x,H2,I2,rx,a,C,dx,fs,ex,ea,c,n,l,q2⟩=>?_) hs
  subst ex
  obtain rfl:ov=Value.ref a:=rx
  exact uW I2 ea c n l ry fun s3 I3=>⟨σ,_,I3,q2⟩
end
section
variable {X:Cx} {pins:List (Addr × Obj)} {σ:St} {H:Hp} {s:Shared} {A:Around} {E:Value->Shared->Prop} {Q:Value->Shared->Prop} {c:Value} {b:Bool}
inductive iC (K:PySem.W.Frag) (H:Hp):V->Value->Prop where
  | non:iC K H .non (.type "NoneType")
  | bl (x:Bool):iC K H (.bl x) (.type "bool")
  | int (i:Int):iC K H (.int i) (.type "int")
  | str (x:Str):iC K H (.str x) (.type "str")
  | flt (x:UInt64):iC K H (.flt x) (.type "float")
  | lst {a:Addr} {xs:List V} (e:H a=some (.lst xs)):iC K H (.ref a) (.type "list")
  | frz {a:Addr} {o:Obj} {xs:List V} (e:H a=some (.frz o (.lst xs))):iC K H (.ref a) (.type "list")
  | tup {a:Addr} {xs:List V} (e:H a=some (.tup xs)):iC K H (.ref a) (.type "tuple")
  | dK {a:Addr} {kvs:List (Key × V)} (e:H a=some (.dK kvs)):iC K H (.ref a) (.type "dict")
  | dT {a:Addr} {kvs:List (List Key × V)} (e:H a=some (.dT kvs)):iC K H (.ref a) (.type "dict")
  | ins {a C dx:Addr} {fs:List (Str × V)} (e:H a=some (.ins C dx fs)) (cl:gK K C) (ha:PySem.W.findIn K (.ref C) "__class__" = some (some (.builtin "object.__class__")))
      (hn:PySem.W.specialIn K (.builtin "object.__class__") "__get__" = some (some (.builtin "getset_descriptor.__get__"))) (htk:PySem.W.takesIn K (.builtin "object.__class__")=some true)
      (hm:PySem.W.mroIn K C (.type "object")=some true):iC K H (.ref a) (.ref C)
theorem wF {x:V} {u t:Value} (I:Inv X pins σ H s) (rx:RelV x u) (ty:iC X.K H x t) (e:PySem.W.kitOne X.K t c=some b) (h:∀ tk,Q (.bool b) { s with toks:=tk }) :
    wpAny (model X.prog X.w) A (call (.builtin "isinstance") [u,c]) Q E s:=by
  cases ty with
  | non=>cases (show u=Value.none from rx); exact PySem.W.kia_one PySem.W.kitx_none I.kIn True.intro e (fun z=>nomatch z) h
  | bl y=>cases (show u=Value.bool y from rx); exact PySem.W.kia_one PySem.W.kitx_bool I.kIn True.intro e (fun z=>nomatch z) h
  | int i=>obtain ⟨t,q⟩:=(show ∃ t,u=Value.int i t from rx); cases q; exact PySem.W.kia_one PySem.W.kitx_int I.kIn True.intro e (fun z=>nomatch z) h
  | str y=>obtain ⟨t,q⟩:=(show ∃ t,u=Value.str y t from rx); cases q; exact PySem.W.kia_one PySem.W.kitx_str I.kIn True.intro e (fun z=>nomatch z) h
  | flt y=>obtain ⟨t,q⟩:=(show ∃ t,u=Value.float y t from rx); cases q; exact PySem.W.kia_one PySem.W.kitx_float I.kIn True.intro e (fun z=>nomatch z) h
  | @lst a xs ea =>
    cases (show u=Value.ref a from rx)
    obtain ⟨_,_,n,_,h1⟩:=(show bg X.prog X.w H s.heap a (.lst xs) from I.hok a _ ea)
    exact PySem.W.kia_one PySem.W.kitx_list I.kIn ⟨_,h1,rfl⟩ e (fun z=>nomatch z) h
  | @frz a ob xs ea =>
    cases (show u=Value.ref a from rx)
    obtain ⟨_,_,_,n,_,h1⟩:=(show bg X.prog X.w H s.heap a (.frz ob (.lst xs)) from I.hok a _ ea)
    exact PySem.W.kia_one PySem.W.kitx_list I.kIn ⟨_,h1,rfl⟩ e (fun z=>nomatch z) h
  | @tup a xs ea =>
    cases (show u=Value.ref a from rx)
    obtain ⟨_,_,_,p⟩:=(show bg X.prog X.w H s.heap a (.tup xs) from I.hok a _ ea)
    obtain ⟨o,h1,h2,_⟩:=p
    exact PySem.W.kia_one PySem.W.kitx_tuple I.kIn ⟨o,h1,h2⟩ e (fun z=>nomatch z) h
  | @dK a kvs ea =>
    cases (show u=Value.ref a from rx)
    obtain ⟨_,_,vs,_,p⟩:=(show bg X.prog X.w H s.heap a (.dK kvs) from I.hok a _ ea)
    obtain ⟨o,es,ep,h1,h2,_⟩:=p
    exact PySem.W.kia_one PySem.W.kitx_dict I.kIn ⟨o,h1,h2.1⟩ e (fun z=>nomatch z) h
  | @dT a kvs ea =>
    cases (show u=Value.ref a from rx)
    obtain ⟨_,_,xs,_,o,es,ep,h1,h2,_⟩:=(show bg X.prog X.w H s.heap a (.dT kvs) from I.hok a _ ea)
    exact PySem.W.kia_one PySem.W.kitx_dict I.kIn ⟨o,h1,h2.1⟩ e (fun z=>nomatch z) h
  | @ins a C dx fs ea cl ha hn htk hm =>
    cases (show u=Value.ref a from rx)
    obtain ⟨mA,O,_⟩:=lK I.hok ea
    obtain ⟨od,J,_⟩:=O.look
    exact PySem.W.kia_one (PySem.W.kitx_own (cl.get _) cl.hd ha hn htk hm) I.kIn J e (fun z=>nomatch z) h
end
end L2
namespace L2
open PySem PySem.Spec PyProof.Rows
structure bK (k:Nat) (A:Around):Prop where
  hd:A.handled=none
  dp:A.depth+3*k+5 < recursionLimit
  un:A.units+16*k+200 < cLine
theorem bK.mono {j k:Nat} {A:Around} (r:bK k A) (h:j<=k):bK j A:=⟨r.hd,by have:=r.dp; lia,by have:=r.un; lia⟩
theorem bK.deeper {k:Nat} {A:Around} (r:bK (k+1) A) (env:Env):bK k (A.deeper env) :=
  ⟨r.hd,by have:=r.dp; show A.depth+1+3*k+5 < _; lia,by have:=r.un; show A.units+3+16*k+200 < _; lia⟩
theorem vT {A:Around} {C:Addr} {us:List Value} {kw:List (Str × Value)}:(A.under (.builtin "type.__call__" ⟨.ref C::us,kw⟩)).depth=A.depth+1:=by
  first | rfl | simp [Around.under,Code.weight,Code.isCreation,Code.isGuard,Code.isCaller,Code.frames,Code.isFrame,guardIds]
theorem vA {A:Around} {C:Addr} {us:List Value} {kw:List (Str × Value)}:(A.under (.builtin "type.__call__" ⟨.ref C::us,kw⟩)).units=A.units+1:=by
  first | rfl | simp [Around.under,Code.cUnits,Code.frames,Code.isFrame]
theorem bK.make {k:Nat} {A:Around} (r:bK (k+1) A) (C:Addr) (us:List Value) (kw:List (Str × Value)):bK k (A.under (.builtin "type.__call__" ⟨.ref C::us,kw⟩)) :=
  ⟨r.hd,by have:=r.dp; rw [vT]; lia,by have:=r.un; rw [vA]; lia⟩
theorem bK.depth {k:Nat} {A:Around} (r:bK k A):A.depth < recursionLimit:=by have:=r.dp; lia
noncomputable def tF:TA:=fun _ H Q=>Q [] H
noncomputable def Cf (ta:TE) (tr:TA):TA:=fun σ H Q=>ta σ H fun x H1=>tr σ H1 fun xs H2=>Q (x::xs) H2
section
variable {X:Cx} {e:Expr} {es:List Expr} {te:TE} {t:TA} {pos:Pos}
theorem aq:PA X [] tF:=fun _ _ _ _ H Q I h=>Calls.spliced_nil ⟨[],H,I,.nil,h⟩
theorem af (ha:PE X e te) (hr:PA X es t) (hs:starEach (e::es) X.env=(false,eval e X.env)::starEach es X.env:=by rfl):PA X (e::es) (Cf te t):=by
  intro pos pins s σ H Q I h
  rw [hs]
  show wpAny _ _ (spliced ((false,eval e X.env)::backTo pos (starEach es X.env))) _ _ s
  refine Calls.spliced_cons (aL (ha pins s σ H _ I h) fun u s1 ⟨x,H1,I1,r1,q1⟩=>?_)
  exact aL (hr pos pins s1 σ H1 _ I1 q1) fun us s2 ⟨xs,H2,I2,r2,q2⟩=>⟨x::xs,H2,I2,.cons r1 r2,q2⟩
noncomputable def Dg (t:TA):TE:=fun σ H Q=>t σ H fun xs H1=>xs.length<=sizeLine/\∀ p,H1 p=none->Q (.ref p) (upd H1 p (.tup xs))
noncomputable def CV (t:TA):TE:=fun σ H Q=>t σ H fun xs H1=>xs.length<=sizeLine/\∀ p,H1 p=none->Q (.ref p) (upd H1 p (.lst xs))
theorem jI {x1} (h:PA X es t):PE X (.Tuple es x1 pos) (Dg t):=by
  intro pins s σ H Q I hq
  refine wpAny_Tuple_spliced (aL (h pos pins s σ H _ I hq) fun us s1 ⟨xs,H1,I1,r,z,q⟩=>⟨by rw [<- r.length]; exact z,?_⟩)
  have hf:H1 s1.heap.objs.size=none:=I1.hok.fresh (Nat.le_refl _)
  refine ⟨.ref s1.heap.objs.size,upd H1 s1.heap.objs.size (.tup xs),I1.laid (t':=s1.toks) (fun b u e=>Heap.get?_push_of_some _ e) (Nat.le_refl _) ?_,rfl,q _ hf⟩
  exact ⟨z,us,r,⟨_,Heap.get?_push_size _ rfl,rfl,_,rfl⟩⟩
theorem bY (h:PA X es t):PE X (.List es pos) (CV t):=by
  intro pins s σ H Q I hq
  refine wpAny_List_spliced (aL (h pos pins s σ H _ I hq) fun us s1 ⟨xs,H1,I1,r,z,q⟩=>⟨by rw [<- r.length]; exact z,?_⟩)
  have hf:H1 s1.heap.objs.size=none:=I1.hok.fresh (Nat.le_refl _)
  refine ⟨.ref s1.heap.objs.size,upd H1 s1.heap.objs.size (.lst xs),I1.laid (t':=s1.toks) (fun b u e=>Heap.get?_push_of_some _ e) (Nat.le_refl _) ?_,rfl,q _ hf⟩
  exact ⟨z,us,0,r,Heap.get?_push_size _ rfl⟩
end
noncomputable abbrev Sp:=List V->Hp->VK->XK->Prop
noncomputable abbrev iP:=List Env->Hp->Shared->XK->Value->Shared->Prop
structure kx (P:Program) (w:World) (K:PySem.W.Frag) (mg:Str->Option Value) (base:Heap) (A:Around) (outer:List Env) (s:Shared) (H:Hp):Prop where
  frames:A.frames=some outer
  mod:Mod K mg base
  bs:∀ b o,base.get? b=some o->s.heap.get? b=some o/\H b=none
  bsz:base.objs.size<=s.heap.objs.size
  funs:s.heap.FunFrames base outer
  frf:∀ b∈bJ outer,H b=none
  hok:cF P w H s.heap
  bare:AllBare s.gens
def CE (outer:List Env) (P:Program) (w:World) (H:Hp) (s:Shared) (Q:VK) (u:Value) (s':Shared):Prop :=
  ∃ v H',s'.os=s.os/\AllBare s'.gens/\Un (bJ outer) [] H H' s.heap s'.heap/\cF P w H' s'.heap/\RelV v u/\Q v H'
def CR (CX:iP) (outer:List Env) (P:Program) (w:World) (H:Hp) (s:Shared) (Q:VK) (E:XK) (r:Result) (s':Shared):Prop :=
  match r with
  | .ok (.ret u)=>CE outer P w H s Q u s'
  | .ok _=>False
  | .error e=>CX outer H s E e s'
structure aH (P:Program) (w:World) (K:PySem.W.Frag) (mg:Str->Option Value) (base:Heap) (CX:iP) (k:Nat) (f:Addr) (fd:FuncData) (ps:List Str) (sp:Sp):Prop where
  len:∀ vs H Q E,sp vs H Q E->vs.length=ps.length
  run:∀ (A:Around) (outer:List Env) (s:Shared) (H:Hp) (args:Args) (us:List Value) (vs:List V) (Q:VK) (E:XK),bK k A->kx P w K mg base A outer s H->BindsTo s fd args (ps.zip us)->Vals vs us->sp vs H Q E ->
    codeAny (model P w) A (.call (.ref f) args) (CR CX outer P w H s Q E) s
theorem kx.make {P:Program} {w:World} {K:PySem.W.Frag} {mg:Str->Option Value} {base:Heap} {A:Around} {outer:List Env} {s:Shared} {H:Hp} (e:kx P w K mg base A outer s H) (C:Addr) (us:List Value) (kw:List (Str × Value)) :
    kx P w K mg base (A.under (.builtin "type.__call__" ⟨.ref C::us,kw⟩)) outer s H:=⟨by first | exact e.frames | (simpa [Around.under,Code.envs,Code.isFrame,pushEnvs] using e.frames),e.mod,e.bs,e.bsz,e.funs,e.frf,e.hok,e.bare⟩
section
variable {X:Cx} {pins:List (Addr × Obj)} {σ:St} {H:Hp} {s s':Shared}
theorem Inv.env0 (I:Inv X pins σ H s):kx X.prog X.w X.K X.mg X.base X.A X.stack s H :=
  ⟨I.ok.frames,I.ok.mod,I.bs,Nat.le_trans I.ok.bsz I.sz,I.stack,I.stkFree,I.hok,I.bare⟩
theorem Inv.after {Q:VK} {u:Value} (I:Inv X pins σ H s) (h:CE X.stack X.prog X.w H s Q u s'):EP X pins σ Q u s':=by
  obtain ⟨v,H',os,bare,un,hok,r,q⟩:=h
  obtain ⟨hh,g,d,t,os'⟩:=s'
  obtain rfl:os'=s.os:=os
  exact ⟨v,H',I.call (h':=hh) (g':=g) (d':=d) (t':=t) (ch:=[]) un hok bare (fun b z=>absurd z (by simp)),r,q⟩
end
noncomputable def jL (sp:Sp) (dvs:List V) (E:XK) (t:TA):TE:=fun σ H Q=>t σ H fun vs H1=>sp (vs++dvs) H1 Q E
noncomputable def yH (C:Addr) (m:Str) (sp:Sp) (dvs:List V) (E:XK) (ta:TE) (t:TA):TE:=fun σ H Q=>ta σ H fun x H1=>∃ a dx fs,x = .ref a/\H1 a=some (.ins C dx fs)/\fs.lookup m=none /\
  t σ H1 fun vs H2=>sp (x::(vs++dvs)) H2 Q E
noncomputable def yy (C:Addr) (sp:Sp) (dvs:List V) (E:XK) (t:TA):TE:=fun σ H Q=>t σ H fun vs H1=>∀ x dx,H1 x=none->H1 dx=none->dx≠x ->
  sp (.ref x::(vs++dvs)) (upd (upd H1 dx (.own x)) x (.ins C dx [])) (fun v H2=>v = .non/\Q (.ref x) H2) E
def Binds (K:PySem.W.Frag) (fd:FuncData) (ps:List Str) (ds:List Value):Prop :=
  ∀ (s:Shared) (us:List Value),K.In s.heap->(us++ds).length=ps.length->BindsTo s fd ⟨us,[]⟩ (ps.zip (us++ds))
theorem Binds.all {K:PySem.W.Frag} {fd:FuncData} {ps:List Str} (h:∀ us:List Value,us.length=ps.length->bindArgs fd ⟨us,[]⟩=pure (ps.zip us)):Binds K fd ps []:=fun s us _ hl=>by
  rw [List.append_nil] at hl |-
  exact .of_eq (h us hl)
def Passes (CX:iP) (X:Cx) (E:XK):Prop:=∀ (pins:List (Addr × Obj)) (σ:St) (H:Hp) (s:Shared) (e:Value) (s':Shared),Inv X pins σ H s->CX X.stack H s E e s'->X.xe e s'
section
variable {X:Cx} {CX:iP} {k:Nat} {f C:Addr} {fd:FuncData} {ps:List Str} {sp:Sp} {dvs:List V} {ds:List Value} {E:XK} {x m:Str} {p pos apos:Pos} {e o:Expr} {es:List Expr} {ta:TE} {t:TA}
theorem nX {pins:List (Addr × Obj)} {σ:St} {H:Hp} {s:Shared} {Q:VK} {us:List Value} {vs:List V} (F:aH X.prog X.w X.K X.mg X.base CX k f fd ps sp) (hr:bK k X.A) (hb:Binds X.K fd ps ds) (hd:Vals dvs ds) (hx:Passes CX X E)
    (I:Inv X pins σ H s) (r:Vals vs us) (h:sp (vs++dvs) H Q E):wpAny (model X.prog X.w) X.A (call (.ref f) us) (EP X pins σ Q) X.xe s:=by
  have r2:Vals (vs++dvs) (us++ds):=r.append hd
  have hl:(us++ds).length=ps.length:=by rw [<- r2.length]; exact F.len _ _ _ _ h
  refine wpAny_call (codeAny_mono (F.run X.A X.stack s H ⟨us,[]⟩ (us++ds) (vs++dvs) Q E hr I.env0 (hb s us I.kIn hl) r2 h) fun r s' hq=>?_)
  cases r with
  | error e=>exact hx pins σ H s e s' I hq
  | ok fl =>
    cases fl with
    | ret u=>exact I.after hq
    | next=>exact False.elim hq
    | brk=>exact False.elim hq
    | cont=>exact False.elim hq
theorem uk (F:aH X.prog X.w X.K X.mg X.base CX k f fd ps sp) (hr:bK k X.A) (hg:Gl X x) (hm:X.mg x=some (.ref f)) (hk:PySem.W.keepIn X.K (.ref f)=true) (hb:Binds X.K fd ps ds) (hd:Vals dvs ds) (hx:Passes CX X E)
    (ha:PA X (e::es) t) (hdb:(x == ("__debug__" : Str))=false:=by decide) (he:starEach (e::es) X.env=(false,eval e X.env)::starEach es X.env:=by rfl) (hpl:(backTo pos (starEach es X.env)).any (·.1)=false:=by rfl) :
    PE X (.Call (.Name x p) (e::es) [] pos) (jL sp dvs E t):=by
  intro pins s σ H Q I h
  refine wpAny_Call_Name_kw (gO I hg hm ?_ hdb)
  refine PySem.W.callWith_K (h₀:=X.base) I.ok.mod.kin hk (aL (ha pos pins s σ H _ I h) fun us s1 ⟨vs,H1,I1,r,q⟩=>⟨I1.kIn,?_⟩) he hpl
  exact nX F hr hb hd hx I1 r q
theorem yq (F:aH X.prog X.w X.K X.mg X.base CX k f fd ps sp) (hr:bK k X.A) (hg:Gl X x) (hm:X.mg x=some (.ref f)) (hk:PySem.W.keepIn X.K (.ref f)=true) (hb:Binds X.K fd ps ds) (hd:Vals dvs ds) (hx:Passes CX X E)
    (hdb:(x == ("__debug__" : Str))=false:=by decide):PE X (.Call (.Name x p) [] [] pos) (jL sp dvs E tF):=by
  intro pins s σ H Q I h
  refine wpAny_Call_Name_kw (gO I hg hm ?_ hdb)
  exact PySem.W.callWith_K0 I.kIn hk (nX (us:=[]) F hr hb hd hx I .nil h)
theorem zf {pl:Sem Bool} (he:PE X o ta) (c:gK X.K C) (hm:Meth X.K C m f) (F:aH X.prog X.w X.K X.mg X.base CX k f fd ps sp) (hr:bK k X.A) (hb:Binds X.K fd ps ds) (hd:Vals dvs ds) (hx:Passes CX X E) (ha:PA X (e::es) t)
    (hst:starEach (e::es) X.env=(false,eval e X.env)::starEach es X.env:=by rfl) (hpl:(backTo pos (starEach es X.env)).any (·.1)=false:=by rfl)
    (ht:eval (.Call (.Attribute o m apos) (e::es) [] pos) X.env=(do
      let ov <- eval o X.env
      standAt apos.atName
      let (f,first) <- holding [ov] (getMethod ov m pl)
      callWith pos f first (backTo pos (starEach (e::es) X.env)) (backToKw pos (keywordEach [] X.env))):=by rfl) :
    PE X (.Call (.Attribute o m apos) (e::es) [] pos) (yH C m sp dvs E ta t):=by
  intro pins s σ H Q I h
  refine PySem.W.methodCall_KW (pl:=pl) (aL (he pins s σ H _ I h) fun u s1 ⟨x,H1,I1,rx,a,dx,fs,ex,ea,l,q⟩=>?_) ht
  subst ex
  obtain rfl:u=Value.ref a:=rx
  refine vz I1 ea c hm l ?_
  refine PySem.W.callWith_K (first:=[.ref a]) (h₀:=X.base) I.ok.mod.kin hm.kp (aL (ha pos pins s1 σ H1 _ I1 q) fun us s2 ⟨vs,H2,I2,r,q2⟩=>⟨I2.kIn,?_⟩) hst hpl
  exact nX (us:=.ref a::us) (vs:=.ref a::vs) F hr hb hd hx I2 (.cons rfl r) q2
structure Mk (K:PySem.W.Frag) (C f:Addr):Prop where
  makes:PySem.W.makesIn K C=true
  init:PySem.W.findIn K (.ref C) "__init__" = some (some (.ref f))
  fn:PySem.W.isFn K (.ref f)=true
  kp:PySem.W.keepIn K (.ref C)=true
theorem xY {pins:List (Addr × Obj)} {σ:St} {H:Hp} {s:Shared} {Q:VK} {us:List Value} {vs:List V} (M:Mk X.K C f) (F:aH X.prog X.w X.K X.mg X.base CX k f fd ps sp) (hr:bK (k+1) X.A) (hb:Binds X.K fd ps ds) (hd:Vals dvs ds)
    (hx:Passes CX X E) (I:Inv X pins σ H s) (r:Vals vs us)
    (h:∀ x dx,H x=none->H dx=none->dx≠x->sp (.ref x::(vs++dvs)) (upd (upd H dx (.own x)) x (.ins C dx [])) (fun v H2=>v = .non/\Q (.ref x) H2) E) :
    wpAny (model X.prog X.w) X.A (call (.ref C) us) (EP X pins σ Q) X.xe s:=by
  have hq:=h (s.heap.objs.size+1) s.heap.objs.size (I.hok.fresh (Nat.le_succ _)) (I.hok.fresh (Nat.le_refl _)) (Nat.ne_of_lt (Nat.lt_succ_self _))
  have I2:=Inv.made (C:=C) I
  have r2:Vals (V.ref (s.heap.objs.size+1)::(vs++dvs)) (Value.ref (s.heap.objs.size+1)::(us++ds)):=.cons rfl (r.append hd)
  have hl:(Value.ref (s.heap.objs.size+1)::us++ds).length=ps.length:=by
    have e:=r2.length
    rw [F.len _ _ _ _ hq] at e
    exact e.symm
  refine wpAny_call (yh (f:=f) I.kIn M.makes M.init (beq_iff_eq.mp M.fn) (codeAny_mono (F.run _ X.stack _ _ ⟨Value.ref (s.heap.objs.size+1)::us,[]⟩ (Value.ref (s.heap.objs.size+1)::(us++ds)) _ _ E (hr.make C us [])
    (I2.env0.make C us []) (hb _ (Value.ref (s.heap.objs.size+1)::us) I2.kIn hl) r2 hq) fun r s' hq'=>?_))
  cases r with
  | error e=>exact hx pins σ _ _ e s' I2 hq'
  | ok fl =>
    cases fl with
    | ret u =>
      obtain ⟨v,H',I3,rv,ev,q3⟩:=I2.after hq'
      subst ev
      exact ⟨rv,⟨V.ref (s.heap.objs.size+1),H',I3,rfl,q3⟩⟩
    | next=>exact False.elim hq'
    | brk=>exact False.elim hq'
    | cont=>exact False.elim hq'
theorem yg (M:Mk X.K C f) (F:aH X.prog X.w X.K X.mg X.base CX k f fd ps sp) (hr:bK (k+1) X.A) (hg:Gl X x) (hm:X.mg x=some (.ref C)) (hb:Binds X.K fd ps ds) (hd:Vals dvs ds) (hx:Passes CX X E)
    (hdb:(x == ("__debug__" : Str))=false:=by decide):PE X (.Call (.Name x p) [] [] pos) (yy C sp dvs E tF):=by
  intro pins s σ H Q I h
  refine wpAny_Call_Name_kw (gO I hg hm ?_ hdb)
  exact PySem.W.callWith_K0 I.kIn M.kp (xY (us:=[]) M F hr hb hd hx I .nil h)
end
section
variable {X:Cx} {CX:iP} {k:Nat} {f C:Addr} {fd:FuncData} {ps ks:List Str} {sp:Sp} {E:XK} {x m:Str} {p pos apos kpos:Pos} {e o:Expr} {es:List Expr} {kws:List Keyword} {te ta:TE} {t tk:TA} {nm:Option Str}
variable {g:List Value->List Value->List Value} {gV:List V->List V->List V}
end
structure av (N P:List Str) (sc:Scope):Prop where
  kind:sc.kind = .function
  co:sc.isCoroutine=false
  gen:sc.isGenerator=false
  nd:N.Nodup
  pre:N.take P.length=P
  par:∀ x∈P,sc.names.lookup x=some .local\/sc.names.lookup x=some .cell
  nofree:∀ y∈sc.names,y.2≠.free
theorem qf {kindOf:Str->Option NameKind} {x:Str}:∀ {binds:List (Str × Value)} {m:Str->Option Value},(∀ v,(x,v)∉binds)->bindL kindOf binds m x=m x
  | [],_,_=>rfl
  | (n,v)::r,m,h=>by
    unfold bindL
    rw [qf fun w hw=>h w (List.mem_cons_of_mem _ hw)]
    split
    · have:x≠n:=by rintro rfl; exact h v List.mem_cons_self
      simp [this]
    · rfl
theorem qp {kindOf:Str->Option NameKind} {x:Str}:∀ {binds:List (Str × Value)} {m:Str->Option Value},(∀ v,(x,v)∉binds)->bindC kindOf binds m x=m x
  | [],_,_=>rfl
  | (n,v)::r,m,h=>by
    unfold bindC
    rw [qp fun w hw=>h w (List.mem_cons_of_mem _ hw)]
    split
    · rfl
    · have:x≠n:=by rintro rfl; exact h v List.mem_cons_self
      simp [this]
theorem qa {kindOf:Str->Option NameKind} {x:Str} {v:Value}:∀ {P:List Str} {vs:List Value} {i:Nat} {m:Str->Option Value},P.Nodup->P[i]? = some x->vs[i]? = some v->kindOf x=some .local ->
    bindL kindOf (P.zip vs) m x=some v
  | [],_,_,_,_,h,_,_=>by simp at h
  | _::_,[],_,_,_,_,h,_=>by simp at h
  | p::P,w::vs,0,m,nd,h1,h2,hk=>by
    simp at h1 h2; subst h1; subst h2
    show bindL kindOf ((p,w)::P.zip vs) m p=_
    unfold bindL
    rw [qf fun v hv=>(List.nodup_cons.mp nd).1 (List.of_mem_zip hv).1,if_pos hk]
    simp
  | p::P,w::vs,i+1,m,nd,h1,h2,hk=>by
    show bindL kindOf ((p,w)::P.zip vs) m x=_
    unfold bindL
    exact qa (i:=i) (List.nodup_cons.mp nd).2 (by simpa using h1) (by simpa using h2) hk
theorem ql {kindOf:Str->Option NameKind} {x:Str} {v:Value}:∀ {P:List Str} {vs:List Value} {i:Nat} {m:Str->Option Value},P.Nodup->P[i]? = some x->vs[i]? = some v->kindOf x≠some .local ->
    bindC kindOf (P.zip vs) m x=some v
  | [],_,_,_,_,h,_,_=>by simp at h
  | _::_,[],_,_,_,_,h,_=>by simp at h
  | p::P,w::vs,0,m,nd,h1,h2,hk=>by
    simp at h1 h2; subst h1; subst h2
    show bindC kindOf ((p,w)::P.zip vs) m p=_
    unfold bindC
    rw [qp fun v hv=>(List.nodup_cons.mp nd).1 (List.of_mem_zip hv).1,if_neg hk]
    simp
  | p::P,w::vs,i+1,m,nd,h1,h2,hk=>by
    show bindC kindOf ((p,w)::P.zip vs) m x=_
    unfold bindC
    exact ql (i:=i) (List.nodup_cons.mp nd).2 (by simpa using h1) (by simpa using h2) hk
noncomputable def start (N:List Str) (vs:List V):St:=vs.map some++List.replicate (N.length - vs.length) none
noncomputable def h9 (CX:iP) (P:Program) (w:World) (K:PySem.W.Frag) (mg:Str->Option Value) (base:Heap) (N:List Str) (qual:Str) (scope:Scope) (f:Addr) (cd:Value) (A:Around) (outer:List Env) (s:Shared) (H:Hp) (E:XK):Cx where
  prog:=P
  w:=w
  K:=K
  mg:=mg
  base:=base
  A:=A.deeper (envOfC qual scope s.heap.objs.size f cd)
  N:=N
  s₀:=s
  H₀:=H
  env:=envOfC qual scope s.heap.objs.size f cd
  outer:=outer
  stack:=envOfC qual scope s.heap.objs.size f cd::outer
  ex:=[]
  calm:=true
  fn:=fun _=>true
  pn:=[]
  xe:=fun e s'=>wpAny (model P w) (A.deeper (envOfC qual scope s.heap.objs.size f cd)) (leaving (envOfC qual scope s.heap.objs.size f cd) e) (fun _ s''=>CX outer H s E e s'') (fun e' s''=>CX outer H s E e' s'') s'
theorem ng {sc:Scope} {n:Nat} {x:Str} (h:sc.names.lookup x=some .cell):∃ c,(cellsFrom n sc.names []).lookup x=some c:=by
  have q:=PySem.W.cellsFrom_some sc.names n [] (.inl h)
  exact Option.isSome_iff_exists.mp q
theorem wk {CX:iP} {P:Program} {w:World} {K:PySem.W.Frag} {mg:Str->Option Value} {base:Heap} {N ps:List Str} {qual:Str} {scope:Scope} {f:Addr} {cd:Value} {A:Around} {outer:List Env} {s s1:Shared} {H:Hp} {E:XK} {us:List Value} {vs:List V}
    (S:av N ps scope) (hd:A.handled=none) (e0:kx P w K mg base A outer s H) (hl:vs.length=ps.length) (r:Vals vs us)
    (x:InCallC s s.heap.objs.size (bindL (envOfC qual scope s.heap.objs.size f cd).kindOf (ps.zip us) fun _=>none) (cellsFrom (s.heap.objs.size+1) scope.names []) (bindC (envOfC qual scope s.heap.objs.size f cd).kindOf (ps.zip us) fun _=>none) s1) :
    Inv (h9 CX P w K mg base N qual scope f cd A outer s H E) [] (start N vs) H s1:=by
  have hpl:ps.length<=N.length:=by have:=congrArg List.length S.pre; rw [List.length_take] at this; lia
  obtain ⟨h1,tk,rfl,hk⟩:=x.done
  have noA:∀ b:Addr,b∉(h9 CX P w K mg base N qual scope f cd A outer s H E).ex:=fun b z=>absurd (show b∈([]:List Addr) from z) (by simp)
  refine ⟨⟨e0.mod,S.kind,rfl,rfl,Nat.le_refl _,fun y z c h1 h2=>?_,fun y hy=>?_,fun y c _ h=>?_,fun _=>hd,Around.frames_deeper e0.frames,.inr ⟨rfl,rfl⟩,fun b z=>absurd z (noA b),e0.bs,e0.bsz,fun b _ _=>noA b,fun b z=>absurd z (noA b),e0.funs,e0.frf⟩,
    rfl,e0.bare,Un.kept hk,⟨_,x.toInCall.ns,fun i y v h1 h2 h3=>?_⟩,fun y c h=>⟨_,x.cell y c h⟩,e0.hok.fresh (Nat.le_refl _),fun y c h=>?_,fun p hp=>absurd (show p∈([]:List (Addr × Obj)) from hp) (by simp),e0.hok.kept hk,?_⟩
  · exact name_of_addr x.apart (PySem.mem_of_lookup h1) (PySem.mem_of_lookup h2)
  · have hy:scope.names.lookup y=some .cell\/scope.names.lookup y=some .free:=hy
    rcases hy with hy | hy
    · exact ng hy
    · exact absurd rfl (S.nofree _ (PySem.mem_of_lookup hy))
  · exact Nat.le_of_lt (x.above y c (PySem.mem_of_lookup h))
  · have hi:i < vs.length:=by
      unfold start at h2
      by_cases hi:i < vs.length
      · exact hi
      · rw [List.getElem?_append_right (by simpa using hi)] at h2
        rw [List.getElem?_replicate] at h2
        split at h2<;>cases h2
    have ha:vs[i]? = some v:=by
      unfold start at h2
      rw [List.getElem?_append_left (by simpa using hi),List.getElem?_map] at h2
      cases e:vs[i]? with
      | none=>rw [e] at h2; cases h2
      | some a=>rw [e] at h2; cases h2; rfl
    obtain ⟨u,hu,rv⟩:=r.get ha
    have hp:ps[i]? = some y:=by
      rw [<- S.pre,List.getElem?_take_of_lt (by lia)]; exact h1
    have ndP:ps.Nodup:=by rw [<- S.pre]; exact S.nd.sublist (List.take_sublist _ _)
    refine ⟨u,rv,?_⟩
    rcases S.par y (List.mem_of_getElem? hp) with k | k
    · exact .inl ⟨k,qa ndP hp hu k⟩
    · obtain ⟨c,e⟩:=ng (n:=s.heap.objs.size+1) k
      refine .inr ⟨.inl k,c,e,?_⟩
      have q:=x.cell y c e
      rw [ql ndP hp hu (by show scope.names.lookup y≠_; rw [k]; decide)] at q
      exact q
  · exact e0.hok.fresh (Nat.le_of_lt (x.above y c (PySem.mem_of_lookup h)))
  · unfold start
    show _=N.length
    rw [List.length_append,List.length_map,List.length_replicate]
    lia
theorem wc {CX:iP} {P:Program} {w:World} {K:PySem.W.Frag} {mg:Str->Option Value} {base:Heap} {k:Nat} {f:Addr} {name qual:Str} {params:Arguments} {body:List Stmt} {scope:Scope} {dV kV doc pm cdv ct oc:Value} {an od:Option Addr}
    {osl:Array (Option Value)} {N ps:List Str} {sp:Sp} (lk:K.lookup f=some ⟨oc,od,.func (PySem.W.fnOf name qual params body scope dV kV doc pm an cdv ct),osl⟩) (hcd:PySem.W.codeIn K cdv qual=true) (S:av N ps scope)
    (len:∀ vs H Q E,sp vs H Q E->vs.length=ps.length)
    (hbody:∀ (A:Around) (outer:List Env) (s:Shared) (H:Hp) (vs:List V) (Q:VK) (E:XK),bK k (A.deeper (envOfC qual scope s.heap.objs.size f cdv))->sp vs H Q E ->
      ∃ t,gP (h9 CX P w K mg base N qual scope f cdv A outer s H E) body t/\t { nx:=fun _ H'=>Q .non H',rt:=Q } (start N vs) H) :
    aH P w K mg base CX (k+1) f (PySem.W.fnOf name qual params body scope dV kV doc pm an cdv ct) ps sp:=by
  refine ⟨len,fun A outer s H args us vs Q E hr e0 hb r hsp=>?_⟩
  have hl:=len _ _ _ _ hsp
  have KX:K.In s.heap:=e0.mod.kin.keeps fun b o e=>(e0.bs b o e).1
  have lim:s.heap.NoLimit:=e0.mod.nolimit.keeps fun b o e=>(e0.bs b o e).1
  have hkind:∀ y∈ps.zip us,scope.names.lookup y.1=some .local\/(scope.names.lookup y.1=some .cell/\((cellsFrom (s.heap.objs.size+1) scope.names []).lookup y.1).isSome=true):=fun ⟨n,v⟩ hy=>by
    rcases S.par n (List.of_mem_zip hy).1 with q | q
    · exact .inl q
    · exact .inr ⟨q,PySem.W.cellsFrom_some _ _ _ (.inl q)⟩
  refine codeAny_call_function hr.depth (KX _ _ lk) rfl S.co S.gen rfl (PySem.W.codeRec_of KX hcd) (hb _ _ _ _ ?_)
  refine wpAny_newFunctionEnv_cells S.kind hkind fun env he s1 x=>?_
  subst he
  refine ⟨lim.keeps x.toInCall.keep,codeAny_func ?_⟩
  obtain ⟨t,ht,hq⟩:=hbody A outer s H vs Q E (hr.deeper _) hsp
  have I:Inv (h9 CX P w K mg base N qual scope f cdv A outer s H E) [] (start N vs) H s1:=wk S hr.hd e0 hl r x
  refine wpAny_mono (ht [] s1 (start N vs) H _ I hq) (fun fl s' hs=>?_) fun e s' hs=>hs
  have fin:∀ {σ':St} {H':Hp} {v:V} {u:Value},Inv (h9 CX P w K mg base N qual scope f cdv A outer s H E) [] σ' H' s'->RelV v u->Q v H'->CE outer P w H s Q u s' :=
    fun {σ' H' v u} J rv q=>⟨v,H',J.os,J.bare,J.base,J.hok,rv,q⟩
  cases fl with
  | ret u =>
    obtain ⟨v,σ',H',J,rv,q⟩:=hs
    exact fin J rv q
  | next =>
    obtain ⟨σ',H',J,q⟩:=hs
    exact fin (v:=V.non) (u:=Value.none) J rfl q
  | brk =>
    obtain ⟨_,_,_,q⟩:=hs
    exact False.elim q
  | cont =>
    obtain ⟨_,_,_,q⟩:=hs
    exact False.elim q
end L2
namespace L2
open PySem PySem.Spec PyProof.Rows
section
variable {X:Cx} {x:Str} {p pos:Pos} {e:Expr} {es:List Expr} {t:TA} {id T:String} {r:List V->Hp->VK->Prop}
noncomputable def CI (r:List V->Hp->VK->Prop) (t:TA):TE:=fun σ H Q=>t σ H fun vs H1=>r vs H1 Q
theorem br (hc:jk X (.builtin id) r) (hg:Gl X x) (hm:X.mg x=none) (hv:bootBuiltins x=some (.builtin id)) (ha:PA X (e::es) t) (hn:x≠"__name__":=by decide) (hdb:(x == ("__debug__" : Str))=false:=by decide)
    (he:starEach (e::es) X.env=(false,eval e X.env)::starEach es X.env:=by rfl) (hpl:(backTo pos (starEach es X.env)).any (·.1)=false:=by rfl):PE X (.Call (.Name x p) (e::es) [] pos) (CI r t):=by
  intro pins s σ H Q I h
  refine wpAny_Call_Name_kw (oa I hg hm hv ?_ hn hdb)
  exact PyProof.Rows.callWith_builtin1 (aL (ha pos pins s σ H _ I h) fun us s1 ⟨vs,H1,I1,r1,q1⟩=>hc pins s1 σ H1 vs us Q I1 r1 q1) he hpl
theorem qd (hc:jk X (.type T) r) (hg:Gl X x) (hm:X.mg x=none) (hv:bootBuiltins x=some (.type T)) (ha:PA X (e::es) t) (hn:x≠"__name__":=by decide) (hdb:(x == ("__debug__" : Str))=false:=by decide)
    (he:starEach (e::es) X.env=(false,eval e X.env)::starEach es X.env:=by rfl) (hpl:(backTo pos (starEach es X.env)).any (·.1)=false:=by rfl):PE X (.Call (.Name x p) (e::es) [] pos) (CI r t):=by
  intro pins s σ H Q I h
  refine wpAny_Call_Name_kw (oa I hg hm hv ?_ hn hdb)
  exact PyProof.Rows.callWith_type1 (aL (ha pos pins s σ H _ I h) fun us s1 ⟨vs,H1,I1,r1,q1⟩=>hc pins s1 σ H1 vs us Q I1 r1 q1) he hpl
end
end L2
namespace HT
open PySem PyProof.Rows
section
open PySem.SeqAt
open PySem.AutoSeq1 (wpAny_loadPart')
open PySem.MeetsSeq PySem.MeetsSeq2 PySem.MeetsSeq3
end
section
variable {prog:Program} {w:World} {A:Around} {E:Value->Shared->Prop} {s:Shared}
noncomputable def sIx (n d:Nat):Option Int->Nat
  | none=>d
  | some v=>if v < 0 then (v+(n:Int)).toNat else min v.toNat n
theorem sIx_none (n d:Nat):sIx n d none=d:=rfl
end
end HT
namespace L2
open PySem PySem.Spec PyProof.Rows
noncomputable abbrev TO:=St->Hp->(Option Int->Hp->Prop)->Prop
def PO (X:Cx) (e:Option Expr) (t:TO):Prop :=
  ∀ (pins:List (Addr × Obj)) (s:Shared) (σ:St) (H:Hp) (Q:Option Int->Hp->Prop),Inv X pins σ H s->t σ H Q ->
    wpAny (model X.prog X.w) X.A (evalPart e X.env) (fun u s'=>∃ o H',Inv X pins σ H' s'/\IsPart u o/\Q o H') X.xe s
noncomputable def yS:TO:=fun _ H Q=>Q none H
noncomputable def Cc (t:TE):TO:=fun σ H Q=>t σ H fun x H1=>∃ i,x = .int i/\Q (some i) H1
section
variable {X:Cx} {e:Expr} {te:TE} {lo hi:Option Expr} {tl th:TO} {pos p2:Pos}
theorem gx:PO X none yS:=by
  intro pins s σ H Q I h
  rw [evalPart_none]
  exact wpAny_pure ⟨none,H,I,.none,h⟩
theorem gv (h:PE X e te):PO X (some e) (Cc te):=by
  intro pins s σ H Q I hw
  rw [evalPart_some]
  refine aL (h pins s σ H _ I hw) fun u s1 ⟨x,H1,I1,r1,q1⟩=>?_
  obtain ⟨i,rfl,q⟩:=q1
  obtain ⟨t,rfl⟩:=r1
  exact ⟨some i,H1,I1,.int i t,q⟩
def AS (X:Cx) (r:V->Option Int->Option Int->Hp->VK->Prop):Prop :=
  ∀ (pins:List (Addr × Obj)) (s:Shared) (σ:St) (H:Hp) (x:V) (v vl vu:Value) (lo hi:Option Int) (sl:Addr) (Q:VK),Inv X pins σ H s->RelV x v->s.heap.IsSliceOf sl vl vu .none->IsPart vl lo->IsPart vu hi->r x lo hi H Q ->
    ∃ T id,typeLookup (.type T) "__getitem__" = pure (some (.builtin id))/\s.TypeIs v T/\wpAny (model X.prog X.w) X.A (getItem v (.ref sl)) (EP X pins σ Q) X.xe s
noncomputable def Dq (r:V->Option Int->Option Int->Hp->VK->Prop) (te:TE) (tl th:TO):TE:=fun σ H Q=>te σ H fun x H1=>tl σ H1 fun l H2=>th σ H2 fun u H3=>r x l u H3 Q
theorem fj {r:V->Option Int->Option Int->Hp->VK->Prop} (hr:AS X r) (he:PE X e te) (hl:PO X lo tl) (hu:PO X hi th):PE X (.Subscript e (.Slice lo hi none p2) pos) (Dq r te tl th):=by
  intro pins s σ H Q I h
  refine Subscript_ (aL (he pins s σ H _ I h) fun v s1 ⟨x,H1,I1,r1,q1⟩=>?_)
  refine wpAny_Slice (aL (hl pins s1 σ H1 _ I1 q1) fun vl s2 ⟨l,H2,I2,pl,q2⟩=>aL (hu pins s2 σ H2 _ I2 q2) fun vu s3 ⟨u,H3,I3,pu,q3⟩=>?_)
  rw [evalPart_none]
  refine wpAny_pure ?_
  have I4:Inv X pins σ H3 { s3 with heap:=s3.heap.push { cls:=.type "slice",data:=.fields #[vl,vu,.none] } }:=I3.kept (t':=s3.toks) fun b ob q=>Heap.get?_push_of_some _ q
  obtain ⟨T,id,hT,ht,hg⟩:=hr pins { s3 with heap:=s3.heap.push { cls:=.type "slice",data:=.fields #[vl,vu,.none] } } σ H3 x v vl vu l u s3.heap.objs.size Q I4 r1 (Heap.IsSliceOf.new ..) pl pu q3
  show wpAny (model X.prog X.w) X.A (subscriptTail e (.Slice lo hi none p2) v (.ref s3.heap.objs.size)) (EP X pins σ Q) X.xe { s3 with heap:=s3.heap.push { cls:=.type "slice",data:=.fields #[vl,vu,.none] } }
  exact tail_any (ops:=[.ref s3.heap.objs.size,v]) ht hT hg (by with_unfolding_all rfl)
noncomputable def gR (xs:List V) (lo hi:Option Int):List V:=(xs.drop (HT.sIx xs.length 0 lo)).take (HT.sIx xs.length xs.length hi - HT.sIx xs.length 0 lo)
theorem tS (xs:List V) (lo hi:Option Int):(gR xs lo hi).length<=xs.length:=by
  unfold gR
  rw [List.length_take,List.length_drop]
  lia
end
end L2
namespace L2
open PySem PySem.Spec PyProof.Rows
noncomputable def oB (n:Nat) (i:Int):Option Nat:=if 0<=i then (if i < n then some i.toNat else none) else if -(n:Int)<=i then some (i+n).toNat else none
noncomputable def iy {α:Type} (xs:List α) (i:Int):Option α:=(oB xs.length i).bind fun j=>xs[j]?
theorem t8 {n:Nat} {i:Int} {j:Nat} (h:oB n i=some j):seqIndex? i n=some j/\j < n/\-(n:Int)<=i/\i < n:=by
  unfold oB at h
  by_cases h0:0<=i
  · rw [if_pos h0] at h
    by_cases h1:i < n
    · rw [if_pos h1] at h
      have e:i.toNat=j:=Option.some.inj h
      exact ⟨by rw [seqIndex_of h0 h1,e],by lia,by lia,h1⟩
    · rw [if_neg h1] at h; cases h
  · rw [if_neg h0] at h
    by_cases h1 : -(n:Int)<=i
    · rw [if_pos h1] at h
      have e:(i+n).toNat=j:=Option.some.inj h
      exact ⟨by rw [seqIndex_neg (by lia) h1,e],by lia,h1,by lia⟩
    · rw [if_neg h1] at h; cases h
theorem o9 {α:Type} {xs:List α} {i:Int} {v:α} (h:iy xs i=some v):∃ j,seqIndex? i xs.length=some j/\xs[j]? = some v/\j < xs.length/\-(xs.length:Int)<=i/\i < xs.length:=by
  unfold iy at h
  cases e:oB xs.length i with
  | none=>rw [e] at h; cases h
  | some j =>
    rw [e] at h
    obtain ⟨h1,h2,h3,h4⟩:=t8 e
    exact ⟨j,h1,h,h2,h3,h4⟩
theorem hW {α:Type} {xs:List α} {j:Nat} {v:α} (h:xs[j]? = some v):iy xs (j:Int)=some v:=by
  have hj:j < xs.length:=(List.getElem?_eq_some_iff.mp h).1
  have e:oB xs.length (j:Int)=some j:=by
    unfold oB
    rw [if_pos (by lia),if_pos (by lia)]; simp
  unfold iy; rw [e]; exact h
def yK (b:Expr):Prop:=∀ o i,subscripted b false o i=operate [o,i] (getItem o i)
def xq (X:Cx) (r:R2):Prop :=
  ∀ (value slice:Expr) (pins:List (Addr × Obj)) (s:Shared) (σ:St) (H:Hp) (x y:V) (v u:Value) (Q:VK),Inv X pins σ H s->RelV x v->RelV y u->r x y H Q ->
    subscripted slice false v u=operate [v,u] (getItem v u)->wpAny (model X.prog X.w) X.A (subscriptTail value slice v u) (EP X pins σ Q) X.xe s
def Du (X:Cx) (id:String) (r:V->List V->Hp->VK->Prop):Prop :=
  ∀ (pins:List (Addr × Obj)) (s:Shared) (σ:St) (H:Hp) (x:V) (xs:List V) (v:Value) (us:List Value) (Q:VK),Inv X pins σ H s->RelV x v->Vals xs us->r x xs H Q ->
    wpAny (model X.prog X.w) X.A (call (.builtin id) (v::us)) (EP X pins σ Q) X.xe s
section
variable {X:Cx} {a b:Expr} {ta tb:TE} {pos:Pos}
theorem bH {r:R2} (hr:xq X r) (ha:PE X a ta) (hb:PE X b tb) (hs:yK b):PE X (.Subscript a b pos) (yB r ta tb):=by
  intro pins s σ H Q I h
  exact Subscript_ (xR ha hb I h fun v u s2 x y H2 I2 rx ry q=>hr a b pins s2 σ H2 x y v u Q I2 rx ry q (hs _ _))
noncomputable def CZ (K:PySem.W.Frag):R2:=fun x y H Q=>∃ p xs i v,x = .ref p/\y = .int i/\aI K H p xs/\iy xs i=some v/\Q v H
noncomputable def Bh (K:PySem.W.Frag):R2:=fun x y H Q=>∃ p xs i v,x = .ref p/\y = .int i/\fZ K H p xs/\iy xs i=some v/\Q v H
noncomputable def C1:R2:=fun x y H Q=>∃ z i c,x = .str z/\y = .int i/\z.length<=sizeLine/\iy z.cps.toList i=some c/\Q (.str ⟨#[c]⟩) H
theorem bL:xq X (CZ X.K):=by
  intro value slice pins s σ H x y v u Q I rx ry h hs
  obtain ⟨p,xs,i,z,rfl,rfl,hq,he,q⟩:=h
  cases rx
  obtain ⟨t,rfl⟩:=ry
  obtain ⟨its,r,pl,hz⟩:=I.list hq
  obtain ⟨j,h1,h2,h3,h4,h5⟩:=o9 he
  obtain ⟨w,ew,rw'⟩:=r.get h2
  have hl:=r.length
  have hn:=jG
  have fin:EP X pins σ Q w s:=⟨z,H,I,rw',q⟩
  by_cases h0:0<=i
  · have hj:i.toNat=j:=by
      rw [seqIndex_of h0 h5] at h1
      exact Option.some.inj h1
    exact item_listR pl.isList h0 (by lia) (by rw [hj]; simpa using ew) fin hs
  · have hj:(i+(its.toArray.size:Int)).toNat=j:=by
      rw [seqIndex_neg (by lia) h4] at h1
      rw [List.size_toArray,<- hl]
      exact Option.some.inj h1
    exact subscriptTail_builtinR (x:=w) pl.isList.typeIs slot_list_getitem.lookup
      (wpAny_getItem_list_neg (Q:=fun r s'=>r=w/\EP X pins σ Q r s') pl.isList (by lia) (by rw [List.size_toArray]<;>lia) (by lia) (by rw [hj]; simpa using ew) ⟨rfl,fin⟩) hs
theorem ib:xq X (Bh X.K):=by
  intro value slice pins s σ H x y v u Q I rx ry h hs
  obtain ⟨p,xs,i,z,rfl,rfl,hq,he,q⟩:=h
  cases rx
  obtain ⟨t,rfl⟩:=ry
  obtain ⟨its,r,pl,hz⟩:=I.tuple hq
  obtain ⟨j,h1,h2,h3,h4,h5⟩:=o9 he
  obtain ⟨w,ew,rw'⟩:=r.get h2
  have hl:=r.length
  have hn:=jG
  have fin:EP X pins σ Q w s:=⟨z,H,I,rw',q⟩
  exact subscriptTail_builtinR (x:=w) pl.typeIs slot_tuple_getitem.lookup
    (getItem_tuple (j:=j) (Q:=fun r s'=>r=w/\EP X pins σ Q r s') pl (by lia) (by lia) (by rw [List.size_toArray,<- hl]; exact h1) (by simpa using ew) ⟨rfl,fin⟩) hs
theorem zR:xq X C1:=by
  intro value slice pins s σ H x y v u Q I rx ry h hs
  obtain ⟨z,i,c,rfl,rfl,hz,he,q⟩:=h
  obtain ⟨t,rfl⟩:=rx
  obtain ⟨t',rfl⟩:=ry
  obtain ⟨j,h1,h2,h3,h4,h5⟩:=o9 he
  have hl:z.cps.toList.length=z.length:=by simp [Str.length]
  rw [hl] at h1 h4 h5
  have hn:=jG
  exact tail_any (typeIs_str s z t) slot_str_getitem.lookup (getItem_str (c:=c) (by
    have e1:decide (i < -(2 ^ 63:Int))=false:=decide_eq_false (by lia)
    have e2:decide (i ≥ 2 ^ 63)=false:=decide_eq_false (by lia)
    rw [e1,e2,Bool.or_false]) (by rw [h1]; simpa using h2) ⟨.str ⟨#[c]⟩,H,I.tok _,⟨_,rfl⟩,q⟩) hs
theorem uD (its:List Value) (n j:Nat) (u:Value):Obj.mapSeq (·.setIfInBounds j u) { cls:=.type "list",data:=.seq its.toArray n }={ cls:=.type "list",data:=.seq (its.set j u).toArray n }:=by
  simp [Obj.mapSeq]
theorem Inv.lst {pins:List (Addr × Obj)} {σ:St} {H:Hp} {s:Shared} {p:Addr} {xs:List V} (I:Inv X pins σ H s) (h:H p=some (.lst xs)) :
    ∃ (its:List Value) (n:Nat),Vals xs its/\s.heap.get? p=some { cls:=.type "list",data:=.seq its.toArray n }/\xs.length<=sizeLine:=by
  obtain ⟨z,its,n,r,e⟩:=I.hok p _ h
  exact ⟨its,n,r,e,z⟩
theorem Inv.lstUpd {pins:List (Addr × Obj)} {σ:St} {H:Hp} {s:Shared} {p:Addr} {xs ys:List V} {its its':List Value} {n n':Nat} {f:Obj->Obj} (I:Inv X pins σ H s) (h:H p=some (.lst xs))
    (ho:s.heap.get? p=some { cls:=.type "list",data:=.seq its.toArray n }) (hf:f { cls:=.type "list",data:=.seq its.toArray n }={ cls:=.type "list",data:=.seq its'.toArray n' }) (r:Vals ys its') (hz:ys.length<=sizeLine) (t:Nat) :
    Inv X pins σ (upd H p (.lst ys)) { s with heap:=s.heap.update p f,toks:=t }:=by
  have e:(s.heap.update p f).get? p=some { cls:=.type "list",data:=.seq its'.toArray n' }:=by
    rw [Heap.get?_update_self f ho (by rw [hf]<;>rfl),hf]
  refine I.write (x:=p) (e:=p) (by rw [h]; trivial) (.inl rfl) (fun b u hb q=>(Heap.get?_update_other _ _ (Ne.symm hb)).trans q) ⟨_,e⟩ ?_
  exact ⟨hz,its',n',r,e⟩
noncomputable def Cy:V->V->V->Hp->(Hp->Prop)->Prop:=fun o i v H Q=>∃ p xs k j,o = .ref p/\i = .int k/\H p=some (.lst xs)/\oB xs.length k=some j/\Q (upd H p (.lst (xs.set j v)))
theorem set_list:A2 X Cy:=by
  intro pins s σ H o i v ov iv u Q I ro ri rv h
  obtain ⟨p,xs,k,j,rfl,rfl,hp,hj,q⟩:=h
  cases ro
  obtain ⟨t,rfl⟩:=ri
  obtain ⟨its,n,r,ho,hz⟩:=I.lst hp
  obtain ⟨h1,h2,h3,h4⟩:=t8 hj
  have hl:=r.length
  have hn:=jG
  have I':Inv X pins σ (upd H p (.lst (xs.set j v))) { s with heap:=s.heap.update p (Obj.mapSeq (·.setIfInBounds j u)) } :=
    I.lstUpd hp ho (uD its n j u) (r.set rv j) (by rw [List.length_set]; exact hz) s.toks
  by_cases h0:0<=k
  · have hk:k.toNat=j:=by
      rw [seqIndex_of h0 h4] at h1
      exact Option.some.inj h1
    exact PySem.W.ki_setAt ho h0 (by lia) (by rw [List.size_toArray,<- hl]; exact h4) (by rw [hk]; exact ⟨_,I',q⟩)
  · have hk:(k+(its.toArray.size:Int)).toNat=j:=by
      rw [seqIndex_neg (by lia) h3] at h1
      rw [List.size_toArray,<- hl]
      exact Option.some.inj h1
    exact PySem.W.ki_setBack ho (by lia) (by rw [List.size_toArray,<- hl]; exact h3) (by lia) (by rw [hk]; exact ⟨_,I',q⟩)
theorem sR (lo hi:Option Int) (n:Nat):(sliceBounds lo hi none n).1=((HT.sIx n 0 lo:Nat):Int)/\(sliceBounds lo hi none n).2.1=((HT.sIx n n hi:Nat):Int)/\(sliceBounds lo hi none n).2.2=1:=by
  refine ⟨?_,?_,rfl⟩
  · cases lo with
    | none=>simp [sliceBounds,HT.sIx]
    | some i =>
      simp only [sliceBounds,HT.sIx,Option.getD_none,show (1:Int) > 0 by decide,if_true]
      by_cases h:i < 0
      · simp only [h,if_true]<;>lia
      · simp only [h,if_false]<;>lia
  · cases hi with
    | none=>simp [sliceBounds,HT.sIx]
    | some i =>
      simp only [sliceBounds,HT.sIx,Option.getD_none,show (1:Int) > 0 by decide,if_true]
      by_cases h:i < 0
      · simp only [h,if_true]<;>lia
      · simp only [h,if_false]<;>lia
theorem qq (its:List Value) (lo hi:Option Int):slicePick its.toArray lo hi none=((its.drop (HT.sIx its.length 0 lo)).take (HT.sIx its.length its.length hi - HT.sIx its.length 0 lo)).toArray:=by
  obtain ⟨h1,h2,h3⟩:=sR lo hi its.toArray.size
  unfold slicePick
  rw [h1,h2,h3]
  simp only [sliceRange_one,pick_run,List.size_toArray]<;>rfl
noncomputable def C3 (K:PySem.W.Frag):V->Option Int->Option Int->Hp->VK->Prop:=fun x lo hi H Q=>∃ a xs,x = .ref a/\aI K H a xs/\∀ p,H p=none->Q (.ref p) (upd H p (.lst (gR xs lo hi)))
theorem mF:AS X (C3 X.K):=by
  intro pins s σ H x v vl vu lo hi sl Q I rx hs pl pu h
  obtain ⟨a,xs,rfl,hx,q⟩:=h
  cases rx
  obtain ⟨its,r,ht,hz⟩:=I.list hx
  have hlen:=r.length
  refine ⟨"list",_,slot_list_getitem.lookup,ht.isList.typeIs,?_⟩
  refine wpAny_getItem_list_slice ht.isList hs pl pu .none (by simp) ?_ (by rw [List.size_toArray]<;>lia)
  rw [qq,<- hlen]
  refine ⟨.ref s.heap.objs.size,_,I.laid (t':=s.toks) (o:=.lst (gR xs lo hi)) (fun b ob q=>Heap.get?_push_of_some _ q) (Nat.le_refl _) ?_,rfl,q _ (I.hok.fresh (Nat.le_refl _))⟩
  exact ⟨Nat.le_trans (tS xs lo hi) hz,_,0,(r.drop (HT.sIx xs.length 0 lo)).take (HT.sIx xs.length xs.length hi - HT.sIx xs.length 0 lo),Heap.get?_push_size _ rfl⟩
noncomputable def ie:V->Bool
  | .non=>true
  | .bl _=>true
  | .int _=>true
  | .str _=>true
  | _=>false
noncomputable def gQ:V->V->Bool
  | .non,.non=>true
  | .bl a,.bl b=>a == b
  | .bl a,.int b=>(if a then 1 else 0) == b
  | .int a,.bl b=>a == (if b then 1 else 0)
  | .int a,.int b=>a == b
  | .str a,.str b=>a == b
  | _,_=>false
theorem xv {A:Around} {s:Shared} {y x:V} {u v:Value} (ry:RelV y u) (rx:RelV x v) (fy:ie y=true) (fx:ie x=true):SeqAt.EqAt A s u v (gQ y x):=by
  cases y with
  | non =>
    cases ry
    cases x with
    | non=>cases rx; exact SeqAt.EqAt.same _
    | bl b=>cases rx; exact SeqAt.EqAt.none_bool b
    | int b=>obtain ⟨t,rfl⟩:=rx; exact SeqAt.EqAt.none_int b t
    | str b=>obtain ⟨t,rfl⟩:=rx; exact SeqAt.EqAt.none_str b t
    | _=>exact absurd (show false=true from fx) Bool.false_ne_true
  | bl a =>
    cases ry
    cases x with
    | non=>cases rx; exact SeqAt.EqAt.bool_none a
    | bl b=>cases rx; exact SeqAt.EqAt.bool_bool a b
    | int b=>obtain ⟨t,rfl⟩:=rx; exact SeqAt.EqAt.bool_int a b t
    | str b=>obtain ⟨t,rfl⟩:=rx; exact SeqAt.EqAt.bool_str a b t
    | _=>exact absurd (show false=true from fx) Bool.false_ne_true
  | int a =>
    obtain ⟨t',rfl⟩:=ry
    cases x with
    | non=>cases rx; exact SeqAt.EqAt.int_none a t'
    | bl b=>cases rx; exact SeqAt.EqAt.int_bool a t' b
    | int b=>obtain ⟨t,rfl⟩:=rx; exact SeqAt.EqAt.int_int a t' b t
    | str b=>obtain ⟨t,rfl⟩:=rx; exact SeqAt.EqAt.int_str a t' b t
    | _=>exact absurd (show false=true from fx) Bool.false_ne_true
  | str a =>
    obtain ⟨t',rfl⟩:=ry
    cases x with
    | non=>cases rx; exact SeqAt.EqAt.str_none a t'
    | bl b=>cases rx; exact SeqAt.EqAt.str_bool a t' b
    | int b=>obtain ⟨t,rfl⟩:=rx; exact SeqAt.EqAt.str_int a t' b t
    | str b=>obtain ⟨t,rfl⟩:=rx; exact SeqAt.EqAt.str_str a t' b t
    | _=>exact absurd (show false=true from fx) Bool.false_ne_true
  | _=>exact absurd (show false=true from fy) Bool.false_ne_true
noncomputable def oj (x:V) (u:Value):Bool:=match u with
  | .none=>gQ .non x
  | .bool b=>gQ (.bl b) x
  | .int i _=>gQ (.int i) x
  | .str z _=>gQ (.str z) x
  | _=>false
theorem wt {x y:V} {u:Value} (r:RelV y u) (f:ie y=true):oj x u=gQ y x:=by
  cases y with
  | non=>cases r; rfl
  | bl b=>cases r; rfl
  | int i=>obtain ⟨t,rfl⟩:=r; rfl
  | str z=>obtain ⟨t,rfl⟩:=r; rfl
  | _=>exact absurd (show false=true from f) Bool.false_ne_true
theorem pb {x:V}:∀ {xs:List V} {us:List Value},Vals xs us->xs.all ie=true->us.any (oj x)=xs.any fun y=>gQ y x
  | _,_,.nil,_=>rfl
  | y::xs,u::us,.cons r t,f=>by
    rw [List.all_cons,Bool.and_eq_true] at f
    rw [List.any_cons,List.any_cons,wt r f.1,pb t f.2]
theorem mW {A:Around} {s:Shared} {x:V} {v:Value} (rx:RelV x v) (fx:ie x=true):∀ {xs:List V} {us:List Value},Vals xs us->xs.all ie=true->∀ u∈us,SeqAt.EqAt A s u v (oj x u)
  | _,_,.nil,_=>fun u hu=>by cases hu
  | y::xs,u::us,.cons r t,f=>fun u' hu=>by
    rw [List.all_cons,Bool.and_eq_true] at f
    rcases List.mem_cons.mp hu with rfl | hu
    · rw [wt r f.1]; exact xv r rx f.1 fx
    · exact mW rx fx t f.2 u' hu
noncomputable def wJ (x:V) (xs:List V):Bool:=xs.any fun y=>gQ y x
noncomputable def CS (K:PySem.W.Frag) (neg:Bool):R2:=fun x y H Q=>∃ p xs,y = .ref p/\(aI K H p xs\/fZ K H p xs)/\ie x=true/\xs.all ie=true/\Q (.bl (if neg then !wJ x xs else wJ x xs)) H
theorem qc:iq X (compareOp .In) (CS X.K false):=by
  intro pins s σ H x y v u Q I rx ry h
  obtain ⟨p,xs,rfl,hq,fx,fs,q⟩:=h
  cases ry
  rcases hq with hq | hq
  · obtain ⟨its,r,pl,hz⟩:=I.list hq
    refine SeqAt.in_listAt (oj x) pl.isList (fun w hw=>mW rx fx r fs w (by simpa using hw)) ⟨.bl _,H,I,rfl,?_⟩
    rw [show its.toArray.any (oj x)=its.any (oj x) by simp,pb r fs]
    exact q
  · obtain ⟨its,r,pl,hz⟩:=I.tuple hq
    refine SeqAt.in_tupleAt (oj x) pl (fun w hw=>mW rx fx r fs w (by simpa using hw)) ⟨.bl _,H,I,rfl,?_⟩
    rw [show its.toArray.any (oj x)=its.any (oj x) by simp,pb r fs]
    exact q
theorem ej:jk X (.builtin "len") (fun xs H Q=>∃ p ys,xs=[.ref p]/\(aI X.K H p ys\/fZ X.K H p ys)/\Q (.int ys.length) H):=by
  intro pins s σ H xs us Q I r h
  obtain ⟨p,ys,rfl,hq,q⟩:=h
  obtain ⟨u,rfl,rx⟩:=vals1 r
  cases rx
  have hn:=jG
  rcases hq with hq | hq
  · obtain ⟨its,r',pl,hz⟩:=I.list hq
    have hlen:=r'.length
    exact Calls.call_len_list pl.isList (by simp only [List.size_toArray]<;>lia) ⟨.int ys.length,H,I.tok _,⟨s.toks+1,by rw [List.size_toArray,hlen]⟩,q⟩
  · obtain ⟨its,r',pl,hz⟩:=I.tuple hq
    have hlen:=r'.length
    exact len_tuple pl (by simp only [List.size_toArray]<;>lia) ⟨.int ys.length,H,I.tok _,⟨s.toks+1,by rw [List.size_toArray,hlen]⟩,q⟩
theorem kL:jk X (.builtin "len") (fun xs H Q=>∃ z,xs=[.str z]/\z.length<=sizeLine/\Q (.int z.length) H):=by
  intro pins s σ H xs us Q I r h
  obtain ⟨z,rfl,hz,q⟩:=h
  obtain ⟨u,rfl,t,rfl⟩:=vals1 r
  have hn:=jG
  exact len_str (by lia) ⟨.int z.length,H,I.tok _,⟨_,rfl⟩,q⟩
theorem rV:jk X (.type "list") (fun xs H Q=>∃ p ys,xs=[.ref p]/\(aI X.K H p ys\/fZ X.K H p ys)/\∀ l,H l=none->Q (.ref l) (upd H l (.lst ys))):=by
  intro pins s σ H xs us Q I r h
  obtain ⟨p,ys,rfl,hq,q⟩:=h
  obtain ⟨u,rfl,rx⟩:=vals1 r
  cases rx
  have fin:∀ (its:List Value),Vals ys its->ys.length<=sizeLine->∀ (h':Heap) (c':Nat),(∀ b o',s.heap.get? b=some o'->h'.get? b=some o') ->
      h'.get? s.heap.objs.size=some { cls:=.type "list",dict:=none,data:=.seq its.toArray c',slots:=#[] }->EP X pins σ Q (.ref s.heap.objs.size) { s with heap:=h' }:=fun its r' hz h' c' kp e =>
    ⟨.ref s.heap.objs.size,_,I.laid (t':=s.toks) kp (Nat.le_refl _) (show bg X.prog X.w _ h' _ (.lst ys) from ⟨hz,its,c',r',e⟩),rfl,q _ (I.hok.fresh (Nat.le_refl _))⟩
  rcases hq with hq | hq
  · obtain ⟨its,r',pl,hz⟩:=I.list hq
    have hlen:=r'.length
    obtain ⟨o,ho,hc,n,hd⟩:=pl.isList
    exact call_list_seq p (.inl rfl) ho hc hd (fun h' c' kp e=>fin its r' hz h' c' kp e) (by simp only [List.size_toArray]<;>lia)
  · obtain ⟨its,r',pl,hz⟩:=I.tuple hq
    have hlen:=r'.length
    obtain ⟨o,ho,hc,n,hd⟩:=pl
    exact call_list_seq p (.inr rfl) ho hc hd (fun h' c' kp e=>fin its r' hz h' c' kp e) (by simp only [List.size_toArray]<;>lia)
def CM (K:PySem.W.Frag) (T:String) (x:V) (H:Hp):Prop:=match x with
  | .str _=>T = "str"
  | .int _=>T = "int"
  | .ref p=>(T = "list"/\∃ xs,aI K H p xs)\/(T = "tuple"/\∃ o,K.lookup p=some o/\o.cls = .type "tuple"/\o.dict=none) \/
      (T = "dict"/\((∃ kvs,H p=some (.dK kvs))\/∃ kvs,H p=some (.dT kvs)))\/(T = "set"/\∃ S n,H p=some (.set S n))
  | _=>False
theorem zV {pins:List (Addr × Obj)} {σ:St} {H:Hp} {s:Shared} {T:String} {x:V} {v:Value} (I:Inv X pins σ H s) (r:RelV x v) (ty:CM X.K T x H) :
    s.TypeIs v T/\∀ a,v = .ref a->∃ ob,s.heap.get? a=some ob/\ob.dict=none:=by
  cases x with
  | str z =>
    obtain ⟨t,rfl⟩:=r
    cases (show T = "str" from ty)
    exact ⟨typeIs_str s z t,fun _ e=>nomatch e⟩
  | int i =>
    obtain ⟨t,rfl⟩:=r
    cases (show T = "int" from ty)
    exact ⟨typeIs_int s i t,fun _ e=>nomatch e⟩
  | ref p =>
    cases r
    rcases ty with ⟨rfl,xs,hq⟩ | ⟨rfl,o,hk,hc,hd⟩ | ⟨rfl,hk⟩ | ⟨rfl,S,n,hk⟩
    · obtain ⟨its,_,pl,_⟩:=I.list hq
      refine ⟨pl.isList.typeIs,fun a e=>?_⟩
      cases e
      obtain ⟨o,n,e,c,hd,_⟩:=pl
      exact ⟨o,e,hd⟩
    · refine ⟨⟨o,I.kIn p o hk,hc⟩,fun a e=>?_⟩
      cases e
      exact ⟨o,I.kIn _ o hk,hd⟩
    · have z:∃ o,s.heap.get? p=some o/\o.ExactDict:=by
        rcases hk with ⟨kvs,hk⟩ | ⟨kvs,hk⟩
        · obtain ⟨_,_,_,_,o,_,_,e,ex,_⟩:=I.hok p _ hk
          exact ⟨o,e,ex⟩
        · obtain ⟨_,_,_,_,o,_,_,e,ex,_⟩:=I.hok p _ hk
          exact ⟨o,e,ex⟩
      obtain ⟨o,e,ex⟩:=z
      refine ⟨⟨o,e,ex.1⟩,fun a e2=>?_⟩
      cases e2
      exact ⟨o,e,ex.2.1⟩
    · obtain ⟨o,_,_,_,e,ex,_⟩:=I.hok p _ hk
      refine ⟨⟨o,e,ex.1⟩,fun a e2=>?_⟩
      cases e2
      exact ⟨o,e,ex.2.1⟩
  | _=>exact False.elim ty
noncomputable def Dl (K:PySem.W.Frag) (T:String) (r:V->List V->Hp->VK->Prop) (to:TE) (t:TA):TE:=fun σ H Q=>to σ H fun x H1=>CM K T x H1/\t σ H1 fun xs H2=>r x xs H2 Q
variable {o e:Expr} {es:List Expr} {to:TE} {t:TA} {name:Str} {apos cpos:Pos} {T id:String} {r:V->List V->Hp->VK->Prop}
theorem jR (pa:PlainAttrs T) (slot:Slot T name id) (hty:typeOf (.builtin id)=pure (.type "method_descriptor")) (hm:Du X id r) (ho:PE X o to) (ha:PA X (e::es) t)
    (hbase:attributeBase o name X.env (eval o X.env)=eval o X.env:=by rfl)
    (hfew:((backTo cpos (starEach (e::es) X.env)).all (fun x=>!x.1)&&(backToKw cpos (keywordEach [] X.env)).all (fun x=>x.1.isSome)
      && decide ((e::es).length+([]:List Keyword).length+(if ([]:List Keyword).isEmpty then 0 else 1) < 30))=true:=by rfl)
    (hline:(apos.endLine == cpos.line)=true:=by rfl) (hs:starEach (e::es) X.env=(false,eval e X.env)::starEach es X.env:=by rfl) (hplain:(backTo cpos (starEach es X.env)).any (·.1)=false:=by rfl) :
    PE X (.Call (.Attribute o name apos) (e::es) [] cpos) (Dl X.K T r to t):=by
  intro pins s σ H Q I h
  refine wpAny_Call_method_late hbase hfew hline rfl (aL (ho pins s σ H _ I h) fun v s1 ⟨x,H1,I1,r1,ty,q1⟩=>?_)
  obtain ⟨h1,h2⟩:=zV I1 r1 ty
  refine ⟨T,id,pa,slot,hty,h1,h2,?_⟩
  have hA:=ha cpos pins s1 σ H1 _ I1 q1
  rw [hs] at hA |-
  refine Calls.callWith_builtin (by show (false || (backTo cpos (starEach es X.env)).any (·.1))=false; rw [hplain]<;>rfl) (Calls.evalArgs_plain ?_)
  exact aL hA fun us s2 ⟨vs,H2,I2,r2,q2⟩=>hm pins s2 σ H2 x vs v us Q I2 r1 r2 q2
end
end L2
namespace L2
open PySem PySem.Spec PyProof.Rows
def um (X:Cx) (id:String) (r:V->List V->Hp->VK->Prop):Prop :=
  ∀ (pins:List (Addr × Obj)) (s:Shared) (σ:St) (H:Hp) (x:V) (xs:List V) (v:Value) (us:List Value) (Q:VK),Inv X pins σ H s->RelV x v->Vals xs us->r x xs H Q ->
    wpAny (model X.prog X.w) X.A (call (.builtin id) (v::us)) (EP X pins σ Q) X.xe s
theorem Vals.one:∀ {x:V} {us:List Value},Vals [x] us->∃ u,us=[u]/\RelV x u
  | _,_,.cons r .nil=>⟨_,rfl,r⟩
section
variable {X:Cx} {pins:List (Addr × Obj)} {σ:St} {H:Hp} {s:Shared} {l b:Addr} {xs ys zs:List V}
theorem Inv.lset {its its':List Value} {n:Nat} {f:Array Value->Array Value} {t':Nat} (I:Inv X pins σ H s) (hH:H l=some (.lst xs))
    (e:s.heap.get? l=some { cls:=.type "list",data:=.seq its.toArray n }) (hf:f its.toArray=its'.toArray) (hv:Vals ys its') (hz:ys.length<=sizeLine) :
    Inv X pins σ (upd H l (.lst ys)) { s with heap:=s.heap.update l (Obj.mapSeq f),toks:=t' }:=by
  have q:=PySem.IsL.update e f
  rw [hf] at q
  refine I.write (x:=l) (e:=l) (by rw [hH]; exact trivial) (.inl rfl) (fun b' u hb hu=>(Heap.get?_update_other s.heap (Obj.mapSeq f) (Ne.symm hb)).trans hu) ⟨_,q⟩ ?_
  exact ⟨hz,its',_,hv,q⟩
theorem Inv.lnew {its:List Value} {t':Nat} (I:Inv X pins σ H s) (hv:Vals ys its) (hz:ys.length<=sizeLine) :
    Inv X pins σ (upd H s.heap.objs.size (.lst ys)) { s with heap:=s.heap.push { cls:=.type "list",data:=.seq its.toArray },toks:=t' } :=
  I.laid (fun _ _ q=>Heap.get?_push_of_some _ q) (Nat.le_refl _) ⟨hz,its,0,hv,Heap.get?_push_size _ rfl⟩
theorem Inv.fresh (I:Inv X pins σ H s):H s.heap.objs.size=none:=I.hok.fresh (Nat.le_refl _)
theorem Inv.lstM (I:Inv X pins σ H s) (hH:H l=some (.lst xs)):xs.length<=sizeLine/\∃ (its:List Value) (n:Nat),Vals xs its/\xs.length=its.length/\s.heap.get? l=some { cls:=.type "list",data:=.seq its.toArray n }:=by
  obtain ⟨z,its,n,r,e⟩:=I.hok l _ hH
  exact ⟨z,its,n,r,r.length,e⟩
theorem xK {n:Nat} (h:n<=sizeLine):Builtin.List.listTooLong n=false:=by
  unfold Builtin.List.listTooLong
  exact decide_eq_false (by lia)
end
section
variable {X:Cx}
noncomputable def yU:V->List V->Hp->VK->Prop:=fun x vs H Q=>∃ l xs y,x = .ref l/\vs=[y]/\H l=some (.lst xs)/\xs.length < sizeLine/\Q .non (upd H l (.lst (xs++[y])))
theorem kP:um X "list.append" yU:=by
  intro pins s σ H x vs v us Q I rx rv h
  obtain ⟨l,xs,y,rfl,rfl,hH,hz,q⟩:=h
  cases rx
  obtain ⟨u,rfl,ru⟩:=rv.one
  obtain ⟨z,its,n,r,hl,e⟩:=I.lstM hH
  refine call_meets F.slot_list_append ⟨_,e,rfl⟩ F.entry_list_append (F.args_list_append_2 _ _) (PySem.list_append l its.toArray n u (by rw [List.size_toArray]; lia)) ⟨e,?_⟩
  refine ⟨.non,_,I.lset (its':=its++[u]) hH e (by simp) (r.append (.cons ru .nil)) ?_,rfl,q⟩
  rw [List.length_append,List.length_singleton]
  lia
noncomputable def zj:V->List V->Hp->VK->Prop:=fun x vs H Q=>∃ l b xs zs,x = .ref l/\vs=[.ref b]/\H l=some (.lst xs)/\H b=some (.lst zs)/\xs.length+zs.length<=sizeLine/\Q .non (upd H l (.lst (xs++zs)))
theorem CP:um X "list.extend" zj:=by
  intro pins s σ H x vs v us Q I rx rv h
  obtain ⟨l,b,xs,zs,rfl,rfl,hH,hB,hz,q⟩:=h
  cases rx
  obtain ⟨u,rfl,ru⟩:=rv.one
  cases ru
  obtain ⟨z,its,n,r,hl,e⟩:=I.lstM hH
  obtain ⟨z2,its2,n2,r2,hl2,e2⟩:=I.lstM hB
  have hsz:its.toArray.size+its2.toArray.size<=sizeLine:=by rw [List.size_toArray,List.size_toArray]; lia
  have hlong:¬ (!its.toArray.isEmpty&&Builtin.List.listTooLong (its.toArray.size+its2.toArray.size))=true:=by
    rw [xK hsz,Bool.and_false]
    exact Bool.false_ne_true
  refine call_meets F.slot_list_extend ⟨_,e,rfl⟩ F.entry_list_extend (F.args_list_extend_2 _ _)
    (AutoSeq1.list_extend_list_list_0 l its.toArray n b its2.toArray n2 hlong (by rw [List.size_toArray]; lia) (by lia)) ⟨e,e2,?_⟩
  refine ⟨.non,_,I.lset (its':=its++its2) hH e (by simp) (r.append r2) ?_,rfl,q⟩
  rw [List.length_append]
  lia
noncomputable def Dh:R2:=fun x y H Q=>∃ l b xs zs,x = .ref l/\y = .ref b/\H l=some (.lst xs)/\H b=some (.lst zs)/\xs.length+zs.length<=sizeLine/\∀ p,H p=none->Q (.ref p) (upd H p (.lst (xs++zs)))
theorem fC:iq X (binaryOp .Add) Dh:=by
  intro pins s σ H x y v u Q I rx ry h
  obtain ⟨l,b,xs,zs,rfl,rfl,hH,hB,hz,q⟩:=h
  cases rx
  cases ry
  obtain ⟨z,its,n,r,hl,e⟩:=I.lstM hH
  obtain ⟨z2,its2,n2,r2,hl2,e2⟩:=I.lstM hB
  refine PySem.P.add_list e e2 ?_ (by rw [List.size_toArray,List.size_toArray]; lia)
  have ea:its.toArray++its2.toArray=(its++its2).toArray:=by simp
  rw [ea]
  exact ⟨.ref _,_,I.lnew (t':=s.toks) (r.append r2) (by rw [List.length_append]; lia),rfl,q _ I.fresh⟩
end
section
variable {prog:Program} {w:World} {A:Around} {E:Value->Shared->Prop} {s:Shared}
set_option maxRecDepth 100000 in
end
section
variable {X:Cx}
end
end L2
namespace Att
open PySem PySem.W PySem.Calls PyProof.Rows
theorem nL {P:Params} {h:Heap}:∀ (ns:List Int) (vs:List Value),WellAll P h vs (ns.map WData.int)->IntsAre vs ns:=by
  intro ns
  induction ns with
  | nil =>
    intro vs w
    rw [List.map_nil] at w
    cases w
    exact .nil
  | cons n ns ih =>
    intro vs w
    rw [List.map_cons] at w
    cases w with
    | cons a b =>
      cases a
      exact .cons _ _ (ih _ b)
theorem wu {l:OpenLaw} {n:Nat} (hn:l.most=some n) {P:Params} {h:Heap} {args:List WData} {vals:List Value}
    (hpre:l.row.toRowW.claim.pre args=true) (hwl:WellAll P h vals args) :
    ∃ a vs ns,vals=[Value.ref a]/\args=[WData.list (ns.map WData.int)]/\h.get? a=some { cls:=.type "list",data:=.seq vs.toArray }/\IntsAre vs ns/\ns.length<=n:=by
  have hsh:WShape.hasAll [] args [.list .int]=true:=(pre_splitW hpre).1
  have hc:l.pre.holds [] { args:=args }=true:=(pre_splitW hpre).2
  obtain ⟨d,r,rfl,h1,h2⟩:=hasAllW_cons hsh
  obtain rfl:=hasAllW_nil h2
  obtain ⟨xs,rfl,h3⟩:=hasW_list h1
  obtain ⟨ns,rfl⟩:=items_int h3
  have hlen:ns.length<=n:=by
    unfold OpenLaw.pre at hc
    have h4:(WTm.not (.lt (.lit (.int (n:Int))) (.len (.arg 0)))).holds [] { args:=[.list (ns.map .int)] }=true:=by
      have h4:=(holds_andW hc).1
      rw [hn] at h4
      exact h4
    have h5:=condW_of h4 (w_not (w_lt w_lit (w_len_list (w_arg rfl))))
    rw [List.length_map] at h5
    refine Nat.le_of_not_lt fun q=>?_
    have q':(n:Int) < ((ns.length:Nat):Int):=by lia
    first
      | (rw [decide_eq_true q'] at h5; exact absurd h5 (by decide))
      | (simp at h5; lia)
  cases hwl with
  | cons w1 w2 =>
    cases w2
    cases w1 with
    | list ho hall=>exact ⟨_,_,ns,rfl,rfl,ho,nL ns _ hall,hlen⟩
theorem xp (l:OpenLaw) (args:List WData):l.row.toRowW.claim.post args (.bool true) args=true :=
  postW_of (r:=l.row.toRowW) (X:=(true == true))
    (show WShape.has [] (.bool true) .bool=true by first | rfl | decide | simp [WShape.has,WShape.arms,WShape.armsAll])
    (show (WTm.eq .res (.lit (.bool true))).value [] { args:=args,res:=some (.bool true),after:=args }=some (.bool (true == true)) from w_eq_bool (w_res rfl) w_lit) rfl
theorem attach_call {l:OpenLaw} {n:Nat} {q:Program} {loose:List Str} {XP:(Str->Option Value)->Heap->Prop} {YP:World->Heap->Prop} {d:DefRec}
    (hn:l.most=some n) (hdf:d.params.defaults=[])
    (call:∀ (w:World) (s₀ s₁:Shared) (mg mb:Str->Option Value) (fa:Addr) (o:Obj) (pm cd doc:Value) (a:Addr) (vs:List Value) (ns:List Int),
      Ground q loose [] XP w s₀ mg mb s₁.heap->YP w s₁.heap ->
      s₁.heap.get? fa=some o->o.data = .func (docDef d.name d.params d.body d.scope pm cd doc)->s₁.heap.CodeRec cd d.name->mg d.name=some (.ref fa) ->
      s₁.heap.get? a=some { cls:=.type "list",data:=.seq vs.toArray }->IntsAre vs ns->ns.length<=n->s₁.gens = #[] ->
      codeAny (model l.prog w) callerA (.call (.ref fa) ⟨[.ref a],[]⟩) (fun r s'=>r = .ok (.ret (.bool true))/\OldK s₁.heap s'.heap/\s'.os=s₁.os/\AllBare s'.gens) s₁) :
    WalkO q loose XP YP l.row.toRowW d [] (fun f vs=>PySem.call f vs):=by
  intro w s₀ s₁ mg mb G Y fa o pm cd doc dV kV ho hd hcd hD hmg hg args vals as hpre hlay hrd hwl hlo
  obtain rfl:dV = .none:=Dflts.none hD hdf
  obtain rfl:kV = .none:=Dflts.noKw hD
  obtain ⟨a,vs,ns,rfl,rfl,hobj,hints,hlen⟩:=wu hn hpre hwl
  refine enter_call (codeAny_mono (call w s₀ s₁ mg mb fa o pm cd doc a vs ns G Y ho (fd_plain hd) hcd hmg hobj hints hlen hg) fun r s' hq=>?_)
  obtain ⟨rfl,h2,h3,h4⟩:=hq
  exact ⟨.inl ⟨.bool true,.bool true,[],rfl,fun _=>rfl,.bool true,xp l _,fun _=>⟨List.Pairwise.nil,fun _ hm=>(nomatch hm)⟩⟩,h2,h3,h4⟩
section
variable {prog:Program} {w:World} {A:Around} {E:Value->Shared->Prop} {s:Shared} {K:Frag}
noncomputable def ledger (h:Heap) (L d:Addr):List (Addr × Obj):=(List.range h.objs.size).filterMap fun a=>if a=L\/a=d then none else (h.get? a).map fun o=>(a,o)
end
end Att
namespace L2
open PySem PySem.Spec PyProof.Rows
theorem kE:∀ {vs:List Value} {ns:List Int},IntsAre vs ns->Vals (ns.map V.int) vs
  | _,_,.nil=>.nil
  | _,_,.cons n t h=>.cons ⟨t,rfl⟩ (kE h)
def xE (H:Hp):Prop:=∀ b,H b=none\/∃ o xs,H b=some (.frz o (.lst xs))
theorem yl {P:Program} {w:World} {K:PySem.W.Frag} {mg mb:Str->Option Value} {CX:iP} {k:Nat} {fa a:Addr} {fd:FuncData} {x:Str} {sp:Sp} {s₁:Shared} {vs:List Value} {ns:List Int}
    (KX:K.In s₁.heap) (hns:s₁.heap.Ns mainGlobals mg) (hb:s₁.heap.Ns builtinsNs mb) (hbb:∀ x:Str,x≠"__name__"->mb x=bootBuiltins x) (hlim:s₁.heap.NoLimit) (hg:s₁.gens = #[])
    (ha:s₁.heap.get? a=some { cls:=.type "list",data:=.seq vs.toArray }) (hi:IntsAre vs ns) (hl:ns.length<=sizeLine) (hr:bK k callerA)
    (F:∀ base:Heap,K.In base->base.Ns mainGlobals mg->aH P w K mg base CX k fa fd [x] sp) (hbind:∀ (s:Shared) (u:Value),BindsTo s fd ⟨[u],[]⟩ [(x,u)])
    (hsp:∀ H:Hp,xE H->aI K H a (ns.map V.int)->sp [.ref a] H (fun v _=>v = .bl true) fun _ _ _=>False)
    (hCX:∀ H e s',CX [] H s₁ (fun _ _ _=>False) e s'->False) :
    codeAny (model P w) callerA (.call (.ref fa) ⟨[.ref a],[]⟩) (fun r s'=>r = .ok (.ret (.bool true))/\OldK s₁.heap s'.heap/\s'.os=s₁.os/\AllBare s'.gens) s₁:=by
  have rv:=kE hi
  have lenV:=hi.length
  -- from an abstract heap in which nothing but the script may be tracked
  have core:∀ H:Hp,xE H->aI K H a (ns.map V.int)->cF P w H s₁.heap->(∀ b,H b≠none->b=a)->(H a≠none->K.lookup a=none) ->
      codeAny (model P w) callerA (.call (.ref fa) ⟨[.ref a],[]⟩) (fun r s'=>r = .ok (.ret (.bool true))/\OldK s₁.heap s'.heap/\s'.os=s₁.os/\AllBare s'.gens) s₁:=by
    intro H hO hS hok hA hK
    have base_of:∀ {b:Addr} {o:Obj},s₁.heap.get? b=some o->H b=none->(iF s₁.heap H).get? b=some o:=fun e n=>m9 e n
    have noA:∀ {b:Addr} {o:Obj} {es:Array DictEntry} {ep:Nat},s₁.heap.get? b=some o->o.data = .dict es ep->H b=none:=fun {b o es ep} e d=>by
      cases q:H b with
      | none=>rfl
      | some u =>
        have e':b=a:=hA b (by rw [q]; simp)
        subst e'
        rw [ha] at e; cases e
        have d':Data.seq vs.toArray _=Data.dict es ep:=d
        cases d'
    have nsK:∀ {b:Addr} {m:Str->Option Value},s₁.heap.Ns b m->(iF s₁.heap H).Ns b m:=fun {b m} ⟨o,es,ep,e,d,r⟩=>⟨o,es,ep,base_of e (noA e d),d,r⟩
    have hKb:K.In (iF s₁.heap H):=fun b o e=>base_of (KX b o e) (by
      cases q:H b with
      | none=>rfl
      | some u =>
        have e':b=a:=hA b (by rw [q]; simp)
        subst e'
        rw [hK (by rw [q]; simp)] at e; cases e)
    have hM:Mod K mg (iF s₁.heap H):=⟨hKb,nsK hns,⟨mb,nsK hb,hbb⟩,let ⟨mc,h1,h2⟩:=hlim; ⟨mc,nsK h1,h2⟩⟩
    have e0:kx P w K mg (iF s₁.heap H) callerA [] s₁ H:=⟨rfl,hM,fun b o e=>uo e,Nat.le_of_eq (qh _ _),trivial,fun b hb=>absurd (show b∈([]:List Addr) from hb) (by simp),hok,.of_eq hg⟩
    refine codeAny_mono ((F _ hKb (nsK hns)).run callerA [] s₁ H ⟨[.ref a],[]⟩ [.ref a] [.ref a] _ _ hr e0 (hbind s₁ (.ref a)) (.cons rfl .nil) (hsp H hO hS)) fun r s' h=>?_
    cases r with
    | error e=>exact (hCX H e s' h).elim
    | ok fl =>
      cases fl with
      | next=>exact False.elim h
      | brk=>exact False.elim h
      | cont=>exact False.elim h
      | ret u =>
        obtain ⟨v,H',os,bare,un,hok',r',q⟩:=h
        have q':v = .bl true:=q
        subst q'
        obtain rfl:u=Value.bool true:=r'
        refine ⟨rfl,OldK.of_keep fun b o e=>?_,os,bare⟩
        cases q:H b with
        | none=>exact un.keep b o e q (by intro z; exact absurd (show b∈([]:List Addr) from z) (by simp)) (by simp)
        | some u =>
          rcases hO b with z | ⟨ob,xs,z⟩
          · rw [q] at z; cases z
          · have z2:=un.frzs b ob _ z
            obtain ⟨e1,_⟩:=hok b _ z
            obtain ⟨e2,_⟩:=hok' b _ z2
            rw [e] at e1; cases e1
            exact e2
  cases hk:K.lookup a with
  | some o =>
    -- the script is one of the module's own objects
    have e:=KX a o hk
    rw [ha] at e
    cases e
    refine core (fun _=>none) (fun _=>.inl rfl) (.inr ⟨_,vs.toArray,_,hk,rfl,rfl,rfl,by rw [List.size_toArray,lenV]; exact hl,by simpa using rv⟩) (fun b u z=>by have z':(none:Option HO)=some u:=z; cases z') (fun b z=>absurd rfl z) fun z=>absurd rfl z
  | none =>
    refine core (fun b=>if b=a then some (.frz { cls:=.type "list",data:=.seq vs.toArray } (.lst (ns.map V.int))) else none) (fun b=>?_) (.inl (.inr ⟨{ cls:=.type "list",data:=.seq vs.toArray },if_pos rfl⟩)) (fun b u z=>?_) (fun b z=>?_) fun _=>hk
    · by_cases hb:b=a
      · exact .inr ⟨_,_,if_pos hb⟩
      · exact .inl (if_neg hb)
    · by_cases hb:b=a
      · have z':=(if_pos hb).symm.trans z
        cases z'
        subst hb
        exact ⟨ha,by rw [List.length_map]; exact hl,vs,_,rv,ha⟩
      · have z':=(if_neg hb).symm.trans z
        cases z'
    · by_cases hb:b=a
      · exact hb
      · exact absurd (if_neg hb) z
end L2
namespace L2
open PySem PySem.Spec PyProof.Rows
noncomputable abbrev DB {K:PySem.W.Frag} {h:Heap} (_:K.In h):PySem.W.Frag:=K
theorem Dj {l:W.OpenLaw} {n k:Nat} {q:Program} {loose:List Str} {XP:(Str->Option Value)->Heap->Prop} {YP:World->Heap->Prop} {d:DefRec} {K:Params->W.Frag} {CX:World->iP} {sp:World->Sp} {x:Str}
    (hn:l.most=some n) (hn2:n<=sizeLine) (hdf:d.params.defaults=[]) (hr:bK k callerA)
    (hY:∀ (w:World) (h:Heap),YP w h->(K w.params).In h)
    (F:∀ (w:World) (mg:Str->Option Value) (fa:Addr) (h:Heap),(K w.params).In h->h.Ns mainGlobals mg->mg d.name=some (.ref fa) ->
      ∃ fd:FuncData,(∀ (s:Shared) (u:Value),BindsTo s fd ⟨[u],[]⟩ [(x,u)]) /\
        ∀ base:Heap,(K w.params).In base->base.Ns mainGlobals mg->aH l.prog w (K w.params) mg base (CX w) k fa fd [x] (sp w))
    (hsp:∀ (w:World) (H:Hp) (a:Addr) (ns:List Int),ns.length<=n->xE H->aI (K w.params) H a (ns.map V.int)->sp w [.ref a] H (fun v _=>v = .bl true) fun _ _ _=>False)
    (hCX:∀ (w:World) (H:Hp) (s:Shared) (e:Value) (s':Shared),CX w [] H s (fun _ _ _=>False) e s'->False) :
    W.WalkO q loose XP YP l.row.toRowW d [] (fun f vs=>PySem.call f vs):=by
  refine Att.attach_call hn hdf fun w s₀ s₁ mg mb fa o pm cd doc a vs ns G Y ho hd hcd hmg hobj hints hlen hg=>?_
  have KX:=hY w _ Y
  obtain ⟨fd,hb,hF⟩:=F w mg fa _ KX G.T.g hmg
  exact yl KX G.T.g G.T.b G.T.builtins G.T.nolimit hg hobj hints (Nat.le_trans hlen hn2) hr hF hb (fun H hO hS=>hsp w H a ns hlen hO hS) fun H e s'=>hCX w H s₁ e s'
end L2
namespace L2
open PySem PySem.Spec PyProof.Rows
noncomputable def inClass (s:Stmt) (j:Nat):Stmt:=match s with
  | .ClassDef _ _ _ body _ _ _ _ _ _ _=>body.getD j (.Pass ⟨0,0,0,0⟩)
  | _=>.Pass ⟨0,0,0,0⟩
noncomputable def ag (s:Stmt):Arguments:=match s with
  | .FunctionDef _ a _ _ _ _ _ _ _ _=>a
  | _=>{ posonlyargs:=[],args:=[],vararg:=none,kwonlyargs:=[],kw_defaults:=[],kwarg:=none,defaults:=[] }
noncomputable def ae (s:Stmt):List Stmt:=match s with
  | .FunctionDef _ _ b _ _ _ _ _ _ _=>b
  | _=>[]
noncomputable def aa (s:Stmt):Scope:=match s with
  | .FunctionDef _ _ _ _ _ _ sc _ _ _=>sc
  | _=>{ kind:=.function,names:=[],isGenerator:=false,isCoroutine:=false }
noncomputable abbrev bp:iP:=fun _ _ _ _ _ _=>False
noncomputable abbrev E0:XK:=fun _ _ _=>False
structure aW (K:W.Frag) (x qual:Str) (st:Stmt) (f:Addr) (fd:FuncData):Prop where
  ex:∃ (oc:Value) (od:Option Addr) (kV doc pm:Value) (an:Option Addr) (cdv ct:Value) (osl:Array (Option Value)),
    fd=W.fnOf x qual (ag st) (ae st) (aa st) .none kV doc pm an cdv ct/\K.lookup f=some ⟨oc,od,.func fd,osl⟩/\W.codeIn K cdv qual=true
  kp:W.keepIn K (.ref f)=true
section
variable {P:Program} {w:World} {K:W.Frag} {mg:Str->Option Value} {base:Heap}
theorem aW.ok {x qual:Str} {st:Stmt} {f:Addr} {fd:FuncData} {N ps:List Str} {k:Nat} {sp:Sp} (F:aW K x qual st f fd) (S:av N ps (aa st)) (len:∀ vs H Q E,sp vs H Q E->vs.length=ps.length)
    (hbody:∀ (cdv:Value) (A:Around) (outer:List Env) (s:Shared) (H:Hp) (vs:List V) (Q:VK) (E:XK),bK k (A.deeper (envOfC qual (aa st) s.heap.objs.size f cdv))->sp vs H Q E ->
      ∃ t,gP (h9 bp P w K mg base N qual (aa st) f cdv A outer s H E).nox (ae st) t/\t { nx:=fun _ H'=>Q .non H',rt:=Q } (start N vs) H):aH P w K mg base bp (k+1) f fd ps sp:=by
  obtain ⟨oc,od,kV,doc,pm,an,cdv,ct,osl,rfl,lk,hcd⟩:=F.ex
  refine wc lk hcd S len fun A outer s H vs Q E hr hsp=>?_
  obtain ⟨t,h,q⟩:=hbody cdv A outer s H vs Q E hr hsp
  exact ⟨t,h.nox,q⟩
theorem aW.binds {x qual:Str} {st:Stmt} {f:Addr} {fd:FuncData} {ps:List Str} (F:aW K x qual st f fd)
    (h:∀ (kV doc pm:Value) (an:Option Addr) (cdv ct:Value) (us:List Value),us.length=ps.length->bindArgs (W.fnOf x qual (ag st) (ae st) (aa st) .none kV doc pm an cdv ct) ⟨us,[]⟩=pure (ps.zip us)):Binds K fd ps []:=by
  obtain ⟨oc,od,kV,doc,pm,an,cdv,ct,osl,rfl,lk,hcd⟩:=F.ex
  exact .all (h kV doc pm an cdv ct)
theorem aB {x qual:Str} {st:Stmt} {f:Addr} {oc:Value} {od an:Option Addr} {osl:Array (Option Value)} {kV doc pm cdv ct:Value} (l:K.lookup f=some ⟨oc,od,.func (W.fnOf x qual (ag st) (ae st) (aa st) .none kV doc pm an cdv ct),osl⟩)
    (c:W.codeIn K cdv qual=true) (k:W.keepIn K (.ref f)=true):aW K x qual st f (W.fnOf x qual (ag st) (ae st) (aa st) .none kV doc pm an cdv ct):=⟨⟨oc,od,kV,doc,pm,an,cdv,ct,osl,rfl,l,c⟩,k⟩
end
section
variable {X:Cx}
theorem pv (i:Nat) {x:Str} {pos:Pos} (hN:X.N[i]? = some x:=by rfl) (hv:yw X.env.scope x:=by first | exact Or.inl rfl | exact Or.inr (Or.inl rfl) | exact Or.inr (Or.inr rfl)) (hd:(x == ("__debug__" : Str))=false:=by decide)
    (hcd:(x == ("__classdict__" : Str))=false:=by decide):PE X (.Name x pos) (Br i):=zA hN hv hd hcd
end
theorem dn {A B:Prop} (h:B):if false=true then A else B:=by
  rw [if_neg Bool.false_ne_true]
  exact h
theorem g7 {A B:Prop} (h:A):if true=true then A else B:=by
  rw [if_pos rfl]
  exact h
theorem jM {c A B:Prop} [Decidable c] (h1:c->A) (h2:¬ c->B):if c then A else B:=by
  by_cases h:c
  · rw [if_pos h]
    exact h1 h
  · rw [if_neg h]
    exact h2 h
theorem jV {c A B:Prop} [Decidable c] (hc:c) (h:B):if (!decide c)=true then A else B:=by
  rw [decide_eq_true hc]
  exact dn h
def ai (H H':Hp):Prop:=∀ b o,H b=some o->H' b=some o
theorem ai.refl (H:Hp):ai H H:=fun _ _ h=>h
theorem ai.trans {H H1 H2:Hp} (a:ai H H1) (b:ai H1 H2):ai H H2:=fun c o h=>b c o (a c o h)
theorem ai.free {H H':Hp} (e:ai H H') {l:Addr} (h:H' l=Option.none):H l=Option.none:=by
  cases q:H l with
  | none=>rfl
  | some o =>
    rw [e l o q] at h
    cases h
theorem ai.seq {K:W.Frag} {H H':Hp} {a:Addr} {xs:List V} (e:ai H H') (h:aI K H a xs):aI K H' a xs:=by
  rcases h with (h | ⟨o,h⟩) | h
  · exact .inl (.inl (e _ _ h))
  · exact .inl (.inr ⟨o,e _ _ h⟩)
  · exact .inr h
end L2
set_option Elab.async false
set_option linter.all false
set_option maxRecDepth 100000
set_option maxHeartbeats 4000000
namespace L2
open PySem PySem.Spec PyProof.Rows
section
variable {X:Cx}
def Cn (i j:Int):Prop:=0 < j/\j.natAbs.log2 < 9000
theorem g6:iq X (binaryOp .FloorDiv) (rI Cn fun i j=>.int (i / j)):=yI fun i j _ _ _ _ _ hc q=>by
  have h1:(0:Int) < j:=hc.1
  exact floordiv_int (by lia) (by rw [Int.fdiv_eq_ediv_of_nonneg i (by lia)]; exact q) (.inl (PyProof.noPylong_of_log2 hc.2))
theorem iG:jk X (.builtin "isinstance") (fun xs H Q=>∃ x c cv t b,xs=[x,c]/\(∀ u,RelV c u->u=cv)/\iC X.K H x t/\W.kitOne X.K t cv=some b/\Q (.bl b) H):=by
  intro pins s σ H xs us Q I r h
  obtain ⟨x,c,cv,t,b,rfl,hcv,ty,e,q⟩:=h
  obtain ⟨u,w',rfl,r1,r2⟩:=vals2 r
  rw [hcv w' r2]
  exact wF I r1 ty e fun tk=>⟨.bl b,H,I.tok _,rfl,q⟩
theorem og {n:String}:∀ u,RelV (.ty n) u->u=Value.type n:=fun _ h=>h
noncomputable def CT:V->Option Int->Option Int->Hp->VK->Prop:=fun v lo hi H Q=>∃ x,v = .str x/\x.length<=sizeLine/\Q (.str (Txt.slice x lo hi)) H
theorem jB:AS X CT:=by
  intro pins s σ H v vv vl vu lo hi sl Q I rx hs pl pu h
  obtain ⟨x,rfl,hz,q⟩:=h
  obtain ⟨t,rfl⟩:=rx
  refine ⟨"str",_,F.slot_str_getitem.lookup,typeIs_str _ _ _,?_⟩
  have fin:∀ (l u:Option (Int × Tok)),s.heap.IsSlice sl l u none->l.map (·.1)=lo->u.map (·.1)=hi->wpAny (model X.prog X.w) X.A (getItem (.str x t) (.ref sl)) (EP X pins σ Q) X.xe s:=fun l u hsl el eu=>by
    refine wpAny_getItem_str_slice (l:=l) (u:=u) (st:=none) hsl rfl ?_
    subst el eu
    exact post_val_or_str ⟨Nat.le_trans (Txt.slice_le x _ _) hz,fun t' k=>⟨.str (Txt.slice x (l.map (·.1)) (u.map (·.1))),H,I.tok _,⟨t',rfl⟩,q⟩⟩
  cases pl with
  | none =>
    cases pu with
    | none=>exact fin none none hs rfl rfl
    | int j uj=>exact fin none (some (j,uj)) hs rfl rfl
  | int i ui =>
    cases pu with
    | none=>exact fin (some (i,ui)) none hs rfl rfl
    | int j uj=>exact fin (some (i,ui)) (some (j,uj)) hs rfl rfl
end
theorem qz {α β:Type} {l:List α} {f:α->β->Sem (ForInStep β)} (g:β->α->β) (c:β) (h:∀ x∈l,∀ c,f x c=pure (.yield (g c x))) :
    forIn l c f=pure (l.foldl g c):=by
  induction l generalizing c with
  | nil=>rfl
  | cons x l ih =>
    rw [List.forIn_cons,h x List.mem_cons_self,pure_bind]
    exact ih _ fun y hy=>h y (List.mem_cons_of_mem _ hy)
noncomputable def sS (cells:List (Str × Addr)) (names:List (Str × NameKind)) (acc:List (Str × Addr)):List (Str × Addr) :=
  names.foldl (fun cs y=>if y.2 == .free then (y.1,(cells.lookup y.1).getD 0)::cs else cs) acc
theorem oC {scope:Scope} {env:Env} (h:∀ y∈scope.names,y.2 = .free->∃ c,env.cells.lookup y.1=some c):closureFor scope env=pure (sS env.cells scope.names []):=by
  simp only [closureFor]
  rw [qz (fun cs y=>if y.2 == .free then (y.1,(env.cells.lookup y.1).getD 0)::cs else cs) [] fun x hx c=>?_]
  · rfl
  · obtain ⟨n,k⟩:=x
    by_cases hk:k = .free
    · subst hk
      obtain ⟨a,ea⟩:=h (n,.free) hx rfl
      have ea':env.cells.lookup n=some a:=ea
      simp only [beq_self_eq_true,if_true,cellOf,ea',pure_bind,Option.getD_some]
    · have hb:(k == NameKind.free)=false:=by simpa using hk
      simp only [hb,Bool.false_eq_true,if_false]
theorem lookup_mem {α:Type}:∀ {l:List (Str × α)} {x:Str} {c:α},l.lookup x=some c->(x,c)∈l
  | [],_,_,h=>by simp at h
  | (y,d)::r,x,c,h=>by
    rw [List.lookup_cons] at h
    cases hx:x == y with
    | true =>
      rw [hx] at h
      have e:x=y:=by simpa using hx
      subst e
      cases h
      exact List.mem_cons_self
    | false =>
      rw [hx] at h
      exact List.mem_cons_of_mem _ (lookup_mem h)
theorem mem_lookup {α:Type}:∀ {l:List (Str × α)} {x:Str} {c:α},(x,c)∈l->∃ d,l.lookup x=some d
  | [],_,_,h=>by cases h
  | (y,d)::r,x,c,h=>by
    rw [List.lookup_cons]
    cases hx:x == y with
    | true=>exact ⟨d,rfl⟩
    | false =>
      rcases List.mem_cons.mp h with e | h
      · cases e; simp at hx
      · exact mem_lookup h
theorem nE {cells:List (Str × Addr)}:∀ {names:List (Str × NameKind)} {acc:List (Str × Addr)} {p:Str × Addr},p∈sS cells names acc↔p∈acc\/((p.1,NameKind.free)∈names/\p.2=(cells.lookup p.1).getD 0)
  | [],acc,p=>by simp [sS]
  | (n,k)::r,acc,p=>by
    show p∈sS cells r (if k == .free then (n,(cells.lookup n).getD 0)::acc else acc)↔_
    rw [nE (names:=r)]
    by_cases hk:k = .free
    · subst hk
      simp only [beq_self_eq_true,if_true,List.mem_cons]
      constructor
      · rintro ((rfl | h) | h)
        · exact .inr ⟨.inl rfl,rfl⟩
        · exact .inl h
        · exact .inr ⟨.inr h.1,h.2⟩
      · rintro (h | ⟨h | h,e⟩)
        · exact .inl (.inr h)
        · obtain ⟨a,b⟩:=p
          cases h
          exact .inl (.inl (by rw [show b=_ from e]))
        · exact .inr ⟨h,e⟩
    · have hb:(k == NameKind.free)=false:=by simpa using hk
      simp only [hb,Bool.false_eq_true,if_false,List.mem_cons]
      constructor
      · rintro (h | h)
        · exact .inl h
        · exact .inr ⟨.inr h.1,h.2⟩
      · rintro (h | ⟨h | h,e⟩)
        · exact .inl h
        · cases h; exact absurd rfl hk
        · exact .inr ⟨h,e⟩
theorem jm {scope:Scope} {env:Env} {x:Str} {k:NameKind} (h:(relabel scope env).names.lookup x=some k):∃ k',(x,k')∈scope.names/\(k'=k\/(k' = .free/\k = .cell)):=by
  have m:=lookup_mem h
  unfold relabel at m
  obtain ⟨⟨n,k'⟩,hm,e⟩:=List.mem_map.mp m
  dsimp only at e
  split at e
  · rename_i hc
    rw [Bool.and_eq_true,Bool.and_eq_true] at hc
    have e1:n=x:=congrArg Prod.fst e
    have e2:NameKind.cell=k:=congrArg Prod.snd e
    subst e1 e2
    exact ⟨k',hm,.inr ⟨by simpa using hc.1.1,rfl⟩⟩
  · have e1:n=x:=congrArg Prod.fst e
    have e2:k'=k:=congrArg Prod.snd e
    subst e1 e2
    exact ⟨k',hm,.inl rfl⟩
noncomputable def dS (X:Cx) (scope:Scope) (N:List Str) (cl:List (Str × Addr)) (C:Addr) (s:Shared) (H:Hp) (fp:List Addr) (xe:Value->Shared->Prop):Cx :=
  { X with N:=N,s₀:=s,H₀:=H,env:=compEnvC scope cl C X.env,outer:=X.stack,stack:=X.stack,ex:=fp,fn:=fun _=>false,pn:=[],xe:=xe }
inductive iO (X:Cx) (scope:Scope):List Str->List (Option Nat)->Prop where
  | nil:iO X scope [] []
  | own {x:Str} {N:List Str} {ix:List (Option Nat)} (r:iO X scope N ix):iO X scope (x::N) (none::ix)
  | cap {x:Str} {j:Nat} {N:List Str} {ix:List (Option Nat)} (h1:X.N[j]? = some x) (h2:X.env.kindOf x=some .cell) (h3:(relabel scope X.env).names.lookup x=some .cell) (r:iO X scope N ix):iO X scope (x::N) (some j::ix)
noncomputable def iE (ix:List (Option Nat)) (σ:St):St:=ix.map fun o=>match o with
  | none=>none
  | some j=>(σ[j]?).getD none
theorem iO.get {X:Cx} {scope:Scope} {σ:St}:∀ {N:List Str} {ix:List (Option Nat)},iO X scope N ix->∀ (i:Nat) (x:Str) (v:V),N[i]? = some x->(iE ix σ)[i]? = some (some v) ->
    ∃ j:Nat,X.N[j]? = some x/\σ[j]? = some (some v)/\X.env.kindOf x=some .cell/\(relabel scope X.env).names.lookup x=some .cell
  | _,_,.nil,i,x,v,h,_=>by simp at h
  | _,_,.own r,0,x,v,_,h=>by simp [iE] at h
  | _,_,.own r,i+1,x,v,h1,h2=>r.get i x v (by simpa using h1) (by simpa [iE] using h2)
  | _,_,.cap (j:=j) e1 e2 e3 r,0,x,v,h1,h2=>by
    simp at h1
    subst h1
    refine ⟨j,e1,?_,e2,e3⟩
    simp only [iE,List.map_cons,List.getElem?_cons_zero,Option.some.injEq] at h2
    cases q:σ[j]? with
    | none=>rw [q] at h2; cases h2
    | some o=>rw [q] at h2; simp only [Option.getD_some] at h2; rw [h2]
  | _,_,.cap e1 e2 e3 r,i+1,x,v,h1,h2=>r.get i x v (by simpa using h1) (by simpa [iE] using h2)
theorem iO.length {X:Cx} {scope:Scope} {N:List Str} {ix:List (Option Nat)} (h:iO X scope N ix):ix.length=N.length:=by
  induction h with
  | nil=>rfl
  | own _ ih=>simp [ih]
  | cap _ _ _ _ ih=>simp [ih]
def Ext (a b:St):Prop:=b.length=a.length/\∀ (i:Nat) v,a[i]? = some (some v)->b[i]? = some (some v)
theorem Ext.set {a:St} {i:Nat} {v:V} (h:a[i]? = some none):Ext a (a.set i (some v)):=by
  refine ⟨by simp,fun j w e=>?_⟩
  by_cases hj:j=i
  · subst hj; rw [h] at e; cases e
  · rw [List.getElem?_set_ne (Ne.symm hj)]; exact e
def wD (X:Cx) (ifs:List Expr) (t:TT):Prop :=
  ∀ (pins:List (Addr × Obj)) (s:Shared) (σ:St) (H:Hp) (Q:Bool->Hp->Prop),Inv X pins σ H s->t σ H Q ->
    wpAny (model X.prog X.w) X.A (forIn ifs true fun c r=>if r=true then do let ok <- isTrue c X.env (eval c X.env); pure (ForInStep.yield ok) else pure (ForInStep.yield r)) (TP X pins σ Q) X.xe s
noncomputable def yC:TT:=fun _ H Q=>Q true H
theorem zi {X:Cx}:wD X [] yC:=fun pins s σ H Q I h=>wpAny_tests_nil ⟨H,I,h⟩
theorem pB {X:Cx} {c:Expr} {t:TT} (h:PT X c t):wD X [c] t:=fun pins s σ H Q I q=>wpAny_tests_one (h pins s σ H Q I q)
def we (J:It) (g:TG) (tt:TT) (te:TE) (σ0:St) (D:Addr) (Q:VK) (H1:Hp):Prop:=∃ W:Nat->Nat->List V->Hp->Prop,(∃ m,W 0 m [] (upd H1 D (.lst [])))/\∀ i m ys H,W i m ys H ->
  (J.stop i H/\Q (.ref D) H)\/(J.go i H/\∀ x H',J.yld i H x H'->g x σ0 H' fun σ2 H2=>Ext σ0 σ2/\tt σ2 H2 fun b H3 =>
    if b=true then te σ2 H3 fun v H4=>H4 D=some (.lst ys)/\ys.length < sizeLine/\∃ m',m' < m/\W (i+1) m' (ys++[v]) (upd H4 D (.lst (ys++[v]))) else ∃ m',m' < m/\W (i+1) m' ys H3)
noncomputable def vZ (wi:TI) (g:TG) (tt:TT) (te:TE) (ix:List (Option Nat)):TE:=fun σ H Q=>wi σ H fun J H1=>∀ D,H1 D=none->we J g tt te (iE ix σ) D Q H1
section
variable {prog:Program} {w:World} {A:Around} {R:Result->Shared->Prop} {s:Shared}
theorem wX {elt target iter:Expr} {ifs:List Expr} {scope:Scope} {pos:Pos} {it acc:Value} {env:Env} (I:Nat->Shared->Prop)
    (turn:∀ n s,I n s->wpAny (model prog w) A (pyNext it) (fun r s₁=>match r with
      | none=>R (.ok .next) s₁
      | some v=>wpAny (model prog w) A (letOwnedTupleGo target it v) (fun _ s₁'=>wpAny (model prog w) A (assign target env v) (fun _ s₂ =>
          wpAny (model prog w) A (forIn ifs true fun c r=>if r=true then do let ok <- isTrue c env (eval c env); pure (ForInStep.yield ok) else pure (ForInStep.yield r)) (fun ok s₃ =>
            if ok=true then wpAny (model prog w) A (eval elt env) (fun x s₄ =>
              wpAny (model prog w) A (call (.builtin "list.append") [acc,x]) (fun _ s₅=>∃ m,m < n/\I m s₅) (notedBy (model prog w) A env fun e s'=>R (.error e) s') s₄) (notedBy (model prog w) A env fun e s'=>R (.error e) s') s₃
            else ∃ m,m < n/\I m s₃) (notedBy (model prog w) A env fun e s'=>R (.error e) s') s₂) (notedBy (model prog w) A env fun e s'=>R (.error e) s') s₁') (notedBy (model prog w) A env fun e s'=>R (.error e) s') s₁) (notedBy (model prog w) A env fun e s'=>R (.error e) s') s)
    (n:Nat) (h:I n s):codeAny (model prog w) A (.compLoop (.ListComp elt [⟨target,iter,ifs,0⟩] scope pos) 0 it acc env) R s:=by
  refine codeAny_loop rfl I (fun n s hI=>?_) n h
  show wpAny _ A ((compTurn (.ListComp elt [⟨target,iter,ifs,0⟩] scope pos) 0 it acc env).onRaise (fun x=>do noteFrame x env; theTreesLotGoes x)) _ _ s
  refine wpAny_noted ?_
  rw [compTurn_list]
  refine wpAny_bind (wpAny_standAt (wpAny_bind (wpAny_mono (turn n s hI) (fun r s₁ h₁=>?_) fun _ _ h'=>h')))
  cases r with
  | none=>exact wpAny_pure h₁
  | some v =>
    refine wpAny_bind (wpAny_mono h₁ (fun _ s₁' h₁'=>?_) fun _ _ h'=>h')
    refine wpAny_bind (wpAny_mono h₁' (fun _ s₂ h₂=>wpAny_bind (wpAny_mono h₂ (fun ok s₃ h₃=>?_) fun _ _ h'=>h')) fun _ _ h'=>h')
    cases ok with
    | false=>exact wpAny_pure ⟨rfl,h₃⟩
    | true =>
      exact wpAny_bind (wpAny_bind (wpAny_mono h₃ (fun x s₄ h₄=>wpAny_bind (wpAny_mono h₄ (fun _ s₅ h₅=>wpAny_pure (wpAny_pure ⟨rfl,h₅⟩)) fun _ _ h'=>h')) fun _ _ h'=>h'))
end
section
variable {X:Cx}
noncomputable def tH (sc:Scope):Bool:=sc.names.all fun y=>y.2 != .cell
noncomputable def freeOk (sc:Scope) (env:Env):Bool:=sc.names.all fun y=>y.2 != .free || env.kindOf y.1 == some .cell
noncomputable def namesOk (sc:Scope):Bool:=sc.names.all fun y=>y.2 != .local || sc.names.lookup y.1 == some .local
structure jZ (X:Cx) (pins:List (Addr × Obj)) (σ:St) (H:Hp) (C:Addr) (s:Shared):Prop where
  inv:Inv X pins σ H s
  ns:∃ m,s.heap.Ns C m
  free:H C=none
  loc:C≠X.env.locals
  young:X.s₀.heap.objs.size<=C
  cell:∀ x c,X.env.cells.lookup x=some c->c≠C
  pin:∀ p∈X.pn++pins,p.1≠C
theorem jZ.gone {pins:List (Addr × Obj)} {σ:St} {H:Hp} {C:Addr} {s:Shared} (B:jZ X pins σ H C s) {h':Heap} (hs:Heap.SameBut C s.heap h'):Inv X pins σ H { s with heap:=h' } :=
  B.inv.turned (t':=s.toks) (it:=C) (fun b o hb e=>hs.extBut b o hb e) B.free B.loc (.inr B.young) B.cell B.pin
theorem qk {elt tg iter:Expr} {ifs:List Expr} {scope:Scope} {pos pos':Pos} {N:List Str} {ix:List (Option Nat)} {wi:TI} {g:TG} {tt:TT} {te:TE} {use:Option (Value->Sem Unit)} {Qv:Value->Shared->Prop}
    (hc:X.calm=true) (hi:PI X tg iter wi) (hk:scope.kind = .function) (hcell0:tH scope=true) (hfree0:freeOk scope X.env=true) (hnames0:namesOk scope=true) (caps:iO X scope N ix)
    (hg:∀ cl C s H fp xe,PG (dS X scope N cl C s H fp xe) tg g) (ht:∀ cl C s H fp xe,wD (dS X scope N cl C s H fp xe) ifs tt) (he:∀ cl C s H fp xe,PE (dS X scope N cl C s H fp xe) elt te)
    (hs:∀ x,foldedSetIterable iter X.env x=pure x)
    {pins:List (Addr × Obj)} {s:Shared} {σ:St} {H:Hp} {Q:VK} (I:Inv X pins σ H s) (h:vZ wi g tt te ix σ H Q)
    (fin:∀ (C D:Addr) (H6:Hp) (s6:Shared),jZ X pins σ H6 C s6->Q (.ref D) H6->compPost (model X.prog X.w) X.A X.xe use Qv (.ref D) C (.ok .next) s6) :
    wpAny (model X.prog X.w) X.A (comprehension (.ListComp elt [⟨tg,iter,ifs,0⟩] scope pos) scope X.env pos' (newList []) false (eval iter X.env) use) Qv X.xe s:=by
  have hcell:∀ y∈scope.names,y.2≠.cell:=fun y hy e=>by
    have:=List.all_eq_true.mp hcell0 y hy
    rw [e] at this; exact absurd this (by decide)
  have hfree:∀ y∈scope.names,y.2 = .free->X.env.kindOf y.1=some .cell:=fun y hy e=>by
    have:=List.all_eq_true.mp hfree0 y hy
    rw [e] at this; simpa using this
  have hnames:∀ y∈scope.names,y.2 = .local->scope.names.lookup y.1=some .local:=fun y hy e=>by
    have:=List.all_eq_true.mp hnames0 y hy
    rw [e] at this; simpa using this
  have hcl:∀ y∈scope.names,y.2 = .free->∃ c,X.env.cells.lookup y.1=some c:=fun y hy e=>I.ok.has y.1 (.inl (hfree y hy e))
  refine wpAny_comprehension_free (use:=use) rfl hs (oC hcl) hk hnames ?_
  generalize ecl:sS X.env.cells scope.names []=cl
  -- the cells of the block are the def's
  have cl1:∀ x c,cl.lookup x=some c->X.env.cells.lookup x=some c:=fun x c e=>by
    have m:=lookup_mem e
    rw [<- ecl] at m
    rcases nE.mp m with z | ⟨z,z'⟩
    · cases z
    · obtain ⟨a,ea⟩:=hcl _ z rfl
      have ea':X.env.cells.lookup x=some a:=ea
      have z2:c=(X.env.cells.lookup x).getD 0:=z'
      rw [ea',Option.getD_some] at z2
      rw [ea',z2]
  have cl2:∀ x,(x,NameKind.free)∈scope.names->∃ c,cl.lookup x=some c:=fun x hx=>by
    have m:(x,(X.env.cells.lookup x).getD 0)∈cl:=by rw [<- ecl]; exact nE.mpr (.inr ⟨hx,rfl⟩)
    exact mem_lookup m
  refine aL (hi pins s σ H _ I h) fun v s1 h1=>aL h1 fun itv s2 h2=>?_
  obtain ⟨it,fp,tn,J,H2,e,I2,T,st2,f2,body⟩:=h2
  subst e
  refine wpAny_newObj_type (wpAny_newFunctionEnv hcell (by intro y hy; simp at hy) (fun h₁ hns₁ hsb₁=>?_) hk)
  dsimp only at hns₁ hsb₁ |-
  have hD:H2 s2.heap.objs.size=none:=I2.hok.fresh (Nat.le_refl _)
  obtain ⟨W,⟨m0,w0⟩,turn⟩:=body _ hD
  have I3:Inv X pins σ (upd H2 s2.heap.objs.size (.lst [])) { s2 with heap:=s2.heap.push { cls:=.type "list",dict:=none,data:=.seq ([]:List Value).toArray } } :=
    I2.laid (t':=s2.toks) (fun b o e=>Heap.get?_push_of_some _ e) (Nat.le_refl _) ⟨Nat.zero_le _,[],0,.nil,Heap.get?_push_size _ rfl⟩
  generalize hs3:({ s2 with heap:=s2.heap.push { cls:=.type "list",dict:=none,data:=.seq ([]:List Value).toArray } }:Shared)=s3 at I3
  have es3:s2.heap.push { cls:=.type "list",dict:=none,data:=.seq ([]:List Value).toArray }=s3.heap:=by rw [<- hs3]
  rw [es3] at hns₁ hsb₁ |-
  generalize hD':s2.heap.objs.size=D at *
  generalize hH3:upd H2 D (.lst [])=H3 at *
  have szC:s3.heap.objs.size=D+1:=by rw [<- es3,Heap.size_push,hD']
  -- what was,is
  have old:∀ b o,s3.heap.get? b=some o->h₁.get? b=some o:=fun b o e=>hsb₁.extBut b o (Nat.ne_of_lt (Heap.lt_size e)) (Heap.get?_push_of_some _ e)
  have fpl:∀ b∈fp,b < D:=fun b hb=>by
    obtain ⟨o,e,_⟩:=T.obj 0 _ st2 b hb
    rw [<- hD']; exact Heap.lt_size e
  have fpD:∀ b∈fp,H3 b=none:=fun b hb=>by
    rw [<- hH3,aE (Nat.ne_of_lt (fpl b hb))]; exact (f2 b hb).1
  have fstk:∀ b∈fp,b∉bJ X.stack:=fun b hb z=>by
    obtain ⟨_,f1,f3,_⟩:=f2 b hb
    rcases List.mem_cons.mp (I2.stkSub b z) with e | e
    · exact f1 e
    · exact f3 e
  let E':Value->Shared->Prop:=notedBy (model X.prog X.w) X.A (compEnvC scope cl s3.heap.objs.size X.env) fun e s'=>compPost (model X.prog X.w) X.A X.xe use Qv (.ref D) s3.heap.objs.size (.error e) s'
  have ok':(dS X scope N cl s3.heap.objs.size s3 H3 fp E').Ok:=by
    refine { mod:=I.ok.mod,kind:=?_,glob:=I.ok.glob,blt:=I.ok.blt,above:=Nat.le_refl _,inj:=?_,has:=?_,cab:=?_,hd:=I.ok.hd,frames:=I.ok.frames,stk:=.inl rfl,exf:=?_,bs:=I3.bs,bsz:=?_,noex:=?_,exfs:=fstk,funs:=I3.stack,frf:=I3.stkFree }
    · show (relabel scope X.env).kind = .function
      exact hk
    · exact fun x y c e1 e2=>I.ok.inj x y c (cl1 x c e1) (cl1 y c e2)
    · intro x hx
      have hx':(relabel scope X.env).names.lookup x=some .cell\/(relabel scope X.env).names.lookup x=some .free:=hx
      have:(x,NameKind.free)∈scope.names:=by
        rcases hx' with e | e
        · obtain ⟨k',hm,z | ⟨z,_⟩⟩:=jm e
          · subst z; exact absurd rfl (hcell _ hm)
          · subst z; exact hm
        · obtain ⟨k',hm,z | ⟨z,z'⟩⟩:=jm e
          · subst z; exact hm
          · cases z'
      exact cl2 x this
    · intro x c z; cases z
    · intro b hb
      refine ⟨fun z=>?_,fun x c e=>(f2 b hb).2.2.2.2.1 x c (cl1 x c e)⟩
      have lt:=fpl b hb
      have z':b=s3.heap.objs.size:=z
      rw [z',szC] at lt
      exact absurd lt (Nat.not_lt.mpr (Nat.le_succ D))
    · exact Nat.le_trans I3.ok.bsz I3.sz
    · intro b o e hb
      rcases (f2 b hb).2.2.2.1 with z | z
      · exact I.ok.noex b o e z
      · exact absurd (Nat.lt_of_lt_of_le (Heap.lt_size e) (Nat.le_trans I.ok.bsz z)) (Nat.lt_irrefl _)
  have I4:∀ tk,Inv (dS X scope N cl s3.heap.objs.size s3 H3 fp E') [] (iE ix σ) H3 { s3 with heap:=h₁,toks:=tk }:=fun tk=>by
    refine ⟨ok',rfl,I3.bare,Un.kept old,⟨_,hns₁,fun i x v e1 e2 e3=>?_⟩,fun x c e=>?_,?_,fun x c e=>I3.freeC x c (cl1 x c e),fun p hp=>(by cases hp),I3.hok.kept old,?_⟩
    · obtain ⟨j,j1,j2,j3,j4⟩:=caps.get i x v e1 e2
      obtain ⟨m,hn,hl⟩:=I3.loc
      obtain ⟨u,r,l⟩:=hl j x v j1 j2 (.inr (.inl j3))
      refine ⟨u,r,.inr ⟨.inl j4,?_⟩⟩
      rcases l with ⟨l,_⟩ | ⟨_,c,ec,hcell⟩
      · have l':X.env.kindOf x=some .local:=l
        rw [j3] at l'; cases l'
      · obtain ⟨k',hm,z | ⟨z,_⟩⟩:=jm j4
        · subst z; exact absurd rfl (‹∀ y∈scope.names,y.2≠.cell› _ hm)
        · subst z
          obtain ⟨c',ec'⟩:=cl2 x hm
          have:=cl1 x c' ec'
          rw [ec] at this; cases this
          obtain ⟨o,ho,hd⟩:=hcell
          exact ⟨c,ec',o,old _ _ ho,hd⟩
    · obtain ⟨v,o,ho,hd⟩:=I3.cell x c (cl1 x c e)
      exact ⟨v,o,old _ _ ho,hd⟩
    · exact I3.hok.fresh (Nat.le_refl _)
    · show (iE ix σ).length=N.length
      rw [<- caps.length]; simp [iE]
  have st4:tn 0 h₁:=T.keep 0 _ _ st2 fun b hb o e=>old b o (by rw [<- es3]; exact Heap.get?_push_of_some _ e)
  -- the block's end
  have fin6:∀ (s6:Shared) (H6:Hp),Inv (dS X scope N cl s3.heap.objs.size s3 H3 fp E') [] (iE ix σ) H6 s6->Q (.ref D) H6 ->
      compPost (model X.prog X.w) X.A X.xe use Qv (.ref D) s3.heap.objs.size (.ok .next) s6:=fun s6 H6 I6 q=>by
    obtain ⟨m,hn,_⟩:=I6.loc
    refine fin s3.heap.objs.size D H6 s6 ⟨I3.call' (s':=s6) (ch:=fp) I6.os I6.base I6.hok I6.bare ?_,⟨m,hn⟩,I6.free,?_,I3.sz,?_,?_⟩ q
    · intro b hb
      obtain ⟨_,f1,_,f3,f4,f5⟩:=f2 b hb
      exact ⟨f3,f1,f4,f5⟩
    · exact Nat.ne_of_gt I3.lt
    · intro x c e z
      obtain ⟨v,o,ho,_⟩:=I3.cell x c e
      exact absurd (Heap.lt_size ho) (by rw [z]; exact Nat.lt_irrefl _)
    · intro p hp z
      exact absurd (Heap.lt_size (I3.pin p hp).1) (by rw [z]; exact Nat.lt_irrefl _)
  -- the loop
  have loop:∀ s4:Shared,s4={ s3 with heap:=h₁,toks:=s2.toks+([]:List (Str × Value)).length } ->
      codeAny (model X.prog X.w) X.A (.compLoop (.ListComp elt [⟨tg,iter,ifs,0⟩] scope pos) 0 (.ref it) (.ref D) (compEnvC scope cl s3.heap.objs.size X.env)) (compPost (model X.prog X.w) X.A X.xe use Qv (.ref D) s3.heap.objs.size) s4:=by
    rintro s4 rfl
    refine wX (fun n s'=>∃ i ys H',Inv (dS X scope N cl s3.heap.objs.size s3 H3 fp E') [] (iE ix σ) H' s'/\tn i s'.heap/\(∀ b∈fp,H' b=none)/\W i n ys H') ?_ m0 ⟨0,[],H3,I4 _,st4,fpD,w0⟩
    rintro n s5 ⟨i,ys,H5,I5,st5,fr5,w5⟩
    have stat:∀ {H':Hp},(∀ b∈fp,H' b=none)->∀ b∈fp,m5 (dS X scope N cl s3.heap.objs.size s3 H3 fp E') [] H' b:=fun hn b hb=>by
      refine ⟨hn b hb,fun z=>?_,fstk b hb,.inl hb,fun x c e=>(f2 b hb).2.2.2.2.1 x c (cl1 x c e),fun p hp=>(by cases hp)⟩
      have lt:=fpl b hb
      have z':b=s3.heap.objs.size:=z
      rw [z',szC] at lt
      exact absurd lt (Nat.not_lt.mpr (Nat.le_succ D))
    rcases turn i n ys H5 w5 with ⟨stop,q⟩ | ⟨go,step⟩
    · refine aL (T.done (dS X scope N cl s3.heap.objs.size s3 H3 fp E') rfl rfl rfl hc i [] s5 _ H5 E' I5 (stat fr5) st5 stop) fun r s6 ⟨hr,I6⟩=>?_
      subst hr
      exact fin6 s6 H5 I6 q
    · refine aL (T.item (dS X scope N cl s3.heap.objs.size s3 H3 fp E') rfl rfl rfl hc i [] s5 _ H5 E' I5 (stat fr5) st5 go) fun r s6 ⟨u,hr,h6⟩=>?_
      subst hr
      refine aL h6 fun _ s7 ⟨x,H7,I7,r7,y7,st7,fr7⟩=>?_
      have I7':=I7.pinned (stat fr7) (T.obj _ _ st7)
      refine aL (hg cl s3.heap.objs.size s3 H3 fp E' _ s7 _ H7 x u _ I7' r7 (step x H7 y7)) fun _ s8 ⟨σ8,H8,I8,ext,q8⟩=>?_
      have again:∀ {σ9:St} {H9:Hp} {s9:Shared} {m':Nat} {zs:List V},Ext (iE ix σ) σ9->Inv (dS X scope N cl s3.heap.objs.size s3 H3 fp E') ([]++kO fp s7.heap) σ9 H9 s9->m' < n->W (i+1) m' zs H9 ->
          ∃ m,m < n/\∃ i ys H',Inv (dS X scope N cl s3.heap.objs.size s3 H3 fp E') [] (iE ix σ) H' s9/\tn i s9.heap/\(∀ b∈fp,H' b=none)/\W i m ys H':=fun {σ9 H9 s9 m' zs} ex I9 hm w9=>by
        refine ⟨m',hm,i+1,zs,H9,(I9.unpinned).weak ex.1.symm ex.2,T.keep _ _ _ st7 fun b hb o e=>(I9.pin (b,o) (List.mem_append_right _ (List.mem_append_right _ (iU hb e)))).1,fun b hb=>?_,w9⟩
        obtain ⟨o,e,d⟩:=T.obj _ _ st7 b hb
        exact (I9.pin (b,o) (List.mem_append_right _ (List.mem_append_right _ (iU hb e)))).2.1
      refine aL (ht cl s3.heap.objs.size s3 H3 fp E' _ s8 σ8 H8 _ I8 q8) fun ok s9 ⟨H9,I9,q9⟩=>?_
      cases ok with
      | false =>
        obtain ⟨m',hm,w9⟩:=q9
        exact again ext I9 hm w9
      | true =>
        refine aL (he cl s3.heap.objs.size s3 H3 fp E' _ s9 σ8 H9 _ I9 q9) fun u10 s10 ⟨v10,H10,I10,r10,hDl,hlt,m',hm,w10⟩=>?_
        refine aL (kP (X:=dS X scope N cl s3.heap.objs.size s3 H3 fp E') _ s10 σ8 H10 (.ref D) [v10] (.ref D) [u10] (fun _ H'=>H'=upd H10 D (.lst (ys++[v10]))) I10 rfl (.cons r10 .nil) ⟨D,ys,v10,rfl,rfl,hDl,hlt,rfl⟩) fun _ s11 ⟨_,H11,I11,_,e11⟩=>?_
        subst e11
        exact again ext I11 hm w10
  exact codeAny_compStart_list (loop _ (by rw [<- hs3])) (T.self _ 0 _ _ _ st4 (loop _ (by rw [<- hs3])))
theorem ua {elt tg iter:Expr} {ifs:List Expr} {scope:Scope} {pos:Pos} {N:List Str} {ix:List (Option Nat)} {wi:TI} {g:TG} {tt:TT} {te:TE}
    (hc:X.calm=true) (hi:PI X tg iter wi) (hk:scope.kind = .function) (hcell0:tH scope=true) (hfree0:freeOk scope X.env=true) (hnames0:namesOk scope=true) (caps:iO X scope N ix)
    (hg:∀ cl C s H fp xe,PG (dS X scope N cl C s H fp xe) tg g) (ht:∀ cl C s H fp xe,wD (dS X scope N cl C s H fp xe) ifs tt) (he:∀ cl C s H fp xe,PE (dS X scope N cl C s H fp xe) elt te)
    (hs:∀ x,foldedSetIterable iter X.env x=pure x:=by intro _; rfl) :
    PE X (.ListComp elt [⟨tg,iter,ifs,0⟩] scope pos) (vZ wi g tt te ix):=by
  intro pins s σ H Q I h
  rw [eval_ListComp]
  refine qk (use:=none) hc hi hk hcell0 hfree0 hnames0 caps hg ht he hs I h fun C D H6 s6 B q=>?_
  obtain ⟨m,hn⟩:=B.ns
  exact ⟨m,hn,fun h' hsb=>⟨.ref D,H6,B.gone hsb,rfl,q⟩⟩
noncomputable def Ca (i:Nat) (te:TE):TS:=fun D σ H=>te σ H fun x H1=>D.nx (σ.set i (some x)) H1
theorem nQ {i:Nat} {y:Str} {py:Pos} {spos:Pos} {elt tg iter:Expr} {ifs:List Expr} {scope:Scope} {pos:Pos} {N:List Str} {ix:List (Option Nat)} {wi:TI} {g:TG} {tt:TT} {te:TE}
    (hN:X.N.Nodup) (hi':X.N[i]? = some y) (hx:Loc X.env.scope y) (hsw:swapsWith (.ListComp elt [⟨tg,iter,ifs,0⟩] scope pos) (some (.Name y py)) spos.line X.env=pure true)
    (hc:X.calm=true) (hi:PI X tg iter wi) (hk:scope.kind = .function) (hcell0:tH scope=true) (hfree0:freeOk scope X.env=true) (hnames0:namesOk scope=true) (caps:iO X scope N ix)
    (hg:∀ cl C s H fp xe,PG (dS X scope N cl C s H fp xe) tg g) (ht:∀ cl C s H fp xe,wD (dS X scope N cl C s H fp xe) ifs tt) (he:∀ cl C s H fp xe,PE (dS X scope N cl C s H fp xe) elt te)
    (hs:∀ x,foldedSetIterable iter X.env x=pure x:=by intro _; rfl) (hf:X.fn y=true\/X.env.scope.names.lookup y=some .local:=by first | exact .inl rfl | exact .inr rfl | assumption) :
    PS X (.Assign [.Name y py] (.ListComp elt [⟨tg,iter,ifs,0⟩] scope pos) spos) (Ca i (vZ wi g tt te ix)):=by
  intro pins s σ H D I h
  rw [exec_Assign_Name_used _ _ _ _ hsw]
  refine wpAny_bind (wpAny_standAt (wpAny_bind ?_))
  show wpAny _ X.A (do let _ <- comprehension (.ListComp elt [⟨tg,iter,ifs,0⟩] scope pos) scope X.env _ (newList []) false (eval iter X.env) (some (assign (.Name y py) X.env))) _ _ s
  refine wpAny_bind (wpAny_mono (qk (use:=some (assign (.Name y py) X.env)) (Qv:=fun _ s'=>SP X pins D .next s') hc hi hk hcell0 hfree0 hnames0 caps hg ht he hs I h fun C a H6 s6 B q=>?_) (fun _ s' hq=>wpAny_pure (wpAny_pure hq)) fun _ _ e=>e)
  obtain ⟨m,hn⟩:=B.ns
  show wpAny _ X.A (assign (.Name y py) X.env (.ref a)) _ _ s6
  refine wpAny_assign_Name (kK B.inv hN hi' hx (v:=.ref a) rfl (fun s7 I7 ⟨z,hz,hz'⟩=>?_) hf)
  have hzC:C≠z:=by
    rcases hz' with e | e
    · rw [e]; exact B.loc
    · exact fun w=>B.cell y z e w.symm
  refine ⟨m,hn.sameBut hz hzC,fun h' hsb=>?_⟩
  have B7:jZ X pins (σ.set i (some (.ref a))) H6 C s7:=⟨I7,⟨m,hn.sameBut hz hzC⟩,B.free,B.loc,B.young,B.cell,B.pin⟩
  exact ⟨_,H6,B7.gone hsb,q⟩
theorem wj {K:W.Frag} {a:Addr} {xs:List V} {g:TG} {tt:TT} {te:TE} {σ0:St} {H:Hp} {D:Addr} {Q:VK} (f:V->V) (hz:xs.length<=sizeLine) (hx:aI K H a xs) (hD:H D=none)
    (hs:∀ (i:Nat) (x:V) (H':Hp) (R:VK) (R0:Hp->Prop),xs[i]? = some x->(∀ b,b≠D->H' b=H b)->R (f x) H'->g x σ0 H' fun σ2 H2=>Ext σ0 σ2/\tt σ2 H2 fun b H3=>if b=true then te σ2 H3 R else R0 H3)
    (hq:Q (.ref D) (upd H D (.lst (xs.map f)))) :
    we (tJ K a) g tt te σ0 D Q H:=by
  have stays:∀ ys:List V,aI K (upd H D (.lst ys)) a xs:=fun ys=>by
    have sm:ai H (upd H D (.lst ys)):=fun b u q=>by rw [aE (bh q hD)]; exact q
    exact sm.seq hx
  refine ⟨fun i m ys H'=>m=xs.length - i/\i<=xs.length/\ys=(xs.take i).map f/\H'=upd H D (.lst ys),⟨xs.length,by simp,Nat.zero_le _,by simp,rfl⟩,?_⟩
  rintro i m ys H' ⟨rfl,hi,rfl,rfl⟩
  by_cases hlt:i < xs.length
  · refine .inr ⟨⟨xs,xs[i],stays _,by simp [hlt]⟩,fun x H'' y=>?_⟩
    obtain ⟨e,y⟩:=y
    subst e
    have ex:=y xs (stays _)
    refine hs i x _ _ _ ex (fun b hb=>aE hb) ⟨ah,by simp; lia,xs.length - (i+1),by lia,rfl,hlt,?_,?_⟩
    · rw [List.take_add_one,ex,List.map_append]; rfl
    · rw [dX]
  · have e:i=xs.length:=by lia
    subst e
    refine .inl ⟨⟨xs,stays _,Nat.le_refl _⟩,?_⟩
    rw [List.take_length]
    exact hq
end
end L2
set_option Elab.async false
set_option linter.all false
set_option maxRecDepth 100000
set_option maxHeartbeats 4000000
namespace L2
open PySem PySem.Spec PyProof.Rows
section
variable {P:Program} {w:World} {H:Hp} {h h':Heap} {a:Addr} {o:HO}
theorem bg.there (x:bg P w H h a o):∃ u,h.get? a=some u:=by
  cases o with
  | lst xs=>obtain ⟨_,_,_,_,e⟩:=x; exact ⟨_,e⟩
  | tup xs=>obtain ⟨_,_,_,_,e,_⟩:=x; exact ⟨_,e⟩
  | dK kvs=>obtain ⟨_,_,_,_,_,_,_,e,_⟩:=x; exact ⟨_,e⟩
  | dT kvs=>obtain ⟨_,_,_,_,_,_,_,e,_⟩:=x; exact ⟨_,e⟩
  | set S n=>obtain ⟨_,_,_,_,e,_⟩:=x; exact ⟨_,e⟩
  | ins C dx fs=>obtain ⟨_,_,_,e,_⟩:=x; exact ⟨_,e⟩
  | own y=>obtain ⟨_,e⟩:=x; exact ⟨_,e⟩
  | xd fs=>obtain ⟨_,⟨_,_,_,e,_⟩,_⟩:=x; exact ⟨_,e⟩
  | rng lo hi=>obtain ⟨_,_,_,e⟩:=x; exact ⟨_,e⟩
  | frz ob u=>obtain ⟨e,_⟩:=x; exact ⟨_,e⟩
  | tbl ps=>exact ⟨_,show h.get? a=some _ from x⟩
  | met f y=>exact ⟨_,show h.get? a=some _ from x⟩
  | ext φ=>obtain ⟨_,e,_⟩:=x; exact e
theorem cF.none (x:cF P w H h) (e:h.get? a=Option.none):H a=Option.none:=by
  cases q:H a with
  | none=>rfl
  | some u =>
    obtain ⟨v,z⟩:=(x a u q).there
    rw [e] at z; cases z
theorem cF.part (x:cF P w H h) (k:∀ b o,H b≠Option.none->h.get? b=some o->h'.get? b=some o):cF P w H h':=fun b u e=>by
  refine (x b u e).stay (fun c v hc q=>k c v ?_ q) (fun _ q=>q) fun _ _ q=>q
  intro z
  rcases hc with rfl | hc
  · rw [z] at e; cases e
  · rw [z] at hc; cases hc
end
def Tr (h:Heap) (e T:Addr) (cls:Value):Prop:=∃ oe vs oT ts a0,h.get? e=some oe/\oe.cls=cls/\vs[0]? = some a0/\oe.data = .fields vs/\vs[1]? = some (.ref T)/\T≠e/\h.get? T=some oT/\oT.data = .fields ts/\ts[3]? = some Value.none
theorem rebase {h base base':Heap}:∀ {l:List Env},h.FunFrames base l->(∀ b∈bJ l,base'.get? b=none)->h.FunFrames base' l
  | [],_,_=>trivial
  | env::r,⟨hk,⟨L,o,hf,_,ho,hd⟩,hr⟩,hb=>by
    have hL:L∈bJ (env::r):=by unfold bJ; rw [List.filterMap_cons,hf]; exact List.mem_cons_self
    refine ⟨hk,⟨L,o,hf,hb L hL,ho,hd⟩,rebase hr fun b z=>hb b ?_⟩
    unfold bJ at z |-
    rw [List.filterMap_cons,hf]
    exact List.mem_cons_of_mem _ z
structure Kept (l:List Env) (ch:List Addr) (h h':Heap):Prop where
  keep:∀ b o,b∉bJ l->b∉ch->h.get? b=some o->h'.get? b=some o
  slot:∀ b o,b∈bJ l->h.get? b=some o->∃ sl,h'.get? b=some { o with slots:=sl }
section
variable {M:Model} {A:Around} {E:Value->Shared->Prop} {s:Shared} {Q:Unit->Shared->Prop} {base:Heap} {env:Env} {outer l:List Env} {L e T:Addr} {cls:Value}
theorem uA (hl:s.heap.FunFrames base l) {b:Addr} {o:Obj} (hb:b∈bJ l) (q:s.heap.get? b=some o):∀ vs,o.data≠.fields vs:=by
  obtain ⟨_,o',ho,hd⟩:=hl.mem hb
  rw [q] at ho; cases ho; exact hd
theorem jg {h h':Heap} {ch:List Addr} (hl:h.FunFrames base l) {T':Addr} {oT:Obj} {ts:Array Value} (hn:(W.hideAll h (bJ l++ch)).get? T'=none) (hT:h'.get? T'=some oT) (hd:oT.data = .fields ts)
    (up:∀ b o,h.get? b=some o->(∀ vs,o.data≠.fields vs)->∃ sl,h'.get? b=some { o with slots:=sl }):T'∈ch\/h.get? T'=none:=by
  cases q:h.get? T' with
  | none=>exact .inr rfl
  | some o =>
    refine .inl ?_
    by_cases hm:T'∈bJ l++ch
    · rcases List.mem_append.mp hm with z | z
      · obtain ⟨_,o',ho,hdo⟩:=hl.mem z
        obtain ⟨sl,e⟩:=up _ _ ho hdo
        rw [hT] at e; cases e
        exact absurd hd (hdo ts)
      · exact z
    · rw [W.hideAll_get _ q hm] at hn; cases hn
theorem xT (hfr:A.frames=some (env::outer)) (hl:s.heap.FunFrames base (env::outer)) (hf:env.frame=some L) (tr:Tr s.heap e T cls)
    (hQ:∀ h' T',Tr h' e T' cls->(T'=T\/s.heap.get? T'=none)->Kept (env::outer) [e,T] s.heap h'->Q () { s with heap:=h' }):wpAny M A (leaving env (.ref e)) Q E s:=by
  obtain ⟨oe,vs,oT,ts,a0,he,hc,h0,hd,h1,hTe,hT,hdT,h3⟩:=tr
  have hid:∀ b,b∈bJ (env::outer)++[e,T]->(W.hideAll s.heap (bJ (env::outer)++[e,T])).get? b=none:=fun b hb=>W.hideAll_none _ hb
  refine wpAny_leaving_nextW (base:=W.hideAll s.heap (bJ (env::outer)++[e,T])) (a0:=a0) (cls:=cls) hfr (rebase hl fun b hb=>hid b (List.mem_append_left _ hb)) hf
    ⟨oe,vs,T,oT,ts,he,⟨hc,h0⟩,hd,h1,hid T (by simp),hTe,hT,hdT,h3⟩ (fun b o q=>W.of_hideAll _ q) (hid e (by simp)) fun h' hL=>?_
  obtain ⟨k1,k2,⟨oe',vs',T',oT',ts',he',⟨hc',h0'⟩,hd',h1',hn',hTe',hT',hdT',h3'⟩,k4⟩:=hL
  refine hQ h' T' ⟨oe',vs',oT',ts',a0,he',hc',h0',hd',h1',hTe',hT',hdT',h3'⟩ ?_ ⟨fun b o hb hch q=>k1 b o (W.hideAll_get _ q fun z=>?_),fun b o hb q=>k4 b o q (uA hl hb q)⟩
  · rcases jg hl hn' hT' hdT' k4 with z | z
    · rcases List.mem_cons.mp z with z | z
      · exact absurd z hTe'
      · exact .inl (by simpa using z)
    · exact .inr z
  · rcases List.mem_append.mp z with z | z
    · exact hb z
    · exact hch z
theorem uH {oe:Obj} {vs:Array Value} {a0:Value} (hfr:A.frames=some (env::outer)) (hl:s.heap.FunFrames base (env::outer)) (hf:env.frame=some L) (he:s.heap.get? e=some oe) (hc:oe.cls=cls) (hd:oe.data = .fields vs) (h0:vs[0]? = some a0) (h1:vs[1]? = some .none)
    (hQ:∀ h' T',Tr h' e T' cls->s.heap.get? T'=none->Kept (env::outer) [e] s.heap h'->Q () { s with heap:=h' }):wpAny M A (leaving env (.ref e)) Q E s:=by
  have hid:∀ b,b∈bJ (env::outer)++[e]->(W.hideAll s.heap (bJ (env::outer)++[e])).get? b=none:=fun b hb=>W.hideAll_none _ hb
  refine wpAny_leaving_firstW (base:=W.hideAll s.heap (bJ (env::outer)++[e])) (a0:=a0) hfr (rebase hl fun b hb=>hid b (List.mem_append_left _ hb)) hf he (fun b o q=>W.of_hideAll _ q) (hid e (by simp)) hd h1 h0 fun h' hL=>?_
  obtain ⟨k1,k2,⟨oe',vs',T',oT',ts',he',⟨hc',h0'⟩,hd',h1',hn',hTe',hT',hdT',h3'⟩,k4⟩:=hL
  refine hQ h' T' ⟨oe',vs',oT',ts',a0,he',hc'.trans hc,h0',hd',h1',hTe',hT',hdT',h3'⟩ ?_ ⟨fun b o hb hch q=>k1 b o (W.hideAll_get _ q fun z=>?_),fun b o hb q=>k4 b o q (uA hl hb q)⟩
  · rcases jg hl hn' hT' hdT' k4 with z | z
    · exact absurd (by simpa using z) hTe'
    · exact z
  · rcases List.mem_append.mp z with z | z
    · exact hb z
    · exact hch z
theorem zz (hfr:A.frames=some (env::outer)) (hl:s.heap.FunFrames base (env::outer)) (hf:env.frame=some L) (tr:Tr s.heap e T cls)
    (hQ:∀ h' T',Tr h' e T' cls->(T'=T\/s.heap.get? T'=none)->Kept (env::outer) [e,T] s.heap h'->Q () { s with heap:=h' }) :
    wpAny M A (noteFrame (.ref e) env) (fun _ s2=>wpAny M A (setFlight (.ref e) none) Q E s2) E s:=by
  obtain ⟨oe,vs,oT,ts,a0,he,hc,h0,hd,h1,hTe,hT,hdT,h3⟩:=tr
  have hid:∀ b,b∈bJ (env::outer)++[e,T]->(W.hideAll s.heap (bJ (env::outer)++[e,T])).get? b=none:=fun b hb=>W.hideAll_none _ hb
  refine wpAny_looks_onW (base:=W.hideAll s.heap (bJ (env::outer)++[e,T])) (a0:=a0) (cls:=cls) hfr hf
    ⟨fun b o q=>W.of_hideAll _ q,hid e (by simp),rebase hl fun b hb=>hid b (List.mem_append_left _ hb),oe,vs,T,oT,ts,he,⟨hc,h0⟩,hd,h1,hid T (by simp),hTe,hT,hdT,h3⟩ fun h1' held up1=>?_
  refine wpAny_landsW held fun h' fl up2=>?_
  have up:=Heap.UpToSlots.trans up1 up2
  obtain ⟨k1,_,k2,oe',vs',T',oT',ts',he',⟨hc',h0'⟩,hd',h1',hn',hTe',hT',hdT',h3'⟩:=fl
  refine hQ h' T' ⟨oe',vs',oT',ts',a0,he',hc',h0',hd',h1',hTe',hT',hdT',h3'⟩ ?_ ⟨fun b o hb hch q=>k1 b o (W.hideAll_get _ q fun z=>?_),fun b o hb q=>up b o q (uA hl hb q)⟩
  · rcases jg hl hn' hT' hdT' up with z | z
    · rcases List.mem_cons.mp z with z | z
      · exact absurd z hTe'
      · exact .inl (by simpa using z)
    · exact .inr z
  · rcases List.mem_append.mp z with z | z
    · exact hb z
    · exact hch z
theorem yf (hl:s.heap.FunFrames base l) (tr:Tr s.heap e T cls)
    (hQ:∀ h' T',Tr h' e T' cls->(T'=T\/s.heap.get? T'=none)->Kept l [e,T] s.heap h'->Q () { s with heap:=h' }):wpAny M A (setFlight (.ref e) none) Q E s:=by
  obtain ⟨oe,vs,oT,ts,a0,he,hc,h0,hd,h1,hTe,hT,hdT,h3⟩:=tr
  have hid:∀ b,b∈bJ l++[e,T]->(W.hideAll s.heap (bJ l++[e,T])).get? b=none:=fun b hb=>W.hideAll_none _ hb
  refine lands_againW (base:=W.hideAll s.heap (bJ l++[e,T])) (l:=l) (a0:=a0) (cls:=cls)
    ⟨fun b o q=>W.of_hideAll _ q,hid e (by simp),rebase hl fun b hb=>hid b (List.mem_append_left _ hb),oe,vs,T,oT,ts,he,⟨hc,h0⟩,hd,h1,hid T (by simp),hTe,hT,hdT,h3⟩ fun h' fl up=>?_
  obtain ⟨k1,_,k2,oe',vs',T',oT',ts',he',⟨hc',h0'⟩,hd',h1',hn',hTe',hT',hdT',h3'⟩:=fl
  refine hQ h' T' ⟨oe',vs',oT',ts',a0,he',hc',h0',hd',h1',hTe',hT',hdT',h3'⟩ ?_ ⟨fun b o hb hch q=>k1 b o (W.hideAll_get _ q fun z=>?_),fun b o hb q=>up b o q (uA hl hb q)⟩
  · rcases jg hl hn' hT' hdT' up with z | z
    · rcases List.mem_cons.mp z with z | z
      · exact absurd z hTe'
      · exact .inl (by simpa using z)
    · exact .inr z
  · rcases List.mem_append.mp z with z | z
    · exact hb z
    · exact hch z
end
section
variable {X:Cx} {pins:List (Addr × Obj)} {σ:St} {H:Hp} {s:Shared} {h':Heap} {ch:List Addr}
structure sJ (X:Cx) (pins:List (Addr × Obj)) (H:Hp) (b:Addr):Prop where
  new:X.s₀.heap.get? b=none
  free:H b=none
  loc:b≠X.env.locals
  cell:∀ x c,X.env.cells.lookup x=some c->c≠b
  pin:∀ p∈X.pn++pins,p.1≠b
theorem Inv.ours (I:Inv X pins σ H s) (hx:X.ex=[]) {b:Addr} (n:s.heap.get? b=none):X.s₀.heap.get? b=none/\b≠X.env.locals/\(∀ x c,X.env.cells.lookup x=some c->c≠b)/\∀ p∈X.pn++pins,p.1≠b:=by
  refine ⟨?_,?_,fun x c e z=>?_,fun p hp z=>?_⟩
  · cases q:X.s₀.heap.get? b with
    | none=>rfl
    | some o =>
      obtain ⟨o',e⟩:=I.base.there b o q (by rw [hx]; simp)
      rw [n] at e; cases e
  · rintro rfl
    obtain ⟨m,⟨o,_,_,e,_⟩,_⟩:=I.loc
    rw [n] at e; cases e
  · subst z
    obtain ⟨v,o,e',_⟩:=I.cell x c e
    rw [n] at e'; cases e'
  · have:=(I.pin p hp).1
    rw [z,n] at this; cases this
theorem Inv.exc (I:Inv X pins σ H s) (hx:X.ex=[]) (ours:∀ b∈ch,sJ X pins H b) (k:Kept X.stack ch s.heap h'):Inv X pins σ H { s with heap:=h' }:=by
  have sub:=I.stkSub
  have above:=I.ok.above
  have outs:∀ b∈X.fs,b∈bJ X.stack:=fun b hb=>by
    rcases I.ok.stk with e | ⟨e,hf⟩
    · rw [e]; exact hb
    · rw [e]
      show b∈bJ (X.env::X.outer)
      unfold bJ
      rw [List.filterMap_cons,hf]
      exact List.mem_cons_of_mem _ hb
  have anyk:∀ b o,b∉ch->s.heap.get? b=some o->∃ sl,h'.get? b=some { o with slots:=sl }:=fun b o hc q=>by
    by_cases hb:b∈bJ X.stack
    · exact k.slot b o hb q
    · exact ⟨o.slots,k.keep b o hb hc q⟩
  have nch:∀ b o,X.s₀.heap.get? b=some o->b∉ch:=fun b o q z=>by rw [(ours b z).new] at q; cases q
  have lch:X.env.locals∉ch:=fun z=>(ours _ z).loc rfl
  have cch:∀ x c,X.env.cells.lookup x=some c->c∉ch:=fun x c e z=>(ours _ z).cell x c e rfl
  have cellK:∀ x c v,X.env.cells.lookup x=some c->s.heap.IsCell c v->h'.IsCell c v:=fun x c v e z=>by
    obtain ⟨o,ho,hd⟩:=z
    obtain ⟨sl,q⟩:=anyk c o (cch x c e) ho
    exact ⟨_,q,hd⟩
  refine ⟨I.ok,I.os,I.bare,⟨fun b o e n hb hxx=>?_,fun b o e n hb hxx=>?_,I.base.free,fun b o e hxx=>?_,I.base.tups,I.base.frzs,I.base.tbls⟩,?_,fun x c e=>?_,I.free,I.freeC,fun p hp=>?_,?_,I.len⟩
  · refine k.keep b o (fun z=>?_) (nch b o e) (I.base.keep b o e n hb hxx)
    rcases List.mem_cons.mp (sub b z) with z | z
    · exact absurd (Nat.lt_of_lt_of_le (Heap.lt_size e) above) (by rw [z]; exact Nat.lt_irrefl _)
    · exact hb z
  · obtain ⟨sl,e1⟩:=I.base.slot b o e n hb hxx
    obtain ⟨sl',e2⟩:=k.slot b _ (outs b hb) e1
    exact ⟨sl',e2⟩
  · obtain ⟨o',e1⟩:=I.base.there b o e hxx
    obtain ⟨sl,e2⟩:=anyk b o' (nch b o e) e1
    exact ⟨_,e2⟩
  · obtain ⟨m,⟨o,es,ep,ho,r⟩,hl⟩:=I.loc
    obtain ⟨sl,q⟩:=anyk _ o lch ho
    refine ⟨m,⟨_,es,ep,q,r⟩,fun i x v e1 e2 e3=>?_⟩
    obtain ⟨u,ru,lk⟩:=hl i x v e1 e2 e3
    refine ⟨u,ru,?_⟩
    rcases lk with z | ⟨z,c,e,ic⟩
    · exact .inl z
    · exact .inr ⟨z,c,e,cellK x c _ e ic⟩
  · obtain ⟨v,z⟩:=I.cell x c e
    exact ⟨v,cellK x c v e z⟩
  · obtain ⟨e,n,ne,nf,d⟩:=I.pin p hp
    refine ⟨k.keep p.1 p.2 (fun z=>?_) (fun z=>(ours _ z).pin p hp rfl) e,n,ne,nf,d⟩
    rcases List.mem_cons.mp (sub _ z) with z | z
    · exact ne z
    · exact nf z
  · refine I.hok.part fun b o hb q=>k.keep b o (fun z=>hb (I.stkFree b z)) (fun z=>hb (ours b z).free) q
theorem Inv.track {e:Addr} {φ:Heap->Prop} (I:Inv X pins σ H s) (o:sJ X pins H e) (new:bg X.prog X.w (upd H e (.ext φ)) s.heap e (.ext φ)):Inv X pins σ (upd H e (.ext φ)) s:=by
  have ne:∀ b u,H b=some u->b≠e:=fun b u q z=>by rw [z,o.free] at q; cases q
  refine ⟨I.ok,I.os,I.bare,⟨I.base.keep,I.base.slot,fun b ob q n hx=>?_,I.base.there,fun b xs q=>?_,fun b ob u q=>?_,fun b ps q=>?_⟩,I.loc,I.cell,?_,fun x c q=>?_,fun p hp=>?_,fun b u q=>?_,I.len⟩
  · rw [aE (fun z=>by rw [z,o.new] at q; cases q)]; exact I.base.free b ob q n hx
  · have:=I.base.tups b xs q
    rw [aE (ne _ _ this)]; exact this
  · have:=I.base.frzs b ob u q
    rw [aE (ne _ _ this)]; exact this
  · obtain ⟨m,z⟩:=I.base.tbls b ps q
    exact ⟨m,by rw [aE (ne _ _ z)]; exact z⟩
  · rw [aE (Ne.symm o.loc)]; exact I.free
  · rw [aE (o.cell x c q)]; exact I.freeC x c q
  · obtain ⟨z,n,r⟩:=I.pin p hp
    exact ⟨z,by rw [aE (o.pin p hp)]; exact n,r⟩
  · by_cases z:b=e
    · subst z; rw [ah] at q; cases q; exact new
    · rw [aE z] at q
      exact (I.hok b u q).stay (fun _ _ _ x=>x) (fun c x=>by rw [aE (ne _ _ x)]; exact x) fun c xs x=>by rw [aE (ne _ _ x)]; exact x
end
noncomputable def hV (P:Program) (w:World):iP:=fun outer H s E e s'=>∃ (ea T:Addr) (cls:Value) (H':Hp),e = .ref ea/\s.heap.get? ea=none/\s.heap.get? T=none/\H' ea=none/\H' T=none/\Tr s'.heap ea T cls /\
  s'.os=s.os/\AllBare s'.gens/\Un (bJ outer) [] H H' s.heap s'.heap/\cF P w H' s'.heap/\E cls none H'
theorem nV {P:Program} {w:World} {X:Cx}:Passes (hV P w) X E0:=fun _ _ _ _ _ _ _ ⟨_,_,_,_,_,_,_,_,_,_,_,_,_,_,q⟩=>q.elim
structure Au (X:Cx) (E:XK):Prop where
  made:∀ {pins:List (Addr × Obj)} {σ:St} {H:Hp} {s:Shared} {e:Addr} {cls:Value} {vs:List Value} {h':Heap},Inv X pins σ H s->Heap.MadeExcOf s.heap h' e cls vs->E cls none H->X.xe (.ref e) { s with heap:=h' }
  pass:Passes (hV X.prog X.w) X E
section
variable {P:Program} {w:World} {K:W.Frag} {mg:Str->Option Value} {base:Heap} {N:List Str} {qual:Str} {scope:Scope} {f:Addr} {cd:Value} {A:Around} {outer:List Env} {s:Shared} {H:Hp} {E:XK}
theorem xX {pins:List (Addr × Obj)} {σ:St} {H2:Hp} {s2:Shared} {ea T:Addr} {cls:Value} (I:Inv (h9 (hV P w) P w K mg base N qual scope f cd A outer s H E) pins σ H2 s2) (tr:Tr s2.heap ea T cls)
    (n1:s.heap.get? ea=none) (n2:s.heap.get? T=none) (f1:H2 ea=none) (f2:H2 T=none) (q:E cls none H2):(h9 (hV P w) P w K mg base N qual scope f cd A outer s H E).xe (.ref ea) s2:=by
  have fr:(A.deeper (envOfC qual scope s.heap.objs.size f cd)).frames=some (envOfC qual scope s.heap.objs.size f cd::outer):=I.ok.frames
  have above:s.heap.objs.size<=(envOfC qual scope s.heap.objs.size f cd).locals:=I.ok.above
  have nex:∀ b:Addr,b∉(h9 (hV P w) P w K mg base N qual scope f cd A outer s H E).ex:=fun b z=>absurd (show b∈([]:List Addr) from z) (by simp)
  have sub:∀ b∈bJ (envOfC qual scope s.heap.objs.size f cd::outer),b=(envOfC qual scope s.heap.objs.size f cd).locals\/b∈bJ outer:=fun b hb=>List.mem_cons.mp (I.stkSub b hb)
  have out:∀ b∈bJ outer,b∈bJ (envOfC qual scope s.heap.objs.size f cd::outer):=fun b hb=>by
    unfold bJ at hb |-
    rw [List.filterMap_cons]
    split
    · exact hb
    · exact List.mem_cons_of_mem _ hb
  refine xT fr I.stack rfl tr fun h' T' tr' hT' k=>?_
  have anyk:∀ b o,b≠ea->b≠T->s2.heap.get? b=some o->∃ sl,h'.get? b=some { o with slots:=sl }:=fun b o h1 h2 z=>by
    by_cases hb:b∈bJ (envOfC qual scope s.heap.objs.size f cd::outer)
    · exact k.slot b o hb z
    · exact ⟨o.slots,k.keep b o hb (by simp [h1,h2]) z⟩
  have ne:∀ b o,s.heap.get? b=some o->b≠ea/\b≠T:=fun b o z=>⟨fun y=>(by rw [y,n1] at z; cases z),fun y=>(by rw [y,n2] at z; cases z)⟩
  refine ⟨ea,T',cls,H2,rfl,n1,?_,f1,?_,tr',I.os,I.bare,⟨fun b o z n hb hx=>?_,fun b o z n hb hx=>?_,fun b o z n hx=>I.base.free b o z n (nex b),fun b o z hx=>?_,I.base.tups,I.base.frzs,I.base.tbls⟩,?_,q⟩
  · rcases hT' with z | z
    · rw [z]; exact n2
    · cases y:s.heap.get? T' with
      | none=>rfl
      | some o =>
        obtain ⟨o',e'⟩:=I.base.there T' o y (nex _)
        rw [z] at e'; cases e'
  · rcases hT' with z | z
    · rw [z]; exact f2
    · exact I.hok.none z
  · refine k.keep b o (fun y=>?_) (by have:=ne b o z; simp [this.1,this.2]) (I.base.keep b o z n hb (nex b))
    rcases sub b y with y | y
    · exact absurd (Nat.lt_of_lt_of_le (Heap.lt_size z) above) (by rw [y]; exact Nat.lt_irrefl _)
    · exact hb y
  · obtain ⟨sl,e1⟩:=I.base.slot b o z n hb (nex b)
    obtain ⟨sl',e2⟩:=k.slot b _ (out b hb) e1
    exact ⟨sl',e2⟩
  · obtain ⟨o',e1⟩:=I.base.there b o z (nex b)
    obtain ⟨sl,e2⟩:=anyk b o' (ne b o z).1 (ne b o z).2 e1
    exact ⟨_,e2⟩
  · refine I.hok.part fun b o hb z=>k.keep b o (fun y=>hb (I.stkFree b y)) (fun y=>?_) z
    rcases List.mem_cons.mp y with y | y
    · exact hb (by rw [y]; exact f1)
    · exact hb (by rw [show b=T by simpa using y]; exact f2)
theorem g9:Au (h9 (hV P w) P w K mg base N qual scope f cd A outer s H E) E where
  made:=fun {pins σ H1 s1 e cls vs h'} I m q=>by
    obtain ⟨t,he,htn,ht⟩:=m.there
    have I2:Inv (h9 (hV P w) P w K mg base N qual scope f cd A outer s H E) pins σ H1 { s1 with heap:=h' }:=I.kept (t':=s1.toks) m.keeps
    have fr:(A.deeper (envOfC qual scope s.heap.objs.size f cd)).frames=some (envOfC qual scope s.heap.objs.size f cd::outer):=I.ok.frames
    have above:s.heap.objs.size<=(envOfC qual scope s.heap.objs.size f cd).locals:=I.ok.above
    have nex:∀ b:Addr,b∉(h9 (hV P w) P w K mg base N qual scope f cd A outer s H E).ex:=fun b z=>absurd (show b∈([]:List Addr) from z) (by simp)
    have sub:∀ b∈bJ (envOfC qual scope s.heap.objs.size f cd::outer),b=(envOfC qual scope s.heap.objs.size f cd).locals\/b∈bJ outer:=fun b hb=>List.mem_cons.mp (I.stkSub b hb)
    have out:∀ b∈bJ outer,b∈bJ (envOfC qual scope s.heap.objs.size f cd::outer):=fun b hb=>by
      unfold bJ at hb |-
      rw [List.filterMap_cons]
      split
      · exact hb
      · exact List.mem_cons_of_mem _ hb
    have n1:s.heap.get? e=none:=(I.ours rfl m.new).1
    refine uH (cls:=cls) fr I2.stack rfl he rfl rfl rfl rfl fun h2 T' tr' hT' k=>?_
    have anyk:∀ b o,b≠e->h'.get? b=some o->∃ sl,h2.get? b=some { o with slots:=sl }:=fun b o h1 z=>by
      by_cases hb:b∈bJ (envOfC qual scope s.heap.objs.size f cd::outer)
      · exact k.slot b o hb z
      · exact ⟨o.slots,k.keep b o hb (by simp [h1]) z⟩
    have ne:∀ b o,s.heap.get? b=some o->b≠e:=fun b o z y=>by rw [y,n1] at z; cases z
    refine ⟨e,T',cls,H1,rfl,n1,(I2.ours rfl hT').1,I.hok.none m.new,I2.hok.none hT',tr',I.os,I.bare,⟨fun b o z n hb hx=>?_,fun b o z n hb hx=>?_,fun b o z n hx=>I.base.free b o z n (nex b),fun b o z hx=>?_,I.base.tups,I.base.frzs,I.base.tbls⟩,?_,q⟩
    · refine k.keep b o (fun y=>?_) (by simp [ne b o z]) (I2.base.keep b o z n hb (nex b))
      rcases sub b y with y | y
      · exact absurd (Nat.lt_of_lt_of_le (Heap.lt_size z) above) (by rw [y]; exact Nat.lt_irrefl _)
      · exact hb y
    · obtain ⟨sl,e1⟩:=I2.base.slot b o z n hb (nex b)
      obtain ⟨sl',e2⟩:=k.slot b _ (out b hb) e1
      exact ⟨sl',e2⟩
    · obtain ⟨o',e1⟩:=I2.base.there b o z (nex b)
      obtain ⟨sl,e2⟩:=anyk b o' (ne b o z) e1
      exact ⟨_,e2⟩
    · refine I2.hok.part fun b o hb z=>k.keep b o (fun y=>hb (I.stkFree b y)) (fun y=>?_) z
      exact hb (by rw [show b=e by simpa using y]; exact I.hok.none m.new)
  pass:=fun pins σ H1 s1 e s2 I hcx=>by
    obtain ⟨ea,T,cls,H2,rfl,n1,n2,f1,f2,tr,os,bare,un,hok,q⟩:=hcx
    have I2:=I.call' os un hok bare fun b z=>absurd z (by simp)
    exact xX I2 tr (I.ours rfl n1).1 (I.ours rfl n2).1 f1 f2 q
end
section
variable {P:Program} {w:World} {K:W.Frag} {mg:Str->Option Value} {base:Heap}
theorem aH.up {CX:iP} {k:Nat} {f:Addr} {fd:FuncData} {ps:List Str} {sp:Sp} (F:aH P w K mg base bp k f fd ps sp):aH P w K mg base CX k f fd ps sp :=
  ⟨F.len,fun A outer s H args us vs Q E hr he hb hv hs=>codeAny_mono (F.run A outer s H args us vs Q E hr he hb hv hs) fun r s' q=>by
    cases r with
    | error e=>exact False.elim q
    | ok fl=>cases fl<;>exact q⟩
theorem aW.okE {x qual:Str} {st:Stmt} {f:Addr} {fd:FuncData} {N ps:List Str} {k:Nat} {sp:Sp} (F:aW K x qual st f fd) (S:av N ps (aa st)) (len:∀ vs H Q E,sp vs H Q E->vs.length=ps.length)
    (hbody:∀ (cdv:Value) (A:Around) (outer:List Env) (s:Shared) (H:Hp) (vs:List V) (Q:VK) (E:XK),bK k (A.deeper (envOfC qual (aa st) s.heap.objs.size f cdv))->sp vs H Q E ->
      ∃ t,gP (h9 (hV P w) P w K mg base N qual (aa st) f cdv A outer s H E) (ae st) t/\t { nx:=fun _ H'=>Q .non H',rt:=Q } (start N vs) H):aH P w K mg base (hV P w) (k+1) f fd ps sp:=by
  obtain ⟨oc,od,kV,doc,pm,an,cdv,ct,osl,rfl,lk,hcd⟩:=F.ex
  exact wc lk hcd S len fun A outer s H vs Q E hr hsp=>hbody cdv A outer s H vs Q E hr hsp
end
noncomputable abbrev zO:List Value:=[.type "ValueError",.type "Exception",.type "BaseException",.type "object"]
noncomputable abbrev v5 (K:W.Frag) (C:Addr):Prop:=W.excIn K C zO "ValueError.__new__" = true
theorem AX {K:W.Frag} {h:Heap} {C:Addr} (X:K.In h) (q:v5 K C):∃ bm N nm qn bs hd sn sub ab col dd k0 k1 k2 k3 k5 mN,
    h.get? C=some (excClassObj nm qn C N bs bm hd sn sub ab col dd k0 k1 k2 k3 k5 "ValueError.__new__")/\h.Ns N mN/\mN "__init__" = none/\OwnTail h zO bm:=by
  unfold v5 W.excIn at q
  split at q
  · rename_i dd cd sl ho
    split at q
    · rename_i C' bm k0 k1 k2 k3 n k5 hm hs
      obtain ⟨q5,q6⟩:=Bool.and_eq_true_iff.mp q
      obtain ⟨q4,hok⟩:=Bool.and_eq_true_iff.mp q5
      obtain ⟨q3,ht⟩:=Bool.and_eq_true_iff.mp q4
      obtain ⟨q2,hdel⟩:=Bool.and_eq_true_iff.mp q3
      obtain ⟨e1,e2⟩:=Bool.and_eq_true_iff.mp q2
      have e1:=beq_iff_eq.mp e1
      have e2:=beq_iff_eq.mp e2
      have hni:=beq_iff_eq.mp q6
      subst e1 e2
      obtain ⟨nm,bs,mro,ns,qn,hd,sn,sub,ab,col,del⟩:=cd
      have hsl:sl = #[k0,k1,k2,k3,some (.builtin "ValueError.__new__"),k5]:=by
        rw [<- hs]
      have hdel':del=false:=by simpa using hdel
      have hm':mro = .ref C'::bm:=hm
      subst hm' hdel' hsl
      exact ⟨bm,ns,nm,qn,bs,hd,sn,sub,ab,col,dd,k0,k1,k2,k3,k5,_,X _ _ ho,.of_isNs (W.isNs_of_in X hok),W.nsMap_none_of_in X hok hni,W.tail_of_in X ht⟩
    · cases q
  · cases q
noncomputable def AN (E:XK) (C:Addr) (t:TA):TS:=fun _ σ H=>t σ H fun vs H1=>vs.length<=sizeLine/\E (.ref C) none H1
theorem yp {X:Cx} {E:XK} {C:Addr} {x:Str} {np cpos pos:Pos} {a:Expr} {ta:TA} (T:Au X E) (O:v5 X.K C) (hg:Gl X x) (hm:X.mg x=some (.ref C)) (ha:PA X [a] ta) (hc:X.calm=true:=by rfl)
    (hs:starEach [a] X.env=[(false,eval a X.env)]:=by rfl) (hd:(x == ("__debug__" : Str))=false:=by decide):PS X (.Raise (some (.Call (.Name x np) [a] [] cpos)) none pos) (AN E C ta):=by
  intro pins s σ H D I h
  obtain ⟨bm,N,nm,qn,bs,hd',sn,sub,ab,col,dd,k0,k1,k2,k3,k5,mN,hC,hN,hni,TL⟩:=AX I.ok.mod.kin O
  refine wpAny_Raise_call_subT (C:=C) (nm:=nm) (q:=qn) (N:=N) (bs:=bs) (bm:=bm) (hdct:=hd') (sn:=sn) (sub:=sub) (ab:=ab) (col:=col) (dd:=dd) (k0:=k0) (k1:=k1) (k2:=k2) (k3:=k3) (k5:=k5)
    PySem.F.excBase_ValueError (mN:=mN) (TL.hasType PySem.F.excBase_ValueError.hasBase) (I.ok.hd hc) (by rw [hs]; rfl) hni (gO I hg hm ⟨rfl,?_⟩ hd)
  have p:=ha cpos pins s σ H _ I h
  rw [hs] at p |-
  exact Calls.evalArgs_plain (aL p fun us s1 ⟨vs,H1,I1,r,q⟩=>⟨rfl,by rw [<- r.length]; exact q.1,I1.bk _ _ hC,hN.keeps I1.bk,TL.keeps I1.bk,fun h' e m=>T.made I1 m q.2⟩)
noncomputable def Cx.inExc (X:Cx) (e:Addr):Cx:={ X with A:=X.A.mark (some (.ref e)),calm:=false,xe:=fun _ _=>False }
section
variable {X:Cx} {pins:List (Addr × Obj)} {σ:St} {H:Hp} {s:Shared} {e:Addr}
theorem Inv.inExc (I:Inv X pins σ H s) (e:Addr):Inv (X.inExc e) pins σ H s :=
  ⟨⟨I.ok.mod,I.ok.kind,I.ok.glob,I.ok.blt,I.ok.above,I.ok.inj,I.ok.has,I.ok.cab,fun z=>(by cases z),I.ok.frames,I.ok.stk,I.ok.exf,I.ok.bs,I.ok.bsz,I.ok.noex,I.ok.exfs,I.ok.funs,I.ok.frf⟩,I.os,I.bare,I.base,I.loc,I.cell,I.free,I.freeC,I.pin,I.hok,I.len⟩
theorem Inv.outExc (ok:X.Ok) (I:Inv (X.inExc e) pins σ H s):Inv X pins σ H s:=⟨ok,I.os,I.bare,I.base,I.loc,I.cell,I.free,I.freeC,I.pin,I.hok,I.len⟩
theorem Inv.unbind {i:Nat} {n:Str} {m:Str->Option Value} {v:Option Value} {h':Heap} {t':Nat} (I:Inv X pins σ H s) (hN:X.N.Nodup) (hi:X.N[i]? = some n)
    (hl:∀ (i:Nat) (x:Str) (v:V),X.N[i]? = some x->σ[i]? = some (some v)->yw X.env.scope x->∃ u,RelV v u/\Look X.env s.heap m x u)
    (hn':h'.Ns X.env.locals (fun x=>if x=n then v else m x)) (hs:Heap.SameBut X.env.locals s.heap h'):Inv X pins (σ.set i none) H { s with heap:=h',toks:=t' }:=by
  have lo:∀ b o,X.s₀.heap.get? b=some o->b≠X.env.locals:=fun b o e z=>by
    exact absurd (Nat.lt_of_lt_of_le (Heap.lt_size e) I.ok.above) (by rw [z]; exact Nat.lt_irrefl _)
  have cne:=I.cne
  refine ⟨I.ok,I.os,I.bare,⟨fun b o e n hb hx=>(hs.2 b (lo b o e)).trans (I.base.keep b o e n hb hx),fun b o e n hb hx=>?_,I.base.free,fun b o e hx=>?_,I.base.tups,I.base.frzs,I.base.tbls⟩,
    ⟨_,hn',fun j y v' e1 e2 e3=>?_⟩,fun y c e=>?_,I.free,I.freeC,fun p hp=>?_,I.hok.part fun b o hb q=>(hs.2 b fun z=>hb (by rw [z]; exact I.free)).trans q,by simpa using I.len⟩
  · obtain ⟨sl,e1⟩:=I.base.slot b o e n hb hx
    exact ⟨sl,(hs.2 b (lo b o e)).trans e1⟩
  · obtain ⟨o',e1⟩:=I.base.there b o e hx
    exact ⟨o',(hs.2 b (lo b o e)).trans e1⟩
  · by_cases hj:j=i
    · subst hj
      by_cases hlt:j < σ.length
      · rw [List.getElem?_set_self hlt] at e2; cases e2
      · rw [List.getElem?_eq_none (by simpa using hlt)] at e2; cases e2
    · rw [List.getElem?_set_ne (Ne.symm hj)] at e2
      obtain ⟨u,r,q⟩:=hl j y v' e1 e2 e3
      have yn:y≠n:=fun e=>hj (nI hN e1 (e▸hi))
      refine ⟨u,r,?_⟩
      rcases q with ⟨k,e⟩ | ⟨k,c,e,z⟩
      · exact .inl ⟨k,by simp [yn,e]⟩
      · exact .inr ⟨k,c,e,z.sameBut hs (cne y c e)⟩
  · obtain ⟨w',z⟩:=I.cell y c e
    exact ⟨w',z.sameBut hs (cne y c e)⟩
  · obtain ⟨e,n,ne,nf,d⟩:=I.pin p hp
    exact ⟨(hs.2 p.1 ne).trans e,n,ne,nf,d⟩
end
def CN (X:Cx) (e:Expr) (t:XK->TE):Prop:=∀ (E:XK) (σ:St) (pn':List (Addr × Obj)) (xe':Value->Shared->Prop),
  (∀ (pins:List (Addr × Obj)) (H:Hp) (s:Shared) (v:Value) (s':Shared),Inv { X with pn:=pn',xe:=xe' } pins σ H s->hV X.prog X.w X.stack H s E v s'->xe' v s') ->
  ∀ (pins:List (Addr × Obj)) (s:Shared) (H:Hp) (Q:VK),Inv { X with pn:=pn',xe:=xe' } pins σ H s->t E σ H Q->wpAny (model X.prog X.w) X.A (eval e X.env) (EP { X with pn:=pn',xe:=xe' } pins σ Q) xe' s
theorem BG {X:Cx} {CX:iP} {k:Nat} {f:Addr} {fd:FuncData} {ps:List Str} {sp:Sp} {E:XK} {pins:List (Addr × Obj)} {σ:St} {H:Hp} {s:Shared} {Q:VK} {us:List Value} {vs:List V}
    (F:aH X.prog X.w X.K X.mg X.base CX k f fd ps sp) (hr:bK k X.A) (hb:Binds X.K fd ps []) (hx:∀ (pins:List (Addr × Obj)) (H:Hp) (s:Shared) (v:Value) (s':Shared),Inv X pins σ H s->CX X.stack H s E v s'->X.xe v s')
    (I:Inv X pins σ H s) (r:Vals vs us) (h:sp vs H Q E):wpAny (model X.prog X.w) X.A (call (.ref f) us) (EP X pins σ Q) X.xe s:=by
  have hl:us.length=ps.length:=by rw [<- r.length]; exact F.len _ _ _ _ h
  have hb':=hb s us I.kIn (by rw [List.append_nil]; exact hl)
  rw [List.append_nil] at hb'
  refine wpAny_call (codeAny_mono (F.run X.A X.stack s H ⟨us,[]⟩ us vs Q E hr I.env0 hb' r h) fun r s' hq=>?_)
  cases r with
  | error v=>exact hx pins H s v s' I hq
  | ok fl=>cases fl<;>first | exact I.after hq | exact False.elim hq
noncomputable def ky (e:Addr) (cls:Value):HO:=.ext fun h=>∃ o,h.get? e=some o/\o.cls=cls/\∃ vs,o.data = .fields vs
noncomputable def xg (K:W.Frag) (Ck:Addr) (i:Nat) (tb:XK->TE) (ts:TS):TS:=fun D σ H =>
  tb (fun cls _ H1=>W.exmOne K cls (.ref Ck)=some true/\∀ e,H1 e=none->ts { nx:=fun σ' H'=>D.nx (σ'.set i none) H',rt:=D.rt,bk:=fun σ' H'=>D.bk (σ'.set i none) H',ct:=fun σ' H'=>D.ct (σ'.set i none) H' } (σ.set i (some (.ref e))) (upd H1 e (ky e cls))) σ H fun _ H1=>D.nx σ H1
theorem x9 {X:Cx} {call:Expr} {tb:XK->TE} {c n:Str} {Ck:Addr} {i:Nat} {b₀:Stmt} {suite:List Stmt} {ts:TS} {ep cp hp pos:Pos}
    (hx:X.ex=[]) (hst:X.stack=X.env::X.outer) (hf:X.env.frame=some X.env.locals) (hN:X.N.Nodup) (hi:X.N[i]? = some n) (hl:X.env.scope.names.lookup n=some .local) (hg:Gl X c) (hm:X.mg c=some (.ref Ck))
    (hb:CN X call tb) (hs:∀ e,gP (X.inExc e) (b₀::suite) ts) (hsw:swapsWith call none ep.line X.env=pure false:=by rfl) (hd:(c == ("__debug__" : Str))=false:=by decide) :
    PS X (.Try [.Expr call ep] [.ExceptHandler (some (.Name c cp)) (some n) (b₀::suite) hp] [] [] pos) (xg X.K Ck i tb ts):=by
  intro pins s σ H D I h
  refine wpAny_Try_except ?_
  unfold xg at h
  generalize hE:(fun (cls:Value) (_:Option Addr) (H1:Hp)=>W.exmOne X.K cls (.ref Ck)=some true/\∀ e,H1 e=none->ts { nx:=fun σ' H'=>D.nx (σ'.set i none) H',rt:=D.rt,bk:=fun σ' H'=>D.bk (σ'.set i none) H',ct:=fun σ' H'=>D.ct (σ'.set i none) H' } (σ.set i (some (.ref e))) (upd H1 e (ky e cls)))=E at h
  have ok':∀ xe',({ X with pn:=X.pn++pins,xe:=xe' }:Cx).Ok:=fun xe' =>
    ⟨I.ok.mod,I.ok.kind,I.ok.glob,I.ok.blt,I.ok.above,I.ok.inj,I.ok.has,I.ok.cab,I.ok.hd,I.ok.frames,I.ok.stk,I.ok.exf,I.ok.bs,I.ok.bsz,I.ok.noex,I.ok.exfs,I.ok.funs,I.ok.frf⟩
  have toX:∀ {xe' pins' σ' H' s'},Inv ({ X with pn:=X.pn++pins,xe:=xe' }:Cx) pins' σ' H' s'->Inv X pins σ' H' s':=fun J =>
    ⟨I.ok,J.os,J.bare,J.base,J.loc,J.cell,J.free,J.freeC,fun p hp=>J.pin p (List.mem_append_left _ hp),J.hok,J.len⟩
  have I':Inv ({ X with pn:=X.pn++pins,xe:=fun v s'=>∃ H1 s1,Inv X pins σ H1 s1/\hV X.prog X.w X.stack H1 s1 E v s' }:Cx) [] σ H s :=
    ⟨ok' _,I.os,I.bare,I.base,I.loc,I.cell,I.free,I.freeC,fun p hp=>I.pin p (by simpa using hp),I.hok,I.len⟩
  have body:=hb E σ (X.pn++pins) (fun v s'=>∃ H1 s1,Inv X pins σ H1 s1/\hV X.prog X.w X.stack H1 s1 E v s') (fun pins' H1 s1 v s' J q=>⟨H1,s1,toX J,q⟩) [] s H _ I' h
  refine wpAny_mono (wpAny_execs_cons (wpAny_Expr_any (aL body fun v s1 q=>?_) I.quiet hsw):wpAny (model X.prog X.w) X.A (execs [.Expr call ep] X.env) (fun f s1=>f = .next/\∃ H1,Inv X pins σ H1 s1/\D.nx σ H1) _ s) (fun f s1 q=>?_) ?_
  · obtain ⟨x,H1,J,r,q⟩:=q
    exact wpAny_execs_nil ⟨rfl,H1,toX J,q⟩
  · obtain ⟨rfl,H1,J,q⟩:=q
    exact wpAny_execs_nil ⟨σ,H1,J,q⟩
  · rintro v s' ⟨H1,s1,I1,ea,T,cls,H2,rfl,n1,n2,f1,f2,tr,os,bare,un,hok,hE'⟩
    rw [<- hE] at hE'
    obtain ⟨hmt,hsu⟩:=hE'
    have I2:Inv X pins σ H2 s':=I1.call' os un hok bare fun b z=>absurd z (by simp)
    have o1:=I1.ours hx n1
    have o2:=I1.ours hx n2
    have u1:sJ X pins H2 ea:=⟨o1.1,f1,o1.2.1,o1.2.2.1,o1.2.2.2⟩
    have u2:sJ X pins H2 T:=⟨o2.1,f2,o2.2.1,o2.2.2.1,o2.2.2.2⟩
    have fr:X.A.frames=some (X.env::X.outer):=by rw [<- hst]; exact I.ok.frames
    have fn:s'.heap.FunFrames X.base (X.env::X.outer):=by rw [<- hst]; exact I2.stack
    refine zz fr fn hf tr fun h3 T3 tr3 hT3 k3=>?_
    have I3:Inv X pins σ H2 { s' with heap:=h3 }:=I2.exc hx (ch:=[ea,T]) (fun b hb=>by
      rcases List.mem_cons.mp hb with z | z
      · rw [z]; exact u1
      · rw [show b=T by simpa using z]; exact u2) (by rw [hst]; exact k3)
    have u3:sJ X pins H2 T3:=by
      rcases hT3 with z | z
      · rw [z]; exact u2
      · have o3:=I2.ours hx z
        exact ⟨o3.1,I2.hok.none z,o3.2.1,o3.2.2.1,o3.2.2.2⟩
    have LT:W.Looks (model X.prog X.w) h3 (typeOf (.ref ea)) cls:=by
      obtain ⟨oe,vs,oT,ts,a0,he,hc,_⟩:=tr3
      subst hc
      exact (W.Looks.ld he).andThen .now
    refine wpAny_handleBy_cons (codeAny_handlers_test (gO (I3.inExc ea) hg hm ?_ hd)) (by intro q; cases q)
    refine (W.exm_one (M:=model X.prog X.w) I3.kIn LT hmt) _ _ _ _ (fun _ _ q=>q) ?_
    show codeAny _ _ (.handlers (.ref ea) [.ExceptHandler none (some n) (b₀::suite) hp] X.env) _ _
    refine codeAny_handlers_suite_as (yf (base:=X.base) (l:=X.stack) I3.stack tr3 fun h5 T5 tr5 hT5 k5=>?_)
    have I5:Inv X pins σ H2 { s' with heap:=h5 }:=Inv.exc (s:={ s' with heap:=h3 }) I3 hx (ch:=[ea,T3]) (fun b hb=>by
      rcases List.mem_cons.mp hb with z | z
      · rw [z]; exact u1
      · rw [show b=T3 by simpa using z]; exact u3) k5
    refine kK (X:=X.inExc ea) (I5.inExc ea) hN hi (.inl hl) (v:=.ref ea) (u:=.ref ea) rfl (fun s6 J6 ⟨ad,sb,had⟩=>?_) (.inr hl)
    have hne:ea≠ad:=by
      rcases had with z | z
      · rw [z]; exact u1.loc
      · exact fun y=>u1.cell n ad z y.symm
    have new:bg X.prog X.w (upd H2 ea (ky ea cls)) s6.heap ea (ky ea cls):=by
      obtain ⟨oe,vs,oT,ts,a0,he,hc,h0,hd,_⟩:=tr5
      have he6:s6.heap.get? ea=some oe:=(sb.2 ea hne).trans he
      refine ⟨⟨oe,he6,hc,vs,hd⟩,⟨oe,he6⟩,?_⟩
      rintro h1 h2 ⟨o,q,r⟩ k
      exact ⟨o,k o q,r⟩
    have J7:Inv (X.inExc ea) pins (σ.set i (some (.ref ea))) (upd H2 ea (ky ea cls)) s6:=J6.track ⟨u1.new,u1.free,u1.loc,u1.cell,u1.pin⟩ new
    refine wpAny_mono (hs ea pins s6 _ _ _ J7 (hsu ea f1)) (fun f s7 q=>?_) (fun _ _ z=>z.elim)
    have go:∀ {σ':St} {H':Hp},Inv (X.inExc ea) pins σ' H' s7->∀ (R:Shared->Prop),(∀ s8,Inv X pins (σ'.set i none) H' s8->R s8)->wpAny (model X.prog X.w) X.A (do bindName X.env n .none; unbindBehindTheSuite X.env n hp) (fun _ s8=>R s8) X.xe s7:=fun {σ' H'} J R hR=>by
      have J0:Inv X pins σ' H' s7:=J.outExc I.ok
      obtain ⟨m,hn,hlk⟩:=J0.loc
      exact wpAny_nameGoes_keeps hl hn (by rw [I.ok.kind]; rfl) fun h' v hn' hs'=>hR _ (J0.unbind hN hi hlk hn' hs')
    cases f with
    | next =>
      obtain ⟨σ',H',J,q⟩:=q
      exact go J _ fun s8 J8=>⟨_,H',J8,q⟩
    | brk =>
      obtain ⟨σ',H',J,q⟩:=q
      exact go J _ fun s8 J8=>⟨_,H',J8,q⟩
    | cont =>
      obtain ⟨σ',H',J,q⟩:=q
      exact go J _ fun s8 J8=>⟨_,H',J8,q⟩
    | ret u =>
      obtain ⟨v,σ',H',J,r,q⟩:=q
      exact go J _ fun s8 J8=>⟨v,_,H',J8,r,q⟩
end L2
set_option Elab.async false
set_option linter.all false
set_option maxRecDepth 100000
set_option maxHeartbeats 4000000
namespace L2
open PySem PySem.Spec PyProof.Rows
structure Def (P:Program) (w:World) (K:W.Frag) (mg:Str->Option Value) (base:Heap) (x:Str) (ps:List Str) (k:Nat) (sp:Sp) (f:Addr) (fd:FuncData):Prop where
  ok:aH P w K mg base (hV P w) k f fd ps sp
  b:Binds K fd ps []
  kp:W.keepIn K (.ref f)=true
  m:mg x=some (.ref f)
section
variable {X:Cx} {f:Addr} {fd:FuncData} {ps:List Str} {sp:Sp} {x:Str} {p pos:Pos} {e:Expr} {es:List Expr} {t:TA} {j k:Nat}
theorem bw (D:Def X.prog X.w X.K X.mg X.base x ps j sp f fd) (hr:bK k X.A) (ha:PA X (e::es) t) (hjk:j<=k:=by decide) (hg:Gl X x:=by rfl)
    (hdb:(x == ("__debug__" : Str))=false:=by decide) (he:starEach (e::es) X.env=(false,eval e X.env)::starEach es X.env:=by rfl) (hpl:(backTo pos (starEach es X.env)).any (·.1)=false:=by rfl) :
    PE X (.Call (.Name x p) (e::es) [] pos) (jL sp [] E0 t):=uk D.ok (hr.mono hjk) hg D.m D.kp D.b .nil nV ha hdb he hpl
theorem gZ (D:Def X.prog X.w X.K X.mg X.base x ps j sp f fd) (hr:bK k X.A) (hjk:j<=k:=by decide) (hg:Gl X x:=by rfl) (hdb:(x == ("__debug__" : Str))=false:=by decide) :
    PE X (.Call (.Name x p) [] [] pos) (jL sp [] E0 tF):=yq D.ok (hr.mono hjk) hg D.m D.kp D.b .nil nV hdb
theorem i7 {E:XK} (T:Au X E) (D:Def X.prog X.w X.K X.mg X.base x ps j sp f fd) (hr:bK k X.A) (ha:PA X (e::es) t) (hjk:j<=k:=by decide) (hg:Gl X x:=by rfl)
    (hdb:(x == ("__debug__" : Str))=false:=by decide) (he:starEach (e::es) X.env=(false,eval e X.env)::starEach es X.env:=by rfl) (hpl:(backTo pos (starEach es X.env)).any (·.1)=false:=by rfl) :
    PE X (.Call (.Name x p) (e::es) [] pos) (jL sp [] E t):=uk D.ok (hr.mono hjk) hg D.m D.kp D.b .nil T.pass ha hdb he hpl
theorem za (D:Def X.prog X.w X.K X.mg X.base x ps j sp f fd) (hr:bK k X.A) (ha:∀ (pn':List (Addr × Obj)) (xe':Value->Shared->Prop),PA { X with pn:=pn',xe:=xe' } (e::es) t) (hjk:j<=k:=by decide) (hg:Gl X x:=by rfl)
    (hdb:(x == ("__debug__" : Str))=false:=by decide) (he:starEach (e::es) X.env=(false,eval e X.env)::starEach es X.env:=by rfl) (hpl:(backTo pos (starEach es X.env)).any (·.1)=false:=by rfl) :
    CN X (.Call (.Name x p) (e::es) [] pos) (fun E=>jL sp [] E t):=by
  intro E σ pn' xe' hp pins s H Q I h
  refine wpAny_Call_Name_kw (gO (X:={ X with pn:=pn',xe:=xe' }) I hg D.m ?_ hdb)
  refine W.callWith_K (h₀:=X.base) I.ok.mod.kin D.kp (aL (ha pn' xe' pos pins s σ H _ I h) fun us s1 ⟨vs,H1,I1,r,q⟩=>⟨I1.kIn,?_⟩) he hpl
  have q:sp (vs++[]) H1 Q E:=q
  rw [List.append_nil] at q
  exact BG (X:={ X with pn:=pn',xe:=xe' }) D.ok (hr.mono hjk) D.b hp I1 r q
end
theorem bq:bootBuiltins "isinstance" = some (.builtin "isinstance"):=by decide +kernel
theorem oR:bootBuiltins "list" = some (.type "list"):=by decide +kernel
theorem yr:bootBuiltins "tuple" = some (.type "tuple"):=by decide +kernel
theorem wM:bootBuiltins "str" = some (.type "str"):=by decide +kernel
theorem h8:bootBuiltins "len" = some (.builtin "len"):=by decide +kernel
theorem ai.upd {H H':Hp} (h:ai H H') {p:Addr} (n:H p=none) (o:HO):ai H (L2.upd H' p o):=fun b u q=>by
  rw [aE (bh q n)]; exact h b u q
theorem ai.new {H H':Hp} (h:ai H H') {p:Addr} (n:H' p=none) (o:HO):ai H (L2.upd H' p o):=h.trans fun b u q=>by
  rw [aE (bh q n)]; exact q
theorem sz {n:Nat} (h:n<=1000000):n<=sizeLine:=Nat.le_trans h (by decide)
theorem zF {n:Nat} (h:n<=1000000):n < sizeLine:=Nat.lt_of_le_of_lt h (by decide)
theorem qB {K:W.Frag}:W.kitOne K (.type "list") (.type "list")=some true:=by rfl
theorem mR {K:W.Frag}:W.kitOne K (.type "str") (.type "str")=some true:=by rfl
theorem iV {ns:List Int} {i:Int} (h0:0<=i) (h1:i < (ns.length:Int)):iy (ns.map V.int) i=some (.int (ns.getD i.toNat 0)):=by
  have hk:i.toNat < ns.length:=by lia
  have ek:i=((i.toNat:Nat):Int):=by lia
  have q:iy (ns.map V.int) ((i.toNat:Nat):Int)=some (.int (ns.getD i.toNat 0)):=hW (by rw [List.getElem?_map,List.getD_eq_getElem?_getD,List.getElem?_eq_getElem hk]<;>rfl)
  rw [<- ek] at q
  exact q
end L2
namespace L2
open PySem PySem.Spec PyProof.Rows
theorem Ds {σ:St} {H:Hp} {F:Bool->Hp->Prop} (h:F true H):yC σ H F:=h
theorem pm {j:Int} (h:0 < j):0 < j:=h
noncomputable def iD (ns:List Int) (lo hi:Option Int):List Int:=(ns.drop (HT.sIx ns.length 0 lo)).take (HT.sIx ns.length ns.length hi - HT.sIx ns.length 0 lo)
theorem mV (ns:List Int) (lo hi:Option Int):gR (ns.map V.int) lo hi=(iD ns lo hi).map V.int:=by
  unfold gR iD
  rw [List.length_map,List.map_take,List.map_drop]
theorem zy {ns:List Int} {i:Nat} {x:V} (h:(ns.map V.int)[i]? = some x):∃ c,x = .int c:=by
  rw [List.getElem?_map] at h
  cases e:ns[i]? with
  | none=>rw [e] at h; cases h
  | some c=>rw [e] at h; cases h; exact ⟨c,rfl⟩
end L2
namespace L2
open PySem PySem.Spec PyProof.Rows
noncomputable def CW (t u:TS):TS:=fun D σ H=>∃ P:St->Hp->Prop,t { D with nx:=P } σ H/\∀ σ' H',P σ' H'->u D σ' H'
theorem oP {X:Cx} {st:Stmt} {rest:List Stmt} {t u:TS} (h1:PS X st t) (h2:gP X rest u):gP X (st::rest) (CW t u):=by
  intro pins s σ H D I h
  obtain ⟨P,ha,hb⟩:=h
  refine wpAny_execs_cons (aL (h1 pins s σ H { D with nx:=P } I ha) fun f s1 q=>?_)
  cases f with
  | next =>
    obtain ⟨σ',H',I',q⟩:=q
    exact h2 pins s1 σ' H' D I' (hb σ' H' q)
  | ret v=>exact q
  | brk=>exact q
  | cont=>exact q
theorem hZ {c A B:Prop} [Decidable c] (hc:c) (h:A):if decide c=true then A else B:=by rw [decide_eq_true hc]; exact g7 h
theorem gJ {c A B:Prop} [Decidable c] (hc:¬ c) (h:B):if decide c=true then A else B:=by rw [decide_eq_false hc]; exact dn h
theorem yW {n:Nat} {i:Int} (h0:0<=i) (h1:i < n):oB n i=some i.toNat:=by unfold oB; rw [if_pos h0,if_pos h1]
theorem tW (ns:List Int) (lo hi:Option Int):(iD ns lo hi).length<=ns.length:=by
  unfold iD; rw [List.length_take,List.length_drop]; lia
theorem wY (ns:List Int) {t:Int} (h:0<=t):iD ns (some t) none=ns.drop t.toNat:=by
  unfold iD
  have e1:HT.sIx ns.length 0 (some t)=min t.toNat ns.length:=by
    show (if t < 0 then _ else _)=_
    rw [if_neg (by lia)]
  rw [e1,HT.sIx_none]
  by_cases hl:t.toNat<=ns.length
  · rw [Nat.min_eq_left hl]; exact List.take_of_length_le (by simp)
  · rw [Nat.min_eq_right (by lia),List.drop_eq_nil_of_le (Nat.le_refl _),List.drop_eq_nil_of_le (by lia)]; simp
end L2
namespace Ck
noncomputable def yx:Nat->List Int
  | 0=>[1]
  | k+1=>yx k++[((List.range (k+1)).map fun j=>(yx k).getD j 0*(yx k).getD (k - j) 0).sum]
noncomputable def sh (k:Nat):Int:=(yx k).getD k 0
end Ck
namespace Ck
noncomputable def r:Nat->Nat->Int
  | 0,_=>1
  | _+1,0=>0
  | u+1,d+1=>if d < u then 0 else r u (d+1)+r (u+1) d
noncomputable def row (n u:Nat):List Int:=(List.range (n+1 - u)).map fun i=>r u (u+i)
noncomputable def pw (a:Int):Nat->Int
  | 0=>1
  | k+1=>pw a k*a
end Ck
namespace Ck
noncomputable def lt:List Nat->List Nat->Bool
  | c::s,e::t=>if c=e then lt s t else c == 40
  | _,_=>false
end Ck
set_option Elab.async false
set_option linter.all false
set_option maxRecDepth 100000
set_option maxHeartbeats 4000000
namespace Ck
open PySem
theorem yX (x:Str):x.cps.toList.length=x.length:=by simp [Str.length]
noncomputable def ix (n d:Nat):Option Int->Nat
  | none=>d
  | some v=>if v < 0 then (v+(n:Int)).toNat else min v.toNat n
end Ck
set_option Elab.async false
set_option linter.all false
set_option maxRecDepth 100000
set_option maxHeartbeats 4000000
namespace Ck
open PySem L2
end Ck
namespace L2
open PySem
end L2
namespace Ck
open PySem L2
end Ck
namespace L2
open PySem PySem.Spec PyProof.Rows
theorem yT {x:Str} {i:Int} {c:Nat} (h0:0<=i) (h:x.cps.toList[i.toNat]? = some c):iy x.cps.toList i=some c:=by
  have q:=hW (xs:=x.cps.toList) (j:=i.toNat) h
  rw [show ((i.toNat:Nat):Int)=i by lia] at q
  exact q
theorem zu {x y:Str} (h:x.cps.toList=y.cps.toList):x=y:=by
  obtain ⟨a⟩:=x
  obtain ⟨b⟩:=y
  have:a=b:=by
    have h':a.toList=b.toList:=h
    rw [<- Array.toArray_toList (xs:=a),h',Array.toArray_toList]
  rw [this]
end L2
namespace Ck
open PySem L2
end Ck
set_option Elab.async false
set_option linter.all false
set_option maxRecDepth 100000
set_option maxHeartbeats 4000000
namespace L2
open PySem PySem.Spec PyProof.Rows
section
variable {X:Cx} {tg:Expr}
end
section
variable {X:Cx}
end
end L2
set_option Elab.async false
set_option linter.all false
set_option maxRecDepth 100000
set_option maxHeartbeats 4000000
namespace L2
open PySem PySem.Spec PyProof.Rows PySem.W Builtin Builtin.ObjectAttr Builtin.Getset_descriptor
noncomputable def yo (K:Frag) (C:Addr):Bool :=
  findIn K (.ref C) "__getattribute__" == some (some (.builtin "BaseException.__getattribute__"))&&findIn K (.ref C) "__getattr__" == some none &&
  findIn K (.ref C) "__class__" == some (some (.builtin "object.__class__"))&&specialIn K (.builtin "object.__class__") "__get__" == some (some (.builtin "getset_descriptor.__get__")) &&
  takesIn K (.builtin "object.__class__") == some true&&mroIn K C (.type "object") == some true&&mroIn K C (.type "BaseException") == some true&&(clsIn K C).isSome
structure iN (K:Frag) (C:Addr):Prop where
  ga:findIn K (.ref C) "__getattribute__" = some (some (.builtin "BaseException.__getattribute__"))
  gh:findIn K (.ref C) "__getattr__" = some none
  cl:findIn K (.ref C) "__class__" = some (some (.builtin "object.__class__"))
  gt:specialIn K (.builtin "object.__class__") "__get__" = some (some (.builtin "getset_descriptor.__get__"))
  tk:takesIn K (.builtin "object.__class__")=some true
  mo:mroIn K C (.type "object")=some true
  mb:mroIn K C (.type "BaseException")=some true
  is:(clsIn K C).isSome=true
theorem zr {K:Frag} {C:Addr} (h:yo K C=true):iN K C:=by
  unfold yo at h
  simp only [Bool.and_eq_true,beq_iff_eq] at h
  obtain ⟨⟨⟨⟨⟨⟨⟨a,b⟩,c⟩,d⟩,e⟩,f⟩,g⟩,i⟩:=h
  exact ⟨a,b,c,d,e,f,g,i⟩
section
variable {K:Frag} {e C:Addr} {M:Model} {h:Heap} {prog:Program} {w:World} {A:Around} {E:Value->Shared->Prop} {s:Shared}
def uu (e C:Addr) (h:Heap):Prop:=∃ o,h.get? e=some o/\o.cls = .ref C/\∃ vs,o.data = .fields vs
theorem uu.ty (x:uu e C h):Looks M h (typeOf (.ref e)) (.ref C):=by
  obtain ⟨o,ho,hc,_⟩:=x
  rw [<- hc]
  exact (Looks.ld ho).andThen .now
theorem iN.find (F:iN K C) (X:K.In h) (x:Value):Looks M h (Builtin.ObjectAttr.find x (.ref C) "__class__") (.bind (.builtin "getset_descriptor.__get__") (.builtin "object.__class__")):=by
  unfold Builtin.ObjectAttr.find
  refine (looks_findIn X F.cl).andThen ?_
  refine Looks.andThen (a:=some (.builtin "getset_descriptor.__get__")) (looks_specialIn X F.gt) ?_
  refine Looks.andThen (a:=some (.builtin "getset_descriptor.__get__",.builtin "object.__class__")) ?_ (Looks.tag .now)
  exact (looks_takesIn X F.tk).andThen .now
end
section
variable {K:Frag} {e C:Addr} {M:Model} {h:Heap} {prog:Program} {w:World} {A:Around} {E:Value->Shared->Prop} {s:Shared}
theorem iN.got (F:iN K C) {R:Result->Shared->Prop} {tp:Value} (X:K.In s.heap) (I:uu e C s.heap) (q:R (.ok (.ret (.ref C))) s) :
    codeAny (model prog w) A (.call (.builtin "getset_descriptor.__get__") ⟨[.builtin "object.__class__",.ref e,tp],[]⟩) R s:=by
  obtain ⟨hh,g,dr,t,os⟩:=s
  have L0:=I.ty (M:=model prog w)
  have L1:=looks_mroIn (M:=model prog w) X F.mo
  refine codeAny_call_builtin KF.slot_gs.plain KF.entry_gs (KF.slot_gs.check _ _ _ _ _ _ _ _ KF.type_class (KF.args_gs _ _ _) ?_)
  unfold Builtin.«getset_descriptor.__get__» descrGet
  rw [dga_obj]
  refine wpAny_bind (wpAny_pure ?_)
  unfold descrGetter descrCheckInstance descrNameAndClass isInstance
  simp only [KF.owner_class]
  repeat lk
  refine ⟨Code.quiet_builtin _ (by decide +kernel),codeAny_builtin KF.entry_class ?_⟩
  unfold Builtin.«object.__class__» shownTypeOf
  repeat lk
  exact q
theorem iN.checked (F:iN K C) {nv:Value} {Q:Unit->Shared->Prop} (X:K.In s.heap) (I:uu e C s.heap) (q:Q () s):wpAny M A (checkBuiltinCall "BaseException.__getattribute__" ⟨[.ref e,nv],[]⟩) Q E s:=by
  obtain ⟨hh,g,dr,t,os⟩:=s
  have LI:Looks M hh (isInstance (.ref e) (.type "BaseException")) true:=I.ty.andThen (looks_mroIn X F.mb)
  have e1:builtinKind "BaseException.__getattribute__" = some .slot:=(by decide +kernel)
  have e2:splitId "BaseException.__getattribute__" = some (("BaseException","__getattribute__"):String × String):=by decide +kernel
  have e3:=PySem.F.args_bexc_ga (.ref e) nv
  simp only [checkBuiltinCall,e1,e2]
  refine wpAny_bind (LI.at ?_)
  repeat (first | assumption | wp_step)
theorem iN.attr (F:iN K C) {tk:Tok} {Q:Value->Shared->Prop} (X:K.In s.heap) (I:uu e C s.heap) (q:Q (.ref C) s):wpAny (model prog w) A (getAttrBy (.ref e) (.str "__class__" tk) false false) Q E s:=by
  obtain ⟨hh,g,dr,t,os⟩:=s
  have L0:=I.ty (M:=model prog w)
  have L1:=looks_findIn (M:=model prog w) X F.ga
  have L2:=looks_findIn (M:=model prog w) X F.gh
  have L3:=F.find (M:=model prog w) X (.ref e)
  have b:=PySem.F.attr_ValueError.ga.bind (.ref e)
  unfold getAttrBy
  refine wpAny_holding (wpAny_bind (L0.at (wpAny_bind (L1.at ?_))))
  show wpAny _ _ (getAttrByItsOwn _ _ _ _ _ _) _ _ _
  unfold getAttrByItsOwn hookBefore
  refine wpAny_bind (L2.at ?_)
  refine wpAny_bind (wpAny_attempt (wpAny_holding ?_))
  show wpAny _ _ (boundAndCalled _ _ _) _ _ _
  unfold boundAndCalled
  rw [b]
  refine wpAny_bind (wpAny_pure (wpAny_call (codeAny_call_builtin PySem.F.attr_ValueError.ga.plain PySem.F.entry_bexc_ga (F.checked X I ?_))))
  show wpAny _ _ (Builtin.«object.__getattribute__» ⟨[.ref e,.str "__class__" tk],[]⟩) _ _ _
  unfold Builtin.«object.__getattribute__»
  repeat lk
  show wpAny _ _ (run (.call (.builtin "getset_descriptor.__get__") ⟨[.builtin "object.__class__",.ref e,.ref C],[]⟩) none) _ _ _
  refine wpAny_run (h:=none) (F.got X I ?_)
  show wpAny _ _ (pure (Value.ref C)) _ _ _
  refine wpAny_pure ?_
  show wpAny _ _ (ret (.ref C)) _ _ _
  refine wpAny_pure ?_
  exact handed_on rfl q
theorem ye (F:iN K C):KitX K (.ref e) (.ref C) (uu e C) where
  ty:=fun _ _ _ I=>I.ty
  it:=fun _ _ X _=>by
    have hc:=F.is
    unfold clsIn at hc
    split at hc
    · rename_i ho
      intro A' Q' E' s' k q
      unfold isType loadHead
      exact wpAny_bind (wpAny_loadPart (k _ _ (X _ _ ho)) (wpAny_pure q))
    · cases hc
  ne:=fun h tp dd its n sl X htp=>by
    have hc:=F.is
    refine Bool.eq_false_iff.mpr fun q=>?_
    have z:C=tp:=Value.ref.inj (beq_iff_eq.mp q)
    subst z
    unfold clsIn at hc
    split at hc
    · rename_i ho
      have z:=(X _ _ ho).symm.trans htp
      cases z
    · cases hc
  ca:=fun {prog w A E Q s} X I q=>by
    obtain ⟨hh,g,d,t,os⟩:=s
    unfold getAttr? getAttrBy?
    refine wpAny_bind (wpAny_mkText (wpAny_bind (wpAny_attempt (F.attr (s:=⟨hh,g,d,t+1,os⟩) X I ?_))))
    exact wpAny_pure q
end
structure iB where
  kin:Addr
  size:Addr
  number:Addr
  thing:Addr
  family:Addr
  way:Addr
  apart:Addr
  mark:Addr
  text:Addr
  broken:Addr
section
variable {X:Cx}
theorem bP:jk X (.builtin "isinstance") (fun xs H Q=>∃ e c cv C b,xs=[.ref e,c]/\(∀ u,RelV c u->u=cv)/\H e=some (ky e (.ref C))/\iN X.K C/\kitOne X.K (.ref C) cv=some b/\Q (.bl b) H):=by
  intro pins s σ H xs us Q I r h
  obtain ⟨e,c,cv,C,b,rfl,hcv,he,F,k,q⟩:=h
  obtain ⟨u,v,rfl,r1,r2⟩:=vals2 r
  rw [hcv v r2]
  cases (show u=Value.ref e from r1)
  obtain ⟨ix,_⟩:=(show bg X.prog X.w H s.heap e (ky e (.ref C)) from I.hok e _ he)
  exact kia_one (ye F) I.kIn ix k (fun z=>nomatch z) fun tk=>⟨.bl b,H,I.tok _,rfl,q⟩
theorem h7 {a:Addr}:∀ u,RelV (.ref a) u->u=Value.ref a:=fun _ h=>h
end
theorem qy:bootBuiltins "ValueError" = some (.type "ValueError"):=by decide +kernel
end L2
namespace Ck
open PySem L2
end Ck
set_option Elab.async false
set_option linter.all false
set_option maxRecDepth 100000
set_option maxHeartbeats 4000000
namespace L2
open PySem PySem.Spec PyProof.Rows
structure aM (P:Program) (w:World) (K:W.Frag) (mg:Str->Option Value) (base:Heap) (ps:List Str) (k:Nat) (sp:Sp) (f:Addr) (fd:FuncData):Prop where
  ok:aH P w K mg base (hV P w) k f fd ps sp
  b:Binds K fd ps []
section
variable {X:Cx} {C f:Addr} {fd:FuncData} {ps:List Str} {sp:Sp} {m:Str} {apos pos:Pos} {o e:Expr} {es:List Expr} {ta:TE} {t:TA} {j k:Nat}
theorem DA {pl:Sem Bool} (ho:PE X o ta) (c:gK X.K C) (hm:Meth X.K C m f) (D:aM X.prog X.w X.K X.mg X.base ps j sp f fd) (hr:bK k X.A) (ha:PA X (e::es) t) (hjk:j<=k:=by decide)
    (hst:starEach (e::es) X.env=(false,eval e X.env)::starEach es X.env:=by rfl) (hpl:(backTo pos (starEach es X.env)).any (·.1)=false:=by rfl)
    (ht:eval (.Call (.Attribute o m apos) (e::es) [] pos) X.env=(do
      let ov <- eval o X.env
      standAt apos.atName
      let (f,first) <- holding [ov] (getMethod ov m pl)
      callWith pos f first (backTo pos (starEach (e::es) X.env)) (backToKw pos (keywordEach [] X.env))):=by rfl) :
    PE X (.Call (.Attribute o m apos) (e::es) [] pos) (yH C m sp [] E0 ta t):=zf ho c hm D.ok (hr.mono hjk) D.b .nil nV ha hst hpl ht
end
structure fk (K:W.Frag) (C:Addr) (m:Str) (f:Addr):Prop where
  hg:W.specialIn K (.ref C) "__getattribute__" = some (some (.builtin "type.__getattribute__"))
  rd:W.readsIn K C (.type "type")=true
  at_:W.findCls K (.ref C) (.type "type") m=some (.val (.ref f))
  kp:W.keepIn K (.ref f)=true
section
variable {X:Cx} {C f:Addr} {fd:FuncData} {ps:List Str} {sp:Sp} {x m:Str} {p apos pos:Pos} {e:Expr} {es:List Expr} {t:TA} {j k:Nat}
theorem fM {pl:Sem Bool} (hm:X.mg x=some (.ref C)) (M:fk X.K C m f) (D:aM X.prog X.w X.K X.mg X.base ps j sp f fd) (hr:bK k X.A) (ha:PA X (e::es) t) (hjk:j<=k:=by decide) (hg:Gl X x:=by rfl)
    (hdb:(x == ("__debug__" : Str))=false:=by decide) (hst:starEach (e::es) X.env=(false,eval e X.env)::starEach es X.env:=by rfl) (hpl:(backTo pos (starEach es X.env)).any (·.1)=false:=by rfl)
    (ht:eval (.Call (.Attribute (.Name x p) m apos) (e::es) [] pos) X.env=(do
      let ov <- eval (.Name x p) X.env
      standAt apos.atName
      let (f,first) <- holding [ov] (getMethod ov m pl)
      callWith pos f first (backTo pos (starEach (e::es) X.env)) (backToKw pos (keywordEach [] X.env))):=by rfl) :
    PE X (.Call (.Attribute (.Name x p) m apos) (e::es) [] pos) (jL sp [] E0 t):=by
  intro pins s σ H Q I h
  refine W.methodCall_KW (pl:=pl) (gO I hg hm ?_ hdb) ht
  refine W.method_cls I.kIn M.hg (W.cls_value I.kIn M.rd M.at_ rfl ?_)
  have I1:Inv X pins σ H { s with toks:=s.toks+1 }:=I.tok _
  refine W.callWith_K (first:=[]) (h₀:=X.base) I.ok.mod.kin M.kp (aL (ha pos pins _ σ H _ I1 h) fun us s2 ⟨vs,H2,I2,r,q2⟩=>⟨I2.kIn,?_⟩) hst hpl
  exact nX D.ok (hr.mono hjk) D.b .nil nV I2 r q2
end
section
variable {X:Cx} {C f:Addr} {fd:FuncData} {ps:List Str} {sp:Sp} {x:Str} {p pos:Pos} {j k:Nat}
theorem gU (M:Mk X.K C f) (hm:X.mg x=some (.ref C)) (D:aM X.prog X.w X.K X.mg X.base ps j sp f fd) (hr:bK k X.A) (hjk:j+1<=k:=by decide) (hg:Gl X x:=by rfl) (hdb:(x == ("__debug__" : Str))=false:=by decide) :
    PE X (.Call (.Name x p) [] [] pos) (yy C sp [] E0 tF):=yg M D.ok (hr.mono hjk) hg hm D.b .nil nV hdb
end
end L2
namespace L2
open PySem
noncomputable def below (N:Nat) (sp:Nat->Sp):Sp:=fun vs H Q E=>∃ m,m < N/\sp m vs H Q E
end L2
set_option Elab.async false
set_option linter.all false
set_option maxRecDepth 100000
set_option maxHeartbeats 4000000
namespace L2
open PySem PySem.Spec PyProof.Rows
inductive ft (K:W.Frag) (H:Hp):Nat->V->V->Bool->Prop
  | flat {n:Nat} {x y:V} (fx:ie x=true) (fy:ie y=true):ft K H n x y (gQ x y)
  | same {n:Nat} {a:Addr}:ft K H n (.ref a) (.ref a) true
  | lst {n:Nat} {a b:Addr} {xs ys:List V} {e:Nat->Bool} (ne:a≠b) (ha:aI K H a xs) (hb:aI K H b ys) (hl:xs.length=ys.length)
      (hi:∀ j x y,xs[j]? = some x->ys[j]? = some y->ft K H n x y (e j)):ft K H (n+1) (.ref a) (.ref b) ((List.range xs.length).all e)
  | lstN {n:Nat} {a b:Addr} {xs ys:List V} (ne:a≠b) (ha:aI K H a xs) (hb:aI K H b ys) (hl:xs.length≠ys.length):ft K H (n+1) (.ref a) (.ref b) false
  | tup {n:Nat} {a b:Addr} {xs ys:List V} {e:Nat->Bool} (ne:a≠b) (ha:fZ K H a xs) (hb:fZ K H b ys)
      (hi:∀ j x y,xs[j]? = some x->ys[j]? = some y->ft K H n x y (e j)):ft K H (n+1) (.ref a) (.ref b) ((List.range (min xs.length ys.length)).all e&&xs.length == ys.length)
theorem ft.lstT {K:W.Frag} {H:Hp} {n:Nat} {a b:Addr} {xs ys:List V} (ne:a≠b) (ha:aI K H a xs) (hb:aI K H b ys) (hl:xs.length=ys.length) (hi:∀ (j:Nat) (x y:V),xs[j]? = some x->ys[j]? = some y->ft K H n x y true):ft K H (n+1) (.ref a) (.ref b) true:=by
  have h:=ft.lst (e:=fun _=>true) ne ha hb hl hi
  have e (k:Nat):(List.range k).all (fun _=>true)=true:=List.all_eq_true.mpr fun _ _=>rfl
  rw [e] at h
  exact h
section
variable {X:Cx} {pins:List (Addr × Obj)} {σ:St} {H:Hp} {s:Shared}
theorem gd {xs:List V} {us:List Value} (r:Vals xs us) {j:Nat} (h:j < us.toArray.size):∃ x,xs[j]? = some x/\RelV x us.toArray[j]:=by
  have h':j < us.length:=by simpa using h
  have hx:j < xs.length:=by rw [r.length]; exact h'
  obtain ⟨u,eu,ru⟩:=r.get (List.getElem?_eq_getElem hx)
  rw [List.getElem?_eq_getElem h'] at eu
  exact ⟨_,List.getElem?_eq_getElem hx,by
    have:us.toArray[j]=u:=by simpa using eu
    rw [this]; exact ru⟩
theorem ft.at_ {n:Nat} {x y:V} {b:Bool} (d:ft X.K H n x y b):∀ {A:Around} {u v:Value},A.units+n < cLine->Inv X pins σ H s->RelV x u->RelV y v->SeqAt.EqAt A s u v b:=by
  induction d with
  | flat fx fy=>intro A u v _ I ru rv; exact xv ru rv fx fy
  | same =>
    intro A u v _ I ru rv
    cases (show u=Value.ref _ from ru)
    cases (show v=Value.ref _ from rv)
    exact SeqAt.EqAt.same _
  | @lst n a b xs ys e ne ha hb hl hi ih =>
    intro A u v hu I ru rv
    cases (show u=Value.ref _ from ru)
    cases (show v=Value.ref _ from rv)
    obtain ⟨us,r,pl,_⟩:=I.list ha
    obtain ⟨vs,r',pl',_⟩:=I.list hb
    have l1:=r.length
    have l2:=r'.length
    have z:=SeqAt.RcAt.lists (A:=A) (e:=e) pl.isList pl'.isList (by simp; lia) (by lia) fun j h1 h2=>by
      obtain ⟨x,ex,rx⟩:=gd r h1
      obtain ⟨y,ey,ry⟩:=gd r' h2
      exact ih j x y ex ey (A:=A.in1) (by show A.units+1+n < cLine; lia) I rx ry
    rw [show us.toArray.size=xs.length by simp; lia] at z
    exact .of_refs ne z
  | @lstN n a b xs ys ne ha hb hl =>
    intro A u v hu I ru rv
    cases (show u=Value.ref _ from ru)
    cases (show v=Value.ref _ from rv)
    obtain ⟨us,r,pl,_⟩:=I.list ha
    obtain ⟨vs,r',pl',_⟩:=I.list hb
    have l1:=r.length
    have l2:=r'.length
    exact .of_refs ne (SeqAt.RcAt.lists_lengths pl.isList pl'.isList (by simp; lia) (by lia))
  | @tup n a b xs ys e ne ha hb hi ih =>
    intro A u v hu I ru rv
    cases (show u=Value.ref _ from ru)
    cases (show v=Value.ref _ from rv)
    obtain ⟨us,r,pl,_⟩:=I.tuple ha
    obtain ⟨vs,r',pl',_⟩:=I.tuple hb
    have l1:=r.length
    have l2:=r'.length
    have z:=SeqAt.RcAt.tuples (A:=A) (e:=e) pl pl' (by lia) fun j h1 h2=>by
      obtain ⟨x,ex,rx⟩:=gd r h1
      obtain ⟨y,ey,ry⟩:=gd r' h2
      exact ih j x y ex ey (A:=A.in1) (by show A.units+1+n < cLine; lia) I rx ry
    rw [show us.toArray.size=xs.length by simp; lia,show vs.toArray.size=ys.length by simp; lia] at z
    exact .of_refs ne z
noncomputable def z8 (K:W.Frag) (neg:Bool):R2:=fun x y H Q=>∃ n b,n<=100/\ft K H n x y b/\(∃ a c,x = .ref a/\y = .ref c/\a≠c)/\Q (.bl (if neg then !b else b)) H
theorem Bj (hu:X.A.units+100 < cLine):iq X (compareOp .Eq) (z8 X.K false):=by
  intro pins s σ H x y u v Q I ru rv h
  obtain ⟨n,b,hn,d,⟨a,c,rfl,rfl,hne⟩,q⟩:=h
  cases (show u=Value.ref _ from ru)
  cases (show v=Value.ref _ from rv)
  cases d with
  | flat fx _=>cases fx
  | same=>exact absurd rfl hne
  | @lst n _ _ xs ys e ne ha hb hl hi =>
    obtain ⟨us,r,pl,_⟩:=I.list ha
    obtain ⟨vs,r',pl',_⟩:=I.list hb
    have l1:=r.length
    have l2:=r'.length
    refine SeqAt.eq_listAt (e:=e) pl.isList pl'.isList (by simp; lia) (by lia) (fun j h1 h2=>?_) ⟨.bl _,H,I,rfl,?_⟩
    · obtain ⟨x,ex,rx⟩:=gd r h1
      obtain ⟨y,ey,ry⟩:=gd r' h2
      exact (hi j x y ex ey).at_ (A:=X.A.in1) (by show X.A.units+1+n < cLine; lia) I rx ry
    · rw [show us.toArray.size=xs.length by simp; lia]; exact q
  | @lstN n _ _ xs ys ne ha hb hl =>
    obtain ⟨us,r,pl,_⟩:=I.list ha
    obtain ⟨vs,r',pl',_⟩:=I.list hb
    have l1:=r.length
    have l2:=r'.length
    exact SeqAt.eq_list_lengthsAt pl.isList pl'.isList (by simp; lia) (by lia) ⟨.bl false,H,I,rfl,q⟩
  | @tup n _ _ xs ys e ne ha hb hi =>
    obtain ⟨us,r,pl,_⟩:=I.tuple ha
    obtain ⟨vs,r',pl',_⟩:=I.tuple hb
    have l1:=r.length
    have l2:=r'.length
    refine SeqAt.eq_tupleAt (e:=e) pl pl' (by lia) (fun j h1 h2=>?_) ⟨.bl _,H,I,rfl,?_⟩
    · obtain ⟨x,ex,rx⟩:=gd r h1
      obtain ⟨y,ey,ry⟩:=gd r' h2
      exact (hi j x y ex ey).at_ (A:=X.A.in1) (by show X.A.units+1+n < cLine; lia) I rx ry
    · rw [show us.toArray.size=xs.length by simp; lia,show vs.toArray.size=ys.length by simp; lia]; exact q
theorem rP (hu:X.A.units+100 < cLine):iq X (compareOp .NotEq) (z8 X.K true):=by
  intro pins s σ H x y u v Q I ru rv h
  obtain ⟨n,b,hn,d,⟨a,c,rfl,rfl,hne⟩,q⟩:=h
  cases (show u=Value.ref _ from ru)
  cases (show v=Value.ref _ from rv)
  cases d with
  | flat fx _=>cases fx
  | same=>exact absurd rfl hne
  | @lst n _ _ xs ys e ne ha hb hl hi =>
    obtain ⟨us,r,pl,_⟩:=I.list ha
    obtain ⟨vs,r',pl',_⟩:=I.list hb
    have l1:=r.length
    have l2:=r'.length
    refine SeqAt.RcNeAt.lists (e:=e) pl.isList pl'.isList (by simp; lia) (by lia) (fun j h1 h2=>?_) _ _ _ _ ⟨.bl _,H,I,rfl,?_⟩
    · obtain ⟨x,ex,rx⟩:=gd r h1
      obtain ⟨y,ey,ry⟩:=gd r' h2
      exact (hi j x y ex ey).at_ (A:=X.A.in1) (by show X.A.units+1+n < cLine; lia) I rx ry
    · rw [show us.toArray.size=xs.length by simp; lia]; exact q
  | @lstN n _ _ xs ys ne ha hb hl =>
    obtain ⟨us,r,pl,_⟩:=I.list ha
    obtain ⟨vs,r',pl',_⟩:=I.list hb
    have l1:=r.length
    have l2:=r'.length
    exact SeqAt.RcNeAt.lists_lengths pl.isList pl'.isList (by simp; lia) (by lia) _ _ _ _ ⟨.bl true,H,I,rfl,q⟩
  | @tup n _ _ xs ys e ne ha hb hi =>
    obtain ⟨us,r,pl,_⟩:=I.tuple ha
    obtain ⟨vs,r',pl',_⟩:=I.tuple hb
    have l1:=r.length
    have l2:=r'.length
    refine SeqAt.RcNeAt.tuples (e:=e) pl pl' (by lia) (fun j h1 h2=>?_) _ _ _ _ ⟨.bl _,H,I,rfl,?_⟩
    · obtain ⟨x,ex,rx⟩:=gd r h1
      obtain ⟨y,ey,ry⟩:=gd r' h2
      exact (hi j x y ex ey).at_ (A:=X.A.in1) (by show X.A.units+1+n < cLine; lia) I rx ry
    · rw [show us.toArray.size=xs.length by simp; lia,show vs.toArray.size=ys.length by simp; lia]; exact q
theorem qW {A:Around} {k:Nat} (hr:bK k A):A.units+100 < cLine:=Nat.lt_of_le_of_lt (by lia) hr.un
end
end L2
set_option Elab.async false
set_option linter.all false
set_option maxRecDepth 100000
set_option maxHeartbeats 4000000
namespace L2
open PySem PySem.Spec PyProof.Rows
section
variable {X:Cx}
end
section
variable {X:Cx} {pins:List (Addr × Obj)} {σ:St} {H:Hp} {s:Shared} {h':Heap}
end
section
variable {X:Cx}
end
end L2
set_option Elab.async false
set_option linter.all false
set_option maxRecDepth 100000
set_option maxHeartbeats 4000000
namespace Ck
open PySem L2
inductive Tree where
  | int (i:Int)
  | lst (l:List Tree)
  | tup (l:List Tree)
mutual
noncomputable def Rep (H:Hp):Tree->V->Prop
  | .int i,v=>v = .int i
  | .lst ts,v=>∃ a xs,v = .ref a/\H a=some (.lst xs)/\ts.length<=1000000/\i6 H ts xs
  | .tup ts,v=>∃ a xs,v = .ref a/\H a=some (.tup xs)/\ts.length<=1000000/\i6 H ts xs
noncomputable def i6 (H:Hp):List Tree->List V->Prop
  | [],xs=>xs=[]
  | t::ts,xs=>∃ v vs,xs=v::vs/\Rep H t v/\i6 H ts vs
end
mutual
noncomputable def dep:Tree->Nat
  | .int _=>0
  | .lst ts=>xB ts+1
  | .tup ts=>xB ts+1
noncomputable def xB:List Tree->Nat
  | []=>0
  | t::ts=>max (dep t) (xB ts)
end
mutual
theorem Rep.same {H H':Hp} (s:ai H H'):∀ (t:Tree) {v:V},Rep H t v->Rep H' t v
  | .int i,v,h=>by unfold Rep at h |-; exact h
  | .lst ts,v,h=>by
    unfold Rep at h |-
    obtain ⟨a,xs,e,ha,hl,r⟩:=h
    exact ⟨a,xs,e,s _ _ ha,hl,i6.same s ts r⟩
  | .tup ts,v,h=>by
    unfold Rep at h |-
    obtain ⟨a,xs,e,ha,hl,r⟩:=h
    exact ⟨a,xs,e,s _ _ ha,hl,i6.same s ts r⟩
theorem i6.same {H H':Hp} (s:ai H H'):∀ (ts:List Tree) {xs:List V},i6 H ts xs->i6 H' ts xs
  | [],xs,h=>by unfold i6 at h |-; exact h
  | t::ts,xs,h=>by
    unfold i6 at h |-
    obtain ⟨v,vs,e,r,rs⟩:=h
    exact ⟨v,vs,e,Rep.same s t r,i6.same s ts rs⟩
end
noncomputable abbrev Pair:=Int × Int
end Ck
namespace L2
open PySem
theorem n9 {K:W.Frag}:W.kitOne K (.type "tuple") (.type "tuple")=some true:=by rfl
end L2
set_option Elab.async false
set_option linter.all false
set_option maxRecDepth 100000
set_option maxHeartbeats 4000000
namespace Ck
open PySem L2
theorem uJ {c A B:Prop} [Decidable c] (hc:¬ c) (h:A):if (!decide c)=true then A else B:=by
  rw [decide_eq_false hc]
  exact g7 h
end Ck
set_option Elab.async false
set_option linter.all false
set_option maxRecDepth 100000
set_option maxHeartbeats 4000000
namespace L2
open PySem PySem.Spec PyProof.Rows PySem.SeqAt
section
variable {X:Cx}
theorem kA {K:W.Frag} {a:Addr} {xs:List V} {g:TG} {tt:TT} {te:TE} {σ0:St} {H:Hp} {D:Addr} {Q:VK} (Pv:Nat->List V->Hp->Prop) (hz:xs.length<=sizeLine)
    (h0:Pv 0 [] (upd H D (.lst []))) (hl:∀ i ys H',i<=xs.length->Pv i ys H'->aI K H' a xs/\ys.length<=i)
    (hs:∀ (i:Nat) (x:V) (ys:List V) (H':Hp) (R:VK) (R0:Hp->Prop),xs[i]? = some x->Pv i ys H'->(∀ v H3,H3 D=some (.lst ys)->Pv (i+1) (ys++[v]) (upd H3 D (.lst (ys++[v])))->R v H3)->(∀ H3,Pv (i+1) ys H3->R0 H3) ->
      g x σ0 H' fun σ2 H2=>Ext σ0 σ2/\tt σ2 H2 fun b H3=>if b=true then te σ2 H3 R else R0 H3)
    (hq:∀ ys H',Pv xs.length ys H'->Q (.ref D) H') :
    we (tJ K a) g tt te σ0 D Q H:=by
  refine ⟨fun i m ys H'=>m=xs.length - i/\i<=xs.length/\Pv i ys H',⟨xs.length,by simp,Nat.zero_le _,h0⟩,?_⟩
  rintro i m ys H' ⟨rfl,hi,p⟩
  obtain ⟨sq,ly⟩:=hl i ys H' hi p
  by_cases hlt:i < xs.length
  · refine .inr ⟨⟨xs,xs[i],sq,by simp [hlt]⟩,fun x H'' y=>?_⟩
    obtain ⟨e,y⟩:=y
    subst e
    have ex:=y xs sq
    refine hs i x ys _ _ _ ex p (fun v H3 hD p'=>⟨hD,by lia,xs.length - (i+1),by lia,rfl,hlt,p'⟩) fun H3 p'=>⟨xs.length - (i+1),by lia,rfl,hlt,p'⟩
  · have e:i=xs.length:=by lia
    subst e
    exact .inl ⟨⟨xs,sq,Nat.le_refl _⟩,hq ys H' p⟩
end
end L2
namespace Ck
open PySem L2
end Ck
namespace Ck
open PySem L2
structure bO (fs:List (Str × V)) (w:Str) (l:Int):Prop where
  word:fs.lookup ("word" : Str)=some (.str w)
  least:fs.lookup ("least" : Str)=some (.int l)
  no:∀ m:Str,m≠("word" : Str)->m≠("least" : Str)->fs.lookup m=none
theorem gw (w:Str) (l:Int):bO (gy ("least" : Str) (.int l) (gy ("word" : Str) (.str w) [])) w l :=
  ⟨by rw [fo,if_neg (by decide),fo,if_pos rfl],by rw [fo,if_pos rfl],fun m a b=>by rw [fo,if_neg b,fo,if_neg a]; rfl⟩
noncomputable def up (d:Int) (p:Pair):Pair:=(p.1+d,p.2+d)
end Ck
namespace Ck
open PySem L2
end Ck
namespace Ck
open PySem L2
end Ck
set_option Elab.async false
set_option linter.all false
set_option maxRecDepth 100000
set_option maxHeartbeats 4000000
namespace L2
open PySem PySem.Spec PyProof.Rows
section
variable {X:Cx}
end
end L2
namespace Ck
open PySem L2
end Ck
set_option Elab.async false
set_option linter.all false
set_option maxRecDepth 100000
set_option maxHeartbeats 4000000
namespace Ck
open PySem L2
end Ck
set_option Elab.async false
set_option linter.all false
set_option maxRecDepth 100000
set_option maxHeartbeats 4000000
namespace Ck
open PySem L2
end Ck
namespace Ck
open PySem L2
noncomputable def steps (ws:List Int):List Int:=(List.range (ws.length - 1)).map fun (i:Nat)=>(ws.getD (i+1) 0 - ws.getD i 0) % ((ws.length:Int)+1)
end Ck
set_option Elab.async false
set_option linter.all false
set_option maxRecDepth 100000
set_option maxHeartbeats 4000000
namespace L2
open PySem PySem.W
end L2
namespace Ck
open PySem L2
theorem ne_int {a b:Int} (h:a≠b):¬ V.int a=V.int b:=fun z=>h (by injection z)
end Ck
namespace Ck
end Ck
set_option Elab.async false
set_option linter.all false
set_option maxRecDepth 100000
set_option maxHeartbeats 4000000
namespace Ck
open PySem L2
end Ck
namespace Ck
open PySem L2
theorem pV (a b:Int):decide (V.int a=V.int b)=decide (a=b):=by
  by_cases h:a=b
  · rw [decide_eq_true h,decide_eq_true (by rw [h])]
  · rw [decide_eq_false h,decide_eq_false (ne_int h)]
end Ck
namespace Ck
end Ck
namespace Ck
open PySem L2
end Ck
set_option Elab.async false
set_option linter.all false
set_option maxRecDepth 100000
set_option maxHeartbeats 4000000
namespace L2
open PySem PySem.Spec PyProof.Rows
section
variable {X:Cx}
end
end L2
namespace L2
open PySem PySem.Spec PyProof.Rows
end L2
namespace L2
open PySem PySem.Spec PyProof.Rows
end L2
set_option Elab.async false
set_option linter.all false
set_option maxRecDepth 100000
set_option maxHeartbeats 4000000
namespace Ck
open PySem L2
noncomputable def Dn (n:Nat):List Int:=(List.range n).map fun (k:Nat)=>(k:Int)
noncomputable def stk (row:List Int) (k p:Nat):List Int:=(Dn p).filter fun m=>!decide (m∈row.take k)
end Ck
namespace Ck
open PySem L2
end Ck
set_option Elab.async false
set_option linter.all false
set_option maxRecDepth 100000
set_option maxHeartbeats 4000000
namespace Ck
open PySem L2
noncomputable def Dz (n:Nat):List Int:=(List.range n).map fun (k:Nat)=>1+(k:Int)
end Ck
namespace Ck
end Ck
namespace Ck
end Ck
set_option Elab.async false
set_option linter.all false
set_option maxRecDepth 100000
set_option maxHeartbeats 4000000
namespace L2
open PySem PySem.Spec PyProof.Rows PySem.SeqAt
section
variable {X:Cx}
end
end L2
namespace Ck
open PySem L2
end Ck
namespace L2
open PySem
theorem xf {A:Around} {k:Nat} (hr:bK k A):A.units+1 < cLine:=Nat.lt_of_le_of_lt (by lia) hr.un
end L2
namespace Ck
open PySem L2
end Ck
namespace L2
open PySem PySem.Spec PyProof.Rows
section
variable {κ:Type} [DecidableEq κ]
noncomputable def bS (kvs:List (κ × V)) (k:κ):Option V:=(kvs.find? fun kv=>decide (kv.1=k)).map (·.2)
noncomputable def putK (kvs:List (κ × V)) (k:κ) (v:V):List (κ × V) :=
  if (kvs.any fun kv=>decide (kv.1=k))=true then kvs.map (fun kv=>if kv.1=k then (kv.1,v) else kv) else kvs++[(k,v)]
theorem jX {p:κ × V} {r:List (κ × V)} {k:κ} (e:p.1=k):bS (p::r) k=some p.2:=by simp [bS,List.find?_cons,e]
theorem jT {p:κ × V} {r:List (κ × V)} {k:κ} (e:¬ p.1=k):bS (p::r) k=bS r k:=by simp [bS,List.find?_cons,e]
theorem jS (k:κ):∀ kvs:List (κ × V),(kvs.any fun kv=>decide (kv.1=k))=(bS kvs k).isSome
  | []=>rfl
  | p::r=>by
    rw [List.any_cons]
    by_cases e:p.1=k
    · simp only [jX e,decide_eq_true e,Bool.true_or,Option.isSome_some]
    · rw [jT e,decide_eq_false e,Bool.false_or]; exact jS k r
theorem jr (kvs:List (κ × V)) (k:κ) (v:V):(putK kvs k v).length<=kvs.length+1:=by
  unfold putK
  split
  · rw [List.length_map]; lia
  · rw [List.length_append,List.length_cons,List.length_nil]; lia
theorem xJ {kvs:List (κ × V)} {k:κ} (v:V) (h:bS kvs k=none):putK kvs k v=kvs++[(k,v)]:=by
  unfold putK
  rw [jS,h]
  exact if_neg (by decide)
theorem gA.isSome_eq {o:Option V} {u:Option Value} (r:gA o u):o.isSome=u.isSome:=by
  cases o with
  | none=>cases u with
    | none=>rfl
    | some _=>exact (show False from r).elim
  | some _=>cases u with
    | none=>exact (show False from r).elim
    | some _=>rfl
theorem gA.getD {o:Option V} {u:Option Value} {d:V} {d':Value} (r:gA o u) (rd:RelV d d'):RelV (o.getD d) (u.getD d'):=by
  cases o with
  | none=>cases u with
    | none=>exact rd
    | some _=>exact (show False from r).elim
  | some _=>cases u with
    | none=>exact (show False from r).elim
    | some _=>exact r
theorem KV.val {kvs:List (κ × V)} {vs:List (κ × Value)} (r:KV kvs vs) (k:κ):gA (bS kvs k) (valueAt vs k):=by
  unfold KV at r
  induction r with
  | nil=>exact True.intro
  | @cons p q ps qs h t ih =>
    obtain ⟨h1,h2⟩:=h
    by_cases e:p.1=k
    · have e':q.1=k:=h1.symm.trans e
      have b:valueAt (q::qs) k=some q.2:=by simp [valueAt,List.find?_cons,e']
      rw [jX e,b]; exact h2
    · have e':¬ q.1=k:=fun z=>e (h1.trans z)
      have b:valueAt (q::qs) k=valueAt qs k:=by simp [valueAt,List.find?_cons,e']
      rw [jT e,b]; exact ih
theorem KV.any {kvs:List (κ × V)} {vs:List (κ × Value)} (r:KV kvs vs) (k:κ):(kvs.any fun kv=>decide (kv.1=k))=vs.any fun kv=>decide (kv.1=k):=by
  unfold KV at r
  induction r with
  | nil=>rfl
  | cons h t ih=>rw [List.any_cons,List.any_cons,ih,h.1]
theorem KV.repl {kvs:List (κ × V)} {vs:List (κ × Value)} (r:KV kvs vs) (k:κ) {y:V} {u:Value} (ry:RelV y u) :
    KV (kvs.map fun kv=>if kv.1=k then (kv.1,y) else kv) (vs.map fun kv=>if kv.1=k then (kv.1,u) else kv):=by
  unfold KV at r |-
  induction r with
  | nil=>exact .nil
  | @cons p q ps qs h t ih =>
    rw [List.map_cons,List.map_cons]
    refine .cons ?_ ih
    obtain ⟨h1,h2⟩:=h
    by_cases e:p.1=k
    · rw [if_pos e,if_pos (h1.symm.trans e)]; exact ⟨h1,ry⟩
    · rw [if_neg e,if_neg (fun z=>e (h1.trans z))]; exact ⟨h1,h2⟩
theorem KV.put {kvs:List (κ × V)} {vs:List (κ × Value)} (r:KV kvs vs) (k:κ) {y:V} {u:Value} (ry:RelV y u):KV (putK kvs k y) (stored vs k u):=by
  unfold putK stored
  rw [r.any k]
  by_cases e:(vs.any fun kv=>decide (kv.1=k))=true
  · rw [if_pos e,if_pos e]; exact r.repl k ry
  · rw [if_neg e,if_neg e]; exact Paired.snoc r ⟨rfl,ry⟩
theorem KV.length {kvs:List (κ × V)} {vs:List (κ × Value)} (r:KV kvs vs):kvs.length=vs.length:=Paired.length r
end
theorem iH {P:Program} {w:World} {k:Key} {u:Value} (r:RelV (kV k) u):(bo P w).is k u=true:=by
  cases k with
  | inl i=>obtain ⟨t,e⟩:=(show ∃ t,u=Value.int i t from r); subst e; exact tU P w i t
  | inr x=>obtain ⟨t,e⟩:=(show ∃ t,u=Value.str x t from r); subst e; exact tV P w x t
theorem qg {P:Program} {w:World}:∀ {ks:List Key} {us:List Value},Vals (ks.map kV) us->ItemsAre (bo P w) ks us
  | [],_,r=>by rw [List.map_nil] at r; cases r; exact .nil
  | k::ks,_,r=>by
    rw [List.map_cons] at r
    cases r with
    | cons h t=>exact .cons (iH h) (qg t)
noncomputable abbrev KT (H:Hp):List (List Key × V)->List (List Key × Addr × Value)->Prop:=Paired fun p q=>p.1=q.1/\H q.2.1=some (.tup (p.1.map kV))/\RelV p.2 q.2.2
theorem KT.val {H:Hp} {kvs:List (List Key × V)} {xs:List (List Key × Addr × Value)} (r:KT H kvs xs) (k:List Key):gA (bS kvs k) ((atKey xs k).map (·.2)):=by
  induction r with
  | nil=>exact True.intro
  | @cons p q ps qs h t ih =>
    obtain ⟨h1,_,h2⟩:=h
    by_cases e:p.1=k
    · have e':q.1=k:=h1.symm.trans e
      have b:atKey (q::qs) k=some q.2:=by simp [atKey,List.find?_cons,e']
      rw [jX e,b]; exact h2
    · have e':¬ q.1=k:=fun z=>e (h1.trans z)
      have b:atKey (q::qs) k=atKey qs k:=by simp [atKey,List.find?_cons,e']
      rw [jT e,b]; exact ih
theorem KT.repl {H:Hp} {kvs:List (List Key × V)} {xs:List (List Key × Addr × Value)} (r:KT H kvs xs) (k:List Key) {y:V} {u:Value} (ry:RelV y u) :
    KT H (kvs.map fun kv=>if kv.1=k then (kv.1,y) else kv) (xs.map (putAt k u)):=by
  induction r with
  | nil=>exact .nil
  | @cons p q ps qs h t ih =>
    rw [List.map_cons,List.map_cons]
    refine .cons ?_ ih
    obtain ⟨h1,h2,h3⟩:=h
    unfold putAt
    by_cases e:p.1=k
    · rw [if_pos e,if_pos (h1.symm.trans e)]; exact ⟨h1,h2,ry⟩
    · rw [if_neg e,if_neg (fun z=>e (h1.trans z))]; exact ⟨h1,h2,h3⟩
theorem KT.put {H:Hp} {kvs:List (List Key × V)} {xs:List (List Key × Addr × Value)} (r:KT H kvs xs) (k:List Key) {b:Addr} {y:V} {u:Value} (hb:H b=some (.tup (k.map kV))) (ry:RelV y u) :
    KT H (putK kvs k y) (storedH xs k b u):=by
  have e:(kvs.any fun kv=>decide (kv.1=k))=(atKey xs k).isSome:=by
    rw [jS,(r.val k).isSome_eq,Option.isSome_map]
  unfold putK storedH
  rw [e]
  by_cases q:(atKey xs k).isSome=true
  · rw [if_pos q,if_pos q]; exact r.repl k ry
  · rw [if_neg q,if_neg q]; exact Paired.snoc r ⟨rfl,hb,ry⟩
theorem KT.keeps {H H':Hp} {kvs:List (List Key × V)} {xs:List (List Key × Addr × Value)} (r:KT H kvs xs) (ht:∀ b ys,H b=some (.tup ys)->H' b=some (.tup ys)):KT H' kvs xs :=
  Paired.mapP r fun _ _ z=>⟨z.1,ht _ _ z.2.1,z.2.2⟩
section
variable {P:Program} {w:World} {H:Hp} {h:Heap} {a:Addr}
theorem yF {u:HO} (ok:cF P w H h) (e:Rd H a u):bg P w H h a u:=e.ok ok
theorem md {kvs:List (Key × V)} (ok:cF P w H h) (e:Rd H a (.dK kvs)):kvs.length<=sizeLine/\(a == sysModules)=false/\∃ vs,KV kvs vs/\h.DictOf (bo P w) a vs :=
  show bg P w H h a (.dK kvs) from yF ok e
theorem oz {kvs:List (Key × V)} (ok:cF P w H h) (e:H a=some (.dK kvs)):kvs.length<=sizeLine/\(a == sysModules)=false/\∃ vs,KV kvs vs/\h.DictOf (bo P w) a vs:=md ok (.inl e)
theorem ki {ks:List Key} (ok:cF P w H h) (e:H a=some (.tup (ks.map kV))):(tupleKind (bo P w)).is h ks a:=by
  obtain ⟨_,its,r,o,h1,h2,n,h3⟩:=(show bg P w H h a (.tup (ks.map kV)) from ok a _ e)
  exact ⟨o,its.toArray,n,h1,h2,h3,by simpa using qg r⟩
theorem kW {kvs:List (List Key × V)} (ok:cF P w H h) (e:Rd H a (.dT kvs)):kvs.length<=sizeLine/\(a == sysModules)=false /\
    ∃ xs,KT H kvs xs/\h.DictOfH (tupleKind (bo P w)) a xs:=by
  obtain ⟨z,y,xs,r,o,es,ep,h1,h2,h3,h4,h5⟩:=(show bg P w H h a (.dT kvs) from yF ok e)
  refine ⟨z,y,xs,r,o,es,ep,h1,h2,h3,h4,fun x hx=>?_,h5⟩
  have all:∀ {l:List (List Key × V)} {m:List (List Key × Addr × Value)},KT H l m->∀ x∈m,(tupleKind (bo P w)).is h x.1 x.2.1:=by
    intro l m q
    induction q with
    | nil=>intro x hx; exact nomatch hx
    | @cons p q ps qs hq t ih =>
      intro x hx
      rcases List.mem_cons.mp hx with e | hx
      · subst e
        exact ki ok (by rw [<- hq.1]; exact hq.2.1)
      · exact ih x hx
  exact all r x hx
theorem CC {kvs:List (List Key × V)} (ok:cF P w H h) (e:H a=some (.dT kvs)):kvs.length<=sizeLine/\(a == sysModules)=false /\
    ∃ xs,KT H kvs xs/\h.DictOfH (tupleKind (bo P w)) a xs:=kW ok (.inl e)
end
def iu (H:Hp) (a:Addr) (y:V) (r:Option V):Prop :=
  (∃ kvs k,Rd H a (.dK kvs)/\y=kV k/\r=bS kvs k)\/∃ kvs k b,Rd H a (.dT kvs)/\y = .ref b/\H b=some (.tup (k.map kV))/\r=bS kvs k
def rC (H:Hp) (a:Addr) (y v:V) (H':Hp):Prop :=
  (∃ kvs k,H a=some (.dK kvs)/\y=kV k/\kvs.length < sizeLine/\H'=upd H a (.dK (putK kvs k v))) \/
  ∃ kvs k b,H a=some (.dT kvs)/\y = .ref b/\H b=some (.tup (k.map kV))/\kvs.length < sizeLine/\H'=upd H a (.dT (putK kvs k v))
theorem iu.k {H:Hp} {a:Addr} {kvs:List (Key × V)} {k:Key} (e:H a=some (.dK kvs)):iu H a (kV k) (bS kvs k):=.inl ⟨kvs,k,.inl e,rfl,rfl⟩
theorem rC.k {H:Hp} {a:Addr} {kvs:List (Key × V)} {k:Key} {v:V} (e:H a=some (.dK kvs)) (hl:kvs.length < sizeLine):rC H a (kV k) v (upd H a (.dK (putK kvs k v))):=.inl ⟨kvs,k,e,rfl,hl,rfl⟩
section
variable {X:Cx} {pins:List (Addr × Obj)} {σ:St} {H:Hp} {s:Shared} {a:Addr} {y v:V} {u r:Value} {o:Option V} {A:Around} {E:Value->Shared->Prop}
theorem Inv.big (I:Inv X pins σ H s):sysModules < s.heap.objs.size:=by
  have h:mainGlobals < s.heap.objs.size:=(I.mod.glob.keeps I.bk).lt
  exact Nat.lt_trans (by decide) h
theorem xj {Q:Value->Shared->Prop} (hu:A.units+1 < cLine) (I:Inv X pins σ H s) (g:iu H a y (some v)) (ry:RelV y u) (h:∀ w' s',Inv X pins σ H s'->RelV v w'->Q w' s') :
    wpAny (model X.prog X.w) A (getItem (.ref a) u) Q E s:=by
  rcases g with ⟨kvs,k,e,ey,l⟩ | ⟨kvs,k,b,e,ey,eb,l⟩
  · subst ey
    obtain ⟨z,hd,vs,rel,dd⟩:=md I.hok e
    obtain ⟨w',hw,rw'⟩:=gA.some_of (v:=v) (o:=valueAt vs k) (by rw [l]; exact rel.val k)
    exact wpAny_getItem_of (iH ry) dd.mapOf hw (h w' _ (I.tok _) rw')
  · subst ey
    cases (show u=Value.ref b from ry)
    obtain ⟨z,hd,xs,rel,dd⟩:=kW I.hok e
    obtain ⟨w',hw,rw'⟩:=gA.some_of (v:=v) (o:=(atKey xs k).map (·.2)) (by rw [l]; exact rel.val k)
    obtain ⟨p,hp,hp2⟩:=Option.map_eq_some_iff.mp hw
    refine wpAny_getItem_heap (tupleKind_room_in1 hu) (ki I.hok eb) dd hp ?_
    rw [hp2]
    exact h w' _ (I.tok _) rw'
theorem ze {Q:Value->Shared->Prop} (hu:A.units+1 < cLine) (I:Inv X pins σ H s) (g:iu H a y o) (ry:RelV y u) (h:∀ s',Inv X pins σ H s'->Q (.bool (!o.isSome)) s') :
    wpAny (model X.prog X.w) A (compareOp .NotIn u (.ref a)) Q E s:=by
  rcases g with ⟨kvs,k,e,ey,l⟩ | ⟨kvs,k,b,e,ey,eb,l⟩
  · subst ey
    obtain ⟨z,hd,vs,rel,dd⟩:=md I.hok e
    refine wpAny_notIn_of (iH ry) hd dd.mapOf ?_
    rw [<- (rel.val k).isSome_eq,<- l]
    exact h _ (I.tok _)
  · subst ey
    cases (show u=Value.ref b from ry)
    obtain ⟨z,hd,xs,rel,dd⟩:=kW I.hok e
    refine wpAny_notIn_heap (tupleKind_room_in1 hu) (ki I.hok eb) hd dd ?_
    have q:=(rel.val k).isSome_eq
    rw [Option.isSome_map] at q
    rw [<- q,<- l]
    exact h _ (I.tok _)
theorem lL {h':Heap} {t':Nat} {ob:HO} (I:Inv X pins σ H s) (mu:xo (H a)) (hs:Heap.SameBut a s.heap h') (he:∃ q,h'.get? a=some q) (new:bg X.prog X.w (upd H a ob) h' a ob) :
    Inv X pins σ (upd H a ob) { s with heap:=h',toks:=t' } :=
  I.write (x:=a) (e:=a) mu (.inl rfl) (fun b q hb z=>(hs.2 b hb).trans z) he new
theorem oE {P:Program} {w:World} {H':Hp} {h':Heap} {kvs:List (Key × V)} {vs:List (Key × Value)} (z:kvs.length<=sizeLine) (hd:(a == sysModules)=false) (rel:KV kvs vs) (dd:h'.DictOf (bo P w) a vs) :
    bg P w H' h' a (.dK kvs):=⟨z,hd,vs,rel,dd⟩
theorem wL {H':Hp} {Q:Unit->Shared->Prop} (hu:A.units+1 < cLine) (I:Inv X pins σ H s) (g:rC H a y v H') (ry:RelV y u) (rv:RelV v r) (h:∀ s',Inv X pins σ H' s'->Q () s') :
    wpAny (model X.prog X.w) A (setItem (.ref a) u r) Q E s:=by
  rcases g with ⟨kvs,k,e,ey,l,eH⟩ | ⟨kvs,k,b,e,ey,eb,l,eH⟩
  · subst ey eH
    obtain ⟨z,hd,vs,rel,dd⟩:=oz I.hok e
    have hz:vs.length<=sizeLine:=by rw [<- rel.length]; exact z
    have hl:(putK kvs k v).length<=sizeLine:=by have:=jr kvs k v; lia
    refine wpAny_setItem_pairs (hsz:=hz) (iH ry) dd fun h' dd' hs=>h _ ?_
    have he:∃ q,h'.get? a=some q:=let ⟨q,_,_,hq,_⟩:=dd'; ⟨q,hq⟩
    exact lL I (by rw [e]; exact True.intro) hs he (oE hl hd (rel.put k rv) dd')
  · subst ey eH
    cases (show u=Value.ref b from ry)
    obtain ⟨z,hd,xs,rel,dd⟩:=CC I.hok e
    have hz:xs.length<=sizeLine:=by rw [<- Paired.length rel]; exact z
    have hl:(putK kvs k v).length<=sizeLine:=by have:=jr kvs k v; lia
    refine wpAny_setItem_heap (hsz:=hz) (tupleKind_room_in1 hu) (ki I.hok eb) dd fun h' dd' hs=>h _ ?_
    obtain ⟨q,es,ep,hq,h2,h3,h4,_,h5⟩:=dd'
    refine lL I (by rw [e]; exact True.intro) hs ⟨q,hq⟩ ⟨hl,hd,_,(rel.put k eb rv).keeps fun c ys ec=>?_,q,es,ep,hq,h2,h3,h4,h5⟩
    rw [aE (Cq ec e (fun z=>nomatch z))]
    exact ec
end
section
variable {X:Cx} {pins:List (Addr × Obj)} {σ:St} {H:Hp} {s:Shared} {a:Addr} {kvs:List (Key × V)} {k:Key} {u:Value} {A:Around} {E:Value->Shared->Prop}
end
def Bp (i:Expr):Prop:=∀ ov iv,subscripted i false ov iv=operate [ov,iv] (getItem ov iv)
theorem yZ {prog:Program} {w:World} {A:Around} {E:Value->Shared->Prop} {s:Shared} {env:Env} {value slice:Expr} {pos:Pos} {T id:String} {Q:Value->Shared->Prop}
    (hl:typeLookup (.type T) "__getitem__" = pure (some (.builtin id))) (hs:Bp slice)
    (h:wpAny (model prog w) A (eval value env) (fun o s₁=>wpAny (model prog w) A (eval slice env) (fun i s₂=>s₂.TypeIs o T/\wpAny (model prog w) A (getItem o i) Q E s₂) E s₁) E s) :
    wpAny (model prog w) A (eval (.Subscript value slice pos) env) Q E s:=by
  refine Subscript_ (wpAny_mono h (fun o s₁ h₁=>wpAny_mono h₁ (fun i s₂ h₂=>?_) fun _ _ x=>x) fun _ _ x=>x)
  obtain ⟨hT,h₂⟩:=h₂
  unfold subscriptTail
  refine wpAny_bind ?_
  rw [getitemInPython_of_ne hT.not_modules]
  refine wpAny_bind (wpAny_specialOf hT hl ?_)
  have fin:wpAny (model prog w) A (subscripted slice false o i) (fun r s₃=>wpAny (model prog w) A (letTemporaryGo value o r >>= fun _=>pure r) Q E s₃) E s₂:=by
    rw [hs o i]
    exact wpAny_operating (wpAny_mono h₂ (fun r s₃ h₃=>wpAny_bind (wpAny_letTemporaryGo (wpAny_pure h₃))) fun _ _ x=>x)
  first
    | exact wpAny_pure (wpAny_bind fin)
    | exact wpAny_bind (wpAny_pure (wpAny_bind fin))
    | exact wpAny_bind fin
theorem tT {X:Cx} {pins:List (Addr × Obj)} {σ:St} {H:Hp} {s:Shared} {a:Addr} {y:V} {o:Option V} (I:Inv X pins σ H s) (g:iu H a y o):s.TypeIs (.ref a) "dict":=by
  rcases g with ⟨kvs,k,e,_,_⟩ | ⟨kvs,k,b,e,_,_,_⟩
  · obtain ⟨_,_,vs,_,dd⟩:=md I.hok e
    exact dd.typeIs
  · obtain ⟨_,_,xs,_,dd⟩:=kW I.hok e
    exact dd.typeIs
noncomputable def BY (td ty:TE):TE:=fun σ H Q=>td σ H fun x H1=>ty σ H1 fun y H2=>∃ a v,x = .ref a/\iu H2 a y (some v)/\Q v H2
noncomputable def yN (ty td:TE):TE:=fun σ H Q=>ty σ H fun y H1=>td σ H1 fun x H2=>∃ a o,x = .ref a/\iu H2 a y o/\Q (.bl (!o.isSome)) H2
noncomputable def Cr (td ty tv:TE):TS:=fun D σ H=>tv σ H fun v H1=>td σ H1 fun x H2=>ty σ H2 fun y H3=>∃ a H4,x = .ref a/\rC H3 a y v H4/\D.nx σ H4
section
variable {X:Cx} {o i e value:Expr} {pos pos' tpos:Pos} {td ty tv:TE}
theorem uw (hu:X.A.units+1 < cLine) (ho:PE X o td) (hi:PE X i ty) (hs:Bp i):PE X (.Subscript o i pos) (BY td ty):=by
  intro pins s σ H Q I h
  refine yZ PySem.F.slot_dict_getitem.lookup hs (aL (ho pins s σ H _ I h) fun u s1 ⟨x,H1,I1,rx,q1⟩=>aL (hi pins s1 σ H1 _ I1 q1) fun iv s2 ⟨y,H2,I2,ry,a,v,ex,g,q2⟩=>?_)
  subst ex
  obtain rfl:u=Value.ref a:=rx
  exact ⟨tT I2 g,xj hu I2 g ry fun w' s3 I3 rw'=>⟨v,H2,I3,rw',q2⟩⟩
theorem wz (hu:X.A.units+1 < cLine) (hi:PE X i ty) (ho:PE X o td):PC X .NotIn i o (yN ty td):=by
  intro pins s σ H Q I h
  refine aL (hi pins s σ H _ I h) fun iv s1 ⟨y,H1,I1,ry,q1⟩=>aL (ho pins s1 σ H1 _ I1 q1) fun u s2 ⟨x,H2,I2,rx,a,ov,ex,g,q2⟩=>?_
  subst ex
  obtain rfl:u=Value.ref a:=rx
  exact ze hu I2 g ry fun s3 I3=>⟨.bl (!ov.isSome),H2,I3,rfl,q2⟩
theorem zk (hu:X.A.units+1 < cLine) (ho:PE X o td) (hi:PE X i ty) (hv:PE X value tv) (hs:swapsWith value (some (.Subscript o i pos')) pos.line X.env=pure false) :
    PS X (.Assign [.Subscript o i pos'] value pos) (Cr td ty tv):=by
  intro pins s σ H D I h
  refine wpAny_Assign_Subscript (aL (hv pins s σ H _ I h) fun r s1 ⟨v,H1,I1,rv,q1⟩=>aL (ho pins s1 σ H1 _ I1 q1) fun u s2 ⟨x,H2,I2,rx,q2⟩=>aL (hi pins s2 σ H2 _ I2 q2) fun iv s3 ⟨y,H3,I3,ry,a,H4,ex,g,q3⟩=>?_) hs
  subst ex
  obtain rfl:u=Value.ref a:=rx
  exact wL hu I3 g ry rv fun s4 I4=>⟨σ,H4,I4,q3⟩
end
theorem r6 {P:Program} {w:World} {H:Hp} (h:Heap) (hb:sysModules < h.objs.size):bg P w H (h.push { cls:=.type "dict",data:=.dict #[] }) h.objs.size (.dK []) :=
  ⟨Nat.zero_le _,beq_eq_false_iff_ne.mpr (Ne.symm (Nat.ne_of_lt hb)),[],.nil,Heap.DictOf.new h⟩
noncomputable def AZ:TE:=fun _ H Q=>∀ p,H p=none->Q (.ref p) (upd H p (.dK []))
section
variable {X:Cx} {pos:Pos}
theorem xC:PE X (.Dict [] [] pos) AZ:=fun pins s σ H Q I h =>
  wpAny_Dict_empty ⟨.ref s.heap.objs.size,_,I.laid (a:=s.heap.objs.size) (o:=.dK []) (t':=s.toks) (fun _ _ q=>Heap.get?_push_of_some _ q) (Nat.le_refl _) (r6 s.heap I.big),rfl,h _ (I.hok.fresh (Nat.le_refl _))⟩
end
noncomputable def kg:List (TE × TE)->St->Hp->(List (V × V)->Hp->Prop)->Prop
  | [],_,H,Q=>Q [] H
  | (tk,tv)::r,σ,H,Q=>tk σ H fun x H1=>tv σ H1 fun y H2=>kg r σ H2 fun ps H3=>Q ((x,y)::ps) H3
noncomputable abbrev VV:List (V × V)->List (Value × Value)->Prop:=Paired fun p q=>RelV p.1 q.1/\RelV p.2 q.2
def ux (X:Cx) (pos:Pos) (keys:List (Option Expr)) (values:List Expr) (trs:List (TE × TE)):Prop :=
  ∀ (pins:List (Addr × Obj)) (s:Shared) (σ:St) (H:Hp) (Q:List (V × V)->Hp->Prop),Inv X pins σ H s->kg trs σ H Q ->
    wpAny (model X.prog X.w) X.A (evalPairs (pairTrees keys values X.env pos)) (fun vs s'=>∃ ps H',Inv X pins σ H' s'/\VV ps vs/\Q ps H') X.xe s
theorem tX {X:Cx} {pos:Pos}:ux X pos [] [] []:=fun pins s σ H Q I h=>pairTrees_nil_walk ⟨[],H,I,.nil,h⟩
theorem sW {X:Cx} {pos:Pos} {k v:Expr} {ks:List (Option Expr)} {vs:List Expr} {tk tv:TE} {trs:List (TE × TE)} (hk:PE X k tk) (hv:PE X v tv) (hr:ux X pos ks vs trs) :
    ux X pos (some k::ks) (v::vs) ((tk,tv)::trs):=fun pins s σ H Q I h =>
  pairTrees_cons_walk (aL (hk pins s σ H _ I h) fun u s1 ⟨x,H1,I1,rx,q1⟩=>aL (hv pins s1 σ H1 _ I1 q1) fun w2 s2 ⟨y,H2,I2,ry,q2⟩ =>
    aL (hr pins s2 σ H2 _ I2 q2) fun ws s3 ⟨ps,H3,I3,rel,q3⟩=>⟨(x,y)::ps,H3,I3,.cons ⟨rx,ry⟩ rel,q3⟩)
noncomputable def eV (kvs more:List (Key × V)):List (Key × V):=more.foldl (fun acc kv=>putK acc kv.1 kv.2) kvs
theorem KV.merge:∀ {more:List (Key × V)} {rs:List (Key × Value)} {kvs:List (Key × V)} {vs:List (Key × Value)},KV more rs->KV kvs vs->KV (eV kvs more) (merged vs rs):=by
  intro more rs kvs vs r
  unfold KV at r
  induction r generalizing kvs vs with
  | nil=>intro q; exact q
  | @cons p q ps qs h t ih =>
    intro r0
    have e:KV (putK kvs p.1 p.2) (stored vs q.1 q.2):=by
      have:=r0.put p.1 h.2
      rw [<- h.1]; exact this
    exact ih e
theorem g5:∀ (more kvs:List (Key × V)),(eV kvs more).length<=kvs.length+more.length
  | [],kvs=>by show kvs.length<=kvs.length+0; lia
  | p::r,kvs=>by
    have h1:=g5 r (putK kvs p.1 p.2)
    have h2:=jr kvs p.1 p.2
    show (eV (putK kvs p.1 p.2) r).length<=_
    rw [List.length_cons]; lia
theorem n0 {P:Program} {w:World}:∀ {kvs:List (Key × V)} {ws:List (Value × Value)},VV (kvs.map fun kv=>(kV kv.1,kv.2)) ws->∃ rs,Carries (bo P w) ws rs/\KV kvs rs
  | [],_,r=>by rw [List.map_nil] at r; cases r; exact ⟨[],True.intro,.nil⟩
  | p::kvs,_,r=>by
    rw [List.map_cons] at r
    cases r with
    | @cons a b as bs h t =>
      obtain ⟨rs,c,q⟩:=n0 (P:=P) (w:=w) t
      obtain ⟨b1,b2⟩:=b
      exact ⟨(p.1,b2)::rs,⟨iH h.1,rfl,c⟩,.cons ⟨rfl,h.2⟩ q⟩
noncomputable def oA (trs:List (TE × TE)):TE:=fun σ H Q=>∀ p,H p=none->kg trs σ (upd H p (.dK [])) fun ps H2=>H2 p=some (.dK [])/\∃ kvs:List (Key × V),ps=kvs.map (fun kv=>(kV kv.1,kv.2))/\kvs.length<=15/\Q (.ref p) (upd H2 p (.dK (eV [] kvs)))
theorem oZ {X:Cx} {pos:Pos} {keys:List (Option Expr)} {values:List Expr} {trs:List (TE × TE)} (h:ux X pos keys values trs) (hall:keys.all (·.isSome)=true) (hl:keys.length=values.length) (h0:keys≠[])
    (h15:keys.length<=15):PE X (.Dict keys values pos) (oA trs):=by
  intro pins s σ H Q I q
  have hn:=I.hok.fresh (Nat.le_refl s.heap.objs.size)
  have I1:=I.laid (a:=s.heap.objs.size) (o:=.dK []) (h':=s.heap.push { cls:=.type "dict",data:=.dict #[] }) (t':=s.toks) (fun _ _ q=>Heap.get?_push_of_some _ q) (Nat.le_refl _) (r6 s.heap I.big)
  refine wpAny_Dict_walk (knd:=bo X.prog X.w) hall hl h0 h15 (aL (h pins _ σ _ _ I1 (q _ hn)) fun ws s2 ⟨ps,H2,I2,rel,e,kvs,ep,lk,q2⟩=>?_)
  subst ep
  obtain ⟨rs,c,rk⟩:=n0 (P:=X.prog) (w:=X.w) rel
  obtain ⟨z,hd,vs0,r0,dd⟩:=oz I2.hok e
  cases r0
  refine ⟨rs,c,dd,fun h' dd' hs=>⟨.ref s.heap.objs.size,_,?_,rfl,q2⟩⟩
  have hz:(eV [] kvs).length<=sizeLine:=by
    have h1:=g5 kvs []
    rw [List.length_nil] at h1
    rw [sizeLine_eq]; lia
  have he:∃ q,h'.get? s.heap.objs.size=some q:=let ⟨q,_,_,hq,_⟩:=dd'; ⟨q,hq⟩
  exact lL I2 (by rw [e]; exact True.intro) hs he (oE hz hd (rk.merge .nil) dd')
structure M1 (X:Cx) (o:Expr) (m:Str) (apos:Pos) (e:Expr) (cpos:Pos):Prop where
  base:attributeBase o m X.env (eval o X.env)=eval o X.env
  few:((backTo cpos (starEach [e] X.env)).all (fun x=>!x.1)&&(backToKw cpos (keywordEach [] X.env)).all (fun x=>x.1.isSome)
    && decide (([e]:List Expr).length+([]:List Keyword).length+(if ([]:List Keyword).isEmpty then 0 else 1) < 30))=true
  line:(apos.endLine == cpos.line)=true
  trees:backTo cpos (starEach [e] X.env)=[(false,eval e X.env)]
structure M2 (X:Cx) (o:Expr) (m:Str) (apos:Pos) (e f:Expr) (cpos:Pos):Prop where
  base:attributeBase o m X.env (eval o X.env)=eval o X.env
  few:((backTo cpos (starEach [e,f] X.env)).all (fun x=>!x.1)&&(backToKw cpos (keywordEach [] X.env)).all (fun x=>x.1.isSome)
    && decide (([e,f]:List Expr).length+([]:List Keyword).length+(if ([]:List Keyword).isEmpty then 0 else 1) < 30))=true
  line:(apos.endLine == cpos.line)=true
  trees:backTo cpos (starEach [e,f] X.env)=[(false,eval e X.env),(false,eval f X.env)]
def Ad (H:Hp) (a:Addr):Prop:=(∃ kvs,Rd H a (.dK kvs))\/∃ kvs,Rd H a (.dT kvs)
theorem wW {X:Cx} {pins:List (Addr × Obj)} {σ:St} {H:Hp} {s:Shared} {a:Addr} (I:Inv X pins σ H s) (d:Ad H a) :
    s.TypeIs (.ref a) "dict"/\(∀ b,Value.ref a = .ref b->∃ ob,s.heap.get? b=some ob/\ob.dict=none)/\(a == sysModules)=false:=by
  rcases d with ⟨kvs,e⟩ | ⟨kvs,e⟩
  · obtain ⟨_,hd,vs,_,dd⟩:=md I.hok e
    refine ⟨dd.typeIs,fun b q=>?_,hd⟩
    cases q
    obtain ⟨ob,_,_,h1,h2,_⟩:=dd
    exact ⟨ob,h1,h2.2.1⟩
  · obtain ⟨_,hd,xs,_,dd⟩:=kW I.hok e
    refine ⟨dd.typeIs,fun b q=>?_,hd⟩
    cases q
    obtain ⟨ob,_,_,h1,h2,_⟩:=dd
    exact ⟨ob,h1,h2.2.1⟩
section
variable {X:Cx} {pins:List (Addr × Obj)} {σ:St} {H:Hp} {s:Shared} {a:Addr} {y d:V} {u r:Value} {o:Option V} {A:Around} {E:Value->Shared->Prop}
theorem zY {Q:Value->Shared->Prop} (hu:A.units+1 < cLine) (I:Inv X pins σ H s) (g:iu H a y o) (ry:RelV y u) (rd:RelV d r) (h:∀ w' s',Inv X pins σ H s'->RelV (o.getD d) w'->Q w' s') :
    wpAny (model X.prog X.w) A (call (.builtin "dict.get") [.ref a,u,r]) Q E s:=by
  rcases g with ⟨kvs,k,e,ey,l⟩ | ⟨kvs,k,b,e,ey,eb,l⟩
  · subst ey
    obtain ⟨z,hd,vs,rel,dd⟩:=md I.hok e
    refine call_meetsIn PySem.F.slot_dict_get dd.typeIs PySem.F.entry_dict_get (PySem.F.args_dict_get_3 _ _ _) (meets_dict_get_default (bo X.prog X.w) a (iH ry) hd r) ⟨_,dd.mapOf,h _ _ (I.tok _) ?_⟩
    rw [l]
    exact (rel.val k).getD rd
  · subst ey
    cases (show u=Value.ref b from ry)
    obtain ⟨z,hd,xs,rel,dd⟩:=kW I.hok e
    refine call_meetsIn PySem.F.slot_dict_get dd.typeIs PySem.F.entry_dict_get (PySem.F.args_dict_get_3 _ _ _) (meetsH_dict_get_default (tupleKind (bo X.prog X.w)) a b hd r) ⟨tupleKind_room_in1 hu,k,xs,ki I.hok eb,dd,h _ _ (I.tok _) ?_⟩
    rw [l]
    exact (rel.val k).getD rd
end
noncomputable def zQ (td ty tx:TE):TE:=fun σ H Q=>td σ H fun x H1=>∃ a,x = .ref a/\Ad H1 a/\ty σ H1 fun y H2=>tx σ H2 fun z H3=>∃ o,iu H3 a y o/\Q (o.getD z) H3
section
variable {X:Cx} {o e f:Expr} {apos cpos:Pos} {td ty tx:TE}
theorem xQ (hu:X.A.units+1 < cLine) (ho:PE X o td) (he:PE X e ty) (hf:PE X f tx) (m:M2 X o "get" apos e f cpos):PE X (.Call (.Attribute o "get" apos) [e,f] [] cpos) (zQ td ty tx):=by
  intro pins s σ H Q I h
  refine wpAny_Call_method m.base m.few m.line PySem.F.plainAttrs_dict PySem.F.slot_dict_get PySem.F.type_dict_get (aL (ho pins s σ H _ I h) fun u s1 ⟨x,H1,I1,rx,a,ex,d,q1⟩=>?_)
  subst ex
  obtain rfl:u=Value.ref a:=rx
  obtain ⟨t1,t2,_⟩:=wW I1 d
  refine ⟨t1,t2,?_⟩
  rw [m.trees]
  refine Calls.callWith_builtin rfl (Calls.evalArgs_plain (Calls.spliced_cons (aL (he pins s1 σ H1 _ I1 q1) fun iv s2 ⟨y,H2,I2,ry,q2⟩ =>
    Calls.spliced_cons (aL (hf pins s2 σ H2 _ I2 q2) fun fv s3 ⟨z,H3,I3,rz,ov,g,q3⟩=>Calls.spliced_nil ?_))))
  exact zY hu I3 g ry rz fun w' s4 I4 rw'=>⟨_,H3,I4,rw',q3⟩
end
section
variable {X:Cx} {pins:List (Addr × Obj)} {σ:St} {H:Hp} {s:Shared} {a:Addr} {kvs:List (Key × V)} {A:Around} {E:Value->Shared->Prop}
end
section
variable {X:Cx} {pins:List (Addr × Obj)} {σ:St} {H:Hp} {s:Shared} {a:Addr} {y:V} {u:Value} {A:Around} {E:Value->Shared->Prop}
end
end L2
namespace L2
open PySem PySem.Spec PyProof.Rows
section
variable {κ:Type} [DecidableEq κ]
theorem yP {kvs:List (κ × V)} {k:κ} {v:V} (h:bS kvs k=some v):k∈kvs.map (·.1):=by
  have q:(kvs.any fun kv=>decide (kv.1=k))=true:=by
    rw [jS,h]
    all_goals rfl
  obtain ⟨p,hp,e⟩:=List.any_eq_true.mp q
  exact List.mem_map.mpr ⟨p,hp,of_decide_eq_true e⟩
end
end L2
set_option Elab.async false
set_option linter.all false
set_option maxRecDepth 100000
set_option maxHeartbeats 4000000
namespace L2
open PySem PySem.Spec PyProof.Rows
section
variable {X:Cx}
end
end L2
namespace Ck
open PySem L2
end Ck
namespace L2
open PySem PySem.Spec PyProof.Rows PyProof
end L2
set_option Elab.async false
set_option linter.all false
set_option maxRecDepth 100000
set_option maxHeartbeats 4000000
namespace L2
open PySem PySem.Spec PyProof.Rows
section
variable {X:Cx} {f:Addr} {fd:FuncData} {ps:List Str} {sp:Sp} {x:Str} {p pos:Pos} {a b e:Expr} {es:List Expr} {tc:TE} {t:TA} {j k:Nat}
end
end L2
set_option Elab.async false
set_option linter.all false
set_option maxRecDepth 100000
set_option maxHeartbeats 4000000
namespace Dk
open PySem PyProof.Rows
section
variable {prog:Program} {w:World} {K:Type} [DecidableEq K] {knd:KeyKind prog w K} {A:Around} {E:Value->Shared->Prop} {s:Shared}
theorem xh {d:Addr} {kvs:List (K × Value)} {Q:Bool->Shared->Prop} (hd:(d == sysModules)=false) (hm:s.heap.DictOf knd d kvs) (h:Q false s):wpAny (model prog w) A (Builtin.List.listLengthHint (.ref d)) Q E s:=by
  unfold Builtin.List.listLengthHint
  refine wpAny_bind (wpAny_specialOf hm.typeIs F.slot_dict_len.lookup ?_)
  generalize hid:("dict.__len__" : String)=id0
  wp_delta
  rw [show splitId id0=some ("dict","__len__") from by subst hid; decide +kernel]
  subst hid
  refine wpAny_bind (wpAny_isInstance (T:="dict") (b:=true) hm.typeIs (by rw [isSubtype_type]; kernel_rfl) ?_)
  refine wpAny_ite_split (fun hab=>absurd hab (by decide)) (fun _=>?_)
  refine wpAny_ite_split (fun _=>?_) (fun hab=>absurd (by decide +kernel) hab)
  refine wpAny_bind (wpAny_typeOf hm.typeIs (wpAny_pure ?_))
  exact h
theorem tR {R:Result->Shared->Prop} {d:Addr} {kvs:List (K × Value)} (hh:A.handled=none) (hd:(d == sysModules)=false) (hm:s.heap.DictOf knd d kvs) (hlen:kvs.length<=2 ^ 24) (S:Addr) (res:Value) (c₀:Nat) (hS:s.heap.get? S=some { cls:=.type "list",data:=.seq #[] c₀ })
    (hR:∀ h' tk acc' c',(∀ b o,b≠S->s.heap.get? b=some o->h'.get? b=some o)->h'.get? S=some { cls:=.type "list",dict:=none,data:=.seq acc' c',slots:=#[] } ->
      ItemsOf (fun i v=>∃ k x,kvs[i]? = some (k,x)/\knd.is k v=true) acc' kvs.length->R (.ok (.ret res)) { s with heap:=h',toks:=tk }) :
    wpAny (model prog w) A.in1 (Builtin.List.listExtendWith (.ref S) (.ref d) res)
      (fun fin s'=>match fin with | .done f=>R (.ok f) s' | .again c'=>c'.quiet=true/\codeAny (model prog w) A c' R s') (fun e s'=>R (.error e) s') s:=by
  obtain ⟨ep,hat⟩:=hm.dictAt
  have hT:=hm.typeIs
  have hSd:S≠d:=fun e=>by
    obtain ⟨o,es,ho,hc,hdt,_⟩:=hat
    rw [<- e,hS] at ho
    cases ho
    cases hdt
  have hdlt:d < s.heap.objs.size:=hat.lt_size
  have hSlt:S < s.heap.objs.size:=Heap.lt_size hS
  have hSI:S≠s.heap.objs.size:=Nat.ne_of_lt hSlt
  have hdI:d≠s.heap.objs.size:=Nat.ne_of_lt hdlt
  have hSf:S∉[s.heap.objs.size,d]:=fun hm=>by
    rcases List.mem_cons.mp hm with h | h
    · exact hSI h
    · exact hSd (List.mem_singleton.mp h)
  have W:=(Walks.dictKeys (knd:=knd) (prog:=prog) (w:=w) (A:=A.in1) hh s.heap.objs.size d hdI kvs ep).toS
  have key:∀ (h:Heap) (c₁ tk:Nat),h.IsKeyIter s.heap.objs.size d 0 kvs.length ep->h.DictAt knd d kvs ep->(∀ b o,b≠S->s.heap.get? b=some o->h.get? b=some o) ->
      h.get? S=some { cls:=.type "list",data:=.seq #[] c₁ }->codeAny (model prog w) A (.builtin "list.extend.loop" ⟨[.ref S,.ref s.heap.objs.size,res],[]⟩) R { s with heap:=h,toks:=tk }:=by
    intro h c₁ tk hit hda hk hS₁
    refine codeAny_extend_loopS W (by rw [sizeLine_eq]; lia) S hSf res kvs.length 0 _ #[] c₁ rfl (Nat.zero_le _) ⟨hit,hda⟩ hS₁ (ItemsOf.nil _) fun s' acc' c' hm hS' hacc=>?_
    rw [Moved.eq_with hm]
    refine hR s'.heap s'.toks acc' c' (fun b o hb e=>hm.heap b o (fun hmem=>?_) (hk b o hb e)) hS' hacc
    rcases List.mem_cons.mp hmem with e' | hmem
    · exact hb e'
    · exact absurd (Heap.lt_size e) (by rw [List.mem_singleton.mp hmem]; exact Nat.lt_irrefl _)
  unfold Builtin.List.listExtendWith
  refine wpAny_bind (wpAny_typeOf hT ?_)
  have h1:Builtin.List.listSameRef (.ref S) (.ref d)=false:=by simp [Builtin.List.listSameRef,hSd]
  have h2:(Value.type "dict" == Value.type "list")=false:=by decide
  have h3:(Value.type "dict" == Value.type "tuple")=false:=by decide
  simp only [h1,h2,h3,Bool.or_false,Bool.false_eq_true,if_false]
  refine wpAny_bind (wpAny_pyIter_dict hd hat ?_)
  have up:∀ b o,s.heap.get? b=some o->(s.heap.push { cls:=.type "dict_keyiterator",data:=.fields #[.ref d,.int 0 0,.int kvs.length 0,.int ep 0] }).get? b=some o:=fun b o e=>Heap.get?_push_of_some _ e
  refine wpAny_bind (wpAny_holding (xh (knd:=knd) (kvs:=kvs) hd (hat.keep up).dictOf ?_))
  have hit₁:(s.heap.push { cls:=.type "dict_keyiterator",data:=.fields #[.ref d,.int 0 0,.int kvs.length 0,.int ep 0] }).IsKeyIter s.heap.objs.size d 0 kvs.length ep:=⟨_,Heap.get?_push_size _ rfl,rfl,rfl⟩
  have hS₁:=up _ _ hS
  refine wpAny_ite_split (fun _=>?_) (fun _=>wpAny_pure ⟨plainId_quiet F.plain_extend_loop _,key _ c₀ _ hit₁ (hat.keep up) (fun b o _ e=>up _ _ e) hS₁⟩)
  refine wpAny_bind (wpAny_rule ?_)
  refine wpAny_bind ?_
  show wpAny _ _ (updateSeq S (·.push .none) >>= fun _=>updateSeq S (·.pop)) _ _ _
  have hS₂:=Heap.get?_update_self (Obj.mapSeq (·.push Value.none)) hS₁ rfl
  have hS₃:=Heap.get?_update_self (Obj.mapSeq (·.pop)) hS₂ rfl
  refine wpAny_bind (wpAny_updateSeq hS₁ rfl (wpAny_updateSeq hS₂ rfl (wpAny_pure ⟨plainId_quiet F.plain_extend_loop _,key _ _ _ ?_ ?_ (fun b o hb e=>?_) hS₃⟩) (by show 1<=sizeLine; rw [sizeLine_eq]; lia) (by show 0<=_; exact Nat.zero_le _)) (Nat.zero_le _) (by show 1<=_; rw [sizeLine_eq]; lia))
  · exact hit₁.at fun o e=>(Heap.get?_update_other _ _ hSI).trans ((Heap.get?_update_other _ _ hSI).trans e)
  · exact (hat.keep up).at' fun o e=>(Heap.get?_update_other _ _ hSd).trans ((Heap.get?_update_other _ _ hSd).trans e)
  · exact (Heap.get?_update_other _ _ (Ne.symm hb)).trans ((Heap.get?_update_other _ _ (Ne.symm hb)).trans (up _ _ e))
theorem list_dict {Q:Value->Shared->Prop} {d:Addr} {kvs:List (K × Value)} (hh:A.handled=none) (hd:(d == sysModules)=false) (hm:s.heap.DictOf knd d kvs) (hlen:kvs.length<=2 ^ 24)
    (q:∀ h' tk acc' c',(∀ b o,s.heap.get? b=some o->h'.get? b=some o)->h'.get? s.heap.objs.size=some { cls:=.type "list",dict:=none,data:=.seq acc' c',slots:=#[] } ->
      ItemsOf (fun i v=>∃ k x,kvs[i]? = some (k,x)/\knd.is k v=true) acc' kvs.length->Q (.ref s.heap.objs.size) { s with heap:=h',toks:=tk }) :
    wpAny (model prog w) A (call (.type "list") [.ref d]) Q E s:=by
  have far:∀ {c o},s.heap.get? c=some o->s.heap.objs.size≠c:=fun e=>Nat.ne_of_gt (Heap.lt_size e)
  refine callType_codes (Q₁:=fun T s1=>T = .ref s.heap.objs.size/\s1={ s with heap:=s.heap.push { cls:=.type "list",data:=.seq #[] } }) F.called_list (F.typeCall_list_1 _) F.entry_list_init (code_list_new _ ⟨rfl,rfl⟩) fun T s1 e1=>?_
  obtain ⟨rfl,rfl⟩:=e1
  have g0:(s.heap.push { cls:=.type "list",data:=.seq #[] }).get? s.heap.objs.size=some { cls:=.type "list",data:=.seq #[] }:=Heap.get?_push_size _ rfl
  have g1:=Heap.get?_update_self (Obj.mapSeq (fun _=>(#[]:Array Value))) g0 rfl
  have oth:∀ b o,s.heap.get? b=some o->((s.heap.push { cls:=.type "list",data:=.seq #[] }).update s.heap.objs.size (Obj.mapSeq (fun _=>(#[]:Array Value)))).get? b=some o:=fun b o e=>(Heap.get?_update_other _ _ (far e)).trans (Heap.get?_push_of_some _ e)
  refine ⟨⟨_,g0,rfl⟩,F.args_list_init_2 _ _,?_⟩
  show wpAny _ _ (do let was <- Builtin.List.listItems (.ref s.heap.objs.size); Builtin.List.listUpdate (.ref s.heap.objs.size) (fun _=>#[]); letGo was.toList.reverse; Builtin.List.listExtendWith (.ref s.heap.objs.size) (.ref d) .none) _ _ _
  refine wpAny_bind ?_
  unfold Builtin.List.listItems
  refine wpAny_bind (wpAny_seqItems g0 rfl (wpAny_pure ?_))
  show wpAny _ _ (updateSeq s.heap.objs.size (fun _=>#[]) >>= fun _=>letGo (#[]:Array Value).toList.reverse >>= fun _=>Builtin.List.listExtendWith (.ref s.heap.objs.size) (.ref d) .none) _ _ _
  refine wpAny_bind (wpAny_updateSeq g0 rfl (wpAny_bind (wpAny_letGo ?_)) (Nat.zero_le _) (Nat.zero_le _))
  obtain ⟨ep,hat⟩:=hm.dictAt
  exact tR (s:={ s with heap:=(s.heap.push { cls:=.type "list",data:=.seq #[] }).update s.heap.objs.size (Obj.mapSeq (fun _=>(#[]:Array Value))) }) (A:=A.in1) hh hd (hat.keep oth).dictOf hlen _ _ _ g1
    fun h' tk acc' c' k e1 e2=>⟨rfl,q h' tk acc' c' (fun b o e=>k b o (Ne.symm (far e)) (oth b o e)) e1 e2⟩
end
end Dk
namespace L2
open PySem PySem.Spec PyProof.Rows
theorem Cw {P:Program} {w:World} {k:Key} {u:Value} (r:(bo P w).is k u=true):RelV (kV k) u:=by
  rcases cf r with ⟨i,t,rfl,rfl⟩ | ⟨x,t,rfl,rfl⟩
  · exact ⟨t,rfl⟩
  · exact ⟨t,rfl⟩
theorem qo {P:Program} {w:World}:∀ {kvs:List (Key × V)} {vs:List (Key × Value)} {us:List Value},KV kvs vs->us.length=vs.length->(∀ (j:Nat) v,us[j]? = some v->∃ k x,vs[j]? = some (k,x)/\(bo P w).is k v=true)->Vals (kvs.map fun kv=>kV kv.1) us
  | [],_,us,.nil,hl,_=>by cases us with | nil=>exact .nil | cons _ _=>cases hl
  | p::kvs,q::vs,us,.cons h r,hl,hk=>by
    cases us with
    | nil=>cases hl
    | cons u us =>
      refine .cons ?_ (qo r (by simpa using hl) fun j v e=>hk (j+1) v (by simpa using e))
      obtain ⟨k,x,e1,e2⟩:=hk 0 u rfl
      have:q=(k,x):=by simpa using e1
      subst this
      show RelV (kV p.1) u
      rw [h.1]
      exact Cw e2
theorem vM {X:Cx} (hc:X.calm=true):jk X (.type "list") (fun xs H Q=>∃ a kvs,xs=[V.ref a]/\H a=some (.dK kvs)/\∀ l,H l=none->Q (.ref l) (upd H l (.lst (kvs.map fun kv=>kV kv.1)))):=by
  intro pins s σ H xs us Q I r h
  obtain ⟨a,kvs,rfl,e,q⟩:=h
  obtain ⟨u,rfl,rx⟩:=vals1 r
  cases rx
  obtain ⟨z,hd,vs,rel,dd⟩:=oz I.hok e
  refine Dk.list_dict (I.ok.hd hc) hd dd (by rw [<- rel.length]; rw [sizeLine_eq] at z; lia) fun h' tk acc' c' kp he hacc=>?_
  refine ⟨.ref s.heap.objs.size,_,I.laid (t':=tk) (o:=.lst (kvs.map fun kv=>kV kv.1)) kp (Nat.le_refl _) ⟨?_,acc'.toList,c',qo (P:=X.prog) (w:=X.w) rel (by simpa using hacc.1) fun j v e=>hacc.2 j v (by simpa using e),he⟩,rfl,q _ (I.hok.fresh (Nat.le_refl _))⟩
  rw [List.length_map]; exact z
end L2
namespace L2
open PySem PySem.Spec PyProof.Rows
end L2
namespace Ck
open PySem L2
theorem gW:∀ (more kvs:List (Key × V)),((kvs++more).map (·.1)).Nodup->eV kvs more=kvs++more
  | [],kvs,_=>by rw [List.append_nil]; rfl
  | p::more,kvs,h=>by
    have hn:bS kvs p.1=none:=by
      cases e:bS kvs p.1 with
      | none=>rfl
      | some v =>
        exfalso
        have hm:=yP e
        rw [List.map_append,List.map_cons] at h
        exact (List.nodup_append.mp h).2.2 _ hm _ (List.mem_cons_self ..) rfl
    show eV (putK kvs p.1 p.2) more=_
    rw [xJ _ hn,gW more _ (by rw [List.append_assoc]; exact h),List.append_assoc]
    rfl
noncomputable def fq (items:List (Str × Addr)):List (Key × V):=items.map fun it=>(.inr it.1,.ref it.2)
noncomputable def pM (r:Str × List (Str × Addr)):TE × TE:=(tC (.str r.1),oA (r.2.map fun it=>(tC (.str it.1),tC (.ref it.2))))
theorem j0 (σ:L2.St):∀ (items:List (Str × Addr)) (H:Hp) (Q:List (V × V)->Hp->Prop),Q ((fq items).map fun kv=>(kV kv.1,kv.2)) H->kg (items.map fun it=>(tC (.str it.1),tC (.ref it.2))) σ H Q
  | [],_,_,h=>h
  | it::items,H,Q,h=>j0 σ items H _ h
theorem kG (items:List (Str × Addr)):(fq items).map (·.1)=(items.map (·.1)).map Sum.inr:=by
  rw [fq,List.map_map,List.map_map]; rfl
theorem nodup_inr {ys:List Str} (h:ys.Nodup):(ys.map (Sum.inr:Str->Key)).Nodup:=by
  induction ys with
  | nil=>exact .nil
  | cons y ys ih =>
    rw [List.nodup_cons] at h
    rw [List.map_cons,List.nodup_cons]
    exact ⟨fun z=>by obtain ⟨a,b,c⟩:=List.mem_map.mp z; cases c; exact h.1 b,ih h.2⟩
def qL (p:Addr) (H:Hp) (r:Str × List (Str × Addr)) (kv:Key × V):Prop:=kv.1 = .inr r.1/\∃ d,d≠p/\kv.2 = .ref d/\H d=some (.dK (fq r.2))
theorem qj (σ:L2.St) (p:Addr):∀ (rows:List (Str × List (Str × Addr))) (H:Hp) (Q:List (V × V)->Hp->Prop),(∀ r∈rows,(r.2.map (·.1)).Nodup/\r.2.length<=15)->H p=some (.dK []) ->
    (∀ (kvs:List (Key × V)) (H':Hp),ai H H'->H' p=some (.dK [])->Paired (qL p H') rows kvs->Q (kvs.map fun kv=>(kV kv.1,kv.2)) H')->kg (rows.map pM) σ H Q
  | [],H,Q,_,hp,h=>h [] H (ai.refl H) hp .nil
  | r::rows,H,Q,hk,hp,h=>by
    intro d hd
    obtain ⟨nd,l15⟩:=hk r (List.mem_cons_self ..)
    refine j0 σ r.2 _ _ ⟨ah,fq r.2,rfl,by rw [fq,List.length_map]; exact l15,?_⟩
    rw [gW _ _ (by rw [List.nil_append,kG]; exact nodup_inr nd),List.nil_append,dX]
    have s1:=ai.new (ai.refl H) hd (.dK (fq r.2))
    refine qj σ p rows _ _ (fun r hr=>hk r (List.mem_cons_of_mem _ hr)) (s1 _ _ hp) fun kvs H' s2 hp' pr=>?_
    exact h ((.inr r.1,.ref d)::kvs) H' (s1.trans s2) hp' (.cons ⟨rfl,d,(bh hp hd).symm,rfl,s2 _ _ ah⟩ pr)
def u9 (H:Hp) (p:Addr) (rows:List (Str × List (Str × Addr))):Prop:=∃ kvs,H p=some (.dK kvs)/\Paired (qL p H) rows kvs
theorem zH {H:Hp} {p:Addr} {rows:List (Str × List (Str × Addr))} {kvs:List (Key × V)} (h:Paired (qL p H) rows kvs) {w:Str} {items:List (Str × Addr)} (hf:rows.lookup w=some items):∃ d,bS kvs (.inr w)=some (.ref d)/\H d=some (.dK (fq items)):=by
  induction h with
  | nil=>cases hf
  | @cons r kv rows kvs h _ ih =>
    obtain ⟨h1,d,_,h2,h3⟩:=h
    obtain ⟨rw,ri⟩:=r
    by_cases e:w=rw
    · subst e
      rw [List.lookup_cons,beq_self_eq_true] at hf
      cases hf
      exact ⟨d,by rw [jX h1,h2],h3⟩
    · rw [List.lookup_cons,beq_eq_false_iff_ne.mpr e] at hf
      obtain ⟨d',e1,e2⟩:=ih hf
      exact ⟨d',by rw [jT (by rw [h1]; intro z; cases z; exact e rfl)]; exact e1,e2⟩
theorem uM (items:List (Str × Addr)):((fq items).map fun kv=>kV kv.1)=(items.map (·.1)).map V.str:=by
  rw [fq,List.map_map,List.map_map]; rfl
theorem wR {σ:L2.St} {H:Hp} {Q:VK} {rows:List (Str × List (Str × Addr))} (hk:∀ r∈rows,(r.2.map (·.1)).Nodup/\r.2.length<=15) (ho:(rows.map (·.1)).Nodup) (hl:rows.length<=15)
    (h:∀ p H',ai H H'->H p=none->u9 H' p rows->Q (.ref p) H'):oA (rows.map pM) σ H Q:=by
  intro p hp
  refine qj σ p rows _ _ hk ah fun kvs H' s1 hp' pr=>⟨hp',kvs,rfl,by rw [<- pr.length]; exact hl,?_⟩
  have ek:kvs.map (·.1)=(rows.map (·.1)).map Sum.inr:=by
    clear hk ho hl h s1 hp' hp
    induction pr with
    | nil=>rfl
    | cons h _ ih=>rw [List.map_cons,List.map_cons,List.map_cons,h.1,ih]
  rw [gW _ _ (by rw [List.nil_append,ek]; exact nodup_inr ho),List.nil_append]
  have s0:ai H H':=fun b o e=>s1 b o (by rw [aE (fun z=>by rw [z,hp] at e; cases e)]; exact e)
  refine h p _ (s0.upd hp _) hp ⟨kvs,ah,?_⟩
  have keep:∀ o:HO,Paired (qL p (upd H' p o)) rows kvs:=fun o=>by
    clear hk ho hl h s1 hp' hp ek s0
    induction pr with
    | nil=>exact .nil
    | cons h _ ih =>
      obtain ⟨h1,d,h2,h3,h4⟩:=h
      exact .cons ⟨h1,d,h2,h3,by rw [aE h2]; exact h4⟩ ih
  exact keep _
theorem u9.get {H:Hp} {p:Addr} {rows:List (Str × List (Str × Addr))} (h:u9 H p rows) {w:Str} {items:List (Str × Addr)} (hf:rows.lookup w=some items):∃ d,iu H p (.str w) (some (.ref d))/\H d=some (.dK (fq items)):=by
  obtain ⟨kvs,hp,pr⟩:=h
  obtain ⟨d,e1,e2⟩:=zH pr hf
  exact ⟨d,e1▸iu.k (k:=.inr w) hp,e2⟩
def bM (H:Hp) (x:V) (f:Str × Addr × Int):Prop:=∃ a dx fs,x = .ref a/\H a=some (.ins f.2.1 dx fs)/\bO fs f.1 f.2.2
theorem bM.same {H H':Hp} {x:V} {f:Str × Addr × Int} (h:bM H x f) (s:ai H H'):bM H' x f:=by
  obtain ⟨a,dx,fs,h1,h2,h3⟩:=h
  exact ⟨a,dx,fs,h1,s _ _ h2,h3⟩
theorem bV {H H':Hp} {xs:List V} {fm:List (Str × Addr × Int)} (h:Paired (bM H) xs fm) (s:ai H H'):Paired (bM H') xs fm:=by
  induction h with
  | nil=>exact .nil
  | cons h _ ih=>exact .cons (h.same s) ih
theorem gc {H:Hp} {xs ys:List V} {fm gm:List (Str × Addr × Int)} (h:Paired (bM H) xs fm) (g:Paired (bM H) ys gm):Paired (bM H) (xs++ys) (fm++gm):=by
  induction h with
  | nil=>exact g
  | cons h _ ih=>exact .cons h ih
theorem jC {H:Hp} {xs:List V} {fm:List (Str × Addr × Int)} (h:Paired (bM H) xs fm) {i:Nat} {x:V} (hx:xs[i]? = some x):∃ f,fm[i]? = some f/\bM H x f:=by
  induction h generalizing i with
  | nil=>cases hx
  | @cons y f ys fs h _ ih =>
    cases i with
    | zero=>simp only [List.getElem?_cons_zero,Option.some.injEq] at hx; subst hx; exact ⟨f,rfl,h⟩
    | succ i=>rw [List.getElem?_cons_succ] at hx; obtain ⟨g,g1,g2⟩:=ih hx; exact ⟨g,by rw [List.getElem?_cons_succ]; exact g1,g2⟩
end Ck
namespace L2
open PySem PySem.Spec PyProof.Rows Ck
section
variable {X:Cx}
end
end L2
namespace Ck
open PySem L2
end Ck
namespace Ck
open PySem L2
end Ck
namespace L2
open PySem PySem.Spec PyProof.Rows Ck
noncomputable def keyOf:Option Expr->Option Str
  | some (.Constant (.str x) _ _)=>some x
  | _=>none
noncomputable def nameOf:Expr->Option Str
  | .Name x _=>some x
  | _=>none
noncomputable def iJ:Expr->Option (List (Option Expr) × List Expr)
  | .Dict ks vs _=>some (ks,vs)
  | _=>none
theorem iT {k:Option Expr} {x:Str} (h:keyOf k=some x):∃ j p,k=some (.Constant (.str x) j p):=by
  unfold keyOf at h
  split at h
  · cases h; exact ⟨_,_,rfl⟩
  · cases h
theorem mS {e:Expr} {x:Str} (h:nameOf e=some x):∃ p,e = .Name x p:=by
  unfold nameOf at h
  split at h
  · cases h; exact ⟨_,rfl⟩
  · cases h
theorem jo {e:Expr} {d:List (Option Expr) × List Expr} (h:iJ e=some d):∃ p,e = .Dict d.1 d.2 p:=by
  unfold iJ at h
  split at h
  · cases h; exact ⟨_,rfl⟩
  · cases h
noncomputable def il:List (Option Expr)->List Expr->List (Str × Str)->Bool
  | [],[],[]=>true
  | k::ks,v::vs,n::ns=>decide (keyOf k=some n.1)&&decide (nameOf v=some n.2)&&!(n.2 == ("__debug__" : Str))&&il ks vs ns
  | _,_,_=>false
noncomputable def kI:List (Option Expr)->List Expr->List (Str × List (Str × Str))->Bool
  | [],[],[]=>true
  | k::ks,v::vs,n::ns=>decide (keyOf k=some n.1)&&(match iJ v with | some d=>il d.1 d.2 n.2&&decide (n.2≠[])&&decide (n.2.length<=15) | none=>false)&&kI ks vs ns
  | _,_,_=>false
def jH (X:Cx) (n:Str × Str) (it:Str × Addr):Prop:=n.1=it.1/\Gl X n.2/\X.mg n.2=some (.ref it.2)
theorem je:∀ {ks:List (Option Expr)} {vs:List Expr} {ns:List (Str × Str)},il ks vs ns=true->ks.all (·.isSome)=true/\ks.length=vs.length/\ks.length=ns.length
  | [],[],[],_=>⟨rfl,rfl,rfl⟩
  | k::ks,v::vs,n::ns,h=>by
    unfold il at h
    simp only [Bool.and_eq_true,decide_eq_true_iff] at h
    obtain ⟨⟨⟨h1,_⟩,_⟩,h4⟩:=h
    obtain ⟨j,p,rfl⟩:=iT h1
    obtain ⟨a,b,c⟩:=je h4
    exact ⟨by rw [List.all_cons,a]; rfl,by simp [b],by simp [c]⟩
  | [],_::_,_,h=>by cases h
  | _::_,[],_,h=>by cases h
  | [],[],_::_,h=>by cases h
  | _::_,_::_,[],h=>by cases h
theorem pL {X:Cx} {pos:Pos}:∀ {ks:List (Option Expr)} {vs:List Expr} {ns:List (Str × Str)} {items:List (Str × Addr)},il ks vs ns=true->Paired (jH X) ns items->ux X pos ks vs (items.map fun it=>(tC (.str it.1),tC (.ref it.2)))
  | [],[],[],_,_,.nil=>tX
  | k::ks,v::vs,n::ns,_,h,.cons (b:=it) hn hr=>by
    unfold il at h
    simp only [Bool.and_eq_true,decide_eq_true_iff,Bool.not_eq_true'] at h
    obtain ⟨⟨⟨h1,h2⟩,h3⟩,h4⟩:=h
    obtain ⟨j,p,rfl⟩:=iT h1
    obtain ⟨p',rfl⟩:=mS h2
    obtain ⟨e,g,m⟩:=hn
    rw [List.map_cons,<- e]
    exact sW ao (fW g m rfl h3) (pL h4 hr)
  | [],_::_,_,_,h,_=>by cases h
  | _::_,[],_,_,h,_=>by cases h
  | [],[],_::_,_,h,_=>by cases h
  | _::_,_::_,[],_,h,_=>by cases h
def nt (X:Cx) (n:Str × List (Str × Str)) (r:Str × List (Str × Addr)):Prop:=n.1=r.1/\Paired (jH X) n.2 r.2
theorem rM {X:Cx} {pos:Pos}:∀ {ks:List (Option Expr)} {vs:List Expr} {ns:List (Str × List (Str × Str))} {rows:List (Str × List (Str × Addr))},kI ks vs ns=true->Paired (nt X) ns rows ->
    ux X pos ks vs (rows.map pM)/\ks.all (·.isSome)=true/\ks.length=vs.length/\ks.length=ns.length
  | [],[],[],_,_,.nil=>⟨tX,rfl,rfl,rfl⟩
  | k::ks,v::vs,n::ns,_,h,.cons (b:=r) hn hr=>by
    unfold kI at h
    simp only [Bool.and_eq_true,decide_eq_true_iff] at h
    obtain ⟨⟨h1,h2⟩,h4⟩:=h
    obtain ⟨j,p,rfl⟩:=iT h1
    cases hd:iJ v with
    | none=>rw [hd] at h2; cases h2
    | some d =>
      rw [hd] at h2
      simp only [Bool.and_eq_true,decide_eq_true_iff] at h2
      obtain ⟨⟨k1,k2⟩,k3⟩:=h2
      obtain ⟨p',rfl⟩:=jo hd
      obtain ⟨e,pn⟩:=hn
      obtain ⟨a1,a2,a3⟩:=je k1
      obtain ⟨b1,b2,b3,b4⟩:=rM (pos:=pos) h4 hr
      refine ⟨?_,by rw [List.all_cons,b2]; rfl,by simp [b3],by simp [b4]⟩
      rw [List.map_cons]
      unfold pM
      rw [<- e]
      exact sW ao (oZ (pL k1 pn) a1 a2 (fun z=>k2 (List.eq_nil_of_length_eq_zero (by rw [<- a3,z]; rfl))) (by lia)) b1
  | [],_::_,_,_,h,_=>by cases h
  | _::_,[],_,_,h,_=>by cases h
  | [],[],_::_,_,h,_=>by cases h
  | _::_,_::_,[],_,h,_=>by cases h
theorem zh {X:Cx} {ks:List (Option Expr)} {vs:List Expr} {pos:Pos} (ns:List (Str × List (Str × Str))) (rows:List (Str × List (Str × Addr))) (h:kI ks vs ns=true) (h0:ns≠[]) (h15:ns.length<=15) (pr:Paired (nt X) ns rows) :
    PE X (.Dict ks vs pos) (oA (rows.map pM)):=by
  obtain ⟨b1,b2,b3,b4⟩:=rM (pos:=pos) h pr
  exact oZ b1 b2 b3 (fun z=>h0 (List.eq_nil_of_length_eq_zero (by rw [<- b4,z]; rfl))) (by lia)
end L2
namespace L2
open PySem PySem.Spec PyProof.Rows Ck
noncomputable def lU:List Stmt->Option Expr
  | [.Return (some e) _]=>some e
  | _=>none
theorem oi {b:List Stmt} {e:Expr} (h:lU b=some e):∃ p,b=[.Return (some e) p]:=by
  unfold lU at h
  split at h
  · cases h; exact ⟨_,rfl⟩
  · cases h
noncomputable def sG (b:List Stmt) (ns:List (Str × List (Str × Str))):Bool:=match lU b with
  | some e=>(match iJ e with | some d=>kI d.1 d.2 ns | none=>false)
  | none=>false
theorem wK {X:Cx} {b:List Stmt} {ns:List (Str × List (Str × Str))} {rows:List (Str × List (Str × Addr))} (h:sG b ns=true) (h0:ns≠[]) (h15:ns.length<=15) (pr:Paired (nt X) ns rows):gP X b (sQ (oA (rows.map pM))):=by
  unfold sG at h
  cases hr:lU b with
  | none=>rw [hr] at h; cases h
  | some e =>
    rw [hr] at h
    obtain ⟨p,rfl⟩:=oi hr
    cases hd:iJ e with
    | none=>simp only [hd] at h; cases h
    | some d =>
      simp only [hd] at h
      obtain ⟨p',rfl⟩:=jo hd
      exact au (aG (zh ns rows h h0 h15 pr))
end L2
set_option Elab.async false
set_option linter.all false
set_option maxRecDepth 100000
set_option maxHeartbeats 4000000
namespace Ck
open PySem L2
inductive St:List Int->Int->Prop
  | nil:St [] 0
  | snoc {rs:List Int} {a n:Int}:St rs a->a<=n->n<=(rs.length:Int)->St (rs++[n]) n
end Ck
set_option Elab.async false
set_option linter.all false
set_option maxRecDepth 100000
set_option maxHeartbeats 4000000
namespace Ck
open PySem L2
end Ck
namespace Ck
open PySem L2
end Ck
set_option Elab.async false
set_option linter.all false
set_option maxRecDepth 100000
set_option maxHeartbeats 4000000
namespace Ck
open PySem L2
inductive Bt where
  | leaf
  | node (l r:Bt)
noncomputable def Bt.size:Bt->Nat
  | .leaf=>0
  | .node l r=>l.size+r.size+1
noncomputable def brk:Bt->List Nat
  | .leaf=>[]
  | .node l r=>40::(brk l++41::brk r)
noncomputable def pre (n j:Nat):Int:=((List.range j).map fun i=>sh i*sh (n - 1 - i)).sum
end Ck
set_option Elab.async false
set_option linter.all false
set_option maxRecDepth 100000
set_option maxHeartbeats 4000000
namespace L2
open PySem PySem.Spec PyProof.Rows
section
variable {X:Cx}
variable {X:Cx} {o e:Expr} {es:List Expr} {to:TE} {t:TA} {name:Str} {apos cpos:Pos} {T id:String} {r:V->List V->Hp->VK->Prop}
end
section
variable {X:Cx}
end
end L2
namespace Ck
open PySem L2
theorem Dw {b:Bool} {A B:Prop} (h:b=false) (x:A):if (if true=true then !b else b)=true then A else B:=by subst h; exact x
theorem Dv {b:Bool} {A B:Prop} (h:b=true) (x:B):if (if true=true then !b else b)=true then A else B:=by subst h; exact x
theorem eqT {b:Bool} {A B:Prop} (h:b=true) (x:A):if (if false=true then !b else b)=true then A else B:=by subst h; exact x
theorem AY {b:Bool} {A B:Prop} (h:b=false) (x:B):if (if false=true then !b else b)=true then A else B:=by subst h; exact x
theorem ft.void {K:W.Frag} {H:Hp} {n:Nat} {a b:Addr} {xs:List V} (ne:a≠b) (ha:aI K H a xs) (hb:aI K H b []):ft K H (n+1) (.ref a) (.ref b) (decide (xs=[])):=by
  cases xs with
  | nil=>exact ft.lstT ne ha hb rfl (fun j x y hx _=>by cases hx)
  | cons x xs=>exact ft.lstN ne ha hb (by simp)
noncomputable def Dy (ts:List Bt):Nat:=(ts.map Bt.size).sum
end Ck
set_option Elab.async false
set_option linter.all false
set_option maxRecDepth 100000
set_option maxHeartbeats 4000000
namespace L2
open PySem PySem.Spec PyProof.Rows
noncomputable def kd (P:Addr) (ps:Array Value):HO:=.ext fun h=>∃ more:Array Value,h.get? P=some (W.tabObj (ps++more))/\TriplesOk (ps++more).toList
theorem wZ {pr:Program} {w:World} {H:Hp} {h:Heap} {P:Addr} {ps:Array Value} (more:Array Value) (hP:h.get? P=some (W.tabObj (ps++more))) (ht:TriplesOk (ps++more).toList):bg pr w H h P (kd P ps) :=
  ⟨⟨more,hP,ht⟩,⟨_,hP⟩,fun _ _ ⟨m,e,t⟩ k=>⟨m,k _ e,t⟩⟩
theorem kB (a b:Int) (t u:Tok) (x:Value):∀ {l:List Value},TriplesOk l->TriplesOk (l++[.int a t,.int b u,x])
  | [],_=>trivial
  | .int _ _::.int _ _::_::rest,h=>kB a b t u x (l:=rest) h
theorem zX {H:Hp} {a:Addr} {o:HO} (h:H a=some o):upd H a o=H:=by
  funext b
  unfold upd
  split
  · next e=>rw [e,h]
  · rfl
def BM (mg:Str->Option Value) (h:Heap):Prop:=∃ bm o,mg "__builtins__" = some (.ref bm)/\bm≠builtinsNs/\h.get? bm=some o/\o.cls = .type "module"/\o.dict=some builtinsNs/\o.data = .plain
theorem Ax {X:Cx} {args:Arguments} {body:Expr} {scope:Scope} {pos:Pos} {c P:Addr} (hcode:X.env.code = .ref c) (hC:∀ h,X.K.In h->W.CodeHd h c P) (hdef:defaultsOf args X.env=([],[]))
    (hcl:∃ cl,closureFor scope X.env=pure cl) (hB:BM X.mg X.base):PE X (.Lambda args body scope pos) (fun _ H Q=>∃ ps,H P=some (kd P ps)/\∀ f,Q (.ref f) H):=by
  rintro pins s σ H Q I ⟨ps,hP,q⟩
  obtain ⟨⟨more,eP,tP⟩,_,_⟩:=I.hok P _ hP
  obtain ⟨cl,hcl⟩:=hcl
  have hg:s.heap.Ns mainGlobals X.mg:=I.mod.glob.keeps I.bk
  obtain ⟨bm,o,b1,b2,b3,b4,b5,b6⟩:=hB
  have b3':=I.bs _ _ b3
  have hbG:bm≠mainGlobals:=fun z=>by
    obtain ⟨o',es,ep,e,hd,_⟩:=hg
    rw [z,e] at b3'
    have:=Option.some.inj b3'.1
    rw [<- this,hd] at b6
    cases b6
  have hbP:bm≠P:=fun z=>by
    have:=b3'.2
    rw [z,hP] at this
    cases this
  have hgP:mainGlobals≠P:=fun z=>by
    obtain ⟨o',es,ep,e,hd,_⟩:=hg
    rw [z,eP] at e
    cases e
    cases hd
  have hb:s.heap.BuiltinsAt X.mg P:=⟨bm,o,b1,b2,hbG,hbP,b3'.1,b4,b5,b6⟩
  refine W.kla_eval hdef ?_
  cases e:codeAmong pos (ps++more).toList with
  | some cv=>exact W.kla_makeFunctionHit hcl I.ok.glob hg hcode (hC _ I.kIn) eP tP e hb fun ctv h' tk hk _=>⟨.ref h'.objs.size,H,I.kept (t':=tk) fun b u z=>Heap.get?_push_of_some _ (hk b u z),rfl,q _⟩
  | none =>
    refine W.kla_makeFunction hcl I.ok.glob hg hcode (hC _ I.kIn) eP tP e hgP hb fun c' ctv h' tk hx _ _ _ htb=>⟨.ref h'.objs.size,H,?_,rfl,q _⟩
    have ht:TriplesOk (ps++(more++#[rawInt pos.line,rawInt pos.col,.ref c'])).toList:=by
      rw [<- Array.append_assoc,Array.toList_append]
      exact kB _ _ _ _ _ tP
    have hp:(h'.push (W.kla_obj "<lambda>" (X.env.qual++"<lambda>") args body scope cl ((X.mg "__name__").getD .none) c' ctv)).get? P=some (W.tabObj (ps++(more++#[rawInt pos.line,rawInt pos.col,.ref c']))):=by
      rw [<- Array.append_assoc]
      exact Heap.get?_push_of_some _ htb
    have J:=I.write (x:=P) (e:=P) (o:=kd P ps) (t':=tk) (by rw [hP]; exact trivial) (.inl rfl) (fun b u n z=>Heap.get?_push_of_some _ (hx b u n z)) ⟨_,hp⟩ (wZ _ hp ht)
    rw [zX hP] at J
    exact J
theorem aW.okC {P:Program} {w:World} {K:W.Frag} {mg:Str->Option Value} {base:Heap} {x qual:Str} {st:Stmt} {f c:Addr} {fd:FuncData} {N ps:List Str} {k:Nat} {sp:Sp} (F:aW K x qual st f fd) (S:av N ps (aa st)) (hc:fd.code = .ref c) (len:∀ vs H Q E,sp vs H Q E->vs.length=ps.length)
    (body:∀ (A:Around) (outer:List Env) (s:Shared) (H:Hp) (vs:List V) (Q:VK) (E:XK),bK k (A.deeper (envOfC qual (aa st) s.heap.objs.size f (.ref c)))->sp vs H Q E ->
      ∃ t,gP (h9 bp P w K mg base N qual (aa st) f (.ref c) A outer s H E).nox (ae st) t/\t { nx:=fun _ H'=>Q .non H',rt:=Q } (start N vs) H):aH P w K mg base bp (k+1) f fd ps sp:=by
  obtain ⟨oc,od,kV,doc,pm,an,cdv,ct,osl,rfl,lk,hcd⟩:=F.ex
  obtain rfl:cdv = .ref c:=hc
  refine wc lk hcd S len fun A outer s H vs Q E hr hsp=>?_
  obtain ⟨t,h,q⟩:=body A outer s H vs Q E hr hsp
  exact ⟨t,h.nox,q⟩
structure xk (T D:Addr) (ps:Array Value) (oD:Obj) (kD:List (Key × V)) (H:Hp):Prop where
  tab:H T=some (kd T ps)
  dic:H D=some (.frz oD (.dK kD))
theorem xi {P:Program} {w:World} {K:W.Frag} {mg mb:Str->Option Value} {CX:iP} {k:Nat} {fa a c T D:Addr} {fd:FuncData} {x:Str} {sp:Sp} {s₁:Shared} {vs:List Value} {ns:List Int} {ps:Array Value} {oD:Obj} {kD:List (Key × V)}
    (KX:K.In s₁.heap) (hns:s₁.heap.Ns mainGlobals mg) (hb:s₁.heap.Ns builtinsNs mb) (hbb:∀ x:Str,x≠"__name__"->mb x=bootBuiltins x) (hlim:s₁.heap.NoLimit) (hg:s₁.gens = #[])
    (ha:s₁.heap.get? a=some { cls:=.type "list",data:=.seq vs.toArray }) (hi:IntsAre vs ns) (hl:ns.length<=sizeLine) (hr:bK k callerA)
    (hT:s₁.heap.TableAt c T ps) (hTK:K.lookup T=none) (hTr:TriplesOk ps.toList)
    (hD:s₁.heap.get? D=some oD) (hDK:K.lookup D=none) (okD:∀ H:Hp,bg P w H s₁.heap D (.dK kD)) (D1:D≠mainGlobals) (D2:D≠builtinsNs) (D3:D≠cStatics)
    (F:∀ base:Heap,K.In base->base.Ns mainGlobals mg->aH P w K mg base CX k fa fd [x] sp) (hbind:∀ (s:Shared) (u:Value),BindsTo s fd ⟨[u],[]⟩ [(x,u)])
    (hsp:∀ H:Hp,aI K H a (ns.map V.int)->xk T D ps oD kD H->sp [.ref a] H (fun v H'=>v = .bl true/\H' T=some (kd T ps)) fun _ _ _=>False)
    (hCX:∀ H e s',CX [] H s₁ (fun _ _ _=>False) e s'->False) :
    codeAny (model P w) callerA (.call (.ref fa) ⟨[.ref a],[]⟩) (fun r s'=>r = .ok (.ret (.bool true))/\OldK s₁.heap s'.heap/\s'.os=s₁.os/\AllBare s'.gens) s₁:=by
  have rv:=kE hi
  have lenV:=hi.length
  have dataD:∃ es ep,oD.data = .dict es ep:=by
    obtain ⟨_,_,vs',_,o',es,ep,e,_,d,_⟩:=okD fun _=>none
    rw [hD] at e
    cases e
    exact ⟨es,ep,d⟩
  obtain ⟨esD,epD,dataD⟩:=dataD
  have aT:a≠T:=fun z=>by
    have e:=hT.2
    rw [<- z,ha] at e
    cases e
  have DT:D≠T:=fun z=>by
    have e:=hT.2
    rw [<- z,hD] at e
    cases e
    cases dataD
  have aD:a≠D:=fun z=>by
    rw [z,hD] at ha
    cases ha
    cases dataD
  -- what is tracked: the table,the dict,and the script if it is none of the module's own
  obtain ⟨H,hGr,hHS,hH0,hok⟩:∃ H:Hp,xk T D ps oD kD H/\aI K H a (ns.map V.int)/\(∀ b,b≠T->H b=none\/(b=a/\K.lookup a=none\/b=D)/\∃ o u,H b=some (.frz o u))/\cF P w H s₁.heap:=by
    have t0:∀ H:Hp,bg P w H s₁.heap T (kd T ps):=fun H=>wZ #[] (by rw [Array.append_empty]; exact hT.2) (by rw [Array.append_empty]; exact hTr)
    have d0:∀ H:Hp,bg P w H s₁.heap D (.frz oD (.dK kD)):=fun H=>⟨hD,okD H⟩
    have put:∀ H:Hp,(∀ b u,b≠T->b≠D->H b=some u->bg P w (upd (upd H D (.frz oD (.dK kD))) T (kd T ps)) s₁.heap b u)->cF P w (upd (upd H D (.frz oD (.dK kD))) T (kd T ps)) s₁.heap:=fun H f b u z=>by
      by_cases e:b=T
      · subst e
        rw [ah] at z
        cases z
        exact t0 _
      · rw [aE e] at z
        by_cases e2:b=D
        · subst e2
          rw [ah] at z
          cases z
          exact d0 _
        · rw [aE e2] at z
          exact f b u e e2 z
    cases hk:K.lookup a with
    | some o =>
      have e:=KX a o hk
      rw [ha] at e
      cases e
      refine ⟨upd (upd (fun _=>none) D (.frz oD (.dK kD))) T (kd T ps),⟨ah,(aE DT).trans ah⟩,.inr ⟨_,vs.toArray,_,hk,rfl,rfl,rfl,by rw [List.size_toArray,lenV]; exact hl,by simpa using rv⟩,fun b n=>?_,put _ fun b u _ _ z=>by cases z⟩
      by_cases e:b=D
      · subst e
        exact .inr ⟨.inr rfl,_,_,(aE n).trans ah⟩
      · exact .inl ((aE n).trans (aE e))
    | none =>
      refine ⟨upd (upd (upd (fun _=>none) a (.frz { cls:=.type "list",data:=.seq vs.toArray } (.lst (ns.map V.int)))) D (.frz oD (.dK kD))) T (kd T ps),⟨ah,(aE DT).trans ah⟩,.inl (.inr ⟨{ cls:=.type "list",data:=.seq vs.toArray },(aE aT).trans ((aE aD).trans ah)⟩),fun b n=>?_,put _ fun b u _ _ z=>?_⟩
      · by_cases e:b=D
        · subst e
          exact .inr ⟨.inr rfl,_,_,(aE n).trans ah⟩
        · by_cases e2:b=a
          · subst e2
            exact .inr ⟨.inl ⟨rfl,rfl⟩,_,_,(aE n).trans ((aE e).trans ah)⟩
          · exact .inl ((aE n).trans ((aE e).trans (aE e2)))
      · by_cases e2:b=a
        · subst e2
          rw [ah] at z
          cases z
          exact ⟨ha,by rw [List.length_map]; exact hl,vs,_,rv,ha⟩
        · rw [aE e2] at z
          cases z
  have no:∀ {b:Addr},b≠T->(b=a->K.lookup a=none->False)->b≠D->H b=none:=fun {b} n f g=>by
    rcases hH0 b n with z | ⟨⟨z,z2⟩ | z,_⟩
    · exact z
    · exact (f z z2).elim
    · exact (g z).elim
  have nsK:∀ {b:Addr} {m:Str->Option Value},b≠D->s₁.heap.Ns b m->(iF s₁.heap H).Ns b m:=fun {b m} nD ⟨o,es,ep,e,d,r⟩=>by
    refine ⟨o,es,ep,m9 e (no (fun z=>?_) (fun z _=>?_) nD),d,r⟩
    · have:=hT.2
      rw [<- z,e] at this
      cases this
      cases d
    · rw [z,ha] at e
      cases e
      cases d
  have hKb:K.In (iF s₁.heap H):=fun b o e=>m9 (KX b o e) (no (fun z=>by rw [z,hTK] at e; cases e) (fun z z2=>by rw [z,z2] at e; cases e) fun z=>by rw [z,hDK] at e; cases e)
  have hM:Mod K mg (iF s₁.heap H):=⟨hKb,nsK (Ne.symm D1) hns,⟨mb,nsK (Ne.symm D2) hb,hbb⟩,let ⟨mc,h1,h2⟩:=hlim; ⟨mc,nsK (Ne.symm D3) h1,h2⟩⟩
  have e0:kx P w K mg (iF s₁.heap H) callerA [] s₁ H:=⟨rfl,hM,fun _ _ e=>uo e,Nat.le_of_eq (qh _ _),trivial,fun b hb=>absurd (show b∈([]:List Addr) from hb) (by simp),hok,.of_eq hg⟩
  refine codeAny_mono ((F _ hKb (nsK (Ne.symm D1) hns)).run callerA [] s₁ H ⟨[.ref a],[]⟩ [.ref a] [.ref a] _ _ hr e0 (hbind s₁ (.ref a)) (.cons rfl .nil) (hsp H hHS hGr)) fun r s' h=>?_
  match r,h with
  | .error e,h=>exact (hCX H e s' h).elim
  | .ok .next,h=>exact False.elim h
  | .ok .brk,h=>exact False.elim h
  | .ok .cont,h=>exact False.elim h
  | .ok (.ret u),h =>
    obtain ⟨v,H',os,bare,un,hok',r',q,qT⟩:=h
    subst q
    obtain rfl:u=Value.bool true:=r'
    obtain ⟨⟨more,eT,_⟩,_,_⟩:=hok' T _ qT
    have kept:∀ b o,s₁.heap.get? b=some o->b≠T->s'.heap.get? b=some o:=fun b o e n=>by
      rcases hH0 b n with z | ⟨_,ob,ub,z⟩
      · exact un.keep b o e z (by intro y; exact absurd (show b∈([]:List Addr) from y) (by simp)) (by simp)
      · have z2:=un.frzs b _ _ z
        obtain ⟨e1,_⟩:=hok b _ z
        obtain ⟨e2,_⟩:=hok' b _ z2
        rw [e] at e1
        cases e1
        exact e2
    refine ⟨rfl,⟨fun b o e=>?_,fun b o e=>?_⟩,os,bare⟩
    · by_cases z:b=T
      · subst z
        have:=hT.2
        rw [e] at this
        cases this
        exact .inr (.inl ⟨hT.isCodeTable,rfl,ps,more,rfl,eT⟩)
      · exact .inl (kept b o e z)
    · by_cases z:b=T
      · exact ⟨_,by rw [z]; exact eT⟩
      · exact ⟨o,kept b o e z⟩
theorem walk_ofT {l:W.OpenLaw} {n k:Nat} {q:Program} {loose:List Str} {XP:(Str->Option Value)->Heap->Prop} {YP:World->Heap->Prop} {d:DefRec} {K:Params->W.Frag} {CX:World->iP} {sp:World->Sp} {x:Str} {c T D:Addr} {ps:Array Value} {oD:Params->Obj} {kD:List (Key × V)}
    (hn:l.most=some n) (hn2:n<=sizeLine) (hdf:d.params.defaults=[]) (hr:bK k callerA)
    (hY:∀ (w:World) (h:Heap),YP w h->(K w.params).In h/\h.TableAt c T ps/\h.get? D=some (oD w.params)) (hTK:∀ w:World,(K w.params).lookup T=none) (hDK:∀ w:World,(K w.params).lookup D=none) (hTr:TriplesOk ps.toList)
    (okD:∀ (w:World) (h:Heap) (H:Hp),h.get? D=some (oD w.params)->bg l.prog w H h D (.dK kD)) (D1:D≠mainGlobals) (D2:D≠builtinsNs) (D3:D≠cStatics)
    (F:∀ (w:World) (mg:Str->Option Value) (fa:Addr) (h:Heap),(K w.params).In h->h.Ns mainGlobals mg->mg d.name=some (.ref fa) ->
      ∃ fd:FuncData,(∀ (s:Shared) (u:Value),BindsTo s fd ⟨[u],[]⟩ [(x,u)]) /\
        ∀ base:Heap,(K w.params).In base->base.Ns mainGlobals mg->aH l.prog w (K w.params) mg base (CX w) k fa fd [x] (sp w))
    (hsp:∀ (w:World) (H:Hp) (a:Addr) (ns:List Int),ns.length<=n->aI (K w.params) H a (ns.map V.int)->xk T D ps (oD w.params) kD H->sp w [.ref a] H (fun v H'=>v = .bl true/\H' T=some (kd T ps)) fun _ _ _=>False)
    (hCX:∀ (w:World) (H:Hp) (s:Shared) (e:Value) (s':Shared),CX w [] H s (fun _ _ _=>False) e s'->False) :
    W.WalkO q loose XP YP l.row.toRowW d [] (fun f vs=>PySem.call f vs):=by
  refine Att.attach_call hn hdf fun w s₀ s₁ mg mb fa o pm cd doc a vs ns G Y ho hd hcd hmg hobj hints hlen hg=>?_
  obtain ⟨KX,tab,dic⟩:=hY w _ Y
  obtain ⟨fd,hb,hF⟩:=F w mg fa _ KX G.T.g hmg
  exact xi KX G.T.g G.T.b G.T.builtins G.T.nolimit hg hobj hints (Nat.le_trans hlen hn2) hr tab (hTK w) hTr dic (hDK w) (fun H=>okD w _ H dic) D1 D2 D3 hF hb (fun H hS hG=>hsp w H a ns hlen hS hG) fun H e s'=>hCX w H s₁ e s'
end L2
set_option Elab.async false
set_option linter.all false
set_option maxRecDepth 100000
set_option maxHeartbeats 4000000
namespace L2
open PySem PySem.Spec PyProof.Rows PySem.Builtin PySem.Builtin.Str
noncomputable def BJ:V->List V->Hp->VK->Prop:=fun x vs H Q=>∃ z y,x = .str z/\vs=[.str y]/\(y.length == 0)=false/\z.length<=sizeLine/\∀ p,H p=none->Q (.ref p) (upd H p (.tup [.str (Txt.partition z y).1,.str (Txt.partition z y).2.1,.str (Txt.partition z y).2.2]))
theorem sI {X:Cx}:um X "str.partition" BJ:=by
  intro pins s σ H x xs v us Q I rx rs h
  obtain ⟨z,y,rfl,rfl,hy,hz,q⟩:=h
  obtain ⟨t,rfl⟩:=rx
  obtain ⟨u,rfl,t',rfl⟩:=vals1 rs
  refine call_meets F.slot_str_partition (typeIs_str _ _ _) F.entry_str_partition (F.args_str_partition_2 _ _) (meets_str_partition z y t t' hy hz) ?_
  have q':=q s.heap.objs.size (I.hok.fresh (Nat.le_refl _))
  have put:∀ (a b c:Str) (ta tb tc:Tok) (k:Nat),Q (.ref s.heap.objs.size) (upd H s.heap.objs.size (.tup [.str a,.str b,.str c]))->EP X pins σ Q (.ref s.heap.objs.size) { s with toks:=k,heap:=s.heap.push { cls:=.type "tuple",data:=.seq [.str a ta,.str b tb,.str c tc].toArray } }:=fun a b c ta tb tc k hq =>
    ⟨.ref s.heap.objs.size,_,I.laid (t':=k) (o:=.tup [.str a,.str b,.str c]) (fun b u e=>Heap.get?_push_of_some _ e) (Nat.le_refl _) ⟨by show 3<=sizeLine; decide,[.str a ta,.str b tb,.str c tc],.cons ⟨_,rfl⟩ (.cons ⟨_,rfl⟩ (.cons ⟨_,rfl⟩ .nil)),⟨_,Heap.get?_push_size _ rfl,rfl,_,rfl⟩⟩,rfl,hq⟩
  unfold Txt.partition at q'
  revert q'
  cases occurrences z y 0 z.length 1 with
  | nil=>intro q'; exact put _ _ _ _ _ _ _ q'
  | cons i r=>intro q'; exact put _ _ _ _ _ _ _ q'
theorem qe:∀ (l:List Str) (k:Tok),Vals (l.map V.str) (strsFrom k l)
  | [],_=>.nil
  | p::l,k=>.cons ⟨k,rfl⟩ (qe l (k+1))
noncomputable def Bc:V->List V->Hp->VK->Prop:=fun x vs H Q=>∃ z y,x = .str z/\vs=[.str y]/\(y.length == 0)=false/\(decide (z.length < y.length) || decide (strKind z < strKind y))=false/\(occurrences z y 0 z.length (z.length+1)).isEmpty=false/\z.length<=sizeLine /\
  (partsBetween z (occurrences z y 0 z.length (z.length+1)) y.length).length<=sizeLine/\∀ p,H p=none->Q (.ref p) (upd H p (.lst ((partsBetween z (occurrences z y 0 z.length (z.length+1)) y.length).map V.str)))
theorem xN {X:Cx}:um X "str.split" Bc:=by
  intro pins s σ H x xs v us Q I rx rs h
  obtain ⟨z,y,rfl,rfl,hy,h1,hf,hz,hp,q⟩:=h
  obtain ⟨t,rfl⟩:=rx
  obtain ⟨u,rfl,t',rfl⟩:=vals1 rs
  refine call_meets F.slot_str_split (typeIs_str _ _ _) F.entry_str_split (F.args_str_split_2 _ _) (meets_str_split_sep z y t t' h1 hy hf hz hp) ?_
  exact ⟨.ref s.heap.objs.size,_,I.laid (o:=.lst ((partsBetween z (occurrences z y 0 z.length (z.length+1)) y.length).map V.str)) (fun b u e=>Heap.get?_push_of_some _ e) (Nat.le_refl _) ⟨by rw [List.length_map]; exact hp,_,0,qe _ _,Heap.get?_push_size _ rfl⟩,rfl,q _ (I.hok.fresh (Nat.le_refl _))⟩
noncomputable def B5:V->List V->Hp->VK->Prop:=fun x vs H Q=>∃ z y,x = .str z/\vs=[.str y]/\Q (.bl (Txt.endswith z y)) H
theorem uf {X:Cx}:um X "str.endswith" B5:=by
  intro pins s σ H x xs v us Q I rx rs h
  obtain ⟨z,y,rfl,rfl,q⟩:=h
  obtain ⟨t,rfl⟩:=rx
  obtain ⟨u,rfl,t',rfl⟩:=vals1 rs
  exact SC.endswith ⟨.bl (Txt.endswith z y),H,I,rfl,q⟩
noncomputable def Df (t:TE):TE:=fun σ H Q=>t σ H fun u H'=>∃ y,u = .str y/\y.length<=sizeLine/\Q (.str y) H'
theorem i3 {X:Cx} {e:Expr} {t:TE} {pos:Pos} (h:PE X e t):PE X (.FormattedValue e (-1) none pos) (Df t):=by
  intro pins s σ H Q I hq
  refine wpAny_FormattedValue_plain (aL (h pins s σ H _ I hq) fun v s1 ⟨x,H1,I1,r,y,e,hy,q⟩=>?_)
  subst e
  obtain ⟨t,rfl⟩:=r
  exact wpAny_formatField_str ⟨.str y,H1,I1,⟨_,rfl⟩,q⟩ ⟨.str y,H1,I1.tok _,⟨_,rfl⟩,q⟩ hy
noncomputable def vi:List TE->Str->TE
  | [],out=>fun _ H Q=>Q (.str out) H
  | t::ts,out=>fun σ H Q=>t σ H fun u H'=>∃ y,u = .str y/\(out++y).length<=sizeLine/\vi ts (out++y) σ H' Q
theorem tD {X:Cx} {pins:List (Addr × Obj)} {σ:St} {Q:VK}:∀ {es:List Expr} {ts:List TE},Paired (PE X) es ts->∀ {out:Str} {s:Shared} {H:Hp},Inv X pins σ H s->out.length<=sizeLine->vi ts out σ H Q->wpAny (model X.prog X.w) X.A (joinParts out (evalEach es X.env)) (EP X pins σ Q) X.xe s
  | _,_,.nil,out,s,H,I,ho,hq=>joinParts_nil ⟨.str out,H,I.tok _,⟨_,rfl⟩,hq⟩ ho
  | _,_,.cons h hs,out,s,H,I,ho,hq=>by
    refine joinParts_cons (aL (h pins s σ H _ I hq) fun v s1 ⟨x,H1,I1,r,y,e,hy,q⟩=>?_)
    subst e
    obtain ⟨t,rfl⟩:=r
    exact ⟨hy,tD hs I1 hy q⟩
theorem oX {X:Cx} {e1 e2:Expr} {es:List Expr} {t1 t2:TE} {ts:List TE} {pos:Pos} (h1:PE X e1 t1) (h2:PE X e2 t2) (hs:Paired (PE X) es ts):PE X (.JoinedStr (e1::e2::es) pos) (vi (t1::t2::ts) Str.empty):=by
  intro pins s σ H Q I hq
  exact JoinedStr_many (tD (.cons h1 (.cons h2 hs)) I (by decide) hq)
end L2
set_option Elab.async false
set_option linter.all false
set_option maxRecDepth 100000
set_option maxHeartbeats 4000000
namespace Dk
open PySem PyProof.Rows
section
variable {prog:Program} {w:World} {K:Type} [DecidableEq K] {knd:KeyKind prog w K} {A:Around} {E:Value->Shared->Prop} {s:Shared}
theorem zm {d:Addr} {kvs:List (K × Value)} {k:K} {key v:Value} {Q:Unit->Shared->Prop} (ik:knd.is k key=true) (dd:s.heap.DictOf knd d kvs) (nk:k∉kvs.map (·.1)) (lz:kvs.length<=sizeLine)
    (q:∀ h',h'.DictOf knd d (kvs++[(k,v)])->Heap.SameBut d s.heap h'->Q () { s with heap:=h' }):wpAny (model prog w) A (dictPut d (knd.hash k) key v) Q E s:=by
  obtain ⟨o,es,ep,g,x,y,ks,pp,nd⟩:=dd
  have le:es.size<=sizeLine:=by
    have l1:=pp.length
    rw [Array.length_toList] at l1
    omega
  have fi:es.findIdx? (fun e=>knd.is k e.key)=none:=by
    have f1:=pp.findIdx k
    rw [List.findIdx?_eq_none_iff.mpr fun kv hkv=>decide_eq_false fun z=>nk (List.mem_map.mpr ⟨kv,hkv,z⟩)] at f1
    obtain ⟨l⟩:=es
    simpa using f1
  unfold dictPut
  refine wpAny_bind (wpAny_dictFind_of ik g y ks ?_)
  rw [fi]
  refine wpAny_updateDictKeys (hz:=le) g y (q _ ⟨_,_,ep+1,Heap.get?_update_self _ g (Obj.isFreed_of_dict (Obj.data_mapDictKeys y _)),x.mapDictKeys _,Obj.data_mapDictKeys y _,ks.push ik _,?_,?_⟩ (Heap.SameBut.update ..))
  · have p2:=pp.append ik (knd.hash k) v
    obtain ⟨l⟩:=es
    simpa using p2
  · rw [List.map_append]
    refine List.nodup_append.mpr ⟨nd,List.nodup_cons.mpr ⟨by simp,List.nodup_nil⟩,fun a ha b hb z=>nk ?_⟩
    have:b=k:=by simpa using hb
    rw [<- this,<- z]
    exact ha
theorem merge_disp {d o:Addr} {kvs more:List (K × Value)} {Q:Unit->Shared->Prop} (ne:d≠o) (os:(o == sysModules)=false) (dd:s.heap.DictOf knd d kvs) (k0:kvs≠[]) (od:s.heap.DictOf knd o more) (nd:((kvs++more).map (·.1)).Nodup)
    (lz:kvs.length+more.length<=sizeLine) (q:∀ h',h'.DictOf knd d (kvs++more)->Heap.SameBut d s.heap h'->Q () { s with heap:=h' }):wpAny (model prog w) A (mergeMapping d (.ref o) false) Q E s:=by
  obtain ⟨o1,e1,p1,g1,x1,y1,ks1,pp1,nd1⟩:=id dd
  obtain ⟨o2,e2,p2,g2,x2,y2,ks2,pp2,nd2⟩:=id od
  have l2:more.length=e2.size:=by
    have:=pp2.length
    rw [Array.length_toList] at this
    exact this.symm
  unfold mergeMapping
  refine wpAny_bind (wpAny_isInstance od.typeIs isSubtype_dict_dict ?_)
  simp only [if_true]
  refine wpAny_bind (wpAny_specialOf od.typeIs PySem.F.slot_dict_iter.lookup ?_)
  rw [beq_self_eq_true]
  refine wpAny_bind (wpAny_pure ?_)
  simp only [os,Bool.false_eq_true,if_false]
  refine wpAny_bind (wpAny_dictEntries g1 y1 ?_)
  have ne1:e1.isEmpty=false:=by
    cases z:e1.isEmpty with
    | false=>rfl
    | true =>
      have l1:=pp1.length
      rw [Array.isEmpty_iff.mp z] at l1
      exact absurd (List.length_eq_zero_iff.mp (by simpa using l1.symm)) k0
  simp only [ne1,Bool.false_eq_true,if_false]
  refine wpAny_bind (wpAny_dictEntries g2 y2 (wpAny_bind (wpAny_dictEpoch g2 y2 ?_)))
  refine wpAny_bind ?_
  refine wpAny_forIn_list _ (fun rest _ s'=>∃ h' i,s'={ s with heap:=h' }/\rest=(List.range e2.size).drop i/\i<=e2.size/\h'.DictOf knd d (kvs++more.take i)/\h'.get? o=some o2/\Heap.SameBut d s.heap h') _ ?_ ?_ _ _ ⟨s.heap,0,rfl,List.drop_zero.symm,Nat.zero_le _,by rw [List.take_zero,List.append_nil]; exact dd,g2,Heap.SameBut.refl _ _⟩
  · rintro x rest b s' ⟨h',i,rfl,er,hi,dh,oh,sb⟩
    have lt:i < e2.size:=by
      rcases Nat.lt_or_ge i e2.size with z | z
      · exact z
      · rw [List.drop_eq_nil_of_le (by rw [List.length_range]; exact z)] at er
        cases er
    have ex:x=i/\rest=(List.range e2.size).drop (i+1):=by
      rw [List.drop_eq_getElem_cons (by rw [List.length_range]; exact lt),List.getElem_range] at er
      injection er with a1 a2
      exact ⟨a1,a2⟩
    obtain ⟨rfl,ex2⟩:=ex
    refine wpAny_bind (wpAny_dictEntries oh y2 ?_)
    rw [Array.getElem?_eq_getElem lt]
    have lm:x < more.length:=by omega
    obtain ⟨ik,ev⟩:=pp2.get? (e:=e2[x]) (by simp [lt]) (List.getElem?_eq_getElem lm)
    obtain ⟨k',ik',eh⟩:=ks2 e2[x] (Array.getElem_mem lt)
    have ek:k'=more[x].1:=knd.inj _ _ _ ik' ik
    subst ek
    show wpAny _ _ (holding [e2[x].key,e2[x].val] (dictPut d e2[x].hash e2[x].key e2[x].val) >>= _) _ _ _
    rw [eh,ev]
    have etk:more.take (x+1)=more.take x++[more[x]]:=by rw [List.take_add_one,List.getElem?_eq_getElem lm]; rfl
    have nk:more[x].1∉(kvs++more.take x).map (·.1):=by
      intro z
      have nd':((kvs++more.take (x+1)).map (·.1)).Nodup:=by
        have:kvs++more=(kvs++more.take (x+1))++more.drop (x+1):=by rw [List.append_assoc,List.take_append_drop]
        rw [this,List.map_append] at nd
        exact (List.nodup_append.mp nd).1
      rw [etk,<- List.append_assoc,List.map_append] at nd'
      exact (List.nodup_append.mp nd').2.2 _ z _ (List.mem_singleton.mpr rfl) rfl
    refine wpAny_bind (wpAny_holding (zm ik' dh nk (by rw [List.length_append,List.length_take]; omega) fun h2 d2 sb2=>?_))
    have oh2:h2.get? o=some o2:=(sb2.2 o (Ne.symm ne)).trans oh
    refine wpAny_bind (wpAny_dictEpoch oh2 y2 ?_)
    simp only [bne_self_eq_false,Bool.false_eq_true,if_false]
    refine wpAny_pure ⟨h2,x+1,rfl,ex2,lt,?_,oh2,sb.trans sb2⟩
    rw [etk,<- List.append_assoc]
    exact d2
  · rintro b s' ⟨h',i,rfl,er,hi,dh,oh,sb⟩
    have ei:i=e2.size:=by
      rcases Nat.lt_or_ge i e2.size with z | z
      · rw [List.drop_eq_getElem_cons (by rw [List.length_range]; exact z)] at er
        cases er
      · omega
    refine wpAny_pure (q h' ?_ sb)
    rw [List.take_of_length_le (by omega)] at dh
    exact dh
end
theorem jO {g:Sem Value × Sem Value->Option (Sem Value) × Sem Value} {f:(Option (Sem Value) × Sem Value)->(Option Addr × List (Sem Value × Sem Value))->Sem (ForInStep (Option Addr × List (Sem Value × Sem Value)))}
    (hf:∀ (p:Sem Value × Sem Value) (m:Option Addr) (run:List (Sem Value × Sem Value)),run.length+1 < 17->f (g p) (m,run)=pure (.yield (m,run++[p]))) (ys:List (Option (Sem Value) × Sem Value)) :
    ∀ (xs:List (Sem Value × Sem Value)) (m:Option Addr) (run:List (Sem Value × Sem Value)),run.length+xs.length < 17->forIn (xs.map g++ys) (m,run) f=forIn ys (m,run++xs) f
  | [],m,run,_=>by rw [List.map_nil,List.nil_append,List.append_nil]
  | x::xs,m,run,l=>by
    rw [List.length_cons] at l
    rw [List.map_cons,List.cons_append,List.forIn_cons,hf x m run (by omega),pure_bind]
    show forIn (xs.map g++ys) (m,run++[x]) f=_
    rw [jO hf ys xs m (run++[x]) (by rw [List.length_append]; show run.length+1+xs.length < 17; omega),List.append_assoc]
    rfl
theorem disp_two (xs:List (Sem Value × Sem Value)) (x:Sem Value × Sem Value) (ys:List (Sem Value × Sem Value)) (hx:xs.length=16) (y0:ys≠[]) (hy:ys.length < 17) :
    dictDisplay ((xs++x::ys).map fun p=>(some p.1,p.2))=(do
      let d <- subDict (xs++[x])
      let sub <- holding [.ref d] (subDict ys)
      (holding [.ref d,.ref sub] (mergeMapping d (.ref sub) false)).onRaise fun x=>do let _ <- holding [.ref d,x] (runValue (.builtin "proto.let_go" {}))
      pure (.ref d)):=by
  unfold dictDisplay
  dsimp only
  rw [List.map_append,jO (g:=fun p=>(some p.1,p.2)) (fun p m run h=>by
    have e:((run++[(p.1,p.2)]).length == 17)=false:=by simp; omega
    simp only [e,Bool.false_eq_true,if_false]) _ xs none [] (by simp [hx])]
  rw [List.map_cons,List.forIn_cons]
  have e17:((xs++[(x.1,x.2)]).length == 17)=true:=by simp [hx]
  have e17':(xs++[(x.1,x.2)]).isEmpty=false:=by simp
  simp only [List.nil_append,e17,e17',if_true,Bool.false_eq_true,if_false,bind_assoc,pure_bind]
  refine congrArg _ (funext fun d=>?_)
  have nl:∀ l:List (Option (Sem Value) × Sem Value),l=l++[]:=fun l=>(List.append_nil l).symm
  rw [nl (List.map _ ys)]
  rw [jO (g:=fun p=>(some p.1,p.2)) (fun p m run h=>by
    have e:((run++[(p.1,p.2)]).length == 17)=false:=by simp; omega
    simp only [e,Bool.false_eq_true,if_false]) [] ys (some d) [] (by simpa using hy)]
  have ey:ys.isEmpty=false:=by cases ys with | nil=>exact absurd rfl y0 | cons _ _=>rfl
  simp only [List.nil_append,List.forIn_nil,pure_bind,ey,Bool.false_eq_true,if_false,bind_assoc]
end Dk
namespace L2
open PySem PySem.Spec PyProof.Rows Ck
section
variable {X:Cx} {pins:List (Addr × Obj)} {σ:St} {H:Hp} {s:Shared}
def Fl (X:Cx) (pins:List (Addr × Obj)) (σ:St) (H:Hp) (p:Sem Value × Sem Value) (it:Str × Addr):Prop :=
  (∀ (s:Shared) (Q:Value->Shared->Prop),Inv X pins σ H s->(∀ t k,Q (.str it.1 t) { s with toks:=k })->wpAny (model X.prog X.w) X.A p.1 Q X.xe s) /\
  ∀ (s:Shared) (Q:Value->Shared->Prop),Inv X pins σ H s->Q (.ref it.2) s->wpAny (model X.prog X.w) X.A p.2 Q X.xe s
theorem wU {pos:Pos}:∀ {ks:List (Option Expr)} {vs:List Expr} {ns:List (Str × Str)} {items:List (Str × Addr)},il ks vs ns=true->Paired (jH X) ns items->Paired (Fl X pins σ H) (pairTrees ks vs X.env pos) items
  | [],[],[],_,_,.nil=>.nil
  | k::ks,v::vs,n::ns,_,h,.cons (b:=it) hn hr=>by
    unfold il at h
    simp only [Bool.and_eq_true,decide_eq_true_iff,Bool.not_eq_true'] at h
    obtain ⟨⟨⟨h1,h2⟩,h3⟩,h4⟩:=h
    obtain ⟨j,p,rfl⟩:=iT h1
    obtain ⟨p',rfl⟩:=mS h2
    obtain ⟨e,g,m⟩:=hn
    refine .cons ⟨fun s Q I q=>?_,fun s Q I q=>?_⟩ (wU h4 hr)
    · show wpAny (model X.prog X.w) X.A (eval (.Constant (.str n.1) j p) X.env) Q X.xe s
      rw [e]
      exact Calls.Constant_str (q _ _)
    · exact wpAny_bind (gO I g m (wpAny_bind (wpAny_standAt (wpAny_pure q))) h3)
  | [],_::_,_,_,h,_=>by cases h
  | _::_,[],_,_,h,_=>by cases h
  | [],[],_::_,_,h,_=>by cases h
  | _::_,_::_,[],_,h,_=>by cases h
noncomputable def ents (items:List (Str × Addr)):List (Key × Value):=items.map fun it=>(.inr it.1,.ref it.2)
theorem ud:∀ items:List (Str × Addr),KV (fq items) (ents items)
  | []=>.nil
  | _::items=>.cons ⟨rfl,rfl⟩ (ud items)
theorem qi (items:List (Str × Addr)):(ents items).map (·.1)=(items.map (·.1)).map Sum.inr:=by
  unfold ents
  rw [List.map_map,List.map_map]
  rfl
def Kp (s:Shared) (h:Heap):Prop:=∀ b u,s.heap.get? b=some u->h.get? b=some u
theorem nK (I:Inv X pins σ H s) {d:Addr} (hd:s.heap.objs.size<=d):∀ {pairs:List (Sem Value × Sem Value)} {items:List (Str × Addr)},Paired (Fl X pins σ H) pairs items->∀ {acc:List (Key × Value)} {h:Heap} {k:Nat} {Q:PUnit->Shared->Prop},Kp s h->h.DictOf (bo X.prog X.w) d acc->acc.length+items.length<=sizeLine ->
    (∀ h' k',Kp s h'->Heap.SameBut d h h'->h'.DictOf (bo X.prog X.w) d (merged acc (ents items))->Q PUnit.unit { s with heap:=h',toks:=k' }) ->
    wpAny (model X.prog X.w) X.A (forIn pairs PUnit.unit fun (x:Sem Value × Sem Value) (_:PUnit)=>(do let kv <- x.1; let vv <- holding [kv] x.2; holding [kv,vv] (dictSet d kv vv); pure (ForInStep.yield PUnit.unit):Sem (ForInStep PUnit))) Q X.xe { s with heap:=h,toks:=k }
  | _,_,.nil,acc,h,k,Q,kp,dd,_,q=>by
    rw [List.forIn_nil]
    exact wpAny_pure (q h k kp (Heap.SameBut.refl _ _) dd)
  | _,_,.cons (b:=it) (l₂:=items) f fs,acc,h,k,Q,kp,dd,l,q=>by
    rw [List.length_cons] at l
    rw [List.forIn_cons]
    refine wpAny_bind (wpAny_bind (f.1 _ _ (I.kept (t':=k) kp) fun t k2=>?_))
    refine wpAny_bind (wpAny_holding (f.2 _ _ (I.kept (t':=k2) kp) ?_))
    refine wpAny_bind (wpAny_holding (wpAny_dictSet_pairs (knd:=bo X.prog X.w) (k:=.inr it.1) (hsz:=by omega) (iH ⟨t,rfl⟩) dd fun h1 d1 s1=>wpAny_pure ?_))
    have kp1:Kp s h1:=fun b u e=>(s1.2 b (fun z=>by rw [z] at e; exact absurd (Nat.lt_of_lt_of_le (Heap.lt_size e) hd) (Nat.lt_irrefl _))).trans (kp b u e)
    refine nK I hd fs kp1 d1 (by have:=stored_length_le acc (Sum.inr it.1:Key) (Value.ref it.2); omega) fun h2 k3 kp2 s2 d2=>q h2 k3 kp2 (s1.trans s2) d2
theorem nU (I:Inv X pins σ H s):∀ {pairs:List (Sem Value × Sem Value)} {items:List (Str × Addr)},Paired (Fl X pins σ H) pairs items->∀ {h:Heap} {k:Nat} {Q:List (Value × Value)->Shared->Prop},Kp s h->(∀ vs k',Carries (bo X.prog X.w) vs (ents items)->Q vs { s with heap:=h,toks:=k' }) ->
    wpAny (model X.prog X.w) X.A (evalPairs pairs) Q X.xe { s with heap:=h,toks:=k }
  | _,_,.nil,h,k,Q,kp,q=>evalPairs_nil (q [] k True.intro)
  | _,_,.cons (b:=it) f fs,h,k,Q,kp,q=>evalPairs_cons (f.1 _ _ (I.kept (t':=k) kp) fun t k2=>f.2 _ _ (I.kept (t':=k2) kp) (nU I fs kp fun vs k3 c=>q _ _ ⟨iH ⟨t,rfl⟩,rfl,c⟩))
theorem xD (I:Inv X pins σ H s) {pairs:List (Sem Value × Sem Value)} {items:List (Str × Addr)} (F:Paired (Fl X pins σ H) pairs items) (l:15 < pairs.length) (lz:items.length<=40) (nd:((ents items).map (·.1)).Nodup) {Q:Addr->Shared->Prop}
    (q:∀ h' k',Kp s h'->s.heap.objs.size < h'.objs.size->h'.DictOf (bo X.prog X.w) s.heap.objs.size (ents items)->Q s.heap.objs.size { s with heap:=h',toks:=k' }):wpAny (model X.prog X.w) X.A (subDict pairs) Q X.xe s:=by
  unfold subDict
  refine wpAny_bind (wpAny_alloc ?_)
  refine wpAny_bind (wpAny_holding ?_)
  rw [if_neg (by omega)]
  refine wpAny_bind (wpAny_rule (wpAny_bind ?_))
  have sz40:40<=sizeLine:=by decide
  have kp0:Kp s (s.heap.push { cls:=.type "dict",data:=.dict #[] }):=fun b u e=>Heap.get?_push_of_some _ e
  refine nK I (Nat.le_refl _) F (k:=s.toks) kp0 (Heap.DictOf.new s.heap) (by show 0+items.length<=_; omega) fun h1 k1 kp1 sb1 d1=>wpAny_pure (wpAny_pure ?_)
  rw [merged_nil_of_nodup _ nd] at d1
  refine q h1 k1 kp1 ?_ d1
  obtain ⟨_,_,_,g,_⟩:=d1
  exact Heap.lt_size g
theorem kQ {α β:Type} {R:α->β->Prop}:∀ {as bs:List α} {cs:List β},Paired R (as++bs) cs->∃ is js,cs=is++js/\Paired R as is/\Paired R bs js
  | [],_,cs,h=>⟨[],cs,rfl,.nil,h⟩
  | _::_,_,_,.cons r t=>by
    obtain ⟨is,js,e,h1,h2⟩:=kQ t
    exact ⟨_::is,js,by rw [e]; rfl,.cons r h1,h2⟩
theorem zl {ks:List (Option Expr)} {vs:List Expr} {pos:Pos} (ns:List (Str × Str)) (items:List (Str × Addr)) (ok:il ks vs ns=true) (pr:Paired (jH X) ns items) (l1:17 < ns.length) (l2:ns.length < 33) (nd:(items.map (·.1)).Nodup) :
    PE X (.Dict ks vs pos) (fun _ H Q=>∀ p,H p=none->Q (.ref p) (upd H p (.dK (fq items)))):=by
  intro pins s σ H Q I q
  obtain ⟨a1,a2,a3⟩:=je ok
  have F:=wU (X:=X) (pins:=pins) (σ:=σ) (H:=H) (pos:=pos) ok pr
  rw [arm_eval_Dict,zip_pairTrees ks vs X.env pos a1 a2]
  have lp:(pairTrees ks vs X.env pos).length=ns.length:=(pairTrees_length ks vs X.env pos a1 a2).trans a3
  generalize pairTrees ks vs X.env pos=pairs at F lp |-
  obtain ⟨xs,x,ys,rfl,hx⟩:∃ xs x ys,pairs=xs++x::ys/\xs.length=16:=⟨pairs.take 16,pairs[16]'(by omega),pairs.drop 17,by rw [<- List.drop_eq_getElem_cons,List.take_append_drop],by rw [List.length_take]; omega⟩
  rw [List.length_append,List.length_cons,hx] at lp
  have y0:ys≠[]:=fun z=>by
    rw [z,List.length_nil] at lp
    omega
  obtain ⟨is,js,rfl,F1,F2⟩:=kQ (as:=xs++[x]) (bs:=ys) (by rw [List.append_assoc]; exact F)
  rw [Dk.disp_two xs x ys hx y0 (by omega)]
  have big:=I.big
  have lF1:=Paired.length F1
  have lF2:=Paired.length F2
  rw [List.length_append] at lF1
  have l1':xs.length+1=is.length:=lF1
  have sz40:40<=sizeLine:=by decide
  have ndE:((ents is++ents js).map (·.1)).Nodup:=by
    rw [List.map_append,qi,qi,<- List.map_append,<- List.map_append]
    exact nodup_inr nd
  have ndI:((ents is).map (·.1)).Nodup:=by
    rw [List.map_append] at ndE
    exact (List.nodup_append.mp ndE).1
  have ndJ:((ents js).map (·.1)).Nodup:=by
    rw [List.map_append] at ndE
    exact (List.nodup_append.mp ndE).2.1
  refine wpAny_bind (wpAny_standAt (wpAny_bind ?_))
  refine xD I F1 (by rw [List.length_append]; show 15 < xs.length+1; omega) (by omega) ndI fun h1 k1 kp1 z1 d1=>?_
  have z1':s.heap.objs.size < h1.objs.size:=z1
  refine wpAny_bind (wpAny_holding (wpAny_subDict (knd:=bo X.prog X.w) (by omega) ?_))
  refine nU I F2 (h:=h1.push { cls:=.type "dict",data:=.dict #[] }) (k:=k1) (fun b u e=>Heap.get?_push_of_some _ (kp1 b u e)) fun vs k2 c=>⟨ents js,c,Heap.DictOf.new h1,fun h2 d2 sb2=>?_⟩
  rw [merged_nil_of_nodup _ ndJ] at d2
  have ned:s.heap.objs.size≠h1.objs.size:=Nat.ne_of_lt z1'
  have d1':=(d1.push { cls:=.type "dict",data:=.dict #[] }).sameBut sb2 ned
  have kp2:Kp s h2:=fun b u e=>(sb2.2 b (fun z=>by rw [z] at e; exact absurd (Heap.lt_size e) (Nat.not_lt.mpr (Nat.le_of_lt z1')))).trans (Heap.get?_push_of_some _ (kp1 b u e))
  have lei:(ents is).length=is.length:=List.length_map _
  have lej:(ents js).length=js.length:=List.length_map _
  refine wpAny_bind (wpAny_onRaise (wpAny_holding (Dk.merge_disp (knd:=bo X.prog X.w) ned (beq_eq_false_iff_ne.mpr (Ne.symm (Nat.ne_of_lt (Nat.lt_trans big z1')))) d1' (fun z=>by rw [z,List.length_nil] at lei; omega) d2 ndE (by omega) fun h3 d3 sb3=>?_)))
  have kp3:Kp s h3:=fun b u e=>(sb3.2 b (fun z=>by rw [z] at e; exact absurd (Heap.lt_size e) (Nat.lt_irrefl _))).trans (kp2 b u e)
  refine wpAny_pure ⟨.ref s.heap.objs.size,_,I.laid kp3 (Nat.le_refl _) (o:=.dK (fq (is++js))) (oE ?_ (beq_eq_false_iff_ne.mpr (Ne.symm (Nat.ne_of_lt big))) ?_ d3),rfl,q _ (I.hok.fresh (Nat.le_refl _))⟩
  · unfold fq
    rw [List.length_map,List.length_append]
    omega
  · have:=ud (is++js)
    unfold ents at this |-
    rw [List.map_append] at this
    exact this
noncomputable def yu:V->List V->Hp->VK->Prop:=fun x vs H Q=>∃ d o kvs more,x = .ref d/\vs=[.ref o]/\d≠o/\H d=some (.dK kvs)/\H o=some (.dK more)/\kvs.length+more.length<=sizeLine/\Q .non (upd H d (.dK (eV kvs more)))
theorem zo:um X "dict.update" yu:=by
  intro pins s σ H x xs v us Q I rx rs h
  obtain ⟨d,o,kvs,more,rfl,rfl,ne,hd,ho,l,q⟩:=h
  cases rx
  obtain ⟨u,rfl,ru⟩:=vals1 rs
  cases ru
  obtain ⟨z1,n1,v1,r1,d1⟩:=oz I.hok hd
  obtain ⟨z2,n2,v2,r2,d2⟩:=oz I.hok ho
  have l1:=r1.length
  have l2:=r2.length
  refine call_meetsIn PySem.F.slot_dict_update d1.typeIs PySem.F.entry_dict_update (PySem.F.args_dict_update_2 _ _) (meets_dict_update (bo X.prog X.w) d o ne n2) ⟨v1,v2,d1,d2,by omega,fun h' dh _ sb=>?_⟩
  have lm:=g5 more kvs
  exact ⟨.non,_,lL (t':=s.toks) I (by rw [hd]; exact True.intro) sb (let ⟨o,_,_,e,_⟩:=dh; ⟨o,e⟩) (oE (by omega) n1 (r2.merge r1) dh),rfl,q⟩
noncomputable def B2 (td ty:TE):TE:=fun σ H Q=>td σ H fun x H1=>∃ a,x = .ref a/\Ad H1 a/\ty σ H1 fun y H2=>yu x [y] H2 Q
theorem tY {o e:Expr} {td ty:TE} {apos cpos:Pos} (ho:PE X o td) (he:PE X e ty) (m:M1 X o "update" apos e cpos):PE X (.Call (.Attribute o "update" apos) [e] [] cpos) (B2 td ty):=by
  intro pins s σ H Q I h
  refine wpAny_Call_method m.base m.few m.line PySem.F.plainAttrs_dict PySem.F.slot_dict_update PySem.F.type_dict_update (aL (ho pins s σ H _ I h) fun u s1 ⟨x,H1,I1,rx,a,ex,d,q1⟩=>?_)
  subst ex
  obtain rfl:u=Value.ref a:=rx
  obtain ⟨t1,t2,_⟩:=wW I1 d
  rw [m.trees]
  exact ⟨t1,t2,Calls.callWith_builtin rfl (Calls.evalArgs_plain (Calls.spliced_cons (aL (he pins s1 σ H1 _ I1 q1) fun iv s2 ⟨y,H2,I2,ry,q2⟩=>Calls.spliced_nil (zo pins s2 σ H2 (V.ref a) [y] (.ref a) [iv] Q I2 rfl (.cons ry .nil) q2))))⟩
noncomputable def iW (b:List Stmt) (ns:List (Str × Str)):Bool:=match lU b with
  | some e=>(match iJ e with | some d=>il d.1 d.2 ns | none=>false)
  | none=>false
noncomputable def Az (items:List (Str × Addr)):TE:=fun _ H Q=>∀ p,H p=none->Q (.ref p) (upd H p (.dK (fq items)))
theorem ue {b:List Stmt} {ns:List (Str × Str)} {t:TE} (h:iW b ns=true) (k:∀ ks vs pos,il ks vs ns=true->PE X (.Dict ks vs pos) t):gP X b (sQ t):=by
  unfold iW at h
  cases hr:lU b with
  | none=>rw [hr] at h; cases h
  | some e =>
    rw [hr] at h
    obtain ⟨p,rfl⟩:=oi hr
    cases hd:iJ e with
    | none=>simp only [hd] at h; cases h
    | some d =>
      simp only [hd] at h
      obtain ⟨p',rfl⟩:=jo hd
      exact au (aG (k _ _ _ h))
theorem xa {b:List Stmt} {ns:List (Str × Str)} {items:List (Str × Addr)} (h:iW b ns=true) (pr:Paired (jH X) ns items) (l1:17 < ns.length) (l2:ns.length < 33) (nd:(items.map (·.1)).Nodup):gP X b (sQ (Az items)) :=
  ue h fun _ _ _ ok=>zl ns items ok pr l1 l2 nd
theorem uT {b:List Stmt} {ns:List (Str × Str)} {items:List (Str × Addr)} (h:iW b ns=true) (pr:Paired (jH X) ns items) (l0:ns≠[]) (l1:ns.length<=15) (nd:(items.map (·.1)).Nodup):gP X b (sQ (Az items)) :=
  ue h fun ks vs pos ok=>by
    obtain ⟨a1,a2,a3⟩:=je ok
    have P:=oZ (pos:=pos) (pL ok pr) a1 a2 (fun z=>l0 (List.eq_nil_of_length_eq_zero (by rw [<- a3,z]; rfl))) (by omega)
    intro pins s σ H Q I q
    refine P pins s σ H Q I fun p hp=>j0 σ items _ _ ⟨ah,fq items,rfl,?_,?_⟩
    · unfold fq
      rw [List.length_map,<- Paired.length pr]
      exact l1
    · rw [gW (fq items) [] (by rw [List.nil_append,kG]; exact nodup_inr nd),List.nil_append,dX]
      exact q p hp
theorem z4 {lsc sc:Scope} {env:Env} {n:Nat} (he:env.cells=cellsFrom n sc.names []) (h:(lsc.names.all fun y=>decide (y.2≠.free) || decide (sc.names.lookup y.1=some .cell))=true):∃ cl,closureFor lsc env=pure cl :=
  ⟨_,oC fun y hy e=>by
    have z:=List.all_eq_true.mp h y hy
    rw [e] at z
    have z:sc.names.lookup y.1=some .cell:=by simpa using z
    rw [he]
    exact ng z⟩
end
end L2
set_option Elab.async false
set_option linter.all false
set_option maxRecDepth 100000
set_option maxHeartbeats 4000000
namespace L2
open PySem PySem.Spec PyProof.Rows
theorem zd {X:Cx} {K:W.Frag} (h:X.K=K):xq X (Bh K):=h▸ib
section
variable {prog:Program} {w:World} {A:Around} {E:Value->Shared->Prop} {s:Shared}
end
section
variable {X:Cx}
end
end L2
set_option Elab.async false
set_option linter.all false
set_option maxRecDepth 100000
set_option maxHeartbeats 4000000
namespace L2
open PySem PySem.Spec PyProof.Rows PySem.W
noncomputable def oY (K:Frag) (er:iB):Bool:=(excIn K er.way zO "ValueError.__new__")&&(yo K er.way)&&(exmOne K (.ref er.way) (.ref er.kin) == some true)&&(kitOne K (.ref er.way) (.type "ValueError") == some true)&&(kitOne K (.ref er.way) (.ref er.size) == some false)&&(kitOne K (.ref er.way) (.ref er.number) == some false)&&(kitOne K (.ref er.way) (.ref er.thing) == some false)&&(kitOne K (.ref er.way) (.ref er.family) == some false)&&(kitOne K (.ref er.way) (.ref er.way) == some true)&&(kitOne K (.ref er.way) (.ref er.apart) == some false)&&(kitOne K (.ref er.way) (.ref er.mark) == some false)&&(kitOne K (.ref er.way) (.ref er.text) == some false)&&(kitOne K (.ref er.way) (.ref er.broken) == some false)
structure rT (K:Frag) (mg:Str->Option Value) (er:iB):Prop where
  m_kin:mg "KinError" = some (.ref er.kin)
  m_size:mg "NoSize" = some (.ref er.size)
  m_number:mg "NoNumber" = some (.ref er.number)
  m_thing:mg "NoThing" = some (.ref er.thing)
  m_family:mg "NoFamily" = some (.ref er.family)
  m_way:mg "NoWay" = some (.ref er.way)
  m_apart:mg "Apart" = some (.ref er.apart)
  m_mark:mg "NoMark" = some (.ref er.mark)
  m_text:mg "NoText" = some (.ref er.text)
  m_broken:mg "Broken" = some (.ref er.broken)
  x_way:v5 K er.way
  k_way:iN K er.way
  c_way:exmOne K (.ref er.way) (.ref er.kin)=some true
  way_value:kitOne K (.ref er.way) (.type "ValueError")=some true
  way_size:kitOne K (.ref er.way) (.ref er.size)=some false
  way_number:kitOne K (.ref er.way) (.ref er.number)=some false
  way_thing:kitOne K (.ref er.way) (.ref er.thing)=some false
  way_family:kitOne K (.ref er.way) (.ref er.family)=some false
  way_way:kitOne K (.ref er.way) (.ref er.way)=some true
  way_apart:kitOne K (.ref er.way) (.ref er.apart)=some false
  way_mark:kitOne K (.ref er.way) (.ref er.mark)=some false
  way_text:kitOne K (.ref er.way) (.ref er.text)=some false
  way_broken:kitOne K (.ref er.way) (.ref er.broken)=some false
theorem A0 {K:Frag} {mg:Str->Option Value} {er:iB} (h:oY K er=true) (h_kin:mg "KinError" = some (.ref er.kin)) (h_size:mg "NoSize" = some (.ref er.size)) (h_number:mg "NoNumber" = some (.ref er.number)) (h_thing:mg "NoThing" = some (.ref er.thing)) (h_family:mg "NoFamily" = some (.ref er.family)) (h_way:mg "NoWay" = some (.ref er.way)) (h_apart:mg "Apart" = some (.ref er.apart)) (h_mark:mg "NoMark" = some (.ref er.mark)) (h_text:mg "NoText" = some (.ref er.text)) (h_broken:mg "Broken" = some (.ref er.broken)):rT K mg er:=by
  unfold oY at h
  simp only [Bool.and_eq_true,beq_iff_eq] at h
  obtain ⟨⟨⟨⟨⟨⟨⟨⟨⟨⟨⟨⟨q0,q1⟩,q2⟩,q3⟩,q4⟩,q5⟩,q6⟩,q7⟩,q8⟩,q9⟩,q10⟩,q11⟩,q12⟩:=h
  exact ⟨h_kin,h_size,h_number,h_thing,h_family,h_way,h_apart,h_mark,h_text,h_broken,q0,zr q1,q2,q3,q4,q5,q6,q7,q8,q9,q10,q11,q12⟩
theorem ot {X:Cx} {K:Frag} (hK:X.K=K):iq X (compareOp .In) (CS K false):=by
  subst hK
  exact qc
theorem iz (x:Str):∀ ys:List Str,wJ (.str x) (ys.map V.str)=decide (x∈ys)
  | []=>rfl
  | y::ys=>by
    show (gQ (.str y) (.str x) || wJ (.str x) (ys.map V.str))=_
    rw [iz x ys]
    have e:gQ (.str y) (.str x)=decide (x=y):=by
      by_cases z:x=y
      · subst z; simp [gQ]
      · rw [decide_eq_false z]
        simp [gQ]
        exact fun w=>z w.symm
    rw [e]
    simp [List.mem_cons]
theorem ji:∀ ys:List Str,(ys.map V.str).all ie=true
  | []=>rfl
  | _::ys=>ji ys
end L2
namespace Ck
open PySem L2
noncomputable abbrev Way:=Str × Str × Str × Str
noncomputable def two (f l h b:Str):List Way:=[(f++">"++l++h,f,l,l++">"++f++b),(l++">"++f++b,l,f,f++">"++l++h)]
noncomputable def w7:List Str:=["stairs","twins","bows","rooms","turns","brackets","floor"]
noncomputable def w5:List Str:=["brackets","bows","twins","floor","turns"]
noncomputable def so (k j:Nat):List Way:=(w7.take j).flatMap fun u=>two (w7.getD k "") u ":parts" ":parts"
noncomputable def jK (k:Nat):List Way:=(List.range k).flatMap fun i=>so i i
noncomputable def rY (j:Nat):List Way:=(w5.take j).flatMap fun u=>(two u u ":mirror" ":mirror").take 1
noncomputable def iY (j:Nat):List Way:=(w7.take j).flatMap fun u=>two "brackets" u "" ""
noncomputable def fS:List Way:=iY 5++two "twins" "floor" "" ""++two "trees" "codes" "" ""++two "trees" "cars" "" ""++two "cars" "codes" "" ""++jK 7++rY 5++two "bows" "bows" ":turn" ":turnback"++two "floor" "floor" ":turn" ":turnback"++two "rooms" "rooms" ":gaps" ":gapsback"++two "rooms" "bows" ":feet" ":feet"
theorem sL:fS.length=73:=by decide +kernel
noncomputable def iK (n:Str):Str:=(Txt.partition n ":").1
noncomputable def jx (n:Str):Str:=(Txt.partition n ":").2.2
noncomputable def wm (n:Str):List Str:=Builtin.Str.partsBetween (iK n) (Builtin.Str.occurrences (iK n) ">" 0 (iK n).length ((iK n).length+1)) (Str.length (Str.ofString ">"))
noncomputable def uP:List (Str × Str):=[("turn","turnback"),("turnback","turn"),("gaps","gapsback"),("gapsback","gaps")]
noncomputable def qm (m:Str):Str:=((uP.lookup m).getD m)
noncomputable def vF (r:Way):Str:=if jx r.1 = "" then r.2.2.1++">"++r.2.1 else r.2.2.1++">"++r.2.1++":"++qm (jx r.1)
noncomputable def AV (r:Way):Bool:=decide (wm r.1=[r.2.1,r.2.2.1])&&decide (vF r=r.2.2.2)&&decide (r.1.length<=100)&&!(decide ((iK r.1).length < Str.length (Str.ofString ">")) || decide (Builtin.Str.strKind (iK r.1) < Builtin.Str.strKind (Str.ofString ">")))&&!(Builtin.Str.occurrences (iK r.1) ">" 0 (iK r.1).length ((iK r.1).length+1)).isEmpty&&decide ((iK r.1).length<=100)
theorem zp:fS.all AV=true:=by decide +kernel
noncomputable def j5:List Str:=["brackets","stairs","twins","bows","rooms","floor","turns"]
noncomputable def jv (u:Str) (n:Nat):List Str:=((j5.take n).filter fun v=>decide (u≠v)).map fun v=>u++">"++v++":parts"
noncomputable def fu (i:Nat):List Str:=(j5.take i).flatMap fun u=>jv u 7
noncomputable def iR:List Str:=["brackets>stairs","stairs>brackets","brackets>twins","twins>brackets","brackets>bows","bows>brackets","brackets>rooms","rooms>brackets","brackets>turns","turns>brackets","twins>floor","floor>twins","trees>codes","codes>trees","trees>cars","cars>trees","cars>codes","codes>cars"]
noncomputable def jc:List Str:=["brackets>brackets:mirror","bows>bows:mirror","twins>twins:mirror","floor>floor:mirror","turns>turns:mirror","bows>bows:turn","bows>bows:turnback","floor>floor:turn","floor>floor:turnback","rooms>bows:feet","bows>rooms:feet","rooms>rooms:gaps","rooms>rooms:gapsback"]
noncomputable def names:List Str:=fS.map (·.1)
theorem yO:((iR++fu 7)++jc).Nodup:=by decide +kernel
theorem rB:(((iR++fu 7)++jc).all fun x=>decide (x∈names))=true/\(names.all fun x=>decide (x∈(iR++fu 7)++jc))=true:=by decide +kernel
theorem sF (x:Str):x∈(iR++fu 7)++jc↔x∈names :=
  ⟨fun h=>of_decide_eq_true (List.all_eq_true.mp rB.1 x h),fun h=>of_decide_eq_true (List.all_eq_true.mp rB.2 x h)⟩
structure gT (kvs:List (Key × V)) (ks:List Str):Prop where
  keys:kvs.map (·.1)=ks.map Sum.inr
  refs:∀ kv∈kvs,∃ f,kv.2 = .ref f
theorem zt:gT [] []:=⟨rfl,fun _ h=>by cases h⟩
theorem gT.app {a b:List (Key × V)} {ks ls:List Str} (h:gT a ks) (k:gT b ls) (nd:(ks++ls).Nodup):gT (eV a b) (ks++ls):=by
  have e:eV a b=a++b:=gW b a (by rw [List.map_append,h.keys,k.keys,<- List.map_append]; exact nodup_inr nd)
  rw [e]
  exact ⟨by rw [List.map_append,List.map_append,h.keys,k.keys],fun kv hv=>(List.mem_append.mp hv).elim (h.refs kv) (k.refs kv)⟩
theorem gT.put {a:List (Key × V)} {ks:List Str} {x:Str} {f:Addr} (h:gT a ks) (nd:(ks++[x]).Nodup):gT (putK a (.inr x) (.ref f)) (ks++[x]) :=
  h.app (b:=[(.inr x,.ref f)]) (ls:=[x]) ⟨rfl,fun kv hv=>⟨f,by rw [List.mem_singleton.mp hv]⟩⟩ nd
theorem gT.len {a:List (Key × V)} {ks:List Str} (h:gT a ks):a.length=ks.length:=by
  have:=congrArg List.length h.keys
  simpa using this
theorem uv (items:List (Str × Addr)):gT (fq items) (items.map (·.1)):=⟨kG items,fun kv hv=>by
  unfold fq at hv
  obtain ⟨it,_,rfl⟩:=List.mem_map.mp hv
  exact ⟨it.2,rfl⟩⟩
theorem pP:∀ {a:List (Key × V)} {x:Key},(x∈a.map (·.1)->∃ kv∈a,bS a x=some kv.2)/\(x∉a.map (·.1)->bS a x=none)
  | [],x=>⟨fun h=>(by cases h),fun _=>rfl⟩
  | kv::a,x=>by
    have ih:=pP (a:=a) (x:=x)
    by_cases e:kv.1=x
    · have v:bS (kv::a) x=some kv.2:=by unfold bS; simp [e]
      exact ⟨fun _=>⟨kv,List.mem_cons_self ..,v⟩,fun h=>absurd (List.mem_cons.mpr (.inl e.symm)) h⟩
    · have v:bS (kv::a) x=bS a x:=by unfold bS; simp [e]
      rw [v]
      refine ⟨fun h=>?_,fun h=>ih.2 fun z=>h (List.mem_cons_of_mem _ z)⟩
      rcases List.mem_cons.mp h with z | z
      · exact absurd z.symm e
      · obtain ⟨k2,h2,h3⟩:=ih.1 z
        exact ⟨k2,List.mem_cons_of_mem _ h2,h3⟩
theorem gT.has {a:List (Key × V)} {ks:List Str} (h:gT a ks) {x:Str} (hx:x∈ks):∃ f,bS a (.inr x)=some (.ref f):=by
  obtain ⟨kv,m,e⟩:=(pP (a:=a) (x:=.inr x)).1 (by rw [h.keys]; exact List.mem_map.mpr ⟨x,hx,rfl⟩)
  obtain ⟨f,ef⟩:=h.refs kv m
  exact ⟨f,by rw [e,ef]⟩
theorem gT.no {a:List (Key × V)} {ks:List Str} (h:gT a ks) {x:Str} (hx:x∉ks):bS a (.inr x)=none :=
  (pP (a:=a) (x:=.inr x)).2 (by
    rw [h.keys]
    intro z
    obtain ⟨y,hy,e⟩:=List.mem_map.mp z
    injection e with e
    exact hx (e▸hy))
theorem zv {r:Way} (h:r∈fS):AV r=true:=List.all_eq_true.mp zp r h
noncomputable def bI (w:Str):List Str:=if w = "trees"\/w = "codes"\/w = "cars" then ["leaves","rootage"] else if w = "rooms"\/w = "floor" then ["peaks","returns"] else ["peaks","returns","height"]
noncomputable def rS (r:Way):Bool:=Txt.endswith r.1 ":mirror"&&(decide (r.2.1≠"twins")&&decide (r.2.1≠"floor"))
noncomputable def bare (r:Way):Bool:=(!(Builtin.Str.occurrences r.1 ":" 0 r.1.length 1).isEmpty&&!Txt.endswith r.1 ":parts") || (decide (r.1 = "cars>codes") || decide (r.1 = "codes>cars"))
noncomputable def jY (r:Way):List Str:=if rS r=true then ["peaks","returns","height"] else if bare r=true then [] else (bI r.2.1).filter fun x=>decide (x∈bI r.2.2.1)
noncomputable def yA (a b m:Str):Bool:=if m = "" then !(decide (a = "cars")&&decide (b = "codes"))&&!(decide (a = "codes")&&decide (b = "cars")) else if m = "mirror" then decide (a = "brackets") || (decide (a = "bows") || decide (a = "turns")) else decide (m = "parts")
noncomputable def yt (r:Way):List Str:=if yA r.2.1 r.2.2.1 (jx r.1)=true then (bI r.2.1).filter fun x=>decide (x∈bI r.2.2.1) else []
theorem Ai:(fS.all fun r=>decide (yt r=jY r))=true:=by decide +kernel
theorem Bl {r:Way} (h:r∈fS):yt r=jY r:=of_decide_eq_true (List.all_eq_true.mp Ai r h)
noncomputable def wV:List Str:=j5++(["codes","trees","cars"]:List Str)
theorem xZ:(fS.all fun r=>decide (r.2.1∈wV)&&decide (r.2.2.1∈wV))=true:=by decide +kernel
theorem wq (u:Str) {n:Nat} {v:Str} (h:j5[n]? = some v):jv u (n+1)=jv u n++if u≠v then [u++">"++v++":parts"] else []:=by
  unfold jv
  rw [List.take_add_one,h,List.filter_append,List.map_append]
  refine congrArg _ ?_
  show List.map _ (List.filter _ [v])=_
  by_cases e:u≠v
  · rw [if_pos e,List.filter_cons,if_pos (decide_eq_true e)]; rfl
  · rw [if_neg e,List.filter_cons,if_neg (by rw [decide_eq_false e]; decide)]; rfl
theorem vg {i:Nat} {u:Str} (h:j5[i]? = some u):fu (i+1)=fu i++jv u 7:=by
  unfold fu
  rw [List.take_add_one,h,List.flatMap_append]
  simp
theorem Cu:((List.range 7).all fun i=>(List.range 8).all fun j=>decide ((fu i++jv (j5.getD i "") j).Nodup))=true:=by decide +kernel
theorem z0:((List.range 7).all fun i=>(List.range 8).all fun j=>decide ((fu i++jv (j5.getD i "") j).length<=49))=true:=by decide +kernel
theorem y6:(j5.all fun x=>decide (x.length<=100))=true:=by decide +kernel
theorem CK:iR.length=18:=by decide +kernel
theorem CO:(fu 7).length=42:=by decide +kernel
theorem Dx:jc.length=13:=by decide +kernel
theorem qb {x:Str}:x∈names↔∃ r∈fS,r.1=x:=List.mem_map
theorem tw {r:Way} (h:r∈fS):wm r.1=[r.2.1,r.2.2.1]/\vF r=r.2.2.2/\r.1.length<=100/\(decide ((iK r.1).length < Str.length (Str.ofString ">")) || decide (Builtin.Str.strKind (iK r.1) < Builtin.Str.strKind (Str.ofString ">")))=false/\(Builtin.Str.occurrences (iK r.1) ">" 0 (iK r.1).length ((iK r.1).length+1)).isEmpty=false/\(iK r.1).length<=100:=by
  have:=zv h
  unfold AV at this
  simp only [Bool.and_eq_true,decide_eq_true_iff,Bool.not_eq_true'] at this
  obtain ⟨⟨⟨⟨⟨a,b⟩,c⟩,d⟩,e⟩,f⟩:=this
  exact ⟨a,b,c,d,e,f⟩
theorem dk (x:Str):Str.empty++x=x:=zu (by
  show ((#[]:Array Nat)++x.cps).toList=x.cps.toList
  simp)
theorem len_app (x y:Str):(x++y).length=x.length+y.length:=by
  show (x.cps++y.cps).size=x.cps.size+y.cps.size
  exact Array.size_append
theorem xy:(fS.all fun r=>decide (r.2.1.length<=100)&&decide (r.2.2.1.length<=100)&&decide ((qm (jx r.1)).length<=100))=true:=by decide +kernel
theorem ya {r:Way} (h:r∈fS):r.2.1.length<=100/\r.2.2.1.length<=100/\(qm (jx r.1)).length<=100:=by
  have:=List.all_eq_true.mp xy r h
  simp only [Bool.and_eq_true,decide_eq_true_iff] at this
  exact ⟨this.1.1,this.1.2,this.2⟩
end Ck
set_option Elab.async false
set_option linter.all false
set_option maxRecDepth 100000
set_option maxHeartbeats 4000000
namespace L2
open PySem PySem.Spec PyProof.Rows
theorem in_two {A B C:W.Frag} {x y:Addr} {ox oy:Obj} {h:Heap} (hin:W.Frag.In (A++(x,ox)::(B++(y,oy)::C)) h) (nx:(A++(B++C)).lookup x=none) (ny:(A++(B++C)).lookup y=none) (ne:x≠y) :
    W.Frag.In (A++(B++C)) h/\h.get? x=some ox/\h.get? y=some oy:=by
  rw [List.lookup_append,List.lookup_append] at nx ny
  have ax:A.lookup x=none:=by cases z:A.lookup x with | none=>rfl | some _=>rw [z] at nx; cases nx
  have ay:A.lookup y=none:=by cases z:A.lookup y with | none=>rfl | some _=>rw [z] at ny; cases ny
  have bx:B.lookup x=none:=by rw [ax] at nx; cases z:B.lookup x with | none=>rfl | some _=>rw [z] at nx; cases nx
  have by':B.lookup y=none:=by rw [ay] at ny; cases z:B.lookup y with | none=>rfl | some _=>rw [z] at ny; cases ny
  have cx:C.lookup x=none:=by rw [ax,bx] at nx; exact nx
  have cy:C.lookup y=none:=by rw [ay,by'] at ny; exact ny
  refine ⟨fun b o e=>hin b o ?_,hin x ox ?_,hin y oy ?_⟩
  · have bnx:b≠x:=fun z=>by rw [z,List.lookup_append,List.lookup_append,ax,bx,cx] at e; cases e
    have bny:b≠y:=fun z=>by rw [z,List.lookup_append,List.lookup_append,ay,by',cy] at e; cases e
    rw [List.lookup_append,List.lookup_append] at e
    rw [List.lookup_append,List.lookup_cons,beq_eq_false_iff_ne.mpr bnx,List.lookup_append,List.lookup_cons,beq_eq_false_iff_ne.mpr bny]
    exact e
  · rw [List.lookup_append,ax,List.lookup_cons,beq_self_eq_true]
    rfl
  · rw [List.lookup_append,ay,List.lookup_cons,beq_eq_false_iff_ne.mpr (Ne.symm ne),List.lookup_append,by',List.lookup_cons,beq_self_eq_true]
    rfl
noncomputable def pS (vs:Array Value):Option Addr :=
  match (vs[11]? : Option Value),vs.getD 11 Value.none,vs.getD 18 Value.none,vs.getD 7 Value.none,vs.getD 9 Value.none,vs.getD 10 Value.none with
  | some (.ref P),.ref _,.str _ _,.int _ _,.bool _,.int _ _=>some P
  | _,_,_,_,_,_=>none
theorem codeHd_of {K:W.Frag} {c P:Addr} {od:Option Addr} {vs:Array Value} {sl:Array (Option Value)} (l:K.lookup c=some ⟨.type "code",od,.fields vs,sl⟩) (t:pS vs=some P) (ne:c≠P):∀ h,K.In h->W.CodeHd h c P:=fun h X=>by
  unfold pS at t
  split at t
  · rename_i P' a f tf i ti b j tj e1 e2 e3 e4 e5 e6
    cases t
    have e2':vs.getD 11 .none = .ref P:=by
      rw [Array.getD_eq_getD_getElem?,e1]
      rfl
    exact ⟨_,vs,_,_,_,_,_,_,_,X c _ l,rfl,rfl,e1,e2',e3,e4,e5,e6,ne⟩
  · cases t
theorem CD {K:W.Frag} {mg:Str->Option Value} {b:Addr} {sl:Array (Option Value)} (m:mg "__builtins__" = some (.ref b)) (l:K.lookup b=some ⟨.type "module",some builtinsNs,.plain,sl⟩) (ne:b≠builtinsNs) (h:Heap) (X:K.In h):BM mg h :=
  ⟨b,_,m,ne,X b _ l,rfl,rfl,rfl⟩
theorem dict_ok {P:Program} {w:World} {H:Hp} {h:Heap} {D:Addr} {n:Nat} (es:List (Str × Tok × Str × Tok)) (e:h.get? D=some ⟨.type "dict",none,.dict (es.map fun x=>(⟨PyData.keyHash w.params x.1,.str x.1 x.2.1,.str x.2.2.1 x.2.2.2⟩:DictEntry)).toArray n,#[]⟩) (nd:(es.map (·.1)).Nodup) (ne:(D == sysModules)=false) (l:es.length<=sizeLine) :
    bg P w H h D (.dK (es.map fun x=>((.inr x.1:Key),V.str x.2.2.1))):=by
  refine ⟨by rw [List.length_map]; exact l,ne,es.map fun x=>((.inr x.1:Key),Value.str x.2.2.1 x.2.2.2),?_,_,_,n,e,⟨rfl,rfl,rfl⟩,rfl,?_,?_,?_⟩
  · clear e nd l
    induction es with
    | nil=>exact .nil
    | cons x es ih=>exact .cons ⟨rfl,⟨_,rfl⟩⟩ ih
  · intro y hy
    obtain ⟨x,_,rfl⟩:=List.mem_map.mp (List.mem_toArray.mp hy)
    exact ⟨.inr x.1,iH ⟨_,rfl⟩,rfl⟩
  · clear e nd l
    induction es with
    | nil=>exact .nil
    | cons x es ih=>exact Pairs.cons (kv:=(Sum.inr x.1,Value.str x.2.2.1 x.2.2.2)) (iH (k:=.inr x.1) (u:=Value.str x.1 x.2.1) ⟨_,rfl⟩) rfl ih
  · rw [List.map_map]
    have:(List.map (fun x:Str × Tok × Str × Tok=>(Sum.inr x.1:Key)) es)=(es.map (·.1)).map Sum.inr:=by rw [List.map_map]; rfl
    show (List.map (fun x:Str × Tok × Str × Tok=>(Sum.inr x.1:Key)) es).Nodup
    rw [this]
    exact Ck.nodup_inr nd
end L2
set_option Elab.async false
set_option linter.all false
set_option maxRecDepth 100000
namespace Ck
open PySem PySem.W PySem.Calls PyProof.Rows
noncomputable def ur {α:Type} (p q:Program) (loose:List Str) (Xt:Shared->Bool) (Yf:Shared->α) (h0:Heap) (s:Shared) :=
  ((staticsOk (importedModules p.main.body) h0 s.heap&&namesBound p s.heap&&gensDone s&&laidKept h0 s.heap),
    openSeen q loose (importedModules p.main.body) Xt true s,Yf s)
theorem v8 {p q:Program} {loose:List Str} {Xt:Shared->Bool} {α:Type} {Yf:Shared->α} {Ya:World->α} {N M m:Nat} {H:Params->Heap} {gs:Array GenState} {dr:Drawn} {tk:Nat} {an:Option Value}
    (o:∀ w:World,(fencedOpening treeTable p w N).map (fun s=>(s.heap,s.gens,s.drawn,s.toks))=some (H w.params,gs,dr,tk))
    (z:∀ w:World,((H w.params).isNs mainGlobals&&gs.size == 0,(H w.params).objs.size,(H w.params).nsMap mainGlobals "__annotations__")=(true,m,an))
    (r:∀ (w:World) (os:OsState),∃ e,topRun treeTable p w m an M ⟨H w.params,gs,dr,tk,os⟩ (topStub p)=some e/\ur p q loose Xt Yf (H w.params) e=(true,openGood q loose,Ya w))
    (le:M<=N):LeftO p q loose Xt Yf Ya N:=by
  intro w
  have ow:=o w
  cases hf:fencedOpening treeTable p w N with
  | none=>rw [hf] at ow; cases ow
  | some s =>
    rw [hf] at ow
    have os:=Option.some.inj ow
    have e1:s.heap=H w.params:=congrArg Prod.fst os
    have e2:s.gens=gs:=congrArg (fun x=>x.2.1) os
    have e3:s.drawn=dr:=congrArg (fun x=>x.2.2.1) os
    have e4:s.toks=tk:=congrArg (fun x=>x.2.2.2) os
    obtain ⟨e,run,look⟩:=r w s.os
    have hs:s=⟨H w.params,gs,dr,tk,s.os⟩:=by rw [<- e1,<- e2,<- e3,<- e4]
    have run':=topRun_mono (N - M) _ _ _ _ run
    rw [Nat.add_sub_cancel' le] at run'
    have zw:=z w
    have z1:=congrArg Prod.fst zw
    have z2:=congrArg (fun x=>x.2.1) zw
    have z3:=congrArg (fun x=>x.2.2) zw
    dsimp only at z1 z2 z3
    have l1:=congrArg Prod.fst look
    have l2:=congrArg Prod.snd look
    have tf:topFrom treeTable p w N s=some e:=by
      rw [hs]
      unfold topFrom
      dsimp only
      rw [z1,z2,z3,run']
      unfold ur at l1
      dsimp only at l1
      dsimp only [Option.bind]
      rw [l1]
    unfold openEnds
    rw [hf,Option.bind_some,tf]
    exact congrArg some l2
noncomputable def alive (o:Obj):Option Obj:=match o with
  | ⟨_,_,.freed,_⟩=>none
  | o=>some o
noncomputable def iI:List Obj->List Bool->List (Option Obj)
  | _,[]=>[]
  | [],true::m=>none::iI [] m
  | [],false::m=>iI [] m
  | o::os,true::m=>alive o::iI os m
  | _::os,false::m=>iI os m
noncomputable def kf:List Bool->Nat->List Nat
  | [],_=>[]
  | true::m,i=>i::kf m (i+1)
  | false::m,i=>kf m (i+1)
theorem pF:∀ (m:List Bool) (os:List Obj) (pre:List Obj),iI os m=(kf m pre.length).map fun a=>(pre++os)[a]?.bind alive
  | [],os,pre=>by cases os<;>rfl
  | b::m,[],pre=>by
    have k:=pF m [] (pre++[default])
    rw [List.length_append,List.length_singleton] at k
    have e:∀ i,pre.length < i->((pre++[(default:Obj)])++[])[i]?.bind alive=(pre++[])[i]?.bind alive:=fun i hi=>by
      rw [List.getElem?_eq_none (by simp; lia),List.getElem?_eq_none (by simp; lia)]
    have lt:∀ (m:List Bool) (n i:Nat),i∈kf m n->n<=i:=by
      intro m
      induction m with
      | nil=>intro n i h; cases h
      | cons b m ih=>intro n i h; cases b with
        | true =>
          rcases List.mem_cons.1 h with h | h
          · lia
          · have:=ih _ _ h; lia
        | false=>have:=ih _ _ h; lia
    have k':iI [] m=(kf m (pre.length+1)).map fun a=>(pre++[])[a]?.bind alive:=by
      rw [k]; exact List.map_congr_left fun i hi=>e i (lt _ _ _ hi)
    cases b with
    | true=>show none::iI [] m=_::_; rw [k']; congr 1; simp
    | false=>exact k'
  | b::m,o::os,pre=>by
    have k:=pF m os (pre++[o])
    rw [List.length_append,List.length_singleton,List.append_assoc,List.singleton_append] at k
    cases b with
    | true=>show alive o::iI os m=_::_; rw [k]; congr 1; simp
    | false=>exact k
theorem xl (h:Heap) (a:Addr):h.get? a=h.objs.toList[a]?.bind alive:=by
  unfold Heap.get?
  rw [Array.getElem?_toList]
  cases h.objs[a]? with
  | none=>rfl
  | some o=>obtain ⟨c,d,x,s⟩:=o; cases x<;>rfl
theorem zb {m:List Bool} {as:List Addr} (e:as=kf m 0) (h:Heap):as.map h.get? = iI h.objs.toList m:=by
  rw [pF m h.objs.toList [],e]
  exact List.map_congr_left fun a _=>xl h a
section
variable {tb:String->Option Builtin} {p:Program} {w:World} {m:Nat} {an:Option Value} {env:Env} {q:Pos}
noncomputable def pD {β:Type} (tb:String->Option Builtin) (p:Program) (w:World) (m:Nat) (an:Option Value) (q:Pos) (c:Code) (n4:Nat) (L:Shared->β) (r:Flow × SharedT × Code × Pos):Flow × Code × Option β :=
  (r.1,r.2.2.1,(topRun tb p w m an n4 r.2.1.abs ⟨doneF .next,c,r.2.2.2,[topFrame q]⟩).map L)
theorem yV {β:Type} {L:Shared->β} {b:List Stmt} {c:Code} {k n1 n2 n3 n4 n5:Nat} {S0 Sa:Shared} {Sb Sc:SharedT} {pos0 pos1 pos2:Pos} {z:β} (hc:c = .body b env)
    (h1:topGo tb p w m an n1 S0 (topStub p)=some (Sa,⟨denote tb c,c,pos0,[topFrame q]⟩))
    (h2:segRun tb p w m an 1 n2 Sa (blockOf b env c pos0 [topFrame q])=some (.next,Sb.abs,c,pos1))
    (h3:segRunT tb p w m an 1 n3 Sb (piecesOf (b.take k) env c pos1 [topFrame q])=some (.next,Sc,c,pos2))
    (h4:(segRunT tb p w m an 1 n5 Sc (piecesOf (b.drop k) env c pos2 [topFrame q])).map (pD tb p w m an q c n4 L)=some (.next,c,some z)) :
    ∃ e,topRun tb p w m an (n1+(n2+(n3+(n5+n4)))) S0 (topStub p)=some e/\L e=z:=by
  cases hr:segRunT tb p w m an 1 n5 Sc (piecesOf (b.drop k) env c pos2 [topFrame q]) with
  | none=>rw [hr] at h4; cases h4
  | some x =>
    obtain ⟨f,s,d,ps⟩:=x
    rw [hr] at h4
    have h4:=Option.some.inj h4
    unfold pD at h4
    have a1:f = .next:=congrArg Prod.fst h4
    have a2:d=c:=congrArg (fun x=>x.2.1) h4
    have a3:=congrArg (fun x=>x.2.2) h4
    dsimp only at a3
    subst a1 a2 hc
    cases ht:topRun tb p w m an n4 s.abs ⟨doneF .next,.body b env,ps,[topFrame q]⟩ with
    | none=>rw [ht] at a3; cases a3
    | some e =>
      rw [ht] at a3
      have k2:=piece_app (rest:=[]) (segRun_of hr) (piece_nil ht)
      rw [List.append_nil] at k2
      have k1:=piece_app (segRun_of h3) k2
      rw [List.take_append_drop] at k1
      exact ⟨e,go_top h1 (piece_block h2 k1),Option.some.inj a3⟩
end
end Ck
set_option maxHeartbeats 4000000
namespace Ck
open PySem L2
noncomputable def top (i:Nat):Stmt:=PySem.Challenge.pw_countkin_k53_ways_by_name.main.body.getD i (.Pass ⟨0,0,0,0⟩)
structure aO where
 aF:Addr
 aK:Addr
 aR:Addr
 bu:Addr
 aU:Addr
 aP:Addr
 bc:Addr
 az:Addr
 aC:Addr
 aS:Addr
 aX:Addr
 bB:Addr
 aZ:Addr
 qO:Addr
 uX:Addr
 qJ:Addr
 qP:Addr
 uC:Addr
 qS:Addr
 qK:Addr
 wd:Addr
 qF:Addr
 qM:Addr
 vY:Addr
 qN:Addr
 qV:Addr
 uy:Addr
 qZ:Addr
 ra:Addr
 uB:Addr
 rg:Addr
 rb:Addr
 vU:Addr
 qC:Addr
 qE:Addr
 vy:Addr
 rf:Addr
 qG:Addr
 vo:Addr
 qD:Addr
 qU:Addr
 vR:Addr
 qY:Addr
 fX:Addr
 fw:Addr
 fL:Addr
 fU:Addr
 fK:Addr
 fE:Addr
 en:Addr
 eB:Addr
 cV:Addr
 cS:Addr
 cW:Addr
 cT:Addr
 dA:Addr
 dC:Addr
 cU:Addr
 cQ:Addr
 cm:Addr
 cq:Addr
 ia:Addr
 kH:Addr
 fg:Addr
 eU:Addr
 eF:Addr
 gC:Addr
 eR:Addr
 gY:Addr
 fO:Addr
 fB:Addr
 fT:Addr
 gj:Addr
 dM:Addr
 fY:Addr
 gq:Addr
 eS:Addr
 fA:Addr
 fc:Addr
 fP:Addr
 fR:Addr
 eW:Addr
 gn:Addr
 eY:Addr
 gk:Addr
 fb:Addr
 gu:Addr
 gf:Addr
 fV:Addr
 gF:Addr
 fF:Addr
 eX:Addr
 gg:Addr
 fe:Addr
 ed:Addr
 fz:Addr
 dI:Addr
 dq:Addr
 ee:Addr
 cc:Addr
 T:Addr
 D:Addr
structure Bx (K:W.Frag) (mg:Str->Option Value) (ca:aO):Prop where
 vI:mg "Brackets" = some (.ref ca.aF)
 yk:mg "Stairs" = some (.ref ca.aK)
 zx:mg "Twins" = some (.ref ca.aR)
 AG:mg "Bows" = some (.ref ca.bu)
 yQ:mg "Rooms" = some (.ref ca.aU)
 xG:mg "Floors" = some (.ref ca.aP)
 yR:mg "Turns" = some (.ref ca.bc)
 dF:mg "SplitFamily" = some (.ref ca.az)
 fh:mg "Family" = some (.ref ca.aC)
 zg:mg "Codes" = some (.ref ca.aS)
 zq:mg "Trees" = some (.ref ca.aX)
 AQ:mg "Cars" = some (.ref ca.bB)
 jb:mg "RingFamily" = some (.ref ca.aZ)
 iw:gK K ca.aF
 i0:gK K ca.aK
 jD:gK K ca.aR
 km:gK K ca.bu
 jy:gK K ca.aU
 ja:gK K ca.aP
 jE:gK K ca.bc
 lF:gK K ca.aS
 mh:gK K ca.aX
 oI:gK K ca.bB
 mk_Brackets:Mk K ca.aF ca.qJ
 mk_Stairs:Mk K ca.aK ca.qS
 mk_Twins:Mk K ca.aR ca.qF
 mk_Bows:Mk K ca.bu ca.qN
 mk_Rooms:Mk K ca.aU ca.qZ
 mk_Floors:Mk K ca.aP ca.rg
 mk_Turns:Mk K ca.bc ca.qC
 mk_Codes:Mk K ca.aS ca.rf
 mk_Trees:Mk K ca.aX ca.qD
 mk_Cars:Mk K ca.bB ca.qY
 cm_SplitFamily___init___Brackets:fk K ca.az "__init__" ca.uX
 cm_Family___init___Brackets:fk K ca.aC "__init__" ca.qO
 cm_SplitFamily___init___Stairs:fk K ca.az "__init__" ca.uC
 cm_Family___init___Stairs:fk K ca.aC "__init__" ca.qP
 cm_SplitFamily___init___Twins:fk K ca.az "__init__" ca.wd
 cm_Family___init___Twins:fk K ca.aC "__init__" ca.qK
 cm_SplitFamily___init___Bows:fk K ca.az "__init__" ca.vY
 cm_Family___init___Bows:fk K ca.aC "__init__" ca.qM
 cm_SplitFamily___init___Rooms:fk K ca.az "__init__" ca.uy
 cm_Family___init___Rooms:fk K ca.aC "__init__" ca.qV
 cm_SplitFamily___init___Floors:fk K ca.az "__init__" ca.uB
 cm_Family___init___Floors:fk K ca.aC "__init__" ca.ra
 cm_SplitFamily___init___Turns:fk K ca.az "__init__" ca.vU
 cm_Family___init___Turns:fk K ca.aC "__init__" ca.rb
 cm_RingFamily___init___Codes:fk K ca.aZ "__init__" ca.vy
 cm_Family___init___Codes:fk K ca.aC "__init__" ca.qE
 cm_RingFamily___init___Trees:fk K ca.aZ "__init__" ca.vo
 cm_Family___init___Trees:fk K ca.aC "__init__" ca.qG
 cm_RingFamily___init___Cars:fk K ca.aZ "__init__" ca.vR
 cm_Family___init___Cars:fk K ca.aC "__init__" ca.qU
 bN:bA K ca.aF "word"
 bZ:bA K ca.aK "word"
 cD:bA K ca.aR "word"
 dz:bA K ca.bu "word"
 cC:bA K ca.aU "word"
 bW:bA K ca.aP "word"
 cE:bA K ca.bc "word"
 dJ:bA K ca.aF "least"
 e9:bA K ca.aK "least"
 fN:bA K ca.aR "least"
 gi:bA K ca.bu "least"
 fQ:bA K ca.aU "least"
 eZ:bA K ca.aP "least"
 fJ:bA K ca.bc "least"
 dG:bA K ca.aS "word"
 dH:bA K ca.aX "word"
 d8:bA K ca.bB "word"
 fI:bA K ca.aS "least"
 fG:bA K ca.aX "least"
 gp:bA K ca.bB "least"
 pY:mg "code_to_cars" = some (.ref ca.fX)
 pk:mg "cars_to_code" = some (.ref ca.fw)
 pU:mg "cars_to_tree" = some (.ref ca.fL)
 pQ:mg "tree_to_cars" = some (.ref ca.fU)
 pE:mg "code_to_tree" = some (.ref ca.fK)
 p0:mg "tree_to_code" = some (.ref ca.fE)
 m3:mg "floor_to_twins" = some (.ref ca.en)
 m6:mg "twins_to_floor" = some (.ref ca.eB)
 ka:mg "turns_to_brackets" = some (.ref ca.cV)
 j9:mg "brackets_to_turns" = some (.ref ca.cS)
 j7:mg "rooms_to_brackets" = some (.ref ca.cW)
 j6:mg "brackets_to_rooms" = some (.ref ca.cT)
 ko:mg "bows_to_brackets" = some (.ref ca.dA)
 kl:mg "brackets_to_bows" = some (.ref ca.dC)
 kc:mg "twins_to_brackets" = some (.ref ca.cU)
 j8:mg "brackets_to_twins" = some (.ref ca.cQ)
 jQ:mg "stairs_to_brackets" = some (.ref ca.cm)
 jW:mg "brackets_to_stairs" = some (.ref ca.cq)
 uK:mg "gapsback" = some (.ref ca.ia)
 BH:mg "gaps" = some (.ref ca.kH)
 oo:mg "feet_to_rooms" = some (.ref ca.fg)
 oH:mg "rooms_to_feet" = some (.ref ca.eU)
 ni:mg "floor_turnback" = some (.ref ca.eF)
 rR:mg "floor_turn" = some (.ref ca.gC)
 oq:mg "bows_turnback" = some (.ref ca.eR)
 tQ:mg "bows_turn" = some (.ref ca.gY)
 px:mg "turns_mirror" = some (.ref ca.fO)
 oJ:mg "floor_mirror" = some (.ref ca.fB)
 pI:mg "twins_mirror" = some (.ref ca.fT)
 qt:mg "bows_mirror" = some (.ref ca.gj)
 mM:mg "brackets_mirror" = some (.ref ca.dM)
 pH:mg "cars_rootage" = some (.ref ca.fY)
 qv:mg "cars_leaves" = some (.ref ca.gq)
 nR:mg "trees_rootage" = some (.ref ca.eS)
 pW:mg "trees_leaves" = some (.ref ca.fA)
 nP:mg "codes_rootage" = some (.ref ca.fc)
 pX:mg "codes_leaves" = some (.ref ca.fP)
 oU:mg "turns_height" = some (.ref ca.fR)
 om:mg "turns_returns" = some (.ref ca.eW)
 qr:mg "turns_peaks" = some (.ref ca.gn)
 nN:mg "floor_returns" = some (.ref ca.eY)
 qx:mg "floor_peaks" = some (.ref ca.gk)
 nO:mg "rooms_returns" = some (.ref ca.fb)
 qw:mg "rooms_peaks" = some (.ref ca.gu)
 qA:mg "bows_height" = some (.ref ca.gf)
 pj:mg "bows_returns" = some (.ref ca.fV)
 sY:mg "bows_peaks" = some (.ref ca.gF)
 pA:mg "twins_height" = some (.ref ca.fF)
 oF:mg "twins_returns" = some (.ref ca.eX)
 qu:mg "twins_peaks" = some (.ref ca.gg)
 nM:mg "stairs_height" = some (.ref ca.fe)
 nJ:mg "stairs_returns" = some (.ref ca.ed)
 p6:mg "stairs_peaks" = some (.ref ca.fz)
 mQ:mg "brackets_height" = some (.ref ca.dI)
 kM:mg "brackets_returns" = some (.ref ca.dq)
 nq:mg "brackets_peaks" = some (.ref ca.ee)
 tb:∀ h,K.In h->W.CodeHd h ca.cc ca.T
 gD:mg "OTHER_MANNERS" = some (.ref ca.D)
noncomputable abbrev mi:Stmt:=top 155
theorem tq:av ["_law_first","_law_last","_law_how","_law_back","_law_one","_law_other"] ["_law_first","_law_last","_law_how","_law_back"] (aa mi):=⟨rfl,rfl,rfl,by decide +kernel,rfl,by decide +kernel,by decide +kernel⟩
noncomputable abbrev lO:Stmt:=top 156
theorem dN:av ["_law_found","_law_words","_law_word","_law_k","_law_j"] [] (aa lO):=⟨rfl,rfl,rfl,by decide +kernel,rfl,by decide +kernel,by decide +kernel⟩
noncomputable abbrev mw:Stmt:=top 154
theorem xb:av ["_law_cell","_law_turn","_law_number"] ["_law_cell","_law_turn"] (aa mw):=⟨rfl,rfl,rfl,by decide +kernel,rfl,by decide +kernel,by decide +kernel⟩
noncomputable abbrev kY:Stmt:=top 166
theorem iL:av ["_law_script","_law_turn","_law_many","_law_cells","_law_found","_law_lefts","_law_k","_law_at","_law_number"] ["_law_script","_law_turn","_law_many"] (aa kY):=⟨rfl,rfl,rfl,by decide +kernel,rfl,by decide +kernel,by decide +kernel⟩
noncomputable abbrev mH:Stmt:=top 160
theorem tO:av ["_law_number","_law_some"] ["_law_number"] (aa mH):=⟨rfl,rfl,rfl,by decide +kernel,rfl,by decide +kernel,by decide +kernel⟩
noncomputable abbrev mr:Stmt:=top 161
theorem kz:av ["_law_name","_law_cell","_law_number","_law_at","_law_kind","_law_words","_law_hows"] ["_law_name","_law_cell","_law_number"] (aa mr):=⟨rfl,rfl,rfl,by decide +kernel,rfl,by decide +kernel,by decide +kernel⟩
noncomputable abbrev jd:Stmt:=top 141
theorem Av:av [] [] (aa jd):=⟨rfl,rfl,rfl,by decide +kernel,rfl,by decide +kernel,by decide +kernel⟩
noncomputable abbrev lZ:Stmt:=inClass (top 17) 0
theorem BP:av ["self","word","least"] ["self","word","least"] (aa lZ):=⟨rfl,rfl,rfl,by decide +kernel,rfl,by decide +kernel,by decide +kernel⟩
noncomputable abbrev pC:Stmt:=inClass (top 18) 0
theorem CH:av ["self","word"] ["self","word"] (aa pC):=⟨rfl,rfl,rfl,by decide +kernel,rfl,by decide +kernel,by decide +kernel⟩
noncomputable abbrev mK:Stmt:=inClass (top 42) 0
theorem AJ:av ["self"] ["self"] (aa mK):=⟨rfl,rfl,rfl,by decide +kernel,rfl,by decide +kernel,by decide +kernel⟩
noncomputable abbrev lq:Stmt:=inClass (top 17) 0
theorem Ab:av ["self","word","least"] ["self","word","least"] (aa lq):=⟨rfl,rfl,rfl,by decide +kernel,rfl,by decide +kernel,by decide +kernel⟩
noncomputable abbrev pq:Stmt:=inClass (top 18) 0
theorem CG:av ["self","word"] ["self","word"] (aa pq):=⟨rfl,rfl,rfl,by decide +kernel,rfl,by decide +kernel,by decide +kernel⟩
noncomputable abbrev me:Stmt:=inClass (top 44) 0
theorem Be:av ["self"] ["self"] (aa me):=⟨rfl,rfl,rfl,by decide +kernel,rfl,by decide +kernel,by decide +kernel⟩
noncomputable abbrev lH:Stmt:=inClass (top 17) 0
theorem Ak:av ["self","word","least"] ["self","word","least"] (aa lH):=⟨rfl,rfl,rfl,by decide +kernel,rfl,by decide +kernel,by decide +kernel⟩
noncomputable abbrev oV:Stmt:=inClass (top 18) 0
theorem Ct:av ["self","word"] ["self","word"] (aa oV):=⟨rfl,rfl,rfl,by decide +kernel,rfl,by decide +kernel,by decide +kernel⟩
noncomputable abbrev lV:Stmt:=inClass (top 47) 0
theorem zZ:av ["self"] ["self"] (aa lV):=⟨rfl,rfl,rfl,by decide +kernel,rfl,by decide +kernel,by decide +kernel⟩
noncomputable abbrev mq:Stmt:=inClass (top 17) 0
theorem BE:av ["self","word","least"] ["self","word","least"] (aa mq):=⟨rfl,rfl,rfl,by decide +kernel,rfl,by decide +kernel,by decide +kernel⟩
noncomputable abbrev oM:Stmt:=inClass (top 18) 0
theorem Cv:av ["self","word"] ["self","word"] (aa oM):=⟨rfl,rfl,rfl,by decide +kernel,rfl,by decide +kernel,by decide +kernel⟩
noncomputable abbrev lg:Stmt:=inClass (top 60) 0
theorem Af:av ["self"] ["self"] (aa lg):=⟨rfl,rfl,rfl,by decide +kernel,rfl,by decide +kernel,by decide +kernel⟩
noncomputable abbrev lM:Stmt:=inClass (top 17) 0
theorem BB:av ["self","word","least"] ["self","word","least"] (aa lM):=⟨rfl,rfl,rfl,by decide +kernel,rfl,by decide +kernel,by decide +kernel⟩
noncomputable abbrev pN:Stmt:=inClass (top 18) 0
theorem B4:av ["self","word"] ["self","word"] (aa pN):=⟨rfl,rfl,rfl,by decide +kernel,rfl,by decide +kernel,by decide +kernel⟩
noncomputable abbrev mn:Stmt:=inClass (top 61) 0
theorem An:av ["self"] ["self"] (aa mn):=⟨rfl,rfl,rfl,by decide +kernel,rfl,by decide +kernel,by decide +kernel⟩
noncomputable abbrev ma:Stmt:=inClass (top 17) 0
theorem AE:av ["self","word","least"] ["self","word","least"] (aa ma):=⟨rfl,rfl,rfl,by decide +kernel,rfl,by decide +kernel,by decide +kernel⟩
noncomputable abbrev pO:Stmt:=inClass (top 18) 0
theorem BV:av ["self","word"] ["self","word"] (aa pO):=⟨rfl,rfl,rfl,by decide +kernel,rfl,by decide +kernel,by decide +kernel⟩
noncomputable abbrev mI:Stmt:=inClass (top 36) 0
theorem AD:av ["self"] ["self"] (aa mI):=⟨rfl,rfl,rfl,by decide +kernel,rfl,by decide +kernel,by decide +kernel⟩
noncomputable abbrev kX:Stmt:=inClass (top 17) 0
theorem Ba:av ["self","word","least"] ["self","word","least"] (aa kX):=⟨rfl,rfl,rfl,by decide +kernel,rfl,by decide +kernel,by decide +kernel⟩
noncomputable abbrev oW:Stmt:=inClass (top 18) 0
theorem Co:av ["self","word"] ["self","word"] (aa oW):=⟨rfl,rfl,rfl,by decide +kernel,rfl,by decide +kernel,by decide +kernel⟩
noncomputable abbrev mD:Stmt:=inClass (top 64) 0
theorem AA:av ["self"] ["self"] (aa mD):=⟨rfl,rfl,rfl,by decide +kernel,rfl,by decide +kernel,by decide +kernel⟩
noncomputable abbrev kS:Stmt:=top 67
theorem Ae:av [] [] (aa kS):=⟨rfl,rfl,rfl,by decide +kernel,rfl,by decide +kernel,by decide +kernel⟩
noncomputable abbrev lN:Stmt:=top 143
theorem zP:av ["one","other"] ["one","other"] (aa lN):=⟨rfl,rfl,rfl,by decide +kernel,rfl,by decide +kernel,by decide +kernel⟩
noncomputable abbrev jP:Stmt:=top 144
theorem BD:av ["one","other"] ["one","other"] (aa jP):=⟨rfl,rfl,rfl,by decide +kernel,rfl,by decide +kernel,by decide +kernel⟩
noncomputable abbrev lS:Stmt:=top 145
theorem nT:av ["found","one","other"] [] (aa lS):=⟨rfl,rfl,rfl,by decide +kernel,rfl,by decide +kernel,by decide +kernel⟩
noncomputable abbrev jj:Stmt:=top 142
theorem zE:av [] [] (aa jj):=⟨rfl,rfl,rfl,by decide +kernel,rfl,by decide +kernel,by decide +kernel⟩
noncomputable abbrev lj:Stmt:=top 146
theorem wN:av ["found"] [] (aa lj):=⟨rfl,rfl,rfl,by decide +kernel,rfl,by decide +kernel,by decide +kernel⟩
noncomputable abbrev lQ:Stmt:=top 147
theorem wy:av ["name","found"] ["name"] (aa lQ):=⟨rfl,rfl,rfl,by decide +kernel,rfl,by decide +kernel,by decide +kernel⟩
noncomputable abbrev lD:Stmt:=top 149
theorem xn:av ["name","words"] ["name"] (aa lD):=⟨rfl,rfl,rfl,by decide +kernel,rfl,by decide +kernel,by decide +kernel⟩
noncomputable abbrev my:Stmt:=top 148
theorem z9:av ["name"] ["name"] (aa my):=⟨rfl,rfl,rfl,by decide +kernel,rfl,by decide +kernel,by decide +kernel⟩
noncomputable abbrev mf:Stmt:=top 150
theorem jF:av ["name","words","one","other","manner","back"] ["name"] (aa mf):=⟨rfl,rfl,rfl,by decide +kernel,rfl,by decide +kernel,by decide +kernel⟩
noncomputable abbrev mL:Stmt:=top 152
theorem BA:av ["words","manner"] ["words","manner"] (aa mL):=⟨rfl,rfl,rfl,by decide +kernel,rfl,by decide +kernel,by decide +kernel⟩
noncomputable abbrev mx:Stmt:=inClass (top 17) 0
theorem AI:av ["self","word","least"] ["self","word","least"] (aa mx):=⟨rfl,rfl,rfl,by decide +kernel,rfl,by decide +kernel,by decide +kernel⟩
noncomputable abbrev oN:Stmt:=inClass (top 22) 0
theorem B3:av ["self","word"] ["self","word"] (aa oN):=⟨rfl,rfl,rfl,by decide +kernel,rfl,by decide +kernel,by decide +kernel⟩
noncomputable abbrev lI:Stmt:=inClass (top 23) 0
theorem Ah:av ["self"] ["self"] (aa lI):=⟨rfl,rfl,rfl,by decide +kernel,rfl,by decide +kernel,by decide +kernel⟩
noncomputable abbrev lG:Stmt:=inClass (top 17) 0
theorem zK:av ["self","word","least"] ["self","word","least"] (aa lG):=⟨rfl,rfl,rfl,by decide +kernel,rfl,by decide +kernel,by decide +kernel⟩
noncomputable abbrev p7:Stmt:=inClass (top 22) 0
theorem Cd:av ["self","word"] ["self","word"] (aa p7):=⟨rfl,rfl,rfl,by decide +kernel,rfl,by decide +kernel,by decide +kernel⟩
noncomputable abbrev lP:Stmt:=inClass (top 55) 0
theorem Bd:av ["self"] ["self"] (aa lP):=⟨rfl,rfl,rfl,by decide +kernel,rfl,by decide +kernel,by decide +kernel⟩
noncomputable abbrev mz:Stmt:=inClass (top 17) 0
theorem AK:av ["self","word","least"] ["self","word","least"] (aa mz):=⟨rfl,rfl,rfl,by decide +kernel,rfl,by decide +kernel,by decide +kernel⟩
noncomputable abbrev oK:Stmt:=inClass (top 22) 0
theorem B1:av ["self","word"] ["self","word"] (aa oK):=⟨rfl,rfl,rfl,by decide +kernel,rfl,by decide +kernel,by decide +kernel⟩
noncomputable abbrev mm:Stmt:=inClass (top 25) 0
theorem A1:av ["self"] ["self"] (aa mm):=⟨rfl,rfl,rfl,by decide +kernel,rfl,by decide +kernel,by decide +kernel⟩
noncomputable abbrev mj:Stmt:=top 68
theorem zL:av [] [] (aa mj):=⟨rfl,rfl,rfl,by decide +kernel,rfl,by decide +kernel,by decide +kernel⟩
noncomputable abbrev lE:Stmt:=top 69
theorem wo:av ["word","family"] ["word"] (aa lE):=⟨rfl,rfl,rfl,by decide +kernel,rfl,by decide +kernel,by decide +kernel⟩
noncomputable abbrev jl:Stmt:=top 104
theorem zN:av [] [] (aa jl):=⟨rfl,rfl,rfl,by decide +kernel,rfl,by decide +kernel,by decide +kernel⟩
noncomputable abbrev lJ:Stmt:=top 105
theorem wH:av ["word","family"] ["word"] (aa lJ):=⟨rfl,rfl,rfl,by decide +kernel,rfl,by decide +kernel,by decide +kernel⟩
noncomputable abbrev lR:Stmt:=top 151
theorem sM:av ["name","words","others"] ["name"] (aa lR):=⟨rfl,rfl,rfl,by decide +kernel,rfl,by decide +kernel,by decide +kernel⟩
noncomputable abbrev mv:Stmt:=top 163
theorem Aj:av ["_law_kind","_law_name"] ["_law_kind","_law_name"] (aa mv):=⟨rfl,rfl,rfl,by decide +kernel,rfl,by decide +kernel,by decide +kernel⟩
noncomputable abbrev lW:Stmt:=top 162
theorem Al:av ["_law_error"] ["_law_error"] (aa lW):=⟨rfl,rfl,rfl,by decide +kernel,rfl,by decide +kernel,by decide +kernel⟩
noncomputable abbrev kT:Stmt:=top 164
theorem n8:av ["_law_kind","_law_name","_law_kept","e"] ["_law_kind","_law_name"] (aa kT):=⟨rfl,rfl,rfl,by decide +kernel,rfl,by decide +kernel,by decide +kernel⟩
noncomputable abbrev mE:Stmt:=top 159
theorem wC:av ["_law_found","_law_due","_law_k"] ["_law_found","_law_due"] (aa mE):=⟨rfl,rfl,rfl,by decide +kernel,rfl,by decide +kernel,by decide +kernel⟩
noncomputable abbrev lX:Stmt:=top 157
theorem zI:av ["_law_word"] ["_law_word"] (aa lX):=⟨rfl,rfl,rfl,by decide +kernel,rfl,by decide +kernel,by decide +kernel⟩
noncomputable abbrev kZ:Stmt:=top 158
theorem kj:av ["_law_row","_law_name","_law_first","_law_last","_law_back"] ["_law_row"] (aa kZ):=⟨rfl,rfl,rfl,by decide +kernel,rfl,by decide +kernel,by decide +kernel⟩
noncomputable abbrev mB:Stmt:=top 165
theorem i4:av ["_law_row","_law_name","_law_first","_law_last","_law_back","_law_found"] ["_law_row"] (aa mB):=⟨rfl,rfl,rfl,by decide +kernel,rfl,by decide +kernel,by decide +kernel⟩
noncomputable abbrev iQ:Stmt:=top 167
theorem ij:av ["_law_script","_law_rows","_law_draws_here","_law_k","_law_number","_law_row","_law_name","_law_same"] ["_law_script"] (aa iQ):=⟨rfl,rfl,rfl,by decide +kernel,rfl,by decide +kernel,by decide +kernel⟩
noncomputable def pK (r:Way):List V:=[.str r.1,.str r.2.1,.str r.2.2.1,.str r.2.2.2]
def gz (H:Hp) (v:V) (r:Way):Prop:=∃ a,v = .ref a/\H a=some (.tup (pK r))
def CL (H:Hp) (p:Addr) (rs:List Way):Prop:=∃ xs,H p=some (.lst xs)/\Paired (gz H) xs rs
theorem aY {H H':Hp} {xs:List V} {rs:List Way} (h:Paired (gz H) xs rs) (s:ai H H'):Paired (gz H') xs rs:=Paired.mapP h fun _ _ ⟨a,e,k⟩=>⟨a,e,s _ _ k⟩
theorem fH {H:Hp} {xs ys:List V} {rs ss:List Way} (h:Paired (gz H) xs rs) (k:Paired (gz H) ys ss):Paired (gz H) (xs++ys) (rs++ss):=by
 induction h with
 | nil=>exact k
 | cons r _ ih=>exact .cons r ih
noncomputable def tN (K:W.Frag) (_:aO):Sp:=fun vs H Q _=>∃ (f l h b:Str),vs=[.str f,.str l,.str h,.str b]/\f.length<=100/\l.length<=100/\h.length<=100/\b.length<=100/\∀ (p:Addr) (H':Hp),ai H H'->H p=none->CL H' p (two f l h b)->Q (.ref p) H'
noncomputable def rO (K:W.Frag) (_:aO):Sp:=fun vs H Q _=>vs=[]/\∀ (p:Addr) (H':Hp),ai H H'->H p=none->CL H' p fS->Q (.ref p) H'
noncomputable def nS (_:W.Frag) (_:aO):Sp:=fun vs H Q _=>∃ c t:Int,vs=[.int c,.int t]/\0<=t/\t<=100000/\∀ m:Int,0<=m->m < 2147483629->Q (.int m) H
noncomputable def rm (K:W.Frag) (_:aO):Sp:=fun vs H Q _=>∃ (a:Addr) (ns:List Int) (t m:Int),vs=[.ref a,.int t,.int m]/\aI K H a (ns.map V.int)/\ns.length<=63/\0<=t/\t<=1000/\0<=m/\m<=1000 /\
 ∀ (p:Addr) (xs:List Int) (H':Hp),ai H H'->H p=none->H' p=some (.lst (xs.map V.int))->xs.length=m.toNat->(∀ x∈xs,0<=x/\x < 2147483587)->Q (.ref p) H'
theorem B0:((Str.ofString " !\"#$&'()*+,-./0123456789:;<=>?@ABCDEFGHIJKLMNOPQRSTUVWXYZ[\\]^_`")++(Str.ofString "abcdefghijklmnopqrstuvwxyz{|}~")).length=94:=by decide +kernel
noncomputable def rK (K:W.Frag) (_:aO):Sp:=fun vs H Q _=>∃ (n:Int),vs=[.int n]/\∀ x:Str,x.length<=1->Q (.str x) H
theorem lY {ys:List Str} {i m:Int} (h0:0 < m) (h1:m<=ys.length) (hb:(ys.all fun y=>decide (y.length<=50))=true):∃ y:Str,iy (ys.map V.str) (i % m)=some (.str y)/\y.length<=50:=by
 have a0:=Int.emod_nonneg i (show m≠0 by lia)
 have a1:=Int.emod_lt_of_pos i h0
 generalize i % m=k at a0 a1 |-
 obtain ⟨j,rfl⟩:∃ j:Nat,k=(j:Int):=⟨_,(Int.toNat_of_nonneg a0).symm⟩
 have hk:j < ys.length:=by lia
 refine ⟨ys[j],hW ?_,of_decide_eq_true (List.all_eq_true.mp hb _ (List.getElem_mem hk))⟩
 rw [List.getElem?_map,List.getElem?_eq_getElem hk]
 rfl
theorem le_app {x y:Str} {a b:Nat} (hx:x.length<=a) (hy:y.length<=b):(x++y).length<=a+b:=by rw [len_app]; exact Nat.add_le_add hx hy
theorem ir {x y a b:Nat} (hx:x<=a) (hy:y<=b) (h:a+b<=1000):x+y<=sizeLine:=Nat.le_trans (Nat.add_le_add hx hy) (Nat.le_trans h (by decide))
noncomputable def sf (K:W.Frag) (_:aO):Sp:=fun vs H Q _=>∃ (x:Str) (c n:Int),vs=[.str x,.int c,.int n]/\x.length<=100/\∀ (y:Str) (H':Hp),ai H H'->Q (.str y) H'
noncomputable def pG:List (Key × V):=uP.map fun p=>(.inr p.1,.str p.2)
theorem yM (m:Str):(bS pG (.inr m)).getD (.str m) = .str (qm m):=by
 unfold qm
 have key:∀ l:List (Str × Str),bS (l.map fun p=>((.inr p.1:Key),V.str p.2)) (.inr m)=(l.lookup m).map V.str:=by
  intro l
  induction l with
  | nil=>rfl
  | cons p l ih =>
   by_cases e:p.1=m
   ·obtain ⟨a,b⟩:=p
    have e:a=m:=e
    subst e
    unfold bS
    simp [List.lookup]
   ·have e2:(m == p.1)=false:=beq_eq_false_iff_ne.mpr (Ne.symm e)
    rw [List.map_cons,List.lookup_cons,e2]
    show bS ((Sum.inr p.1,V.str p.2)::l.map fun p=>((.inr p.1:Key),V.str p.2)) (.inr m)=_
    rw [<- ih]
    unfold bS
    simp [e]
 show (bS (uP.map fun p=>((.inr p.1:Key),V.str p.2)) (.inr m)).getD (.str m)=_
 rw [key]
 cases uP.lookup m<;>rfl
def Gr (ca:aO) (H:Hp):Prop:=∃ oD,xk ca.T ca.D #[] oD pG H
theorem Gr.same {ca:aO} {H H':Hp} (h:Gr ca H) (s:ai H H'):Gr ca H':=let ⟨o,g⟩:=h; ⟨o,s _ _ g.tab,s _ _ g.dic⟩
noncomputable def jw:List (Str × Str):=[("brackets>stairs","brackets_to_stairs"),("stairs>brackets","stairs_to_brackets"),("brackets>twins","brackets_to_twins"),("twins>brackets","twins_to_brackets"),("brackets>bows","brackets_to_bows"),("bows>brackets","bows_to_brackets"),("brackets>rooms","brackets_to_rooms"),("rooms>brackets","rooms_to_brackets"),("brackets>turns","brackets_to_turns"),("turns>brackets","turns_to_brackets"),("twins>floor","twins_to_floor"),("floor>twins","floor_to_twins"),("trees>codes","tree_to_code"),("codes>trees","code_to_tree"),("trees>cars","tree_to_cars"),("cars>trees","cars_to_tree"),("cars>codes","cars_to_code"),("codes>cars","code_to_cars")]
noncomputable def gL (ca:aO):List (Str × Addr):=[("brackets>stairs",ca.cq),("stairs>brackets",ca.cm),("brackets>twins",ca.cQ),("twins>brackets",ca.cU),("brackets>bows",ca.dC),("bows>brackets",ca.dA),("brackets>rooms",ca.cT),("rooms>brackets",ca.cW),("brackets>turns",ca.cS),("turns>brackets",ca.cV),("twins>floor",ca.eB),("floor>twins",ca.en),("trees>codes",ca.fE),("codes>trees",ca.fK),("trees>cars",ca.fU),("cars>trees",ca.fL),("cars>codes",ca.fw),("codes>cars",ca.fX)]
theorem mO (ca:aO):(gL ca).map (·.1)=iR:=rfl
theorem mP (ca:aO):((gL ca).map (·.1)).Nodup:=by
 rw [mO]
 decide +kernel
noncomputable def tG (K:W.Frag) (ca:aO):Sp:=fun vs H Q _=>vs=[]/\∀ (p:Addr) (kvs:List (Key × V)) (H':Hp),ai H H'->H p=none->H' p=some (.dK kvs)->gT kvs iR->Q (.ref p) H'
noncomputable def sE (_:W.Frag) (ca:aO):Sp:=fun vs H Q _=>∃ (x dx:Addr) (w:Str) (l:Int),vs=[.ref x,.str w,.int l]/\H x=some (.ins ca.aF dx [])/\∀ (fs:List (Str × V)) (H':Hp),H'=upd H x (.ins ca.aF dx fs)->bO fs w l->Q .non H'
noncomputable def vj (_:W.Frag) (ca:aO):Sp:=fun vs H Q _=>∃ (x dx:Addr) (w:Str),vs=[.ref x,.str w]/\H x=some (.ins ca.aF dx [])/\∀ (fs:List (Str × V)) (H':Hp),H'=upd H x (.ins ca.aF dx fs)->bO fs w 0->Q .non H'
noncomputable def sy (_:W.Frag) (ca:aO):Sp:=fun vs H Q _=>∃ x dx,vs=[.ref x]/\H x=some (.ins ca.aF dx [])/\∀ (fs:List (Str × V)) (H':Hp),H'=upd H x (.ins ca.aF dx fs)->bO fs "brackets" 0->Q .non H'
noncomputable def rq (_:W.Frag) (ca:aO):Sp:=fun vs H Q _=>∃ (x dx:Addr) (w:Str) (l:Int),vs=[.ref x,.str w,.int l]/\H x=some (.ins ca.aK dx [])/\∀ (fs:List (Str × V)) (H':Hp),H'=upd H x (.ins ca.aK dx fs)->bO fs w l->Q .non H'
noncomputable def vG (_:W.Frag) (ca:aO):Sp:=fun vs H Q _=>∃ (x dx:Addr) (w:Str),vs=[.ref x,.str w]/\H x=some (.ins ca.aK dx [])/\∀ (fs:List (Str × V)) (H':Hp),H'=upd H x (.ins ca.aK dx fs)->bO fs w 0->Q .non H'
noncomputable def sD (_:W.Frag) (ca:aO):Sp:=fun vs H Q _=>∃ x dx,vs=[.ref x]/\H x=some (.ins ca.aK dx [])/\∀ (fs:List (Str × V)) (H':Hp),H'=upd H x (.ins ca.aK dx fs)->bO fs "stairs" 0->Q .non H'
noncomputable def rJ (_:W.Frag) (ca:aO):Sp:=fun vs H Q _=>∃ (x dx:Addr) (w:Str) (l:Int),vs=[.ref x,.str w,.int l]/\H x=some (.ins ca.aR dx [])/\∀ (fs:List (Str × V)) (H':Hp),H'=upd H x (.ins ca.aR dx fs)->bO fs w l->Q .non H'
noncomputable def vb (_:W.Frag) (ca:aO):Sp:=fun vs H Q _=>∃ (x dx:Addr) (w:Str),vs=[.ref x,.str w]/\H x=some (.ins ca.aR dx [])/\∀ (fs:List (Str × V)) (H':Hp),H'=upd H x (.ins ca.aR dx fs)->bO fs w 0->Q .non H'
noncomputable def sv (_:W.Frag) (ca:aO):Sp:=fun vs H Q _=>∃ x dx,vs=[.ref x]/\H x=some (.ins ca.aR dx [])/\∀ (fs:List (Str × V)) (H':Hp),H'=upd H x (.ins ca.aR dx fs)->bO fs "twins" 0->Q .non H'
noncomputable def rj (_:W.Frag) (ca:aO):Sp:=fun vs H Q _=>∃ (x dx:Addr) (w:Str) (l:Int),vs=[.ref x,.str w,.int l]/\H x=some (.ins ca.bu dx [])/\∀ (fs:List (Str × V)) (H':Hp),H'=upd H x (.ins ca.bu dx fs)->bO fs w l->Q .non H'
noncomputable def vw (_:W.Frag) (ca:aO):Sp:=fun vs H Q _=>∃ (x dx:Addr) (w:Str),vs=[.ref x,.str w]/\H x=some (.ins ca.bu dx [])/\∀ (fs:List (Str × V)) (H':Hp),H'=upd H x (.ins ca.bu dx fs)->bO fs w 0->Q .non H'
noncomputable def rN (_:W.Frag) (ca:aO):Sp:=fun vs H Q _=>∃ x dx,vs=[.ref x]/\H x=some (.ins ca.bu dx [])/\∀ (fs:List (Str × V)) (H':Hp),H'=upd H x (.ins ca.bu dx fs)->bO fs "bows" 0->Q .non H'
noncomputable def rn (_:W.Frag) (ca:aO):Sp:=fun vs H Q _=>∃ (x dx:Addr) (w:Str) (l:Int),vs=[.ref x,.str w,.int l]/\H x=some (.ins ca.aU dx [])/\∀ (fs:List (Str × V)) (H':Hp),H'=upd H x (.ins ca.aU dx fs)->bO fs w l->Q .non H'
noncomputable def wb (_:W.Frag) (ca:aO):Sp:=fun vs H Q _=>∃ (x dx:Addr) (w:Str),vs=[.ref x,.str w]/\H x=some (.ins ca.aU dx [])/\∀ (fs:List (Str × V)) (H':Hp),H'=upd H x (.ins ca.aU dx fs)->bO fs w 0->Q .non H'
noncomputable def rW (_:W.Frag) (ca:aO):Sp:=fun vs H Q _=>∃ x dx,vs=[.ref x]/\H x=some (.ins ca.aU dx [])/\∀ (fs:List (Str × V)) (H':Hp),H'=upd H x (.ins ca.aU dx fs)->bO fs "rooms" 0->Q .non H'
noncomputable def sV (_:W.Frag) (ca:aO):Sp:=fun vs H Q _=>∃ (x dx:Addr) (w:Str) (l:Int),vs=[.ref x,.str w,.int l]/\H x=some (.ins ca.aP dx [])/\∀ (fs:List (Str × V)) (H':Hp),H'=upd H x (.ins ca.aP dx fs)->bO fs w l->Q .non H'
noncomputable def u0 (_:W.Frag) (ca:aO):Sp:=fun vs H Q _=>∃ (x dx:Addr) (w:Str),vs=[.ref x,.str w]/\H x=some (.ins ca.aP dx [])/\∀ (fs:List (Str × V)) (H':Hp),H'=upd H x (.ins ca.aP dx fs)->bO fs w 0->Q .non H'
noncomputable def sP (_:W.Frag) (ca:aO):Sp:=fun vs H Q _=>∃ x dx,vs=[.ref x]/\H x=some (.ins ca.aP dx [])/\∀ (fs:List (Str × V)) (H':Hp),H'=upd H x (.ins ca.aP dx fs)->bO fs "floor" 0->Q .non H'
noncomputable def tI (_:W.Frag) (ca:aO):Sp:=fun vs H Q _=>∃ (x dx:Addr) (w:Str) (l:Int),vs=[.ref x,.str w,.int l]/\H x=some (.ins ca.bc dx [])/\∀ (fs:List (Str × V)) (H':Hp),H'=upd H x (.ins ca.bc dx fs)->bO fs w l->Q .non H'
noncomputable def wg (_:W.Frag) (ca:aO):Sp:=fun vs H Q _=>∃ (x dx:Addr) (w:Str),vs=[.ref x,.str w]/\H x=some (.ins ca.bc dx [])/\∀ (fs:List (Str × V)) (H':Hp),H'=upd H x (.ins ca.bc dx fs)->bO fs w 0->Q .non H'
noncomputable def si (_:W.Frag) (ca:aO):Sp:=fun vs H Q _=>∃ x dx,vs=[.ref x]/\H x=some (.ins ca.bc dx [])/\∀ (fs:List (Str × V)) (H':Hp),H'=upd H x (.ins ca.bc dx fs)->bO fs "turns" 0->Q .non H'
noncomputable def ke (ca:aO):List (Str × Addr × Int):=[("brackets",ca.aF,0),("stairs",ca.aK,0),("twins",ca.aR,0),("bows",ca.bu,0),("rooms",ca.aU,0),("floor",ca.aP,0),("turns",ca.bc,0)]
noncomputable def oG (K:W.Frag) (ca:aO):Sp:=fun vs H Q _=>vs=[]/\∀ (p:Addr) (xs:List V) (H':Hp),ai H H'->H p=none->H' p=some (.lst xs)->Paired (bM H') xs (ke ca)->Q (.ref p) H'
noncomputable def rl (K:W.Frag) (_:aO):Sp:=fun vs H Q _=>∃ (a b:Str),vs=[.str a,.str b]/\a.length<=100/\b.length<=100/\Q (.str (a++">"++b++":parts")) H
noncomputable def tL (K:W.Frag) (ca:aO):Sp:=fun vs H Q _=>∃ (x y:Addr),vs=[.ref x,.ref y]/\Gr ca H/\∀ f,Q (.ref f) H
theorem v9 (ca:aO):(ke ca).map (·.1)=j5:=rfl
theorem su {H:Hp} {pd:Addr} {kvs:List (Key × V)} {o:HO} {xs:List V} {fm:List (Str × Addr × Int)} (hd:H pd=some (.dK kvs)) (h:Paired (bM H) xs fm):Paired (bM (upd H pd o)) xs fm :=
 Paired.mapP h fun v f ⟨a,dx,fs,e,ha,fl⟩=>⟨a,dx,fs,e,(aE (fun z=>by rw [z,hd] at ha; cases ha)).trans ha,fl⟩
noncomputable def sx (K:W.Frag) (ca:aO):Sp:=fun vs H Q _=>vs=[]/\Gr ca H/\∀ (p:Addr) (kvs:List (Key × V)) (H':Hp),ai H H'->H p=none->H' p=some (.dK kvs)->gT kvs (fu 7)->Q (.ref p) H'
noncomputable def jh:List (Str × Str):=[("brackets>brackets:mirror","brackets_mirror"),("bows>bows:mirror","bows_mirror"),("twins>twins:mirror","twins_mirror"),("floor>floor:mirror","floor_mirror"),("turns>turns:mirror","turns_mirror"),("bows>bows:turn","bows_turn"),("bows>bows:turnback","bows_turnback"),("floor>floor:turn","floor_turn"),("floor>floor:turnback","floor_turnback"),("rooms>bows:feet","rooms_to_feet"),("bows>rooms:feet","feet_to_rooms"),("rooms>rooms:gaps","gaps"),("rooms>rooms:gapsback","gapsback")]
noncomputable def gB (ca:aO):List (Str × Addr):=[("brackets>brackets:mirror",ca.dM),("bows>bows:mirror",ca.gj),("twins>twins:mirror",ca.fT),("floor>floor:mirror",ca.fB),("turns>turns:mirror",ca.fO),("bows>bows:turn",ca.gY),("bows>bows:turnback",ca.eR),("floor>floor:turn",ca.gC),("floor>floor:turnback",ca.eF),("rooms>bows:feet",ca.eU),("bows>rooms:feet",ca.fg),("rooms>rooms:gaps",ca.kH),("rooms>rooms:gapsback",ca.ia)]
theorem kJ (ca:aO):(gB ca).map (·.1)=jc:=rfl
theorem ku (ca:aO):((gB ca).map (·.1)).Nodup:=by
 rw [kJ]
 decide +kernel
noncomputable def tK (K:W.Frag) (ca:aO):Sp:=fun vs H Q _=>vs=[]/\∀ (p:Addr) (kvs:List (Key × V)) (H':Hp),ai H H'->H p=none->H' p=some (.dK kvs)->gT kvs jc->Q (.ref p) H'
noncomputable def sZ (K:W.Frag) (ca:aO):Sp:=fun vs H Q _=>vs=[]/\Gr ca H/\∀ (p:Addr) (kvs:List (Key × V)) (H':Hp),ai H H'->H p=none->H' p=some (.dK kvs)->gT kvs ((iR++fu 7)++jc)->Q (.ref p) H'
noncomputable def ou (K:W.Frag) (ca:aO) (er:iB):Sp:=fun vs H Q E=>∃ x:Str,vs=[.str x]/\Gr ca H/\((x∈names/\∀ f H',ai H H'->Q (.ref f) H')\/(x∉names/\∀ H',ai H H'->E (.ref er.way) none H'))
noncomputable def jA (K:W.Frag) (ca:aO) (er:iB):Sp:=fun vs H Q E=>∃ x:Str,vs=[.str x]/\Gr ca H/\((∃ r∈fS,r.1=x/\∀ (p:Addr) (H':Hp),ai H H'->H p=none->H' p=some (.tup [.str r.2.1,.str r.2.2.1])->Q (.ref p) H')\/(x∉names/\∀ H',ai H H'->E (.ref er.way) none H'))
noncomputable def nY (K:W.Frag) (_:aO):Sp:=fun vs H Q _=>∃ x:Str,vs=[.str x]/\x.length<=1000/\∀ H',ai H H'->Q (.str (jx x)) H'
noncomputable def nZ (K:W.Frag) (ca:aO) (er:iB):Sp:=fun vs H Q E=>∃ x:Str,vs=[.str x]/\Gr ca H/\((∃ r∈fS,r.1=x/\∀ H',ai H H'->Q (.str r.2.2.2) H')\/(x∉names/\∀ H',ai H H'->E (.ref er.way) none H'))
theorem ft.strs {K:W.Frag} {H:Hp} {n:Nat} {p u:Addr} {a b c d:Str} (ne:p≠u) (hp:H p=some (.tup [.str a,.str b])) (hu:H u=some (.tup [.str c,.str d])):ft K H (n+1) (.ref p) (.ref u) (decide (a=c)&&decide (b=d)):=by
 have h:=ft.tup (K:=K) (n:=n) (e:=fun j=>if j=0 then gQ (.str a) (.str c) else gQ (.str b) (.str d)) ne (fZ.of hp) (fZ.of hu) fun j x y e1 e2=>by
  match j,e1,e2 with
  | 0,e1,e2=>cases e1; cases e2; exact ft.flat rfl rfl
  | 1,e1,e2=>cases e1; cases e2; exact ft.flat rfl rfl
  | j+2,e1,_=>cases e1
 have es:∀ x y:Str,gQ (.str x) (.str y)=decide (x=y):=fun x y=>by
  by_cases z:x=y
  ·subst z; simp [gQ]
  ·rw [decide_eq_false z]; simp [gQ]; exact z
 have e:((List.range (min [V.str a,V.str b].length [V.str c,V.str d].length)).all (fun j=>if j=0 then gQ (.str a) (.str c) else gQ (.str b) (.str d))&&[V.str a,V.str b].length == [V.str c,V.str d].length)=(decide (a=c)&&decide (b=d)):=by
  show ((gQ (.str a) (.str c)&&(gQ (.str b) (.str d)&&true))&&true)=_
  rw [es,es,Bool.and_true,Bool.and_true]
 rw [e] at h
 exact h
noncomputable def tM (K:W.Frag) (_:aO):Sp:=fun vs H Q _=>∃ (p:Addr) (a b m:Str),vs=[.ref p,.str m]/\H p=some (.tup [.str a,.str b])/\∀ H',ai H H'->Q (.bl (yA a b m)) H'
noncomputable def sA (_:W.Frag) (ca:aO):Sp:=fun vs H Q _=>∃ (x dx:Addr) (w:Str) (l:Int),vs=[.ref x,.str w,.int l]/\H x=some (.ins ca.aS dx [])/\∀ (fs:List (Str × V)) (H':Hp),H'=upd H x (.ins ca.aS dx fs)->bO fs w l->Q .non H'
noncomputable def uU (_:W.Frag) (ca:aO):Sp:=fun vs H Q _=>∃ (x dx:Addr) (w:Str),vs=[.ref x,.str w]/\H x=some (.ins ca.aS dx [])/\∀ (fs:List (Str × V)) (H':Hp),H'=upd H x (.ins ca.aS dx fs)->bO fs w 1->Q .non H'
noncomputable def sT (_:W.Frag) (ca:aO):Sp:=fun vs H Q _=>∃ x dx,vs=[.ref x]/\H x=some (.ins ca.aS dx [])/\∀ (fs:List (Str × V)) (H':Hp),H'=upd H x (.ins ca.aS dx fs)->bO fs "codes" 1->Q .non H'
noncomputable def sX (_:W.Frag) (ca:aO):Sp:=fun vs H Q _=>∃ (x dx:Addr) (w:Str) (l:Int),vs=[.ref x,.str w,.int l]/\H x=some (.ins ca.aX dx [])/\∀ (fs:List (Str × V)) (H':Hp),H'=upd H x (.ins ca.aX dx fs)->bO fs w l->Q .non H'
noncomputable def uL (_:W.Frag) (ca:aO):Sp:=fun vs H Q _=>∃ (x dx:Addr) (w:Str),vs=[.ref x,.str w]/\H x=some (.ins ca.aX dx [])/\∀ (fs:List (Str × V)) (H':Hp),H'=upd H x (.ins ca.aX dx fs)->bO fs w 1->Q .non H'
noncomputable def tu (_:W.Frag) (ca:aO):Sp:=fun vs H Q _=>∃ x dx,vs=[.ref x]/\H x=some (.ins ca.aX dx [])/\∀ (fs:List (Str × V)) (H':Hp),H'=upd H x (.ins ca.aX dx fs)->bO fs "trees" 1->Q .non H'
noncomputable def sO (_:W.Frag) (ca:aO):Sp:=fun vs H Q _=>∃ (x dx:Addr) (w:Str) (l:Int),vs=[.ref x,.str w,.int l]/\H x=some (.ins ca.bB dx [])/\∀ (fs:List (Str × V)) (H':Hp),H'=upd H x (.ins ca.bB dx fs)->bO fs w l->Q .non H'
noncomputable def vL (_:W.Frag) (ca:aO):Sp:=fun vs H Q _=>∃ (x dx:Addr) (w:Str),vs=[.ref x,.str w]/\H x=some (.ins ca.bB dx [])/\∀ (fs:List (Str × V)) (H':Hp),H'=upd H x (.ins ca.bB dx fs)->bO fs w 1->Q .non H'
noncomputable def sd (_:W.Frag) (ca:aO):Sp:=fun vs H Q _=>∃ x dx,vs=[.ref x]/\H x=some (.ins ca.bB dx [])/\∀ (fs:List (Str × V)) (H':Hp),H'=upd H x (.ins ca.bB dx fs)->bO fs "cars" 1->Q .non H'
noncomputable def A8 (ca:aO):List (Str × Addr × Int):=[("codes",ca.aS,1),("trees",ca.aX,1),("cars",ca.bB,1)]
noncomputable def sH (K:W.Frag) (ca:aO):Sp:=fun vs H Q _=>vs=[]/\∀ (p:Addr) (xs:List V) (H':Hp),ai H H'->H p=none->H' p=some (.lst xs)->Paired (bM H') xs (A8 ca)->Q (.ref p) H'
noncomputable def ju (ca:aO):List (Str × Addr × Int):=ke ca++A8 ca
theorem vn (ca:aO):((ju ca).map (·.1)).Nodup:=by
 show [("brackets" : Str),("stairs" : Str),("twins" : Str),("bows" : Str),("rooms" : Str),("floor" : Str),("turns" : Str),("codes" : Str),("trees" : Str),("cars" : Str)].Nodup
 decide +kernel
theorem yd {ca:aO} {f g:Str × Addr × Int} (hf:f∈ju ca) (hg:g∈ju ca) (e:f.1=g.1):f=g:=by
 have key:∀ {l:List (Str × Addr × Int)},(l.map (·.1)).Nodup->f∈l->g∈l->f=g:=by
  intro l
  induction l with
  | nil=>intro _ h; cases h
  | cons a l ih =>
   intro nd h1 h2
   rw [List.map_cons,List.nodup_cons] at nd
   rcases List.mem_cons.mp h1 with h3 | h3
   ·rcases List.mem_cons.mp h2 with h4 | h4
    ·rw [h3,h4]
    ·exact absurd (List.mem_map.mpr ⟨g,h4,by rw [<- e,h3]⟩) nd.1
   ·rcases List.mem_cons.mp h2 with h4 | h4
    ·exact absurd (List.mem_map.mpr ⟨f,h3,by rw [e,h4]⟩) nd.1
    ·exact ih nd.2 h3 h4
 exact key (vn ca) hf hg
noncomputable def sC (K:W.Frag) (ca:aO):Sp:=fun vs H Q _=>∃ (f:Str × Addr × Int),vs=[.str f.1]/\f∈ju ca/\∀ (x dx:Addr) (fs:List (Str × V)) (H':Hp),ai H H'->H' x=some (.ins f.2.1 dx fs)->bO fs f.1 f.2.2->Q (.ref x) H'
noncomputable def iS (ca:aO):List (Str × List (Str × Addr)):=[("brackets",[("peaks",ca.ee),("returns",ca.dq),("height",ca.dI)]),("stairs",[("peaks",ca.fz),("returns",ca.ed),("height",ca.fe)]),("twins",[("peaks",ca.gg),("returns",ca.eX),("height",ca.fF)]),("bows",[("peaks",ca.gF),("returns",ca.fV),("height",ca.gf)]),("rooms",[("peaks",ca.gu),("returns",ca.fb)]),("floor",[("peaks",ca.gk),("returns",ca.eY)]),("turns",[("peaks",ca.gn),("returns",ca.eW),("height",ca.fR)]),("codes",[("leaves",ca.fP),("rootage",ca.fc)]),("trees",[("leaves",ca.fA),("rootage",ca.eS)]),("cars",[("leaves",ca.gq),("rootage",ca.fY)])]
noncomputable def qH:List (Str × List Str):=[("brackets",["peaks","returns","height"]),("stairs",["peaks","returns","height"]),("twins",["peaks","returns","height"]),("bows",["peaks","returns","height"]),("rooms",["peaks","returns"]),("floor",["peaks","returns"]),("turns",["peaks","returns","height"]),("codes",["leaves","rootage"]),("trees",["leaves","rootage"]),("cars",["leaves","rootage"])]
noncomputable def yz:List (Str × List (Str × Str)):=[("brackets",[("peaks","brackets_peaks"),("returns","brackets_returns"),("height","brackets_height")]),("stairs",[("peaks","stairs_peaks"),("returns","stairs_returns"),("height","stairs_height")]),("twins",[("peaks","twins_peaks"),("returns","twins_returns"),("height","twins_height")]),("bows",[("peaks","bows_peaks"),("returns","bows_returns"),("height","bows_height")]),("rooms",[("peaks","rooms_peaks"),("returns","rooms_returns")]),("floor",[("peaks","floor_peaks"),("returns","floor_returns")]),("turns",[("peaks","turns_peaks"),("returns","turns_returns"),("height","turns_height")]),("codes",[("leaves","codes_leaves"),("rootage","codes_rootage")]),("trees",[("leaves","trees_leaves"),("rootage","trees_rootage")]),("cars",[("leaves","cars_leaves"),("rootage","cars_rootage")])]
theorem jn (ca:aO):(iS ca).map (fun r=>(r.1,r.2.map (·.1)))=qH:=rfl
theorem tE:(∀ r∈qH,r.2.Nodup/\r.2.length<=15)/\(qH.map (·.1)).Nodup:=by decide +kernel
theorem rQ (ca:aO):(∀ r∈iS ca,(r.2.map (·.1)).Nodup/\r.2.length<=15)/\((iS ca).map (·.1)).Nodup:=by
 refine ⟨fun r hr=>?_,?_⟩
 ·have:=tE.1 (r.1,r.2.map (·.1)) (by rw [<- jn ca]; exact List.mem_map.mpr ⟨r,hr,rfl⟩)
  rw [List.length_map] at this
  exact this
 ·have:=tE.2
  rw [<- jn ca,List.map_map] at this
  exact this
noncomputable def sj (K:W.Frag) (ca:aO):Sp:=fun vs H Q _=>vs=[]/\∀ (p:Addr) (H':Hp),ai H H'->H p=none->u9 H' p (iS ca)->Q (.ref p) H'
noncomputable def sr (K:W.Frag) (ca:aO):Sp:=fun vs H Q _=>∃ (f:Str × Addr × Int) (items:List (Str × Addr)),vs=[.str f.1]/\f∈ju ca/\(iS ca).lookup f.1=some items/\∀ (p:Addr) (H':Hp),ai H H'->H p=none->H' p=some (.lst ((items.map (·.1)).map V.str))->Q (.ref p) H'
theorem rU (ca:aO) {w:Str} (h:w∈wV):∃ (f:Str × Addr × Int) (items:List (Str × Addr)),f∈ju ca/\f.1=w/\(iS ca).lookup w=some items/\items.map (·.1)=bI w:=by
 have key:(wV.all fun w=>decide ((qH.lookup w)=some (bI w)))=true:=by decide +kernel
 have k:=of_decide_eq_true (List.all_eq_true.mp key w h)
 have look:∀ l:List (Str × List (Str × Addr)),(l.map fun r=>(r.1,r.2.map (·.1))).lookup w=(l.lookup w).map fun i=>i.map (·.1):=by
  intro l
  induction l with
  | nil=>rfl
  | cons r l ih =>
   rw [List.map_cons,List.lookup_cons,List.lookup_cons]
   cases w == r.1 with
   | true=>rfl
   | false=>exact ih
 rw [<- jn ca,look] at k
 have ew:(ju ca).map (·.1)=wV:=rfl
 rw [<- ew] at h
 obtain ⟨f,hf,e⟩:=List.mem_map.mp h
 cases hl:(iS ca).lookup w with
 | none=>rw [hl] at k; cases k
 | some items =>
  rw [hl] at k
  exact ⟨f,items,hf,e,rfl,Option.some.inj k⟩
noncomputable def nW (K:W.Frag) (ca:aO) (er:iB):Sp:=fun vs H Q E=>∃ x:Str,vs=[.str x]/\Gr ca H/\((∃ r∈fS,r.1=x/\∀ (p:Addr) (H':Hp),ai H H'->H p=none->H' p=some (.lst ((yt r).map V.str))->Q (.ref p) H')\/(x∉names/\∀ H',ai H H'->E (.ref er.way) none H'))
noncomputable def rD (K:W.Frag) (ca:aO) (er:iB):Sp:=fun vs H Q E=>∃ (k:Int) (x:Str),vs=[.int k,.str x]/\Gr ca H/\x∉names/\∀ H',ai H H'->E (.ref er.way) none H'
noncomputable def rp (K:W.Frag) (_:aO) (er:iB):Sp:=fun vs H Q _=>∃ e:Addr,vs=[.ref e]/\H e=some (ky e (.ref er.way))/\Q (.bl true) H
noncomputable def se (K:W.Frag) (ca:aO) (er:iB):Sp:=fun vs H Q _=>∃ (k:Int) (x:Str),vs=[.int k,.str x]/\Gr ca H/\x∉names/\∀ H',ai H H'->Q (.bl true) H'
noncomputable def rF (K:W.Frag) (_:aO):Sp:=fun vs H Q _=>∃ (p r:Addr) (ns:List Str),vs=[.ref p,.ref r]/\H p=some (.lst (ns.map V.str))/\H r=some (.lst (ns.map V.str))/\ns.length<=1000/\Q (.bl true) H
noncomputable def rh (K:W.Frag) (_:aO):Sp:=fun vs H Q _=>∃ w:Str,vs=[.str w]/\∀ (p:Addr) (H':Hp),ai H H'->H p=none->H' p=some (.lst ((bI w).map V.str))->Q (.ref p) H'
noncomputable def rH (K:W.Frag) (_:aO):Sp:=fun vs H Q _=>∃ (p:Addr) (r:Way),vs=[.ref p]/\H p=some (.tup (pK r))/\∀ (u:Addr) (H':Hp),ai H H'->H u=none->H' u=some (.lst ((jY r).map V.str))->Q (.ref u) H'
noncomputable def tm (K:W.Frag) (ca:aO) (er:iB):Sp:=fun vs H Q _=>∃ (p:Addr) (r:Way),vs=[.ref p]/\H p=some (.tup (pK r))/\r∈fS/\Gr ca H/\∀ H',ai H H'->Q (.bl true) H'
theorem uh {H:Hp} {xs:List V} {rs:List Way} (h:Paired (gz H) xs rs) {i:Nat} {x:V} (hx:xs[i]? = some x):∃ f,rs[i]? = some f/\gz H x f:=by
 induction h generalizing i with
 | nil=>cases hx
 | @cons y f ys fs h _ ih =>
  cases i with
  | zero=>simp only [List.getElem?_cons_zero,Option.some.injEq] at hx; subst hx; exact ⟨f,rfl,h⟩
  | succ i=>rw [List.getElem?_cons_succ] at hx; obtain ⟨g,g1,g2⟩:=ih hx; exact ⟨g,by rw [List.getElem?_cons_succ]; exact g1,g2⟩
theorem neT {b:Bool} {A B:Prop} (h:b=false) (x:A):if (if true=true then !b else b)=true then A else B:=by subst h; exact x
theorem Dt {b:Bool} {A B:Prop} (h:b=true) (x:B):if (if true=true then !b else b)=true then A else B:=by subst h; exact x
theorem xc:(fS.all fun r=>decide (r.1.length<=100))=true:=by decide +kernel
noncomputable def Bf (K:W.Frag) (ca:aO) (er:iB):Sp:=fun vs H Q _=>∃ (a:Addr) (ns:List Int),vs=[.ref a]/\aI K H a (ns.map V.int)/\ns.length<=63/\Gr ca H/\∀ H',ai H H'->Q (.bl true) H'
section
variable {P:Program} {w:World} {K:W.Frag} {mg:Str->Option Value} {base:Heap} {er:iB} (EO:rT K mg er) {ca:aO} (CA:Bx K mg ca) {f:Addr} {fd:FuncData}
include EO CA
theorem AO (F:aW K "_law_there_and_back" "_law_there_and_back" mi f fd):aH P w K mg base bp 1 f fd ["_law_first","_law_last","_law_how","_law_back"] (tN K ca):=by
 refine F.ok tq (fun vs H Q E h=>?_) (fun cdv A outer s H vs Q E hr h=>?_)
 ·obtain ⟨f,l,h,b,rfl,lf,ll,lh,lb,q⟩:=h
  rfl
 obtain ⟨f,l,h,b,rfl,lf,ll,lh,lb,q⟩:=h
 refine ⟨_,ar (aJ (i:=4) tq.nd rfl (Or.inl rfl) (aA bC (aA bC (aA bC (pv 0) ao) (pv 1)) (pv 2)))
  (ar (aJ (i:=5) tq.nd rfl (Or.inl rfl) (aA bC (aA bC (aA bC (pv 1) ao) (pv 0)) (pv 3)))
  (au (aG (bY (af (jI (af (pv 4) (af (pv 0) (af (pv 1) (af (pv 5) aq))))) (af (jI (af (pv 5) (af (pv 1) (af (pv 0) (af (pv 4) aq))))) aq)))))),?_⟩
 have z:1000<=sizeLine:=by decide
 have l1:(Str.ofString ">").length=1:=by decide +kernel
 refine ⟨_,rfl,_,_,rfl,rfl,by rw [l1]; lia,_,rfl,_,_,rfl,rfl,by rw [len_app,l1]; lia,_,rfl,_,_,rfl,rfl,by rw [len_app,len_app,l1]; lia,?_⟩
 refine ⟨_,rfl,_,_,rfl,rfl,by rw [l1]; lia,_,rfl,_,_,rfl,rfl,by rw [len_app,l1]; lia,_,rfl,_,_,rfl,rfl,by rw [len_app,len_app,l1]; lia,?_⟩
 refine ⟨_,rfl,_,rfl,_,rfl,_,rfl,(by show 4<=sizeLine; decide),fun t1 ht1=>⟨_,rfl,_,rfl,_,rfl,_,rfl,(by show 4<=sizeLine; decide),fun t2 ht2=>⟨(by show 2<=sizeLine; decide),fun p hp=>?_⟩⟩⟩
 have k1:=ai.new (ai.refl H) ht1 (.tup (pK (f++">"++l++h,f,l,l++">"++f++b)))
 have k2:=ai.new (ai.refl _) ht2 (.tup (pK (l++">"++f++b,l,f,f++">"++l++h)))
 have k3:=ai.new (ai.refl _) hp (.lst [.ref t1,.ref t2])
 exact q p _ ((k1.trans k2).trans k3) ((k1.trans k2).free hp) ⟨_,ah,.cons ⟨t1,rfl,k3 _ _ (k2 _ _ ah)⟩ (.cons ⟨t2,rfl,k3 _ _ ah⟩ .nil)⟩
theorem zW (F:aW K "_law_ways" "_law_ways" lO f fd) {f0:Addr} {fd0:FuncData} (gM:Def P w K mg base "_law_there_and_back" ["_law_first","_law_last","_law_how","_law_back"] 1 (tN K ca) f0 fd0) (dE:mg "range" = none):aH P w K mg base bp 2 f fd [] (rO K ca):=by
 refine F.ok dN (fun vs H Q E h=>?_) (fun cdv A outer s H vs Q E hr h=>?_)
 ·obtain ⟨rfl,q⟩:=h
  rfl
 obtain ⟨rfl,q⟩:=h
 refine ⟨_,ar (aJ (i:=0) dN.nd rfl (Or.inl rfl) (bY aq))
  (ar (aJ (i:=1) dN.nd rfl (Or.inl rfl) (bY (af ao (af ao (af ao (af ao (af ao (af ao (af ao aq)))))))))
  (ar (gG PassesOwn.never rfl (gN (fj mF (pv 1) gx (gv aw))) (bD (i:=2) dN.nd rfl (Or.inl rfl)) (au (aJ (i:=0) dN.nd rfl (Or.inl rfl) (aA fC (pv 0) (bw gM hr (af ao (af (pv 2) (af ao (af ao aq)))))))))
  (ar (aJ (i:=0) dN.nd rfl (Or.inl rfl) (aA fC (pv 0) (bw gM hr (af ao (af ao (af ao (af ao aq)))))))
  (ar (aJ (i:=0) dN.nd rfl (Or.inl rfl) (aA fC (aA fC (pv 0) (bw gM hr (af ao (af ao (af ao (af ao aq)))))) (bw gM hr (af ao (af ao (af ao (af ao aq)))))))
  (ar (aJ (i:=0) dN.nd rfl (Or.inl rfl) (aA fC (pv 0) (bw gM hr (af ao (af ao (af ao (af ao aq)))))))
  (ar (gG PassesOwn.never rfl (hJ rfl dE (af aw aq)) (bD (i:=3) dN.nd rfl (Or.inl rfl)) (au (gG PassesOwn.never rfl (hJ rfl dE (af (pv 3) aq)) (bD (i:=4) dN.nd rfl (Or.inl rfl)) (au (aJ (i:=0) dN.nd rfl (Or.inl rfl) (aA fC (pv 0) (bw gM hr (af (bH bL (pv 1) (pv 3) (fun _ _=>rfl)) (af (bH bL (pv 1) (pv 4) (fun _ _=>rfl)) (af ao (af ao aq)))))))))))
  (ar (gG PassesOwn.never rfl (gN (bY (af ao (af ao (af ao (af ao (af ao aq))))))) (bD (i:=2) dN.nd rfl (Or.inl rfl)) (au (aJ (i:=0) dN.nd rfl (Or.inl rfl) (aA fC (pv 0) (fj mF (bw gM hr (af (pv 2) (af (pv 2) (af ao (af ao aq))))) gx (gv aw))))))
  (ar (aJ (i:=0) dN.nd rfl (Or.inl rfl) (aA fC (pv 0) (bw gM hr (af ao (af ao (af ao (af ao aq)))))))
  (ar (aJ (i:=0) dN.nd rfl (Or.inl rfl) (aA fC (pv 0) (bw gM hr (af ao (af ao (af ao (af ao aq)))))))
  (ar (aJ (i:=0) dN.nd rfl (Or.inl rfl) (aA fC (pv 0) (bw gM hr (af ao (af ao (af ao (af ao aq)))))))
  (au (aG (aA fC (pv 0) (bw gM hr (af ao (af ao (af ao (af ao aq)))))))))))))))))),?_⟩
 have z:1000<=sizeLine:=by decide
 have lw:∀ x∈w7++w5,x.length<=100:=by decide +kernel
 refine ⟨Nat.zero_le _,fun pf0 hpf0=>⟨(by show 7<=sizeLine; decide),fun pw hpw=>?_⟩⟩
 have k0:=ai.new (ai.refl H) hpf0 (.lst [])
 have k1:=ai.new (ai.refl _) hpw (.lst [V.str (Str.ofString "stairs"),V.str (Str.ofString "twins"),V.str (Str.ofString "bows"),V.str (Str.ofString "rooms"),V.str (Str.ofString "turns"),V.str (Str.ofString "brackets"),V.str (Str.ofString "floor")])
 have s0:=k0.trans k1
 have ef0:=k1 _ _ (ah (H:=H) (a:=pf0) (o:=.lst []))
 have hw0:upd (upd H pf0 (.lst [])) pw (.lst [V.str (Str.ofString "stairs"),V.str (Str.ofString "twins"),V.str (Str.ofString "bows"),V.str (Str.ofString "rooms"),V.str (Str.ofString "turns"),V.str (Str.ofString "brackets"),V.str (Str.ofString "floor")]) pw=some (.lst (w7.map V.str)):=ah
 generalize upd (upd H pf0 (.lst [])) pw (.lst [V.str (Str.ofString "stairs"),V.str (Str.ofString "twins"),V.str (Str.ofString "bows"),V.str (Str.ofString "rooms"),V.str (Str.ofString "turns"),V.str (Str.ofString "brackets"),V.str (Str.ofString "floor")])=H0 at k1 s0 ef0 hw0 |-
 refine ⟨_,rfl,_,rfl,pw,_,rfl,aI.of hw0,fun ps hps=>?_⟩
 have k2:=ai.new (ai.refl H0) hps (.lst (gR (w7.map V.str) none (some 5)))
 have hps1:upd H0 ps (.lst (gR (w7.map V.str) none (some 5))) ps=some (.lst ((w7.take 5).map V.str)):=by rw [ah]; rfl
 have ef1:=k2 _ _ ef0
 have hw1:=k2 _ _ hw0
 have s1:=s0.trans k2
 generalize upd H0 ps (.lst (gR (w7.map V.str) none (some 5)))=H1 at k2 hps1 ef1 hw1 s1 |-
 refine ⟨ps,rfl,⟨_,aI.of hps1⟩,iZ (xs:=(w7.take 5).map V.str) (fun i σ H'=>∃ (o:Option V) (pf:Addr) (xs:List V),σ=[some (.ref pf),some (.ref pw),o,none,none]/\ai H1 H'/\H' pf=some (.lst xs)/\Paired (gz H') xs (iY i)/\xs.length<=2*i) ⟨_,pf0,[],rfl,ai.refl H1,ef1,.nil,Nat.le_refl _⟩ (fun i σ H' _ h=>by obtain ⟨_,_,_,_,sm,_⟩:=h; exact aI.of (sm _ _ hps1)) ?_ ?_⟩
 ·rintro i v σ H2 hv ⟨o,pf,xs,rfl,s2,ex,wx,lx⟩
  obtain ⟨u,hu,rfl⟩:∃ u,(w7.take 5)[i]? = some u/\v=V.str u:=by
   rw [List.getElem?_map] at hv
   cases e:(w7.take 5)[i]? with
   | none=>rw [e] at hv; cases hv
   | some d=>rw [e] at hv; exact ⟨d,rfl,(Option.some.inj hv).symm⟩
  have i5:i < 5:=(List.getElem?_eq_some_iff.mp hu).1
  have hu7:w7[i]? = some u:=by rw [List.getElem?_take] at hu; rw [if_pos i5] at hu; exact hu
  have lu:u.length<=100:=lw u (List.mem_append_left _ (List.mem_of_getElem? hu7))
  refine ⟨_,rfl,_,rfl,(Str.ofString "brackets"),u,(Str.ofString ""),(Str.ofString ""),rfl,by first | decide +kernel | assumption,by first | decide +kernel | assumption,by first | decide +kernel | assumption,by first | decide +kernel | assumption,fun a1 G1 r1 _ ⟨y1,ey1,wy1⟩=>?_⟩
  have ly1:y1.length=2:=Paired.length wy1
  refine ⟨pf,a1,_,_,rfl,rfl,r1 _ _ ex,ey1,by lia,fun p1 hp1=>?_⟩
  have K1:=r1.trans (ai.new (ai.refl G1) hp1 (.lst (xs++y1)))
  have E1:upd G1 p1 (.lst (xs++y1)) p1=some (.lst (xs++y1)):=ah
  have W1:=aY (fH (aY wx r1) wy1) (ai.new (ai.refl G1) hp1 (.lst (xs++y1)))
  have L1:(xs++y1).length=xs.length+2:=by rw [List.length_append,ly1]
  generalize upd G1 p1 (.lst (xs++y1))=N1 at K1 E1 W1 |-
  generalize xs++y1=x1 at E1 W1 L1 |-
  refine ⟨_,p1,x1,rfl,s2.trans K1,E1,?_,by lia⟩
  have e:iY (i+1)=iY i++two "brackets" u "" "":=by
   unfold iY
   rw [List.take_add_one,hu7,List.flatMap_append]
   simp
  rw [e]
  exact W1
 rintro σ H2 ⟨o,pf,xs,rfl,s2,ex,wx,lx⟩
 have lx:xs.length<=10:=lx
 have wx:Paired (gz H2) xs (iY 5):=wx
 have hw2:=s2 _ _ hw1
 refine ⟨_,rfl,(Str.ofString "twins"),(Str.ofString "floor"),(Str.ofString ""),(Str.ofString ""),rfl,by first | decide +kernel | assumption,by first | decide +kernel | assumption,by first | decide +kernel | assumption,by first | decide +kernel | assumption,fun a2 G2 r2 _ ⟨y2,ey2,wy2⟩=>?_⟩
 have ly2:y2.length=2:=Paired.length wy2
 refine ⟨pf,a2,_,_,rfl,rfl,r2 _ _ ex,ey2,by lia,fun p2 hp2=>?_⟩
 have K2:=r2.trans (ai.new (ai.refl G2) hp2 (.lst (xs++y2)))
 have E2:upd G2 p2 (.lst (xs++y2)) p2=some (.lst (xs++y2)):=ah
 have W2:=aY (fH (aY wx r2) wy2) (ai.new (ai.refl G2) hp2 (.lst (xs++y2)))
 have L2:(xs++y2).length=xs.length+2:=by rw [List.length_append,ly2]
 have f2:=r2.free hp2
 generalize upd G2 p2 (.lst (xs++y2))=N2 at K2 E2 W2 |-
 generalize xs++y2=x2 at E2 W2 L2 |-
 refine ⟨_,rfl,(Str.ofString "trees"),(Str.ofString "codes"),(Str.ofString ""),(Str.ofString ""),rfl,by first | decide +kernel | assumption,by first | decide +kernel | assumption,by first | decide +kernel | assumption,by first | decide +kernel | assumption,fun a3 G3 r3 _ ⟨y3,ey3,wy3⟩=>?_⟩
 have ly3:y3.length=2:=Paired.length wy3
 refine ⟨p2,a3,_,_,rfl,rfl,r3 _ _ E2,ey3,by lia,fun p3 hp3=>?_⟩
 have K3:=r3.trans (ai.new (ai.refl G3) hp3 (.lst (x2++y3)))
 have E3:upd G3 p3 (.lst (x2++y3)) p3=some (.lst (x2++y3)):=ah
 have W3:=aY (fH (aY W2 r3) wy3) (ai.new (ai.refl G3) hp3 (.lst (x2++y3)))
 have L3:(x2++y3).length=x2.length+2:=by rw [List.length_append,ly3]
 have f3:=r3.free hp3
 generalize upd G3 p3 (.lst (x2++y3))=N3 at K3 E3 W3 |-
 generalize x2++y3=x3 at E3 W3 L3 |-
 refine ⟨(Str.ofString "trees"),(Str.ofString "cars"),(Str.ofString ""),(Str.ofString ""),rfl,by first | decide +kernel | assumption,by first | decide +kernel | assumption,by first | decide +kernel | assumption,by first | decide +kernel | assumption,fun a4 G4 r4 _ ⟨y4,ey4,wy4⟩=>?_⟩
 have ly4:y4.length=2:=Paired.length wy4
 refine ⟨p3,a4,_,_,rfl,rfl,r4 _ _ E3,ey4,by lia,fun p4 hp4=>?_⟩
 have K4:=r4.trans (ai.new (ai.refl G4) hp4 (.lst (x3++y4)))
 have E4:upd G4 p4 (.lst (x3++y4)) p4=some (.lst (x3++y4)):=ah
 have W4:=aY (fH (aY W3 r4) wy4) (ai.new (ai.refl G4) hp4 (.lst (x3++y4)))
 have L4:(x3++y4).length=x3.length+2:=by rw [List.length_append,ly4]
 have f4:=r4.free hp4
 generalize upd G4 p4 (.lst (x3++y4))=N4 at K4 E4 W4 |-
 generalize x3++y4=x4 at E4 W4 L4 |-
 refine ⟨_,rfl,(Str.ofString "cars"),(Str.ofString "codes"),(Str.ofString ""),(Str.ofString ""),rfl,by first | decide +kernel | assumption,by first | decide +kernel | assumption,by first | decide +kernel | assumption,by first | decide +kernel | assumption,fun a5 G5 r5 _ ⟨y5,ey5,wy5⟩=>?_⟩
 have ly5:y5.length=2:=Paired.length wy5
 refine ⟨p4,a5,_,_,rfl,rfl,r5 _ _ E4,ey5,by lia,fun p5 hp5=>?_⟩
 have K5:=r5.trans (ai.new (ai.refl G5) hp5 (.lst (x4++y5)))
 have E5:upd G5 p5 (.lst (x4++y5)) p5=some (.lst (x4++y5)):=ah
 have W5:=aY (fH (aY W4 r5) wy5) (ai.new (ai.refl G5) hp5 (.lst (x4++y5)))
 have L5:(x4++y5).length=x4.length+2:=by rw [List.length_append,ly5]
 have f5:=r5.free hp5
 generalize upd G5 p5 (.lst (x4++y5))=N5 at K5 E5 W5 |-
 generalize x4++y5=x5 at E5 W5 L5 |-
 have T5:ai H N5:=s1.trans (s2.trans (K2.trans (K3.trans (K4.trans K5))))
 have hw5:N5 pw=some (.lst (w7.map V.str)):=K5 _ _ (K4 _ _ (K3 _ _ (K2 _ _ hw2)))
 have at7:∀ k:Nat,k < 7->(w7.map V.str)[k]? = some (.str (w7.getD k ""))/\w7[k]? = some (w7.getD k "")/\(w7.getD k "").length<=100:=fun k hk=>by
  have e:w7[k]? = some (w7.getD k ""):=by
   rw [List.getD_eq_getElem?_getD,List.getElem?_eq_getElem (show k < w7.length from hk)]
   rfl
  exact ⟨by rw [List.getElem?_map,e]; rfl,e,lw _ (List.mem_append_left _ (List.mem_of_getElem? e))⟩
 have W5:Paired (gz N5) x5 (iY 5++two "twins" "floor" "" ""++two "trees" "codes" "" ""++two "trees" "cars" "" ""++two "cars" "codes" "" ""):=W5
 refine ⟨_,rfl,by decide,by decide,hU (lo:=0) (n:=7) (fun k σ H'=>∃ (o1 o2:Option V) (pf:Addr) (xs:List V),σ=[some (.ref pf),some (.ref pw),o,o1,o2]/\ai N5 H'/\H' pf=some (.lst xs)/\Paired (gz H') xs (iY 5++two "twins" "floor" "" ""++two "trees" "codes" "" ""++two "trees" "cars" "" ""++two "cars" "codes" "" ""++jK k)/\xs.length<=30+14*k) ⟨_,_,p5,x5,rfl,ai.refl N5,E5,by rw [show jK 0=[] from rfl,List.append_nil]; exact W5,by lia⟩ ?_ ?_⟩
 ·rintro k σ H6 hk ⟨o1,o2,pf6,xs6,rfl,s6,e6,w6,l6⟩
  obtain ⟨ak,bk,ck⟩:=at7 k hk
  refine ⟨_,rfl,_,rfl,by lia,by lia,hU (lo:=0) (n:=((0:Int)+(k:Int)).toNat) (fun j σ H'=>∃ (o2:Option V) (pf:Addr) (xs:List V),σ=[some (.ref pf),some (.ref pw),o,some (.int ((0:Int)+(k:Int))),o2]/\ai N5 H'/\H' pf=some (.lst xs)/\Paired (gz H') xs (iY 5++two "twins" "floor" "" ""++two "trees" "codes" "" ""++two "trees" "cars" "" ""++two "cars" "codes" "" ""++jK k++so k j)/\xs.length<=30+14*k+2*j) ⟨_,pf6,xs6,rfl,s6,e6,by rw [show so k 0=[] from rfl,List.append_nil]; exact w6,by lia⟩ ?_ ?_⟩
  ·rintro j σ H7 hj ⟨o2,pf7,xs7,rfl,s7,e7,w7',l7⟩
   have hj7:j < 7:=by lia
   obtain ⟨aj,bj,cj⟩:=at7 j hj7
   have hw7:=s7 _ _ hw5
   have at0:iy (w7.map V.str) ((0:Int)+(k:Int))=some (.str (w7.getD k "")):=by rw [Int.zero_add]; exact hW ak
   have at1:iy (w7.map V.str) ((0:Int)+(j:Int))=some (.str (w7.getD j "")):=by rw [Int.zero_add]; exact hW aj
   refine ⟨_,rfl,_,rfl,_,rfl,pw,_,_,_,rfl,rfl,aI.of hw7,at0,_,rfl,_,rfl,pw,_,_,_,rfl,rfl,aI.of hw7,at1,w7.getD k "",w7.getD j "",(Str.ofString ":parts"),(Str.ofString ":parts"),rfl,by first | decide +kernel | assumption,by first | decide +kernel | assumption,by first | decide +kernel | assumption,by first | decide +kernel | assumption,fun a8 G8 r8 _ ⟨y8,ey8,wy8⟩=>?_⟩
   have ly8:y8.length=2:=Paired.length wy8
   refine ⟨pf7,a8,_,_,rfl,rfl,r8 _ _ e7,ey8,by lia,fun p8 hp8=>?_⟩
   have K8:=r8.trans (ai.new (ai.refl G8) hp8 (.lst (xs7++y8)))
   have E8:upd G8 p8 (.lst (xs7++y8)) p8=some (.lst (xs7++y8)):=ah
   have W8:=aY (fH (aY w7' r8) wy8) (ai.new (ai.refl G8) hp8 (.lst (xs7++y8)))
   have L8:(xs7++y8).length=xs7.length+2:=by rw [List.length_append,ly8]
   have f8:=r8.free hp8
   generalize upd G8 p8 (.lst (xs7++y8))=N8 at K8 E8 W8 |-
   generalize xs7++y8=x8 at E8 W8 L8 |-
   refine ⟨_,p8,x8,rfl,s7.trans K8,E8,?_,by lia⟩
   have e:so k (j+1)=so k j++two (w7.getD k "") (w7.getD j "") ":parts" ":parts":=by
    unfold so
    rw [List.take_add_one,bj,List.flatMap_append]
    simp
   rw [e,<- List.append_assoc]
   exact W8
  ·rintro σ H7 ⟨o2,pf7,xs7,rfl,s7,e7,w7',l7⟩
   rw [show ((0:Int)+(k:Int)).toNat=k by lia] at w7' l7
   refine ⟨_,_,pf7,xs7,rfl,s7,e7,?_,by lia⟩
   have e:jK (k+1)=jK k++so k k:=by
    unfold jK
    rw [List.range_succ,List.flatMap_append]
    simp
   rw [e,<- List.append_assoc]
   exact w7'
 rintro σ H6 ⟨o1,o2,pf6,xs6,rfl,s6,e6,w6,l6⟩
 have l6:xs6.length<=128:=l6
 refine ⟨(by show 5<=sizeLine; decide),fun pl hpl=>?_⟩
 have k6:=ai.new (ai.refl H6) hpl (.lst [V.str (Str.ofString "brackets"),V.str (Str.ofString "bows"),V.str (Str.ofString "twins"),V.str (Str.ofString "floor"),V.str (Str.ofString "turns")])
 have hl6:upd H6 pl (.lst [V.str (Str.ofString "brackets"),V.str (Str.ofString "bows"),V.str (Str.ofString "twins"),V.str (Str.ofString "floor"),V.str (Str.ofString "turns")]) pl=some (.lst (w5.map V.str)):=ah
 generalize upd H6 pl (.lst [V.str (Str.ofString "brackets"),V.str (Str.ofString "bows"),V.str (Str.ofString "twins"),V.str (Str.ofString "floor"),V.str (Str.ofString "turns")])=H7 at k6 hl6 |-
 refine ⟨pl,rfl,⟨_,aI.of hl6⟩,iZ (xs:=w5.map V.str) (fun i σ H'=>∃ (o':Option V) (pf:Addr) (xs:List V),σ=[some (.ref pf),some (.ref pw),o',o1,o2]/\ai H7 H'/\H' pf=some (.lst xs)/\Paired (gz H') xs (iY 5++two "twins" "floor" "" ""++two "trees" "codes" "" ""++two "trees" "cars" "" ""++two "cars" "codes" "" ""++jK 7++rY i)/\xs.length<=128+i) ⟨_,pf6,xs6,rfl,ai.refl H7,k6 _ _ e6,by rw [show rY 0=[] from rfl,List.append_nil]; exact aY w6 k6,by lia⟩ (fun i σ H' _ h=>by obtain ⟨_,_,_,_,sm,_⟩:=h; exact aI.of (sm _ _ hl6)) ?_ ?_⟩
 ·rintro i v σ H8 hv ⟨o',pf8,xs8,rfl,s8,e8,w8,l8⟩
  obtain ⟨u,hu,rfl⟩:∃ u,w5[i]? = some u/\v=V.str u:=by
   rw [List.getElem?_map] at hv
   cases e:w5[i]? with
   | none=>rw [e] at hv; cases hv
   | some d=>rw [e] at hv; exact ⟨d,rfl,(Option.some.inj hv).symm⟩
  have i5:i < 5:=(List.getElem?_eq_some_iff.mp hu).1
  have lu:u.length<=100:=lw u (List.mem_append_right _ (List.mem_of_getElem? hu))
  refine ⟨_,rfl,_,rfl,_,rfl,u,u,(Str.ofString ":mirror"),(Str.ofString ":mirror"),rfl,lu,lu,by decide +kernel,by decide +kernel,fun a9 G9 r9 _ ⟨y9,ey9,wy9⟩=>⟨_,rfl,a9,_,rfl,aI.of ey9,fun ps9 hps9=>?_⟩⟩
  obtain ⟨v1,v2,rfl,wv⟩:∃ v1 v2,y9=[v1,v2]/\gz G9 v1 (u++">"++u++":mirror",u,u,u++">"++u++":mirror"):=by
   cases wy9 with
   | cons h1 t1=>cases t1 with
    | cons h2 t2=>cases t2; exact ⟨_,_,rfl,h1⟩
  have k9:=ai.new (ai.refl G9) hps9 (.lst (gR [v1,v2] none (some 1)))
  have hs9:upd G9 ps9 (.lst (gR [v1,v2] none (some 1))) ps9=some (.lst [v1]):=by rw [ah]; rfl
  generalize upd G9 ps9 (.lst (gR [v1,v2] none (some 1)))=M9 at k9 hs9 |-
  refine ⟨pf8,ps9,_,_,rfl,rfl,k9 _ _ (r9 _ _ e8),hs9,by show xs8.length+1<=sizeLine; lia,fun p9 hp9=>?_⟩
  have t9:=ai.new (r9.trans k9) hp9 (.lst (xs8++[v1]))
  refine ⟨_,p9,xs8++[v1],rfl,s8.trans t9,ah,?_,by rw [List.length_append]; show xs8.length+1<=_; lia⟩
  have e:rY (i+1)=rY i++(two u u ":mirror" ":mirror").take 1:=by
   unfold rY
   rw [List.take_add_one,hu,List.flatMap_append]
   simp
  rw [e,<- List.append_assoc]
  have wv1:Paired (gz M9) [v1] ((two u u ":mirror" ":mirror").take 1):=.cons (let ⟨a,e1,e2⟩:=wv; ⟨a,e1,k9 _ _ e2⟩) .nil
  exact aY (fH (aY w8 (r9.trans k9)) wv1) (ai.new (ai.refl M9) hp9 _)
 rintro σ H8 ⟨o',pf8,xs8,rfl,s8,e8,w8,l8⟩
 have l8:xs8.length<=133:=l8
 have w8:Paired (gz H8) xs8 (iY 5++two "twins" "floor" "" ""++two "trees" "codes" "" ""++two "trees" "cars" "" ""++two "cars" "codes" "" ""++jK 7++rY 5):=w8
 refine ⟨_,rfl,(Str.ofString "bows"),(Str.ofString "bows"),(Str.ofString ":turn"),(Str.ofString ":turnback"),rfl,by first | decide +kernel | assumption,by first | decide +kernel | assumption,by first | decide +kernel | assumption,by first | decide +kernel | assumption,fun a10 G10 r10 _ ⟨y10,ey10,wy10⟩=>?_⟩
 have ly10:y10.length=2:=Paired.length wy10
 refine ⟨pf8,a10,_,_,rfl,rfl,r10 _ _ e8,ey10,by lia,fun p10 hp10=>?_⟩
 have K10:=r10.trans (ai.new (ai.refl G10) hp10 (.lst (xs8++y10)))
 have E10:upd G10 p10 (.lst (xs8++y10)) p10=some (.lst (xs8++y10)):=ah
 have W10:=aY (fH (aY w8 r10) wy10) (ai.new (ai.refl G10) hp10 (.lst (xs8++y10)))
 have L10:(xs8++y10).length=xs8.length+2:=by rw [List.length_append,ly10]
 have f10:=r10.free hp10
 generalize upd G10 p10 (.lst (xs8++y10))=N10 at K10 E10 W10 |-
 generalize xs8++y10=x10 at E10 W10 L10 |-
 refine ⟨_,rfl,(Str.ofString "floor"),(Str.ofString "floor"),(Str.ofString ":turn"),(Str.ofString ":turnback"),rfl,by first | decide +kernel | assumption,by first | decide +kernel | assumption,by first | decide +kernel | assumption,by first | decide +kernel | assumption,fun a11 G11 r11 _ ⟨y11,ey11,wy11⟩=>?_⟩
 have ly11:y11.length=2:=Paired.length wy11
 refine ⟨p10,a11,_,_,rfl,rfl,r11 _ _ E10,ey11,by lia,fun p11 hp11=>?_⟩
 have K11:=r11.trans (ai.new (ai.refl G11) hp11 (.lst (x10++y11)))
 have E11:upd G11 p11 (.lst (x10++y11)) p11=some (.lst (x10++y11)):=ah
 have W11:=aY (fH (aY W10 r11) wy11) (ai.new (ai.refl G11) hp11 (.lst (x10++y11)))
 have L11:(x10++y11).length=x10.length+2:=by rw [List.length_append,ly11]
 have f11:=r11.free hp11
 generalize upd G11 p11 (.lst (x10++y11))=N11 at K11 E11 W11 |-
 generalize x10++y11=x11 at E11 W11 L11 |-
 refine ⟨_,rfl,(Str.ofString "rooms"),(Str.ofString "rooms"),(Str.ofString ":gaps"),(Str.ofString ":gapsback"),rfl,by first | decide +kernel | assumption,by first | decide +kernel | assumption,by first | decide +kernel | assumption,by first | decide +kernel | assumption,fun a12 G12 r12 _ ⟨y12,ey12,wy12⟩=>?_⟩
 have ly12:y12.length=2:=Paired.length wy12
 refine ⟨p11,a12,_,_,rfl,rfl,r12 _ _ E11,ey12,by lia,fun p12 hp12=>?_⟩
 have K12:=r12.trans (ai.new (ai.refl G12) hp12 (.lst (x11++y12)))
 have E12:upd G12 p12 (.lst (x11++y12)) p12=some (.lst (x11++y12)):=ah
 have W12:=aY (fH (aY W11 r12) wy12) (ai.new (ai.refl G12) hp12 (.lst (x11++y12)))
 have L12:(x11++y12).length=x11.length+2:=by rw [List.length_append,ly12]
 have f12:=r12.free hp12
 generalize upd G12 p12 (.lst (x11++y12))=N12 at K12 E12 W12 |-
 generalize x11++y12=x12 at E12 W12 L12 |-
 refine ⟨_,rfl,(Str.ofString "rooms"),(Str.ofString "bows"),(Str.ofString ":feet"),(Str.ofString ":feet"),rfl,by first | decide +kernel | assumption,by first | decide +kernel | assumption,by first | decide +kernel | assumption,by first | decide +kernel | assumption,fun a13 G13 r13 _ ⟨y13,ey13,wy13⟩=>?_⟩
 have ly13:y13.length=2:=Paired.length wy13
 refine ⟨p12,a13,_,_,rfl,rfl,r13 _ _ E12,ey13,by lia,fun p13 hp13=>?_⟩
 have K13:=r13.trans (ai.new (ai.refl G13) hp13 (.lst (x12++y13)))
 have E13:upd G13 p13 (.lst (x12++y13)) p13=some (.lst (x12++y13)):=ah
 have W13:=aY (fH (aY W12 r13) wy13) (ai.new (ai.refl G13) hp13 (.lst (x12++y13)))
 have L13:(x12++y13).length=x12.length+2:=by rw [List.length_append,ly13]
 have f13:=r13.free hp13
 generalize upd G13 p13 (.lst (x12++y13))=N13 at K13 E13 W13 |-
 generalize x12++y13=x13 at E13 W13 L13 |-
 have T8:ai H H8:=T5.trans (s6.trans (k6.trans s8))
 have T12:ai H N12:=T8.trans (K10.trans (K11.trans K12))
 exact q p13 N13 (T12.trans K13) (T12.free f13) ⟨x13,E13,W13⟩
theorem zD (F:aW K "_law_mix" "_law_mix" mw f fd):aH P w K mg base bp 1 f fd ["_law_cell","_law_turn"] (nS K ca):=by
 refine F.ok xb (fun vs H Q E h=>?_) (fun cdv A outer s H vs Q E hr h=>?_)
 ·obtain ⟨c,t,rfl,h0,h1,q⟩:=h
  rfl
 obtain ⟨c,t,rfl,h0,h1,q⟩:=h
 refine ⟨_,ar (aJ (i:=2) xb.nd rfl (Or.inl rfl) (aA cA (aA gS (aA gE (aA gE (aA cA (pv 0) aw) (aA gS (aA gS (pv 1) (pv 1)) aw)) aw) aw) aw))
  (au (aG (aA cA (aA gE (aA gS (pv 2) (pv 2)) (aA gS aw (pv 1))) aw))),?_⟩
 refine ⟨_,rfl,_,_,rfl,rfl,pm (by decide),_,rfl,_,rfl,_,_,rfl,rfl,.inl ⟨by lia,by lia⟩,_,_,rfl,rfl,.inr ⟨by decide,by decide⟩,_,_,rfl,rfl,_,_,rfl,rfl,_,_,rfl,rfl,.inr ⟨by decide,by decide⟩,_,_,rfl,rfl,pm (by decide),?_⟩
 have b0:=Int.emod_nonneg ((c % 2147483647+t*t*7919+104729)*48271) (show (2147483647:Int)≠0 by decide)
 have b1:=Int.emod_lt_of_pos ((c % 2147483647+t*t*7919+104729)*48271) (show (0:Int) < 2147483647 by decide)
 try dsimp only
 generalize (c % 2147483647+t*t*7919+104729)*48271 % 2147483647=n at *
 exact ⟨_,rfl,_,rfl,_,_,rfl,rfl,.inl ⟨by lia,by lia⟩,_,rfl,_,_,rfl,rfl,.inl ⟨by decide,by decide⟩,_,_,rfl,rfl,_,_,rfl,rfl,pm (by decide),q _ (Int.emod_nonneg _ (by decide)) (Int.emod_lt_of_pos _ (by decide))⟩
theorem Bo (F:aW K "_law_draws" "_law_draws" kY f fd) {f0:Addr} {fd0:FuncData} (mJ:Def P w K mg base "_law_mix" ["_law_cell","_law_turn"] 1 (nS K ca) f0 fd0) (dE:mg "range" = none) (dm:mg "len" = none):aH P w K mg base bp 2 f fd ["_law_script","_law_turn","_law_many"] (rm K ca):=by
 refine F.ok iL (fun vs H Q E h=>?_) (fun cdv A outer s H vs Q E hr h=>?_)
 ·obtain ⟨a,ns,t,m,rfl,hS,h63,t0,t1,m0,m1,q⟩:=h
  rfl
 obtain ⟨a,ns,t,m,rfl,hS,h63,t0,t1,m0,m1,q⟩:=h
 refine ⟨_,ar (aJ (i:=3) iL.nd rfl (Or.inl rfl) (aA fC (fj mF (pv 0) gx (gv aw)) (bY (af (pv 1) aq))))
  (ar (aJ (i:=4) iL.nd rfl (Or.inl rfl) (bY aq))
  (ar (bG (aQ cP (aA cA (aA g6 (bH bL (pv 3) aw (fun _ _=>rfl)) aw) aw) aw (bb _)) (ar (nQ (i:=5) iL.nd rfl (Or.inl rfl) rfl rfl (gN (pv 3)) rfl rfl rfl rfl (N:=["_law_cell"]) (.own .nil) (fun _ _ _ _ _ _=>(bD (i:=0) (by show List.Nodup (["_law_cell"]:List Str); decide +kernel) rfl (Or.inl rfl))) (fun _ _ _ _ _ _=>zi) (fun _ _ _ _ _ _=>(aA g6 (pv 0) aw)))
  (ar (gG PassesOwn.never rfl (hJ rfl dE (af (aA gE (pv 1) (pv 2)) aq)) (bD (i:=6) iL.nd rfl (Or.inl rfl)) (ar (aJ (i:=7) iL.nd rfl (Or.inl rfl) (aA cA (pv 6) (br ej rfl dm h8 (af (pv 5) aq))))
  (ar (bz (jR PySem.F.plainAttrs_list PySem.F.slot_list_append PySem.F.type_list_append kP (pv 4) (af (aA cA (bH bL (pv 5) (pv 7) (fun _ _=>rfl)) aw) aq)))
  (au (rZ (aA g6 (bH bL (pv 5) (pv 7) (fun _ _=>rfl)) aw) (BN (pv 5) (pv 7) set_list))))))
  (au (aG (fj mF (pv 4) (gv (pv 1)) gx))))) aV)
  (ar (gG PassesOwn.never rfl (hJ rfl dE (af (pv 2) aq)) (bD (i:=6) iL.nd rfl (Or.inl rfl)) (ar (aJ (i:=8) iL.nd rfl (Or.inl rfl) (bw mJ hr (af (bH bL (pv 3) (aA cA (pv 6) (br ej rfl dm h8 (af (pv 3) aq))) (fun _ _=>rfl)) (af (aA gE (pv 6) (pv 1)) aq))))
  (au (bz (jR PySem.F.plainAttrs_list PySem.F.slot_list_append PySem.F.type_list_append kP (pv 4) (af (aA cA (aA gE (aA gS (pv 8) (pv 8)) (aA gS aw (pv 6))) aw) aq))))))
  (au (aG (pv 4)))))),?_⟩
 have M:∀ x:Int,0<=x % 2147483587/\x % 2147483587 < 2147483587:=fun x=>⟨Int.emod_nonneg x (by decide),Int.emod_lt_of_pos x (by decide)⟩
 refine ⟨_,rfl,_,rfl,a,_,rfl,hS,fun p1 hp1=>⟨_,rfl,(by show 1<=sizeLine; decide),fun p2 hp2=>?_⟩⟩
 have n12:p1≠p2:=bh ah hp2
 have s1:=ai.new (ai.refl H) hp1 (.lst (gR (ns.map V.int) none (some 63)))
 have s2:=ai.new s1 hp2 (.lst [.int t])
 have lc:(iD ns none (some 63)).length<=63:=Nat.le_trans (tW _ _ _) h63
 refine ⟨p1,p2,_,_,rfl,rfl,(aE n12).trans ah,ah,?_,fun pc hpc=>?_⟩
 ·rw [mV,List.length_map]; exact sz (by simp; lia)
 have s3:=ai.new s2 hpc (.lst (gR (ns.map V.int) none (some 63)++[.int t]))
 have ecs:gR (ns.map V.int) none (some 63)++[.int t]=(iD ns none (some 63)++[t]).map V.int:=by rw [mV,List.map_append]; rfl
 have lcs:1<=(iD ns none (some 63)++[t]).length/\(iD ns none (some 63)++[t]).length<=64:=by rw [List.length_append]; constructor<;>simp<;>lia
 rw [ecs] at s3 |-
 generalize hH3:upd (upd (upd H p1 (.lst (gR (ns.map V.int) none (some 63)))) p2 (.lst [.int t])) pc (.lst ((iD ns none (some 63)++[t]).map V.int))=H3 at s3 |-
 have hc3:H3 pc=some (.lst ((iD ns none (some 63)++[t]).map V.int)):=by rw [<- hH3]; exact ah
 generalize iD ns none (some 63)++[t]=cs at hc3 lcs |-
 refine ⟨Nat.zero_le _,fun pf hpf=>?_⟩
 have s4:=ai.new s3 hpf (.lst [])
 have fpf:H pf=none:=s3.free hpf
 have ncf:pc≠pf:=bh hc3 hpf
 have hc4:upd H3 pf (.lst []) pc=some (.lst (cs.map V.int)):=(aE ncf).trans hc3
 have hf4:upd H3 pf (.lst []) pf=some (.lst (([]:List Int).map V.int)):=ah
 generalize upd H3 pf (.lst [])=H4 at s4 hc4 hf4 |-
 have at0:=iV (ns:=cs) (i:=0) (by decide) (by lia)
 have lm:(cs.map V.int).length=cs.length:=List.length_map _
 refine ⟨_,rfl,pc,_,_,_,rfl,rfl,aI.of hc4,at0,_,_,rfl,rfl,⟨by decide,by decide +kernel⟩,_,_,rfl,rfl,pm (by decide),rfl,_,rfl,jM (fun _=>?_) (fun _=>?_)⟩
 ·refine ⟨_,rfl,pc,rfl,⟨_,aI.of hc4⟩,fun D hD=>wj (fun v=>match v with | .int c=>.int (c / 100000) | v=>v) (by rw [lm]; exact sz (by lia)) (aI.of hc4) hD (fun i x H' R R0 hx hb hR=>?_) ?_⟩
  ·obtain ⟨c,rfl⟩:=zy hx
   exact ⟨Ext.set rfl,Ds (g7 ⟨_,rfl,_,_,rfl,rfl,⟨by decide,by decide +kernel⟩,hR⟩)⟩
  ·have fD:H D=none:=s4.free hD
   have nfD:pf≠D:=bh hf4 hD
   have el:(cs.map V.int).map (fun v=>match v with | .int c=>V.int (c / 100000) | v=>v)=(cs.map (· / 100000)).map V.int:=by rw [List.map_map,List.map_map]; rfl
   rw [el]
   refine ⟨_,rfl,_,rfl,_,_,rfl,rfl,_,rfl,by lia,by lia,hU (lo:=0) (n:=(t+m).toNat) (fun i σ H'=>∃ (o1 o2 o3:Option V) (ls fs:List Int),σ=[some (.ref a),some (.int t),some (.int m),some (.ref pc),some (.ref pf),some (.ref D),o1,o2,o3]/\ai H H'/\H' D=some (.lst (ls.map V.int))/\ls.length=cs.length/\H' pf=some (.lst (fs.map V.int))/\fs.length=i/\∀ x∈fs,0<=x/\x < 2147483587)
    ⟨_,_,_,_,[],rfl,ai.new s4 hD _,ah,by simp,(aE nfD).trans hf4,rfl,by simp⟩ ?_ ?_⟩
   ·rintro i σ H5 hi ⟨o1,o2,o3,ls,fs,rfl,sm,hl,ll,hf,lf,bf⟩
    have lml:(ls.map V.int).length=ls.length:=List.length_map _
    have pos:(0:Int) < (((ls.map V.int).length:Nat):Int):=by rw [lml]; lia
    have k0:=Int.emod_nonneg ((0:Int)+(i:Int)) (show (((ls.map V.int).length:Nat):Int)≠0 by lia)
    have k1:=Int.emod_lt_of_pos ((0:Int)+(i:Int)) pos
    refine ⟨_,rfl,_,rfl,D,_,rfl,.inl (aI.of hl),_,_,rfl,rfl,pos,?_⟩
    try dsimp only
    generalize ((0:Int)+(i:Int)) % (((ls.map V.int).length:Nat):Int)=k at k0 k1 |-
    rw [lml] at k1
    have atk:=iV (ns:=ls) (i:=k) k0 k1
    refine ⟨_,rfl,.inl ⟨rfl,_,aI.of hf⟩,_,rfl,_,rfl,D,_,_,_,rfl,rfl,aI.of hl,atk,_,_,rfl,rfl,pm (by decide),pf,_,_,rfl,rfl,hf,by rw [List.length_map]; exact zF (by lia),?_⟩
    have hl6:upd H5 pf (.lst (fs.map V.int++[.int (ls.getD k.toNat 0 % 2147483587)])) D=some (.lst (ls.map V.int)):=(aE (Ne.symm nfD)).trans hl
    refine ⟨_,rfl,_,rfl,D,_,_,_,rfl,rfl,aI.of hl6,atk,_,_,rfl,rfl,⟨by decide,by decide +kernel⟩,_,rfl,_,rfl,D,_,_,_,rfl,rfl,hl6,yW k0 (by rw [lml]; exact k1),?_⟩
    refine ⟨_,_,_,ls.set k.toNat (ls.getD k.toNat 0 / 2147483587),fs++[ls.getD k.toNat 0 % 2147483587],rfl,(sm.upd fpf _).upd fD _,?_,by simpa using ll,?_,by simp [lf],?_⟩
    ·rw [ah,List.map_set]
    ·rw [aE nfD,ah,List.map_append]; rfl
    ·intro x hx
     rcases List.mem_append.mp hx with z | z
     ·exact bf x z
     ·have:x=ls.getD k.toNat 0 % 2147483587:=by simpa using z
      rw [this]; exact M _
   ·rintro σ H5 ⟨o1,o2,o3,ls,fs,rfl,sm,hl,ll,hf,lf,bf⟩
    refine ⟨_,rfl,_,rfl,_,rfl,pf,_,rfl,aI.of hf,fun pr hpr=>?_⟩
    rw [mV,wY fs t0]
    refine q pr (fs.drop t.toNat) _ (ai.new sm hpr _) (sm.free hpr) ah ?_ fun x hx=>bf x (List.mem_of_mem_drop hx)
    rw [List.length_drop,lf]; lia
 ·refine ⟨_,rfl,_,rfl,by lia,by lia,hU (lo:=0) (n:=m.toNat) (fun i σ H'=>∃ (o1 o2 o3 o4:Option V) (fs:List Int),σ=[some (.ref a),some (.int t),some (.int m),some (.ref pc),some (.ref pf),o1,o2,o3,o4]/\ai H H'/\H' pc=some (.lst (cs.map V.int))/\H' pf=some (.lst (fs.map V.int))/\fs.length=i/\∀ x∈fs,0<=x/\x < 2147483587)
   ⟨_,_,_,_,[],rfl,s4,hc4,hf4,rfl,by simp⟩ ?_ ?_⟩
  ·rintro i σ H5 hi ⟨o1,o2,o3,o4,fs,rfl,sm,hc,hf,lf,bf⟩
   have pos:(0:Int) < (((cs.map V.int).length:Nat):Int):=by rw [lm]; lia
   have k0:=Int.emod_nonneg ((0:Int)+(i:Int)) (show (((cs.map V.int).length:Nat):Int)≠0 by lia)
   have k1:=Int.emod_lt_of_pos ((0:Int)+(i:Int)) pos
   have atk:=iV (ns:=cs) (i:=((0:Int)+(i:Int)) % (((cs.map V.int).length:Nat):Int)) k0 (by rw [<- lm]; exact k1)
   refine ⟨_,rfl,_,rfl,_,rfl,pc,_,rfl,.inl (aI.of hc),_,_,rfl,rfl,pos,pc,_,_,_,rfl,rfl,aI.of hc,atk,_,rfl,_,rfl,_,_,rfl,rfl,_,_,rfl,by lia,by lia,fun x x0 x1=>?_⟩
   refine ⟨_,rfl,.inl ⟨rfl,_,aI.of hf⟩,_,rfl,_,rfl,_,_,rfl,rfl,.inl ⟨by lia,by lia⟩,_,rfl,_,_,rfl,rfl,.inl ⟨by decide,by decide⟩,_,_,rfl,rfl,_,_,rfl,rfl,pm (by decide),pf,_,_,rfl,rfl,hf,by rw [List.length_map]; exact zF (by lia),?_⟩
   refine ⟨_,_,_,_,fs++[(x*x+7*((0:Int)+(i:Int))) % 2147483587],rfl,sm.upd fpf _,(aE ncf).trans hc,?_,by simp [lf],?_⟩
   ·rw [ah,List.map_append]; rfl
   ·intro y hy
    rcases List.mem_append.mp hy with z | z
    ·exact bf y z
    ·have:y=(x*x+7*((0:Int)+(i:Int))) % 2147483587:=by simpa using z
     rw [this]; exact M _
  ·rintro σ H5 ⟨o1,o2,o3,o4,fs,rfl,sm,hc,hf,lf,bf⟩
   exact ⟨_,rfl,q pf fs H5 sm fpf hf lf bf⟩
theorem Bu (F:aW K "_law_any" "_law_any" mH f fd) (dm:mg "len" = none):aH P w K mg base bp 1 f fd ["_law_number"] (rK K ca):=by
 refine F.ok tO (fun vs H Q E h=>?_) (fun cdv A outer s H vs Q E hr h=>?_)
 ·obtain ⟨n,rfl,q⟩:=h
  rfl
 obtain ⟨n,rfl,q⟩:=h
 refine ⟨_,ar (aJ (i:=1) tO.nd rfl (Or.inl rfl) ao)
  (ar (aJ (i:=1) tO.nd rfl (Or.inl rfl) (aA bC (pv 1) ao))
  (au (aG (bH zR (pv 1) (aA cA (pv 0) (br kL rfl dm h8 (af (pv 1) aq))) (fun _ _=>rfl))))),?_⟩
 have z:1000<=sizeLine:=by decide
 have e:=B0
 refine ⟨_,rfl,_,_,rfl,rfl,by decide +kernel,?_⟩
 generalize (Str.ofString " !\"#$&'()*+,-./0123456789:;<=>?@ABCDEFGHIJKLMNOPQRSTUVWXYZ[\\]^_`")++(Str.ofString "abcdefghijklmnopqrstuvwxyz{|}~")=x0 at e |-
 have b0:=Int.emod_nonneg n (show ((x0.length:Nat):Int)≠0 by lia)
 have b1:=Int.emod_lt_of_pos n (show (0:Int) < ((x0.length:Nat):Int) by lia)
 refine ⟨_,rfl,_,rfl,_,rfl,x0,rfl,by lia,_,_,rfl,rfl,by lia,?_⟩
 have lx:=yX x0
 have hc:x0.cps.toList[(n % ((x0.length:Nat):Int)).toNat]? = some (x0.cps.toList[(n % ((x0.length:Nat):Int)).toNat]'(by lia)):=List.getElem?_eq_getElem _
 exact ⟨x0,_,_,rfl,rfl,by lia,yT b0 hc,q _ (by show 1<=1; decide)⟩
theorem AB (F:aW K "_law_spoiled" "_law_spoiled" mr f fd) {f0:Addr} {fd0:FuncData} (mJ:Def P w K mg base "_law_mix" ["_law_cell","_law_turn"] 1 (nS K ca) f0 fd0) {f1:Addr} {fd1:FuncData} (qI:Def P w K mg base "_law_any" ["_law_number"] 1 (rK K ca) f1 fd1) (dm:mg "len" = none):aH P w K mg base bp 2 f fd ["_law_name","_law_cell","_law_number"] (sf K ca):=by
 refine F.ok kz (fun vs H Q E h=>?_) (fun cdv A outer s H vs Q E hr h=>?_)
 ·obtain ⟨x,c,n,rfl,lx,q⟩:=h
  rfl
 obtain ⟨x,c,n,rfl,lx,q⟩:=h
 refine ⟨_,ar (aJ (i:=3) kz.nd rfl (Or.inl rfl) (aA cA (bw mJ hr (af (pv 1) (af aw aq))) (aA gE (br kL rfl dm h8 (af (pv 0) aq)) aw)))
  (ar (aJ (i:=4) kz.nd rfl (Or.inl rfl) (aA cA (pv 1) aw))
  (ar (bG (aQ cP (pv 4) aw (bb _)) (au (aG (aA bC (fj jB (pv 0) gx (gv (pv 3))) (fj jB (pv 0) (gv (aA gE (pv 3) aw)) gx)))) aV)
  (ar (bG (aQ cP (pv 4) aw (bb _)) (au (aG (aA bC (aA bC (fj jB (pv 0) gx (gv (pv 3))) (bw qI hr (af (pv 2) aq))) (fj jB (pv 0) (gv (pv 3)) gx)))) aV)
  (ar (bG (aQ cP (pv 4) aw (bb _)) (au (aG (aA bC (aA bC (fj jB (pv 0) gx (gv (pv 3))) (bw qI hr (af (pv 2) aq))) (fj jB (pv 0) (gv (aA gE (pv 3) aw)) gx)))) aV)
  (ar (bG (aQ cP (pv 4) aw (bb _)) (au (aG (aA bC (pv 0) (bH bL (bY (af ao (af ao (af ao (af ao (af ao aq)))))) (aA cA (pv 2) aw) (fun _ _=>rfl))))) aV)
  (ar (aJ (i:=5) kz.nd rfl (Or.inl rfl) (bY (af ao (af ao (af ao (af ao (af ao (af ao (af ao (af ao (af ao (af ao aq))))))))))))
  (ar (aJ (i:=6) kz.nd rfl (Or.inl rfl) (bY (af ao (af ao (af ao (af ao (af ao (af ao (af ao (af ao aq))))))))))
  (au (aG (aA bC (aA bC (aA bC (bH bL (pv 5) (aA cA (pv 2) aw) (fun _ _=>rfl)) ao) (bH bL (pv 5) (aA cA (aA g6 (pv 2) aw) aw) (fun _ _=>rfl))) (bH bL (pv 6) (aA cA (aA g6 (pv 2) aw) aw) (fun _ _=>rfl)))))))))))),?_⟩
 have z:1000<=sizeLine:=by decide
 have lz:x.length<=sizeLine:=by lia
 have sl:∀ lo hi,(Txt.slice x lo hi).length<=100:=fun lo hi=>Nat.le_trans (Txt.slice_le x lo hi) lx
 refine ⟨_,rfl,c,31,rfl,by decide,by decide,fun m m0 m1=>?_⟩
 refine ⟨_,rfl,x,rfl,lz,_,_,rfl,rfl,_,_,rfl,rfl,pm (by lia),?_⟩
 refine ⟨_,rfl,_,_,rfl,rfl,pm (by decide),?_⟩
 refine ⟨_,rfl,rfl,_,rfl,jM (fun _=>?_) (fun _=>?_)⟩
 ·have l1:=sl none (some (m % (((x.length:Nat):Int)+1)))
  have l2:=sl (some (m % (((x.length:Nat):Int)+1)+1)) none
  exact ⟨_,rfl,_,rfl,_,rfl,x,rfl,lz,_,rfl,_,rfl,_,_,rfl,rfl,_,rfl,x,rfl,lz,_,_,rfl,rfl,ir l1 l2 (by decide),q _ _ (ai.refl H)⟩
 refine ⟨_,rfl,rfl,_,rfl,jM (fun _=>?_) (fun _=>?_)⟩
 ·have l1:=sl none (some (m % (((x.length:Nat):Int)+1)))
  have l2:=sl (some (m % (((x.length:Nat):Int)+1))) none
  refine ⟨_,rfl,_,rfl,_,rfl,x,rfl,lz,_,rfl,n,rfl,fun y ly=>⟨_,_,rfl,rfl,ir l1 ly (by decide),?_⟩⟩
  exact ⟨_,rfl,_,rfl,_,rfl,x,rfl,lz,_,_,rfl,rfl,ir (le_app l1 ly) l2 (by decide),q _ _ (ai.refl H)⟩
 refine ⟨_,rfl,rfl,_,rfl,jM (fun _=>?_) (fun _=>?_)⟩
 ·have l1:=sl none (some (m % (((x.length:Nat):Int)+1)))
  have l2:=sl (some (m % (((x.length:Nat):Int)+1)+1)) none
  refine ⟨_,rfl,_,rfl,_,rfl,x,rfl,lz,_,rfl,n,rfl,fun y ly=>⟨_,_,rfl,rfl,ir l1 ly (by decide),?_⟩⟩
  exact ⟨_,rfl,_,rfl,_,_,rfl,rfl,_,rfl,x,rfl,lz,_,_,rfl,rfl,ir (le_app l1 ly) l2 (by decide),q _ _ (ai.refl H)⟩
 refine ⟨_,rfl,rfl,_,rfl,jM (fun _=>?_) (fun _=>?_)⟩
 ·obtain ⟨y,ey,ly⟩:=lY (ys:=[Str.ofString ":parts",Str.ofString ":",Str.ofString "back",Str.ofString ":mirror",Str.ofString " "]) (i:=n) (m:=5) (by decide) (by decide) (by decide +kernel)
  exact ⟨_,rfl,(by show 5<=sizeLine; decide),fun d hd=>⟨_,rfl,_,_,rfl,rfl,pm (by decide),d,_,_,_,rfl,rfl,aI.of ah,ey,_,_,rfl,rfl,ir lx ly (by decide),q _ _ (ai.new (ai.refl H) hd _)⟩⟩
 obtain ⟨y1,ey1,ly1⟩:=lY (ys:=([Str.ofString "brackets",Str.ofString "stairs",Str.ofString "twins",Str.ofString "bows",Str.ofString "rooms",Str.ofString "floor",Str.ofString "turns",Str.ofString "codes",Str.ofString "trees",Str.ofString "cars"]:List Str)) (i:=n) (m:=10) (by decide) (by decide) (by decide +kernel)
 obtain ⟨y2,ey2,ly2⟩:=lY (ys:=([Str.ofString "brackets",Str.ofString "stairs",Str.ofString "twins",Str.ofString "bows",Str.ofString "rooms",Str.ofString "floor",Str.ofString "turns",Str.ofString "codes",Str.ofString "trees",Str.ofString "cars"]:List Str)) (i:=n / 10) (m:=10) (by decide) (by decide) (by decide +kernel)
 obtain ⟨y3,ey3,ly3⟩:=lY (ys:=([Str.ofString "",Str.ofString ":parts",Str.ofString ":mirror",Str.ofString ":turn",Str.ofString ":turnback",Str.ofString ":feet",Str.ofString ":gaps",Str.ofString ":gapsback"]:List Str)) (i:=n / 100) (m:=8) (by decide) (by decide) (by decide +kernel)
 have g:Str.length (Str.ofString ">")=1:=by decide +kernel
 refine ⟨(by show 10<=sizeLine; decide),fun d hd=>⟨(by show 8<=sizeLine; decide),fun d2 hd2=>?_⟩⟩
 have k1:=ai.new (ai.refl H) hd (.lst (([Str.ofString "brackets",Str.ofString "stairs",Str.ofString "twins",Str.ofString "bows",Str.ofString "rooms",Str.ofString "floor",Str.ofString "turns",Str.ofString "codes",Str.ofString "trees",Str.ofString "cars"]:List Str).map V.str))
 have k2:=ai.new (ai.refl _) hd2 (.lst (([Str.ofString "",Str.ofString ":parts",Str.ofString ":mirror",Str.ofString ":turn",Str.ofString ":turnback",Str.ofString ":feet",Str.ofString ":gaps",Str.ofString ":gapsback"]:List Str).map V.str))
 have e1:=k2 _ _ (ah (H:=H) (a:=d) (o:=.lst (([Str.ofString "brackets",Str.ofString "stairs",Str.ofString "twins",Str.ofString "bows",Str.ofString "rooms",Str.ofString "floor",Str.ofString "turns",Str.ofString "codes",Str.ofString "trees",Str.ofString "cars"]:List Str).map V.str)))
 refine ⟨_,rfl,_,rfl,_,_,rfl,rfl,pm (by decide),d,_,_,_,rfl,rfl,aI.of e1,ey1,_,_,rfl,rfl,ir ly1 (Nat.le_of_eq g) (by decide),?_⟩
 refine ⟨_,rfl,_,rfl,_,_,rfl,rfl,⟨by decide,by decide +kernel⟩,_,_,rfl,rfl,pm (by decide),d,_,_,_,rfl,rfl,aI.of e1,ey2,_,_,rfl,rfl,ir (le_app ly1 (Nat.le_of_eq g)) ly2 (by decide),?_⟩
 exact ⟨_,rfl,_,rfl,_,_,rfl,rfl,⟨by decide,by decide +kernel⟩,_,_,rfl,rfl,pm (by decide),d2,_,_,_,rfl,rfl,aI.of ah,ey3,_,_,rfl,rfl,ir (le_app (le_app ly1 (Nat.le_of_eq g)) ly2) ly3 (by decide),q _ _ (k1.trans k2)⟩
theorem zM (F:aW K "direct_ways" "direct_ways" jd f fd):aH P w K mg base bp 1 f fd [] (tG K ca):=by
 refine F.ok Av (fun vs H Q E h=>?_) (fun cdv A outer s H vs Q E hr h=>?_)
 ·obtain ⟨rfl,q⟩:=h
  rfl
 obtain ⟨rfl,q⟩:=h
 have hb:iW (ae jd) jw=true:=by decide +kernel
 generalize ae jd=b at hb |-
 refine ⟨_,xa (ns:=jw) (items:=gL ca) hb (.cons ⟨rfl,rfl,CA.jW⟩ (.cons ⟨rfl,rfl,CA.jQ⟩ (.cons ⟨rfl,rfl,CA.j8⟩ (.cons ⟨rfl,rfl,CA.kc⟩ (.cons ⟨rfl,rfl,CA.kl⟩ (.cons ⟨rfl,rfl,CA.ko⟩ (.cons ⟨rfl,rfl,CA.j6⟩ (.cons ⟨rfl,rfl,CA.j7⟩ (.cons ⟨rfl,rfl,CA.j9⟩ (.cons ⟨rfl,rfl,CA.ka⟩ (.cons ⟨rfl,rfl,CA.m6⟩ (.cons ⟨rfl,rfl,CA.m3⟩ (.cons ⟨rfl,rfl,CA.p0⟩ (.cons ⟨rfl,rfl,CA.pE⟩ (.cons ⟨rfl,rfl,CA.pQ⟩ (.cons ⟨rfl,rfl,CA.pU⟩ (.cons ⟨rfl,rfl,CA.pk⟩ (.cons ⟨rfl,rfl,CA.pY⟩ .nil)))))))))))))))))) (by decide) (by decide) (mP ca),?_⟩
 exact fun p hp=>q p _ _ (ai.new (ai.refl H) hp _) hp ah (uv (gL ca))
theorem Ar (F:aW K "__init__" "Family.__init__" lZ ca.qO fd):aH P w K mg base bp 1 ca.qO fd ["self","word","least"] (sE K ca):=by
 refine F.ok BP (fun vs H Q E h=>?_) (fun cdv A outer s H vs Q E hr h=>?_)
 ·obtain ⟨x,dx,w,l,rfl,hx,q⟩:=h
  rfl
 obtain ⟨x,dx,w,l,rfl,hx,q⟩:=h
 refine ⟨_,ar (cb (pv 0) (pv 1) rfl)
  (au (cb (pv 0) (pv 2) rfl)),?_⟩
 refine ⟨_,rfl,_,rfl,x,ca.aF,dx,_,rfl,hx,CA.iw,CA.bN,(by show 0 < 1000; decide),?_⟩
 refine ⟨_,rfl,_,rfl,x,ca.aF,dx,_,rfl,ah,CA.iw,CA.dJ,(by show 1 < 1000; decide),?_⟩
 exact q _ _ dX (gw w l)
theorem Cg (F:aW K "__init__" "SplitFamily.__init__" pC ca.uX fd) {fd0:FuncData} (vK:aM P w K mg base ["self","word","least"] 1 (sE K ca) ca.qO fd0):aH P w K mg base bp 3 ca.uX fd ["self","word"] (vj K ca):=by
 refine F.ok CH (fun vs H Q E h=>?_) (fun cdv A outer s H vs Q E hr h=>?_)
 ·obtain ⟨x,dx,w,rfl,hx,q⟩:=h
  rfl
 obtain ⟨x,dx,w,rfl,hx,q⟩:=h
 refine ⟨_,au (bz (fM CA.fh CA.cm_Family___init___Brackets vK hr (af (pv 0) (af (pv 1) (af aw aq))))),?_⟩
 exact ⟨_,rfl,_,rfl,x,dx,w,0,rfl,hx,fun fs H' e f=>q fs H' e f⟩
theorem Bg (F:aW K "__init__" "Brackets.__init__" mK ca.qJ fd) {fd0:FuncData} (xI:aM P w K mg base ["self","word"] 3 (vj K ca) ca.uX fd0):aH P w K mg base bp 5 ca.qJ fd ["self"] (sy K ca):=by
 refine F.ok AJ (fun vs H Q E h=>?_) (fun cdv A outer s H vs Q E hr h=>?_)
 ·obtain ⟨x,dx,rfl,hx,q⟩:=h
  rfl
 obtain ⟨x,dx,rfl,hx,q⟩:=h
 refine ⟨_,au (bz (fM CA.dF CA.cm_SplitFamily___init___Brackets xI hr (af (pv 0) (af ao aq)))),?_⟩
 exact ⟨_,rfl,x,dx,_,rfl,hx,fun fs H' e f=>q fs H' e f⟩
theorem zS (F:aW K "__init__" "Family.__init__" lq ca.qP fd):aH P w K mg base bp 1 ca.qP fd ["self","word","least"] (rq K ca):=by
 refine F.ok Ab (fun vs H Q E h=>?_) (fun cdv A outer s H vs Q E hr h=>?_)
 ·obtain ⟨x,dx,w,l,rfl,hx,q⟩:=h
  rfl
 obtain ⟨x,dx,w,l,rfl,hx,q⟩:=h
 refine ⟨_,ar (cb (pv 0) (pv 1) rfl)
  (au (cb (pv 0) (pv 2) rfl)),?_⟩
 refine ⟨_,rfl,_,rfl,x,ca.aK,dx,_,rfl,hx,CA.i0,CA.bZ,(by show 0 < 1000; decide),?_⟩
 refine ⟨_,rfl,_,rfl,x,ca.aK,dx,_,rfl,ah,CA.i0,CA.e9,(by show 1 < 1000; decide),?_⟩
 exact q _ _ dX (gw w l)
theorem BU (F:aW K "__init__" "SplitFamily.__init__" pq ca.uC fd) {fd0:FuncData} (vD:aM P w K mg base ["self","word","least"] 1 (rq K ca) ca.qP fd0):aH P w K mg base bp 3 ca.uC fd ["self","word"] (vG K ca):=by
 refine F.ok CG (fun vs H Q E h=>?_) (fun cdv A outer s H vs Q E hr h=>?_)
 ·obtain ⟨x,dx,w,rfl,hx,q⟩:=h
  rfl
 obtain ⟨x,dx,w,rfl,hx,q⟩:=h
 refine ⟨_,au (bz (fM CA.fh CA.cm_Family___init___Stairs vD hr (af (pv 0) (af (pv 1) (af aw aq))))),?_⟩
 exact ⟨_,rfl,_,rfl,x,dx,w,0,rfl,hx,fun fs H' e f=>q fs H' e f⟩
theorem zJ (F:aW K "__init__" "Stairs.__init__" me ca.qS fd) {fd0:FuncData} (xU:aM P w K mg base ["self","word"] 3 (vG K ca) ca.uC fd0):aH P w K mg base bp 5 ca.qS fd ["self"] (sD K ca):=by
 refine F.ok Be (fun vs H Q E h=>?_) (fun cdv A outer s H vs Q E hr h=>?_)
 ·obtain ⟨x,dx,rfl,hx,q⟩:=h
  rfl
 obtain ⟨x,dx,rfl,hx,q⟩:=h
 refine ⟨_,au (bz (fM CA.dF CA.cm_SplitFamily___init___Stairs xU hr (af (pv 0) (af ao aq)))),?_⟩
 exact ⟨_,rfl,x,dx,_,rfl,hx,fun fs H' e f=>q fs H' e f⟩
theorem Ap (F:aW K "__init__" "Family.__init__" lH ca.qK fd):aH P w K mg base bp 1 ca.qK fd ["self","word","least"] (rJ K ca):=by
 refine F.ok Ak (fun vs H Q E h=>?_) (fun cdv A outer s H vs Q E hr h=>?_)
 ·obtain ⟨x,dx,w,l,rfl,hx,q⟩:=h
  rfl
 obtain ⟨x,dx,w,l,rfl,hx,q⟩:=h
 refine ⟨_,ar (cb (pv 0) (pv 1) rfl)
  (au (cb (pv 0) (pv 2) rfl)),?_⟩
 refine ⟨_,rfl,_,rfl,x,ca.aR,dx,_,rfl,hx,CA.jD,CA.cD,(by show 0 < 1000; decide),?_⟩
 refine ⟨_,rfl,_,rfl,x,ca.aR,dx,_,rfl,ah,CA.jD,CA.fN,(by show 1 < 1000; decide),?_⟩
 exact q _ _ dX (gw w l)
theorem B6 (F:aW K "__init__" "SplitFamily.__init__" oV ca.wd fd) {fd0:FuncData} (vN:aM P w K mg base ["self","word","least"] 1 (rJ K ca) ca.qK fd0):aH P w K mg base bp 3 ca.wd fd ["self","word"] (vb K ca):=by
 refine F.ok Ct (fun vs H Q E h=>?_) (fun cdv A outer s H vs Q E hr h=>?_)
 ·obtain ⟨x,dx,w,rfl,hx,q⟩:=h
  rfl
 obtain ⟨x,dx,w,rfl,hx,q⟩:=h
 refine ⟨_,au (bz (fM CA.fh CA.cm_Family___init___Twins vN hr (af (pv 0) (af (pv 1) (af aw aq))))),?_⟩
 exact ⟨_,rfl,_,rfl,x,dx,w,0,rfl,hx,fun fs H' e f=>q fs H' e f⟩
theorem zC (F:aW K "__init__" "Twins.__init__" lV ca.qF fd) {fd0:FuncData} (ym:aM P w K mg base ["self","word"] 3 (vb K ca) ca.wd fd0):aH P w K mg base bp 5 ca.qF fd ["self"] (sv K ca):=by
 refine F.ok zZ (fun vs H Q E h=>?_) (fun cdv A outer s H vs Q E hr h=>?_)
 ·obtain ⟨x,dx,rfl,hx,q⟩:=h
  rfl
 obtain ⟨x,dx,rfl,hx,q⟩:=h
 refine ⟨_,au (bz (fM CA.dF CA.cm_SplitFamily___init___Twins ym hr (af (pv 0) (af ao aq)))),?_⟩
 exact ⟨_,rfl,x,dx,_,rfl,hx,fun fs H' e f=>q fs H' e f⟩
theorem A4 (F:aW K "__init__" "Family.__init__" mq ca.qM fd):aH P w K mg base bp 1 ca.qM fd ["self","word","least"] (rj K ca):=by
 refine F.ok BE (fun vs H Q E h=>?_) (fun cdv A outer s H vs Q E hr h=>?_)
 ·obtain ⟨x,dx,w,l,rfl,hx,q⟩:=h
  rfl
 obtain ⟨x,dx,w,l,rfl,hx,q⟩:=h
 refine ⟨_,ar (cb (pv 0) (pv 1) rfl)
  (au (cb (pv 0) (pv 2) rfl)),?_⟩
 refine ⟨_,rfl,_,rfl,x,ca.bu,dx,_,rfl,hx,CA.km,CA.dz,(by show 0 < 1000; decide),?_⟩
 refine ⟨_,rfl,_,rfl,x,ca.bu,dx,_,rfl,ah,CA.km,CA.gi,(by show 1 < 1000; decide),?_⟩
 exact q _ _ dX (gw w l)
theorem Cm (F:aW K "__init__" "SplitFamily.__init__" oM ca.vY fd) {fd0:FuncData} (vP:aM P w K mg base ["self","word","least"] 1 (rj K ca) ca.qM fd0):aH P w K mg base bp 3 ca.vY fd ["self","word"] (vw K ca):=by
 refine F.ok Cv (fun vs H Q E h=>?_) (fun cdv A outer s H vs Q E hr h=>?_)
 ·obtain ⟨x,dx,w,rfl,hx,q⟩:=h
  rfl
 obtain ⟨x,dx,w,rfl,hx,q⟩:=h
 refine ⟨_,au (bz (fM CA.fh CA.cm_Family___init___Bows vP hr (af (pv 0) (af (pv 1) (af aw aq))))),?_⟩
 exact ⟨_,rfl,_,rfl,x,dx,w,0,rfl,hx,fun fs H' e f=>q fs H' e f⟩
theorem z5 (F:aW K "__init__" "Bows.__init__" lg ca.qN fd) {fd0:FuncData} (xH:aM P w K mg base ["self","word"] 3 (vw K ca) ca.vY fd0):aH P w K mg base bp 5 ca.qN fd ["self"] (rN K ca):=by
 refine F.ok Af (fun vs H Q E h=>?_) (fun cdv A outer s H vs Q E hr h=>?_)
 ·obtain ⟨x,dx,rfl,hx,q⟩:=h
  rfl
 obtain ⟨x,dx,rfl,hx,q⟩:=h
 refine ⟨_,au (bz (fM CA.dF CA.cm_SplitFamily___init___Bows xH hr (af (pv 0) (af ao aq)))),?_⟩
 exact ⟨_,rfl,x,dx,_,rfl,hx,fun fs H' e f=>q fs H' e f⟩
theorem z7 (F:aW K "__init__" "Family.__init__" lM ca.qV fd):aH P w K mg base bp 1 ca.qV fd ["self","word","least"] (rn K ca):=by
 refine F.ok BB (fun vs H Q E h=>?_) (fun cdv A outer s H vs Q E hr h=>?_)
 ·obtain ⟨x,dx,w,l,rfl,hx,q⟩:=h
  rfl
 obtain ⟨x,dx,w,l,rfl,hx,q⟩:=h
 refine ⟨_,ar (cb (pv 0) (pv 1) rfl)
  (au (cb (pv 0) (pv 2) rfl)),?_⟩
 refine ⟨_,rfl,_,rfl,x,ca.aU,dx,_,rfl,hx,CA.jy,CA.cC,(by show 0 < 1000; decide),?_⟩
 refine ⟨_,rfl,_,rfl,x,ca.aU,dx,_,rfl,ah,CA.jy,CA.fQ,(by show 1 < 1000; decide),?_⟩
 exact q _ _ dX (gw w l)
theorem Cp (F:aW K "__init__" "SplitFamily.__init__" pN ca.uy fd) {fd0:FuncData} (vC:aM P w K mg base ["self","word","least"] 1 (rn K ca) ca.qV fd0):aH P w K mg base bp 3 ca.uy fd ["self","word"] (wb K ca):=by
 refine F.ok B4 (fun vs H Q E h=>?_) (fun cdv A outer s H vs Q E hr h=>?_)
 ·obtain ⟨x,dx,w,rfl,hx,q⟩:=h
  rfl
 obtain ⟨x,dx,w,rfl,hx,q⟩:=h
 refine ⟨_,au (bz (fM CA.fh CA.cm_Family___init___Rooms vC hr (af (pv 0) (af (pv 1) (af aw aq))))),?_⟩
 exact ⟨_,rfl,_,rfl,x,dx,w,0,rfl,hx,fun fs H' e f=>q fs H' e f⟩
theorem Bi (F:aW K "__init__" "Rooms.__init__" mn ca.qZ fd) {fd0:FuncData} (xS:aM P w K mg base ["self","word"] 3 (wb K ca) ca.uy fd0):aH P w K mg base bp 5 ca.qZ fd ["self"] (rW K ca):=by
 refine F.ok An (fun vs H Q E h=>?_) (fun cdv A outer s H vs Q E hr h=>?_)
 ·obtain ⟨x,dx,rfl,hx,q⟩:=h
  rfl
 obtain ⟨x,dx,rfl,hx,q⟩:=h
 refine ⟨_,au (bz (fM CA.dF CA.cm_SplitFamily___init___Rooms xS hr (af (pv 0) (af ao aq)))),?_⟩
 exact ⟨_,rfl,x,dx,_,rfl,hx,fun fs H' e f=>q fs H' e f⟩
theorem Aa (F:aW K "__init__" "Family.__init__" ma ca.ra fd):aH P w K mg base bp 1 ca.ra fd ["self","word","least"] (sV K ca):=by
 refine F.ok AE (fun vs H Q E h=>?_) (fun cdv A outer s H vs Q E hr h=>?_)
 ·obtain ⟨x,dx,w,l,rfl,hx,q⟩:=h
  rfl
 obtain ⟨x,dx,w,l,rfl,hx,q⟩:=h
 refine ⟨_,ar (cb (pv 0) (pv 1) rfl)
  (au (cb (pv 0) (pv 2) rfl)),?_⟩
 refine ⟨_,rfl,_,rfl,x,ca.aP,dx,_,rfl,hx,CA.ja,CA.bW,(by show 0 < 1000; decide),?_⟩
 refine ⟨_,rfl,_,rfl,x,ca.aP,dx,_,rfl,ah,CA.ja,CA.eZ,(by show 1 < 1000; decide),?_⟩
 exact q _ _ dX (gw w l)
theorem Ce (F:aW K "__init__" "SplitFamily.__init__" pO ca.uB fd) {fd0:FuncData} (vS:aM P w K mg base ["self","word","least"] 1 (sV K ca) ca.ra fd0):aH P w K mg base bp 3 ca.uB fd ["self","word"] (u0 K ca):=by
 refine F.ok BV (fun vs H Q E h=>?_) (fun cdv A outer s H vs Q E hr h=>?_)
 ·obtain ⟨x,dx,w,rfl,hx,q⟩:=h
  rfl
 obtain ⟨x,dx,w,rfl,hx,q⟩:=h
 refine ⟨_,au (bz (fM CA.fh CA.cm_Family___init___Floors vS hr (af (pv 0) (af (pv 1) (af aw aq))))),?_⟩
 exact ⟨_,rfl,_,rfl,x,dx,w,0,rfl,hx,fun fs H' e f=>q fs H' e f⟩
theorem AW (F:aW K "__init__" "Floors.__init__" mI ca.rg fd) {fd0:FuncData} (yb:aM P w K mg base ["self","word"] 3 (u0 K ca) ca.uB fd0):aH P w K mg base bp 5 ca.rg fd ["self"] (sP K ca):=by
 refine F.ok AD (fun vs H Q E h=>?_) (fun cdv A outer s H vs Q E hr h=>?_)
 ·obtain ⟨x,dx,rfl,hx,q⟩:=h
  rfl
 obtain ⟨x,dx,rfl,hx,q⟩:=h
 refine ⟨_,au (bz (fM CA.dF CA.cm_SplitFamily___init___Floors yb hr (af (pv 0) (af ao aq)))),?_⟩
 exact ⟨_,rfl,x,dx,_,rfl,hx,fun fs H' e f=>q fs H' e f⟩
theorem As (F:aW K "__init__" "Family.__init__" kX ca.rb fd):aH P w K mg base bp 1 ca.rb fd ["self","word","least"] (tI K ca):=by
 refine F.ok Ba (fun vs H Q E h=>?_) (fun cdv A outer s H vs Q E hr h=>?_)
 ·obtain ⟨x,dx,w,l,rfl,hx,q⟩:=h
  rfl
 obtain ⟨x,dx,w,l,rfl,hx,q⟩:=h
 refine ⟨_,ar (cb (pv 0) (pv 1) rfl)
  (au (cb (pv 0) (pv 2) rfl)),?_⟩
 refine ⟨_,rfl,_,rfl,x,ca.bc,dx,_,rfl,hx,CA.jE,CA.cE,(by show 0 < 1000; decide),?_⟩
 refine ⟨_,rfl,_,rfl,x,ca.bc,dx,_,rfl,ah,CA.jE,CA.fJ,(by show 1 < 1000; decide),?_⟩
 exact q _ _ dX (gw w l)
theorem BZ (F:aW K "__init__" "SplitFamily.__init__" oW ca.vU fd) {fd0:FuncData} (vf:aM P w K mg base ["self","word","least"] 1 (tI K ca) ca.rb fd0):aH P w K mg base bp 3 ca.vU fd ["self","word"] (wg K ca):=by
 refine F.ok Co (fun vs H Q E h=>?_) (fun cdv A outer s H vs Q E hr h=>?_)
 ·obtain ⟨x,dx,w,rfl,hx,q⟩:=h
  rfl
 obtain ⟨x,dx,w,rfl,hx,q⟩:=h
 refine ⟨_,au (bz (fM CA.fh CA.cm_Family___init___Turns vf hr (af (pv 0) (af (pv 1) (af aw aq))))),?_⟩
 exact ⟨_,rfl,_,rfl,x,dx,w,0,rfl,hx,fun fs H' e f=>q fs H' e f⟩
theorem Am (F:aW K "__init__" "Turns.__init__" mD ca.qC fd) {fd0:FuncData} (xF:aM P w K mg base ["self","word"] 3 (wg K ca) ca.vU fd0):aH P w K mg base bp 5 ca.qC fd ["self"] (si K ca):=by
 refine F.ok AA (fun vs H Q E h=>?_) (fun cdv A outer s H vs Q E hr h=>?_)
 ·obtain ⟨x,dx,rfl,hx,q⟩:=h
  rfl
 obtain ⟨x,dx,rfl,hx,q⟩:=h
 refine ⟨_,au (bz (fM CA.dF CA.cm_SplitFamily___init___Turns xF hr (af (pv 0) (af ao aq)))),?_⟩
 exact ⟨_,rfl,x,dx,_,rfl,hx,fun fs H' e f=>q fs H' e f⟩
theorem AM (F:aW K "split_families" "split_families" kS f fd) {fd0:FuncData} (uQ:aM P w K mg base ["self"] 5 (sy K ca) ca.qJ fd0) {fd1:FuncData} (vq:aM P w K mg base ["self"] 5 (sD K ca) ca.qS fd1) {fd2:FuncData} (vQ:aM P w K mg base ["self"] 5 (sv K ca) ca.qF fd2) {fd3:FuncData} (uO:aM P w K mg base ["self"] 5 (rN K ca) ca.qN fd3) {fd4:FuncData} (vJ:aM P w K mg base ["self"] 5 (rW K ca) ca.qZ fd4) {fd5:FuncData} (v7:aM P w K mg base ["self"] 5 (sP K ca) ca.rg fd5) {fd6:FuncData} (vh:aM P w K mg base ["self"] 5 (si K ca) ca.qC fd6):aH P w K mg base bp 7 f fd [] (oG K ca):=by
 refine F.ok Ae (fun vs H Q E h=>?_) (fun cdv A outer s H vs Q E hr h=>?_)
 ·obtain ⟨rfl,q⟩:=h
  rfl
 obtain ⟨rfl,q⟩:=h
 refine ⟨_,au (aG (bY (af (gU CA.mk_Brackets CA.vI uQ hr) (af (gU CA.mk_Stairs CA.yk vq hr) (af (gU CA.mk_Twins CA.zx vQ hr) (af (gU CA.mk_Bows CA.AG uO hr) (af (gU CA.mk_Rooms CA.yQ vJ hr) (af (gU CA.mk_Floors CA.xG v7 hr) (af (gU CA.mk_Turns CA.yR vh hr) aq))))))))),?_⟩
 intro x0 dx0 nx0 ndx0 nex0
 refine ⟨x0,dx0,rfl,ah,fun fs0 H1 e0 fl0=>⟨rfl,?_⟩⟩
 have s0:ai H H1:=by rw [e0]; exact ((ai.new (ai.refl H) ndx0 _).upd nx0 _).upd nx0 _
 have hx0:H1 x0=some (.ins ca.aF dx0 fs0):=by rw [e0]; exact ah
 clear e0
 have t0:=s0
 have pr0:Paired (bM H1) [.ref x0] [("brackets",ca.aF,0)]:=.cons ⟨x0,dx0,fs0,rfl,hx0,fl0⟩ .nil
 clear s0 hx0
 intro x1 dx1 nx1 ndx1 nex1
 refine ⟨x1,dx1,rfl,ah,fun fs1 H2 e1 fl1=>⟨rfl,?_⟩⟩
 have s1:ai H1 H2:=by rw [e1]; exact ((ai.new (ai.refl H1) ndx1 _).upd nx1 _).upd nx1 _
 have hx1:H2 x1=some (.ins ca.aK dx1 fs1):=by rw [e1]; exact ah
 clear e1
 have t1:=t0.trans s1
 have pr1:Paired (bM H2) [.ref x0,.ref x1] [("brackets",ca.aF,0),("stairs",ca.aK,0)]:=gc (bV pr0 s1) (.cons ⟨x1,dx1,fs1,rfl,hx1,fl1⟩ .nil)
 clear pr0 s1 hx1
 intro x2 dx2 nx2 ndx2 nex2
 refine ⟨x2,dx2,rfl,ah,fun fs2 H3 e2 fl2=>⟨rfl,?_⟩⟩
 have s2:ai H2 H3:=by rw [e2]; exact ((ai.new (ai.refl H2) ndx2 _).upd nx2 _).upd nx2 _
 have hx2:H3 x2=some (.ins ca.aR dx2 fs2):=by rw [e2]; exact ah
 clear e2
 have t2:=t1.trans s2
 have pr2:Paired (bM H3) [.ref x0,.ref x1,.ref x2] [("brackets",ca.aF,0),("stairs",ca.aK,0),("twins",ca.aR,0)]:=gc (bV pr1 s2) (.cons ⟨x2,dx2,fs2,rfl,hx2,fl2⟩ .nil)
 clear pr1 s2 hx2
 intro x3 dx3 nx3 ndx3 nex3
 refine ⟨x3,dx3,rfl,ah,fun fs3 H4 e3 fl3=>⟨rfl,?_⟩⟩
 have s3:ai H3 H4:=by rw [e3]; exact ((ai.new (ai.refl H3) ndx3 _).upd nx3 _).upd nx3 _
 have hx3:H4 x3=some (.ins ca.bu dx3 fs3):=by rw [e3]; exact ah
 clear e3
 have t3:=t2.trans s3
 have pr3:Paired (bM H4) [.ref x0,.ref x1,.ref x2,.ref x3] [("brackets",ca.aF,0),("stairs",ca.aK,0),("twins",ca.aR,0),("bows",ca.bu,0)]:=gc (bV pr2 s3) (.cons ⟨x3,dx3,fs3,rfl,hx3,fl3⟩ .nil)
 clear pr2 s3 hx3
 intro x4 dx4 nx4 ndx4 nex4
 refine ⟨x4,dx4,rfl,ah,fun fs4 H5 e4 fl4=>⟨rfl,?_⟩⟩
 have s4:ai H4 H5:=by rw [e4]; exact ((ai.new (ai.refl H4) ndx4 _).upd nx4 _).upd nx4 _
 have hx4:H5 x4=some (.ins ca.aU dx4 fs4):=by rw [e4]; exact ah
 clear e4
 have t4:=t3.trans s4
 have pr4:Paired (bM H5) [.ref x0,.ref x1,.ref x2,.ref x3,.ref x4] [("brackets",ca.aF,0),("stairs",ca.aK,0),("twins",ca.aR,0),("bows",ca.bu,0),("rooms",ca.aU,0)]:=gc (bV pr3 s4) (.cons ⟨x4,dx4,fs4,rfl,hx4,fl4⟩ .nil)
 clear pr3 s4 hx4
 intro x5 dx5 nx5 ndx5 nex5
 refine ⟨x5,dx5,rfl,ah,fun fs5 H6 e5 fl5=>⟨rfl,?_⟩⟩
 have s5:ai H5 H6:=by rw [e5]; exact ((ai.new (ai.refl H5) ndx5 _).upd nx5 _).upd nx5 _
 have hx5:H6 x5=some (.ins ca.aP dx5 fs5):=by rw [e5]; exact ah
 clear e5
 have t5:=t4.trans s5
 have pr5:Paired (bM H6) [.ref x0,.ref x1,.ref x2,.ref x3,.ref x4,.ref x5] [("brackets",ca.aF,0),("stairs",ca.aK,0),("twins",ca.aR,0),("bows",ca.bu,0),("rooms",ca.aU,0),("floor",ca.aP,0)]:=gc (bV pr4 s5) (.cons ⟨x5,dx5,fs5,rfl,hx5,fl5⟩ .nil)
 clear pr4 s5 hx5
 intro x6 dx6 nx6 ndx6 nex6
 refine ⟨x6,dx6,rfl,ah,fun fs6 H7 e6 fl6=>⟨rfl,?_⟩⟩
 have s6:ai H6 H7:=by rw [e6]; exact ((ai.new (ai.refl H6) ndx6 _).upd nx6 _).upd nx6 _
 have hx6:H7 x6=some (.ins ca.bc dx6 fs6):=by rw [e6]; exact ah
 clear e6
 have t6:=t5.trans s6
 have pr6:Paired (bM H7) [.ref x0,.ref x1,.ref x2,.ref x3,.ref x4,.ref x5,.ref x6] [("brackets",ca.aF,0),("stairs",ca.aK,0),("twins",ca.aR,0),("bows",ca.bu,0),("rooms",ca.aU,0),("floor",ca.aP,0),("turns",ca.bc,0)]:=gc (bV pr5 s6) (.cons ⟨x6,dx6,fs6,rfl,hx6,fl6⟩ .nil)
 clear pr5 s6 hx6
 refine ⟨(by show 7<=sizeLine; decide),fun p hp=>?_⟩
 exact q p _ _ (ai.new t6 hp _) (t6.free hp) ah (bV pr6 (ai.new (ai.refl _) hp _))
theorem AF (F:aW K "parts_name" "parts_name" lN f fd):aH P w K mg base bp 1 f fd ["one","other"] (rl K ca):=by
 refine F.ok zP (fun vs H Q E h=>?_) (fun cdv A outer s H vs Q E hr h=>?_)
 ·obtain ⟨a,b,rfl,ha,hb,q⟩:=h
  rfl
 obtain ⟨a,b,rfl,ha,hb,q⟩:=h
 refine ⟨_,au (aG (oX (i3 (pv 0)) ao (.cons (i3 (pv 1)) (.cons ao .nil)))),?_⟩
 have z:1000<=sizeLine:=by decide
 have l1:(Str.ofString ">").length=1:=by decide +kernel
 have l2:(Str.ofString ":parts").length=6:=by decide +kernel
 have e:Str.empty++a++">"++b++":parts" = a++">"++b++":parts":=by rw [dk]
 refine ⟨_,rfl,a,rfl,by lia,a,rfl,by rw [dk]; lia,_,rfl,?_,_,rfl,b,rfl,by lia,b,rfl,?_,_,rfl,?_,?_⟩
 ·rw [dk,len_app,l1]; lia
 ·rw [dk,len_app,len_app,l1]; lia
 ·rw [dk,len_app,len_app,len_app,l1,l2]; lia
 ·show Q (.str (Str.empty++a++">"++b++":parts")) H
  rw [e]
  exact q
theorem A3 (F:aW K "parts_way" "parts_way" jP f fd) (hc:fd.code = .ref ca.cc) (HB:BM mg base):aH P w K mg base bp 1 f fd ["one","other"] (tL K ca):=by
 refine F.okC BD hc (fun vs H Q E h=>?_) (fun A outer s H vs Q E hr h=>?_)
 ·obtain ⟨x,y,rfl,⟨oD,g⟩,q⟩:=h
  rfl
 obtain ⟨x,y,rfl,⟨oD,g⟩,q⟩:=h
 refine ⟨_,au (aG (Ax (c:=ca.cc) (P:=ca.T) rfl CA.tb rfl (z4 (sc:=aa jP) rfl (by decide +kernel)) HB)),?_⟩
 exact ⟨#[],g.tab,q⟩
theorem z6 (F:aW K "parts_ways" "parts_ways" lS f fd) {f0:Addr} {fd0:FuncData} (jU:Def P w K mg base "split_families" [] 7 (oG K ca) f0 fd0) {f1:Addr} {fd1:FuncData} (vB:Def P w K mg base "parts_name" ["one","other"] 1 (rl K ca) f1 fd1) {f2:Addr} {fd2:FuncData} (uS:Def P w K mg base "parts_way" ["one","other"] 1 (tL K ca) f2 fd2):aH P w K mg base bp 8 f fd [] (sx K ca):=by
 refine F.ok nT (fun vs H Q E h=>?_) (fun cdv A outer s H vs Q E hr h=>?_)
 ·obtain ⟨rfl,gr,q⟩:=h
  rfl
 obtain ⟨rfl,gr,q⟩:=h
 refine ⟨_,ar (aJ (i:=0) nT.nd rfl (Or.inl rfl) xC)
  (ar (gG PassesOwn.never rfl (gN (gZ jU hr)) (bD (i:=1) nT.nd rfl (Or.inl rfl)) (au (gG PassesOwn.never rfl (gN (gZ jU hr)) (bD (i:=2) nT.nd rfl (Or.inl rfl)) (au (bG (aQ jN (jz (pv 1) rfl) (jz (pv 2) rfl) (bb _)) (au (zk (xf hr) (pv 0) (bw vB hr (af (jz (pv 1) rfl) (af (jz (pv 2) rfl) aq))) (bw uS hr (af (pv 1) (af (pv 2) aq))) rfl)) aV)))))
  (au (aG (pv 0)))),?_⟩
 have okA:∀ g∈ke ca,gK K g.2.1/\bA K g.2.1 "word":=List.forall_mem_cons.mpr ⟨⟨CA.iw,CA.bN⟩,List.forall_mem_cons.mpr ⟨⟨CA.i0,CA.bZ⟩,List.forall_mem_cons.mpr ⟨⟨CA.jD,CA.cD⟩,List.forall_mem_cons.mpr ⟨⟨CA.km,CA.dz⟩,List.forall_mem_cons.mpr ⟨⟨CA.jy,CA.cC⟩,List.forall_mem_cons.mpr ⟨⟨CA.ja,CA.bW⟩,List.forall_mem_cons.mpr ⟨⟨CA.jE,CA.cE⟩,List.forall_mem_nil _⟩⟩⟩⟩⟩⟩⟩
 have lw:∀ {x:Str},x∈j5->x.length<=100:=fun h=>of_decide_eq_true (List.all_eq_true.mp y6 _ h)
 have at7:∀ {i:Nat} {f:Str × Addr × Int},(ke ca)[i]? = some f->j5[i]? = some f.1:=fun {i f} h=>by
  rw [<- v9 ca,List.getElem?_map,h]
  rfl
 intro pd hpd
 have s0:=ai.new (ai.refl H) hpd (.dK [])
 refine ⟨rfl,fun p1 xs1 H1 s1 f1 h1 pr1=>⟨p1,rfl,⟨_,aI.of h1⟩,iZ (xs:=xs1) (fun i σ H'=>∃ (o1 o2:Option V) (kvs:List (Key × V)),σ=[some (.ref pd),o1,o2]/\ai H H'/\H' p1=some (.lst xs1)/\Paired (bM H') xs1 (ke ca)/\H' pd=some (.dK kvs)/\gT kvs (fu i)) ⟨_,_,[],rfl,s0.trans s1,h1,pr1,s1 _ _ ah,zt⟩ (fun i σ H' _ h=>by obtain ⟨_,_,_,_,_,e,_⟩:=h; exact aI.of e) ?_ ?_⟩⟩
 ·rintro i v σ H2 hv ⟨o1,o2,kvs,rfl,s2,e1,fa1,hd2,df⟩
  obtain ⟨f,hf,_⟩:=jC fa1 hv
  have hi7:=at7 hf
  have ilt:i < 7:=by
   have:=(List.getElem?_eq_some_iff.mp hi7).1
   exact this
  have egd:j5.getD i "" = f.1:=by rw [List.getD_eq_getElem?_getD,hi7]; rfl
  obtain ⟨x,_,_,rfl,_⟩:=(jC fa1 hv).choose_spec.2
  refine ⟨rfl,fun p2 xs2 H3 s3 f3 h3 pr2=>⟨p2,rfl,⟨_,aI.of h3⟩,iZ (xs:=xs2) (fun j σ H'=>∃ (o2:Option V) (kvs:List (Key × V)),σ=[some (.ref pd),some (.ref x),o2]/\ai H H'/\H' p1=some (.lst xs1)/\Paired (bM H') xs1 (ke ca)/\H' p2=some (.lst xs2)/\Paired (bM H') xs2 (ke ca)/\H' pd=some (.dK kvs)/\gT kvs (fu i++jv f.1 j)) ⟨_,kvs,rfl,s2.trans s3,s3 _ _ e1,bV fa1 s3,h3,pr2,s3 _ _ hd2,by rw [show jv f.1 0=[] from rfl,List.append_nil]; exact df⟩ (fun i σ H' _ h=>by obtain ⟨_,_,_,_,_,_,e,_⟩:=h; exact aI.of e) ?_ ?_⟩⟩
  ·rintro j v2 σ H4 hv2 ⟨o2,kvs,rfl,s4,e1',fa1',e2,fa2,hd4,df4⟩
   obtain ⟨g,hg,y,dy,gs,rfl,hy,gl⟩:=jC fa2 hv2
   obtain ⟨f',hf',x',dx,fs,ex,hx,fl⟩:=jC fa1' hv
   rw [hf] at hf'
   cases hf'
   cases ex
   have hj7:=at7 hg
   have jlt:j < 7:=(List.getElem?_eq_some_iff.mp hj7).1
   have fm:=List.mem_of_getElem? hf
   have gm:=List.mem_of_getElem? hg
   have ps:=wq f.1 hj7
   refine ⟨_,rfl,x,_,dx,fs,_,rfl,hx,(okA f fm).1,(okA f fm).2,fl.word,_,rfl,y,_,dy,gs,_,rfl,hy,(okA g gm).1,(okA g gm).2,gl.word,rfl,_,rfl,?_⟩
   by_cases e:f.1=g.1
   ·rw [if_neg (fun z=>z e),List.append_nil] at ps
    exact jV (congrArg V.str e) ⟨_,kvs,rfl,s4,e1',fa1',e2,fa2,hd4,by rw [ps]; exact df4⟩
   ·rw [if_pos e] at ps
    have nd:(fu i++jv f.1 j++[f.1++">"++g.1++":parts"]).Nodup:=by
     have:=of_decide_eq_true (List.all_eq_true.mp (List.all_eq_true.mp Cu i (List.mem_range.mpr ilt)) (j+1) (List.mem_range.mpr (by lia)))
     rw [egd,ps,<- List.append_assoc] at this
     exact this
    have lk:=df4.len
    have l49:=of_decide_eq_true (List.all_eq_true.mp (List.all_eq_true.mp z0 i (List.mem_range.mpr ilt)) j (List.mem_range.mpr (by lia)))
    rw [egd] at l49
    have np:p1≠pd:=fun z=>by rw [z,hd4] at e1'; cases e1'
    have np2:p2≠pd:=fun z=>by rw [z,hd4] at e2; cases e2
    refine uJ (fun z=>e (V.str.inj z)) ⟨_,rfl,_,rfl,x,y,rfl,gr.same s4,fun ff=>⟨_,rfl,_,rfl,x,_,dx,fs,_,rfl,hx,(okA f fm).1,(okA f fm).2,fl.word,_,rfl,y,_,dy,gs,_,rfl,hy,(okA g gm).1,(okA g gm).2,gl.word,f.1,g.1,rfl,lw (List.mem_of_getElem? hi7),lw (List.mem_of_getElem? hj7),pd,_,rfl,rC.k (k:=.inr (f.1++">"++g.1++":parts")) hd4 (zF (by lia)),?_⟩⟩
    refine ⟨_,_,rfl,s4.upd hpd _,(aE np).trans e1',su hd4 fa1',(aE np2).trans e2,su hd4 fa2,ah,?_⟩
    rw [ps,<- List.append_assoc]
    exact df4.put nd
  ·rintro σ H4 ⟨o2,kvs,rfl,s4,e1',fa1',_,_,hd4,df4⟩
   have l2:=pr2.length
   rw [show xs2.length=7 from l2,<- vg hi7] at df4
   exact ⟨_,_,kvs,rfl,s4,e1',fa1',hd4,df4⟩
 ·rintro σ H2 ⟨o1,o2,kvs,rfl,s2,_,_,hd2,df⟩
  have l1:=pr1.length
  rw [show xs1.length=7 from l1] at df
  exact ⟨_,rfl,q pd kvs H2 s2 hpd hd2 df⟩
theorem BL (F:aW K "turning_ways" "turning_ways" jj f fd):aH P w K mg base bp 1 f fd [] (tK K ca):=by
 refine F.ok zE (fun vs H Q E h=>?_) (fun cdv A outer s H vs Q E hr h=>?_)
 ·obtain ⟨rfl,q⟩:=h
  rfl
 obtain ⟨rfl,q⟩:=h
 have hb:iW (ae jj) jh=true:=by decide +kernel
 generalize ae jj=b at hb |-
 refine ⟨_,uT (ns:=jh) (items:=gB ca) hb (.cons ⟨rfl,rfl,CA.mM⟩ (.cons ⟨rfl,rfl,CA.qt⟩ (.cons ⟨rfl,rfl,CA.pI⟩ (.cons ⟨rfl,rfl,CA.oJ⟩ (.cons ⟨rfl,rfl,CA.px⟩ (.cons ⟨rfl,rfl,CA.tQ⟩ (.cons ⟨rfl,rfl,CA.oq⟩ (.cons ⟨rfl,rfl,CA.rR⟩ (.cons ⟨rfl,rfl,CA.ni⟩ (.cons ⟨rfl,rfl,CA.oH⟩ (.cons ⟨rfl,rfl,CA.oo⟩ (.cons ⟨rfl,rfl,CA.BH⟩ (.cons ⟨rfl,rfl,CA.uK⟩ .nil))))))))))))) (List.cons_ne_nil _ _) (by decide) (ku ca),?_⟩
 exact fun p hp=>q p _ _ (ai.new (ai.refl H) hp _) hp ah (uv (gB ca))
theorem AR (F:aW K "all_ways" "all_ways" lj f fd) {f0:Addr} {fd0:FuncData} (uz:Def P w K mg base "direct_ways" [] 1 (tG K ca) f0 fd0) {f1:Addr} {fd1:FuncData} (vx:Def P w K mg base "parts_ways" [] 8 (sx K ca) f1 fd1) {f2:Addr} {fd2:FuncData} (vW:Def P w K mg base "turning_ways" [] 1 (tK K ca) f2 fd2):aH P w K mg base bp 9 f fd [] (sZ K ca):=by
 refine F.ok wN (fun vs H Q E h=>?_) (fun cdv A outer s H vs Q E hr h=>?_)
 ·obtain ⟨rfl,gr,q⟩:=h
  rfl
 obtain ⟨rfl,gr,q⟩:=h
 refine ⟨_,ar (aJ (i:=0) wN.nd rfl (Or.inl rfl) (gZ uz hr))
  (ar (bz (tY (pv 0) (gZ vx hr) ⟨rfl,rfl,rfl,rfl⟩))
  (ar (bz (tY (pv 0) (gZ vW hr) ⟨rfl,rfl,rfl,rfl⟩))
  (au (aG (pv 0))))),?_⟩
 have nd:=yO
 have nd1:(iR++fu 7).Nodup:=(List.nodup_append.mp nd).1
 have z:1000<=sizeLine:=by decide
 refine ⟨rfl,fun p k1 H1 s1 f1 h1 d1=>?_⟩
 have l1:=d1.len
 refine ⟨_,rfl,p,rfl,.inl ⟨_,.inl h1⟩,rfl,gr.same s1,fun p2 k2 H2 s2 f2 h2 d2=>?_⟩
 have l2:=d2.len
 have np:p≠p2:=bh h1 f2
 have h1':=s2 _ _ h1
 have l12:=g5 k2 k1
 refine ⟨p,p2,k1,k2,rfl,rfl,np,h1',h2,by rw [l1,l2,CK,CO]; lia,?_⟩
 have t2:=(s1.trans s2).upd f1 (.dK (eV k1 k2))
 have d12:=d1.app d2 nd1
 have h3:upd H2 p (.dK (eV k1 k2)) p=some (.dK (eV k1 k2)):=ah
 generalize upd H2 p (.dK (eV k1 k2))=H3 at t2 h3 |-
 have l3:=d12.len
 refine ⟨_,rfl,p,rfl,.inl ⟨_,.inl h3⟩,rfl,fun p4 k4 H4 s4 f4 h4 d4=>?_⟩
 have l4:=d4.len
 have np4:p≠p4:=bh h3 f4
 refine ⟨p,p4,_,k4,rfl,rfl,np4,s4 _ _ h3,h4,by rw [l3,l4,List.length_append,CK,CO,Dx]; lia,?_⟩
 exact ⟨_,rfl,q p _ _ ((t2.trans s4).upd f1 _) f1 ah (d12.app d4 nd)⟩
theorem BC (F:aW K "way_of" "way_of" lQ f fd) {f0:Addr} {fd0:FuncData} (wa:Def P w K mg base "all_ways" [] 9 (sZ K ca) f0 fd0):aH P w K mg base (hV P w) 10 f fd ["name"] (ou K ca er):=by
 refine F.okE wy (fun vs H Q E h=>?_) (fun cdv A outer s H vs Q E hr h=>?_)
 ·obtain ⟨x,rfl,gr,q⟩:=h
  rfl
 obtain ⟨x,rfl,gr,q⟩:=h
 refine ⟨_,ar (aJ (i:=1) wy.nd rfl (Or.inl rfl) (gZ wa hr))
  (ar (bG (zG (wz (xf hr) (pv 0) (pv 1)) (by rfl)) (au (yp g9 EO.x_way rfl EO.m_way (af ao aq))) aV)
  (au (aG (uw (xf hr) (pv 1) (pv 0) (fun _ _=>rfl))))),?_⟩
 refine ⟨rfl,gr,fun p kvs H1 s1 f1 h1 d1=>?_⟩
 refine ⟨_,rfl,_,rfl,p,_,rfl,iu.k (k:=.inr x) h1,_,rfl,?_⟩
 rcases q with ⟨hx,q⟩ | ⟨hx,q⟩
 ·obtain ⟨f,hf⟩:=d1.has ((sF x).mpr hx)
  have dg:iu H1 p (.str x) (some (.ref f)):=by rw [<- hf]; exact iu.k (k:=.inr x) h1
  rw [hf]
  exact dn ⟨_,rfl,_,rfl,p,_,rfl,dg,q f H1 s1⟩
 ·have hf:=d1.no (fun z=>hx ((sF x).mp z))
  rw [hf]
  exact g7 ⟨sz (n:=1) (by decide),q _ s1⟩
theorem By (F:aW K "ends" "ends" lD f fd) {f0:Addr} {fd0:FuncData} (kU:Def P w K mg base "way_of" ["name"] 10 (ou K ca er) f0 fd0):aH P w K mg base (hV P w) 11 f fd ["name"] (jA K ca er):=by
 refine F.okE xn (fun vs H Q E h=>?_) (fun cdv A outer s H vs Q E hr h=>?_)
 ·obtain ⟨x,rfl,gr,q⟩:=h
  rfl
 obtain ⟨x,rfl,gr,q⟩:=h
 refine ⟨_,ar (bz (i7 g9 kU hr (af (pv 0) aq)))
  (ar (aJ (i:=1) xn.nd rfl (Or.inl rfl) (jR PySem.F.plainAttrs_str PySem.F.slot_str_split PySem.F.type_str_split xN (bH ib (jR PySem.F.plainAttrs_str PySem.F.slot_str_partition PySem.F.type_str_partition sI (pv 0) (af ao aq)) aw (fun _ _=>rfl)) (af ao aq)))
  (au (aG (jI (af (bH bL (pv 1) aw (fun _ _=>rfl)) (af (bH bL (pv 1) aw (fun _ _=>rfl)) aq)))))),?_⟩
 have z:1000<=sizeLine:=by decide
 rcases q with ⟨r,hr,rfl,q⟩ | ⟨hx,q⟩
 ·obtain ⟨e1,e2,e3,e4,e5,e6⟩:=tw hr
  refine ⟨_,rfl,r.1,rfl,gr,.inl ⟨qb.mpr ⟨r,hr,rfl⟩,fun f H1 s1=>?_⟩⟩
  refine ⟨_,rfl,rfl,r.1,_,rfl,rfl,by decide +kernel,by lia,fun p hp=>⟨p,_,_,_,rfl,rfl,fZ.of ah,rfl,rfl,iK r.1,_,rfl,rfl,by decide +kernel,e4,e5,by lia,?_,fun p2 hp2=>?_⟩⟩
  ·show (wm r.1).length<=sizeLine
   rw [e1]
   show 2<=sizeLine
   decide
  have h2:upd (upd H1 p (.tup [.str (Txt.partition r.1 ":").1,.str (Txt.partition r.1 ":").2.1,.str (Txt.partition r.1 ":").2.2])) p2 (.lst ((wm r.1).map V.str)) p2=some (.lst [.str r.2.1,.str r.2.2.1]):=by
   rw [ah,e1]
   rfl
  have k2:=ai.new (ai.new s1 hp (.tup [.str (Txt.partition r.1 ":").1,.str (Txt.partition r.1 ":").2.1,.str (Txt.partition r.1 ":").2.2])) hp2 (.lst ((wm r.1).map V.str))
  exact ⟨_,rfl,p2,_,_,_,rfl,rfl,aI.of h2,(rfl:iy [V.str r.2.1,V.str r.2.2.1] 0=some _),_,rfl,p2,_,_,_,rfl,rfl,aI.of h2,(rfl:iy [V.str r.2.1,V.str r.2.2.1] 1=some _),(by show 2<=sizeLine; decide),fun u hu=>q u _ (ai.new k2 hu _) (k2.free hu) ah⟩
 ·exact ⟨_,rfl,x,rfl,gr,.inr ⟨hx,q⟩⟩
theorem BK (F:aW K "manner_of" "manner_of" my f fd):aH P w K mg base bp 1 f fd ["name"] (nY K ca):=by
 refine F.ok z9 (fun vs H Q E h=>?_) (fun cdv A outer s H vs Q E hr h=>?_)
 ·obtain ⟨x,rfl,hx,q⟩:=h
  rfl
 obtain ⟨x,rfl,hx,q⟩:=h
 refine ⟨_,au (aG (bH ib (jR PySem.F.plainAttrs_str PySem.F.slot_str_partition PySem.F.type_str_partition sI (pv 0) (af ao aq)) aw (fun _ _=>rfl))),?_⟩
 have z:1000<=sizeLine:=by decide
 exact ⟨_,rfl,rfl,x,_,rfl,rfl,by decide +kernel,by lia,fun p hp=>⟨p,_,_,_,rfl,rfl,fZ.of ah,rfl,q _ (ai.new (ai.refl H) hp _)⟩⟩
theorem BF (F:aW K "back_of" "back_of" mf f fd) {f0:Addr} {fd0:FuncData} (g4:Def P w K mg base "ends" ["name"] 11 (jA K ca er) f0 fd0) {f1:Addr} {fd1:FuncData} (ml:Def P w K mg base "manner_of" ["name"] 1 (nY K ca) f1 fd1):aH P w K mg base (hV P w) 12 f fd ["name"] (nZ K ca er):=by
 refine F.okE jF (fun vs H Q E h=>?_) (fun cdv A outer s H vs Q E hr h=>?_)
 ·obtain ⟨x,rfl,gr,q⟩:=h
  rfl
 obtain ⟨x,rfl,gr,q⟩:=h
 refine ⟨_,ar (aJ (i:=1) jF.nd rfl (Or.inl rfl) (i7 g9 g4 hr (af (pv 0) aq)))
  (ar (aJ (i:=2) jF.nd rfl (Or.inl rfl) (bH ib (pv 1) aw (fun _ _=>rfl)))
  (ar (aJ (i:=3) jF.nd rfl (Or.inl rfl) (bH ib (pv 1) aw (fun _ _=>rfl)))
  (ar (aJ (i:=4) jF.nd rfl (Or.inl rfl) (bw ml hr (af (pv 0) aq)))
  (ar (bG (aQ cP (pv 4) ao (bb _)) (au (aG (oX (i3 (pv 2)) ao (.cons (i3 (pv 3)) .nil)))) aV)
  (ar (aJ (i:=5) jF.nd rfl (Or.inl rfl) (xQ (xf hr) (fW (v:=.ref ca.D) rfl CA.gD rfl) (pv 4) (pv 4) ⟨rfl,rfl,rfl,rfl⟩))
  (au (aG (oX (i3 (pv 2)) ao (.cons (i3 (pv 3)) (.cons ao (.cons (i3 (pv 5)) .nil))))))))))),?_⟩
 have z:1000<=sizeLine:=by decide
 rcases q with ⟨r,hr,rfl,q⟩ | ⟨hx,q⟩
 ·obtain ⟨e1,e2,e3,e4,e5,e6⟩:=tw hr
  obtain ⟨la,lb,lc⟩:=ya hr
  have l1:(Str.ofString ">").length=1:=by decide +kernel
  have l2:(Str.ofString ":").length=1:=by decide +kernel
  refine ⟨_,rfl,r.1,rfl,gr,.inl ⟨r,hr,rfl,fun p H1 s1 f1 h1=>?_⟩⟩
  refine ⟨_,rfl,p,_,_,_,rfl,rfl,fZ.of h1,rfl,_,rfl,p,_,_,_,rfl,rfl,fZ.of h1,rfl,_,rfl,r.1,rfl,by lia,fun H2 s2=>?_⟩
  have t2:=s1.trans s2
  refine ⟨_,rfl,rfl,_,rfl,?_⟩
  unfold vF at e2
  by_cases c:jx r.1 = ""
  ·rw [if_pos c] at e2
   refine hZ (congrArg V.str c) ⟨_,rfl,r.2.2.1,rfl,by lia,r.2.2.1,rfl,by rw [dk]; lia,_,rfl,by rw [dk,len_app,l1]; lia,_,rfl,r.2.1,rfl,by lia,r.2.1,rfl,by rw [dk,len_app,len_app,l1]; lia,?_⟩
   show Q (.str (Str.empty++r.2.2.1++">"++r.2.1)) H2
   rw [dk,e2]
   exact q H2 t2
  ·rw [if_neg c] at e2
   obtain ⟨oD,g⟩:=gr.same t2
   refine gJ (fun w=>c (V.str.inj w)) ⟨ca.D,rfl,.inl ⟨pG,.inr ⟨oD,g.dic⟩⟩,_,rfl,_,rfl,_,.inl ⟨pG,.inr (jx r.1),.inr ⟨oD,g.dic⟩,rfl,rfl⟩,?_⟩
   rw [yM]
   refine ⟨_,rfl,r.2.2.1,rfl,by lia,r.2.2.1,rfl,by rw [dk]; lia,_,rfl,by rw [dk,len_app,l1]; lia,_,rfl,r.2.1,rfl,by lia,r.2.1,rfl,by rw [dk,len_app,len_app,l1]; lia,_,rfl,by rw [dk,len_app,len_app,len_app,l1,l2]; lia,_,rfl,qm (jx r.1),rfl,by lia,qm (jx r.1),rfl,by rw [dk,len_app,len_app,len_app,len_app,l1,l2]; lia,?_⟩
   show Q (.str (Str.empty++r.2.2.1++">"++r.2.1++":"++qm (jx r.1))) H2
   rw [dk,e2]
   exact q H2 t2
 ·exact ⟨_,rfl,x,rfl,gr,.inr ⟨hx,q⟩⟩
theorem Bw (F:aW K "carries" "carries" mL f fd):aH P w K mg base bp 1 f fd ["words","manner"] (tM K ca):=by
 refine F.ok BA (fun vs H Q E h=>?_) (fun cdv A outer s H vs Q E hr h=>?_)
 ·obtain ⟨p,a,b,m,rfl,hp,q⟩:=h
  rfl
 obtain ⟨p,a,b,m,rfl,hp,q⟩:=h
 refine ⟨_,ar (bG (aQ cP (pv 1) ao (bb _)) (au (aG (wQ (lT (rP (qW hr)) (pv 0) (jI (af ao (af ao aq))) (bb _)) (xm (lT (rP (qW hr)) (pv 0) (jI (af ao (af ao aq))) (bb _)))))) aV)
  (ar (bG (aQ cP (pv 1) ao (bb _)) (au (aG (lT qc (bH ib (pv 0) aw (fun _ _=>rfl)) (jI (af ao (af ao (af ao aq)))) (by rfl)))) aV)
  (au (aG (lT cP (pv 1) ao (bb _))))),?_⟩
 unfold yA at q
 refine ⟨_,rfl,rfl,_,rfl,?_⟩
 by_cases c:m = ""
 ·rw [if_pos c] at q
  refine hZ (congrArg V.str c) ⟨_,rfl,(by show 2<=sizeLine; decide),fun u hu=>?_⟩
  have ne:p≠u:=bh hp hu
  have s1:=ai.new (ai.refl H) hu (.tup [.str "cars",.str "codes"])
  refine ⟨1,_,by decide,ft.strs ne (s1 _ _ hp) ah,⟨p,u,rfl,rfl,ne⟩,_,rfl,?_⟩
  cases h1:(decide (a=Str.ofString "cars")&&decide (b=Str.ofString "codes")) with
  | true =>
   rw [h1] at q
   exact Dv rfl (q _ s1)
  | false =>
   rw [h1] at q
   refine Dw rfl ⟨_,rfl,(by show 2<=sizeLine; decide),fun u2 hu2=>?_⟩
   have hp1:=s1 _ _ hp
   have ne2:p≠u2:=bh hp1 hu2
   have s2:=ai.new s1 hu2 (.tup [.str "codes",.str "cars"])
   refine ⟨1,_,by decide,ft.strs ne2 (s2 _ _ hp) ah,⟨p,u2,rfl,rfl,ne2⟩,?_⟩
   exact q _ s2
 ·rw [if_neg c] at q
  refine gJ (fun w=>c (V.str.inj w)) ⟨_,rfl,rfl,_,rfl,?_⟩
  by_cases c2:m = "mirror"
  ·rw [if_pos c2] at q
   refine hZ (congrArg V.str c2) ⟨_,rfl,p,_,_,_,rfl,rfl,fZ.of hp,rfl,(by show 3<=sizeLine; decide),fun u hu=>?_⟩
   refine ⟨u,([Str.ofString "brackets",Str.ofString "bows",Str.ofString "turns"]:List Str).map V.str,rfl,.inr (fZ.of ah),rfl,ji _,?_⟩
   show Q (.bl (wJ (V.str a) (([Str.ofString "brackets",Str.ofString "bows",Str.ofString "turns"]:List Str).map V.str))) _
   rw [iz,show decide (a∈([Str.ofString "brackets",Str.ofString "bows",Str.ofString "turns"]:List Str))=(decide (a = "brackets") || (decide (a = "bows") || decide (a = "turns"))) by simp [List.mem_cons]]
   exact q _ (ai.new (ai.refl H) hu _)
  ·rw [if_neg c2] at q
   refine gJ (fun w=>c2 (V.str.inj w)) ⟨_,rfl,rfl,?_⟩
   rw [show decide (V.str m=V.str (Str.ofString "parts"))=decide (m=Str.ofString "parts") from decide_eq_decide.mpr ⟨fun h=>V.str.inj h,congrArg V.str⟩]
   exact q H (ai.refl H)
theorem Bs (F:aW K "__init__" "Family.__init__" mx ca.qE fd):aH P w K mg base bp 1 ca.qE fd ["self","word","least"] (sA K ca):=by
 refine F.ok AI (fun vs H Q E h=>?_) (fun cdv A outer s H vs Q E hr h=>?_)
 ·obtain ⟨x,dx,w,l,rfl,hx,q⟩:=h
  rfl
 obtain ⟨x,dx,w,l,rfl,hx,q⟩:=h
 refine ⟨_,ar (cb (pv 0) (pv 1) rfl)
  (au (cb (pv 0) (pv 2) rfl)),?_⟩
 refine ⟨_,rfl,_,rfl,x,ca.aS,dx,_,rfl,hx,CA.lF,CA.dG,(by show 0 < 1000; decide),?_⟩
 refine ⟨_,rfl,_,rfl,x,ca.aS,dx,_,rfl,ah,CA.lF,CA.fI,(by show 1 < 1000; decide),?_⟩
 exact q _ _ dX (gw w l)
theorem Cs (F:aW K "__init__" "RingFamily.__init__" oN ca.vy fd) {fd0:FuncData} (vV:aM P w K mg base ["self","word","least"] 1 (sA K ca) ca.qE fd0):aH P w K mg base bp 3 ca.vy fd ["self","word"] (uU K ca):=by
 refine F.ok B3 (fun vs H Q E h=>?_) (fun cdv A outer s H vs Q E hr h=>?_)
 ·obtain ⟨x,dx,w,rfl,hx,q⟩:=h
  rfl
 obtain ⟨x,dx,w,rfl,hx,q⟩:=h
 refine ⟨_,au (bz (fM CA.fh CA.cm_Family___init___Codes vV hr (af (pv 0) (af (pv 1) (af aw aq))))),?_⟩
 exact ⟨_,rfl,_,rfl,x,dx,w,1,rfl,hx,fun fs H' e f=>q fs H' e f⟩
theorem BQ (F:aW K "__init__" "Codes.__init__" lI ca.rf fd) {fd0:FuncData} (xV:aM P w K mg base ["self","word"] 3 (uU K ca) ca.vy fd0):aH P w K mg base bp 5 ca.rf fd ["self"] (sT K ca):=by
 refine F.ok Ah (fun vs H Q E h=>?_) (fun cdv A outer s H vs Q E hr h=>?_)
 ·obtain ⟨x,dx,rfl,hx,q⟩:=h
  rfl
 obtain ⟨x,dx,rfl,hx,q⟩:=h
 refine ⟨_,au (bz (fM CA.jb CA.cm_RingFamily___init___Codes xV hr (af (pv 0) (af ao aq)))),?_⟩
 exact ⟨_,rfl,x,dx,_,rfl,hx,fun fs H' e f=>q fs H' e f⟩
theorem Ac (F:aW K "__init__" "Family.__init__" lG ca.qG fd):aH P w K mg base bp 1 ca.qG fd ["self","word","least"] (sX K ca):=by
 refine F.ok zK (fun vs H Q E h=>?_) (fun cdv A outer s H vs Q E hr h=>?_)
 ·obtain ⟨x,dx,w,l,rfl,hx,q⟩:=h
  rfl
 obtain ⟨x,dx,w,l,rfl,hx,q⟩:=h
 refine ⟨_,ar (cb (pv 0) (pv 1) rfl)
  (au (cb (pv 0) (pv 2) rfl)),?_⟩
 refine ⟨_,rfl,_,rfl,x,ca.aX,dx,_,rfl,hx,CA.mh,CA.dH,(by show 0 < 1000; decide),?_⟩
 refine ⟨_,rfl,_,rfl,x,ca.aX,dx,_,rfl,ah,CA.mh,CA.fG,(by show 1 < 1000; decide),?_⟩
 exact q _ _ dX (gw w l)
theorem B8 (F:aW K "__init__" "RingFamily.__init__" p7 ca.vo fd) {fd0:FuncData} (uN:aM P w K mg base ["self","word","least"] 1 (sX K ca) ca.qG fd0):aH P w K mg base bp 3 ca.vo fd ["self","word"] (uL K ca):=by
 refine F.ok Cd (fun vs H Q E h=>?_) (fun cdv A outer s H vs Q E hr h=>?_)
 ·obtain ⟨x,dx,w,rfl,hx,q⟩:=h
  rfl
 obtain ⟨x,dx,w,rfl,hx,q⟩:=h
 refine ⟨_,au (bz (fM CA.fh CA.cm_Family___init___Trees uN hr (af (pv 0) (af (pv 1) (af aw aq))))),?_⟩
 exact ⟨_,rfl,_,rfl,x,dx,w,1,rfl,hx,fun fs H' e f=>q fs H' e f⟩
theorem Bq (F:aW K "__init__" "Trees.__init__" lP ca.qD fd) {fd0:FuncData} (xW:aM P w K mg base ["self","word"] 3 (uL K ca) ca.vo fd0):aH P w K mg base bp 5 ca.qD fd ["self"] (tu K ca):=by
 refine F.ok Bd (fun vs H Q E h=>?_) (fun cdv A outer s H vs Q E hr h=>?_)
 ·obtain ⟨x,dx,rfl,hx,q⟩:=h
  rfl
 obtain ⟨x,dx,rfl,hx,q⟩:=h
 refine ⟨_,au (bz (fM CA.jb CA.cm_RingFamily___init___Trees xW hr (af (pv 0) (af ao aq)))),?_⟩
 exact ⟨_,rfl,x,dx,_,rfl,hx,fun fs H' e f=>q fs H' e f⟩
theorem Bm (F:aW K "__init__" "Family.__init__" mz ca.qU fd):aH P w K mg base bp 1 ca.qU fd ["self","word","least"] (sO K ca):=by
 refine F.ok AK (fun vs H Q E h=>?_) (fun cdv A outer s H vs Q E hr h=>?_)
 ·obtain ⟨x,dx,w,l,rfl,hx,q⟩:=h
  rfl
 obtain ⟨x,dx,w,l,rfl,hx,q⟩:=h
 refine ⟨_,ar (cb (pv 0) (pv 1) rfl)
  (au (cb (pv 0) (pv 2) rfl)),?_⟩
 refine ⟨_,rfl,_,rfl,x,ca.bB,dx,_,rfl,hx,CA.oI,CA.d8,(by show 0 < 1000; decide),?_⟩
 refine ⟨_,rfl,_,rfl,x,ca.bB,dx,_,rfl,ah,CA.oI,CA.gp,(by show 1 < 1000; decide),?_⟩
 exact q _ _ dX (gw w l)
theorem CB (F:aW K "__init__" "RingFamily.__init__" oK ca.vR fd) {fd0:FuncData} (uZ:aM P w K mg base ["self","word","least"] 1 (sO K ca) ca.qU fd0):aH P w K mg base bp 3 ca.vR fd ["self","word"] (vL K ca):=by
 refine F.ok B1 (fun vs H Q E h=>?_) (fun cdv A outer s H vs Q E hr h=>?_)
 ·obtain ⟨x,dx,w,rfl,hx,q⟩:=h
  rfl
 obtain ⟨x,dx,w,rfl,hx,q⟩:=h
 refine ⟨_,au (bz (fM CA.fh CA.cm_Family___init___Cars uZ hr (af (pv 0) (af (pv 1) (af aw aq))))),?_⟩
 exact ⟨_,rfl,_,rfl,x,dx,w,1,rfl,hx,fun fs H' e f=>q fs H' e f⟩
theorem Ao (F:aW K "__init__" "Cars.__init__" mm ca.qY fd) {fd0:FuncData} (yi:aM P w K mg base ["self","word"] 3 (vL K ca) ca.vR fd0):aH P w K mg base bp 5 ca.qY fd ["self"] (sd K ca):=by
 refine F.ok A1 (fun vs H Q E h=>?_) (fun cdv A outer s H vs Q E hr h=>?_)
 ·obtain ⟨x,dx,rfl,hx,q⟩:=h
  rfl
 obtain ⟨x,dx,rfl,hx,q⟩:=h
 refine ⟨_,au (bz (fM CA.jb CA.cm_RingFamily___init___Cars yi hr (af (pv 0) (af ao aq)))),?_⟩
 exact ⟨_,rfl,x,dx,_,rfl,hx,fun fs H' e f=>q fs H' e f⟩
theorem AU (F:aW K "ring_families" "ring_families" mj f fd) {fd0:FuncData} (vc:aM P w K mg base ["self"] 5 (sT K ca) ca.rf fd0) {fd1:FuncData} (uR:aM P w K mg base ["self"] 5 (tu K ca) ca.qD fd1) {fd2:FuncData} (vd:aM P w K mg base ["self"] 5 (sd K ca) ca.qY fd2):aH P w K mg base bp 7 f fd [] (sH K ca):=by
 refine F.ok zL (fun vs H Q E h=>?_) (fun cdv A outer s H vs Q E hr h=>?_)
 ·obtain ⟨rfl,q⟩:=h
  rfl
 obtain ⟨rfl,q⟩:=h
 refine ⟨_,au (aG (bY (af (gU CA.mk_Codes CA.zg vc hr) (af (gU CA.mk_Trees CA.zq uR hr) (af (gU CA.mk_Cars CA.AQ vd hr) aq))))),?_⟩
 intro x0 dx0 nx0 ndx0 nex0
 refine ⟨x0,dx0,rfl,ah,fun fs0 H1 e0 fl0=>⟨rfl,?_⟩⟩
 have s0:ai H H1:=by rw [e0]; exact ((ai.new (ai.refl H) ndx0 _).upd nx0 _).upd nx0 _
 have hx0:H1 x0=some (.ins ca.aS dx0 fs0):=by rw [e0]; exact ah
 clear e0
 have t0:=s0
 have pr0:Paired (bM H1) [.ref x0] [("codes",ca.aS,1)]:=.cons ⟨x0,dx0,fs0,rfl,hx0,fl0⟩ .nil
 clear s0 hx0
 intro x1 dx1 nx1 ndx1 nex1
 refine ⟨x1,dx1,rfl,ah,fun fs1 H2 e1 fl1=>⟨rfl,?_⟩⟩
 have s1:ai H1 H2:=by rw [e1]; exact ((ai.new (ai.refl H1) ndx1 _).upd nx1 _).upd nx1 _
 have hx1:H2 x1=some (.ins ca.aX dx1 fs1):=by rw [e1]; exact ah
 clear e1
 have t1:=t0.trans s1
 have pr1:Paired (bM H2) [.ref x0,.ref x1] [("codes",ca.aS,1),("trees",ca.aX,1)]:=gc (bV pr0 s1) (.cons ⟨x1,dx1,fs1,rfl,hx1,fl1⟩ .nil)
 clear pr0 s1 hx1
 intro x2 dx2 nx2 ndx2 nex2
 refine ⟨x2,dx2,rfl,ah,fun fs2 H3 e2 fl2=>⟨rfl,?_⟩⟩
 have s2:ai H2 H3:=by rw [e2]; exact ((ai.new (ai.refl H2) ndx2 _).upd nx2 _).upd nx2 _
 have hx2:H3 x2=some (.ins ca.bB dx2 fs2):=by rw [e2]; exact ah
 clear e2
 have t2:=t1.trans s2
 have pr2:Paired (bM H3) [.ref x0,.ref x1,.ref x2] [("codes",ca.aS,1),("trees",ca.aX,1),("cars",ca.bB,1)]:=gc (bV pr1 s2) (.cons ⟨x2,dx2,fs2,rfl,hx2,fl2⟩ .nil)
 clear pr1 s2 hx2
 refine ⟨(by show 3<=sizeLine; decide),fun p hp=>?_⟩
 exact q p _ _ (ai.new t2 hp _) (t2.free hp) ah (bV pr2 (ai.new (ai.refl _) hp _))
theorem zT (F:aW K "family_of" "family_of" lE f fd) {f0:Addr} {fd0:FuncData} (jU:Def P w K mg base "split_families" [] 7 (oG K ca) f0 fd0) {f1:Addr} {fd1:FuncData} (vp:Def P w K mg base "ring_families" [] 7 (sH K ca) f1 fd1):aH P w K mg base bp 8 f fd ["word"] (sC K ca):=by
 refine F.ok wo (fun vs H Q E h=>?_) (fun cdv A outer s H vs Q E hr h=>?_)
 ·obtain ⟨f,rfl,hf,q⟩:=h
  rfl
 obtain ⟨f,rfl,hf,q⟩:=h
 refine ⟨_,ar (gG PassesOwn.never rfl (gN (aA fC (gZ jU hr) (gZ vp hr))) (bD (i:=1) wo.nd rfl (Or.inl rfl)) (au (bG (aQ cP (jz (pv 1) rfl) (pv 0) (bb _)) (au (aG (pv 1))) aV)))
  wO,?_⟩
 have ok:∀ g∈ju ca,gK K g.2.1/\bA K g.2.1 "word":=List.forall_mem_cons.mpr ⟨⟨CA.iw,CA.bN⟩,List.forall_mem_cons.mpr ⟨⟨CA.i0,CA.bZ⟩,List.forall_mem_cons.mpr ⟨⟨CA.jD,CA.cD⟩,List.forall_mem_cons.mpr ⟨⟨CA.km,CA.dz⟩,List.forall_mem_cons.mpr ⟨⟨CA.jy,CA.cC⟩,List.forall_mem_cons.mpr ⟨⟨CA.ja,CA.bW⟩,List.forall_mem_cons.mpr ⟨⟨CA.jE,CA.cE⟩,List.forall_mem_cons.mpr ⟨⟨CA.lF,CA.dG⟩,List.forall_mem_cons.mpr ⟨⟨CA.mh,CA.dH⟩,List.forall_mem_cons.mpr ⟨⟨CA.oI,CA.d8⟩,List.forall_mem_nil _⟩⟩⟩⟩⟩⟩⟩⟩⟩⟩
 refine ⟨rfl,fun p1 xs1 H1 s1 f1 h1 pr1=>⟨rfl,fun p2 xs2 H2 s2 f2 h2 pr2=>?_⟩⟩
 have e2:=pr2.length
 have e1:=pr1.length
 refine ⟨p1,p2,xs1,xs2,rfl,rfl,s2 _ _ h1,h2,(by rw [e1,e2]; show 10<=sizeLine; decide),fun pc hpc=>?_⟩
 have s3:=ai.new (ai.refl H2) hpc (.lst (xs1++xs2))
 have pr:Paired (bM (upd H2 pc (.lst (xs1++xs2)))) (xs1++xs2) (ju ca):=gc (bV pr1 (s2.trans s3)) (bV pr2 s3)
 have hc:upd H2 pc (.lst (xs1++xs2)) pc=some (.lst (xs1++xs2)):=ah
 have s4:=(s1.trans s2).trans s3
 generalize upd H2 pc (.lst (xs1++xs2))=H3 at s4 pr hc |-
 obtain ⟨jf,hjf⟩:=List.getElem?_of_mem hf
 refine ⟨pc,rfl,⟨_,aI.of hc⟩,iZ (xs:=xs1++xs2) (fun i σ H'=>∃ (o1:Option V),σ=[some (.str f.1),o1]/\H3=H'/\i<=jf) ⟨_,rfl,rfl,Nat.zero_le _⟩ (fun i σ H' _ h=>by obtain ⟨_,_,e,_⟩:=h; rw [<- e]; exact aI.of hc) ?_ ?_⟩
 ·rintro i v σ H' hv ⟨o1,rfl,rfl,hij⟩
  obtain ⟨g,hg,x,dx,fs,rfl,hx,fl⟩:=jC pr hv
  have gm:=List.mem_of_getElem? hg
  refine ⟨_,rfl,x,_,dx,fs,_,rfl,hx,(ok g gm).1,(ok g gm).2,fl.word,_,rfl,rfl,_,rfl,?_⟩
  by_cases e:g.1=f.1
  ·have eg:=yd gm hf e
   subst eg
   refine hZ rfl ⟨_,rfl,q x dx fs H3 s4 hx fl⟩
  ·refine gJ (fun z=>e (by injection z)) ⟨_,rfl,rfl,?_⟩
   by_cases e2:i=jf
   ·subst e2
    rw [hg] at hjf
    injection hjf with hjf
    exact absurd (by rw [hjf]) e
   ·lia
 ·rintro σ H' ⟨o1,rfl,rfl,hij⟩
  have l:=pr.length
  have:=(List.getElem?_eq_some_iff.mp hjf).1
  lia
theorem Bv (F:aW K "all_measures" "all_measures" jl f fd):aH P w K mg base bp 1 f fd [] (sj K ca):=by
 refine F.ok zN (fun vs H Q E h=>?_) (fun cdv A outer s H vs Q E hr h=>?_)
 ·obtain ⟨rfl,q⟩:=h
  rfl
 obtain ⟨rfl,q⟩:=h
 have hb:sG (ae jl) yz=true:=by decide +kernel
 generalize ae jl=b at hb |-
 refine ⟨_,wK (ns:=yz) (rows:=iS ca) hb (List.cons_ne_nil _ _) (by decide) (.cons ⟨rfl,(.cons ⟨rfl,rfl,CA.nq⟩ (.cons ⟨rfl,rfl,CA.kM⟩ (.cons ⟨rfl,rfl,CA.mQ⟩ .nil)))⟩ (.cons ⟨rfl,(.cons ⟨rfl,rfl,CA.p6⟩ (.cons ⟨rfl,rfl,CA.nJ⟩ (.cons ⟨rfl,rfl,CA.nM⟩ .nil)))⟩ (.cons ⟨rfl,(.cons ⟨rfl,rfl,CA.qu⟩ (.cons ⟨rfl,rfl,CA.oF⟩ (.cons ⟨rfl,rfl,CA.pA⟩ .nil)))⟩ (.cons ⟨rfl,(.cons ⟨rfl,rfl,CA.sY⟩ (.cons ⟨rfl,rfl,CA.pj⟩ (.cons ⟨rfl,rfl,CA.qA⟩ .nil)))⟩ (.cons ⟨rfl,(.cons ⟨rfl,rfl,CA.qw⟩ (.cons ⟨rfl,rfl,CA.nO⟩ .nil))⟩ (.cons ⟨rfl,(.cons ⟨rfl,rfl,CA.qx⟩ (.cons ⟨rfl,rfl,CA.nN⟩ .nil))⟩ (.cons ⟨rfl,(.cons ⟨rfl,rfl,CA.qr⟩ (.cons ⟨rfl,rfl,CA.om⟩ (.cons ⟨rfl,rfl,CA.oU⟩ .nil)))⟩ (.cons ⟨rfl,(.cons ⟨rfl,rfl,CA.pX⟩ (.cons ⟨rfl,rfl,CA.nP⟩ .nil))⟩ (.cons ⟨rfl,(.cons ⟨rfl,rfl,CA.pW⟩ (.cons ⟨rfl,rfl,CA.nR⟩ .nil))⟩ (.cons ⟨rfl,(.cons ⟨rfl,rfl,CA.qv⟩ (.cons ⟨rfl,rfl,CA.pH⟩ .nil))⟩ .nil)))))))))),?_⟩
 exact wR (rows:=iS ca) (rQ ca).1 (rQ ca).2 (by show 10<=15; decide) fun p H' s f m=>q p H' s f m
theorem BO (F:aW K "marks_of" "marks_of" lJ f fd) {f0:Addr} {fd0:FuncData} (vE:Def P w K mg base "family_of" ["word"] 8 (sC K ca) f0 fd0) {f1:Addr} {fd1:FuncData} (vm:Def P w K mg base "all_measures" [] 1 (sj K ca) f1 fd1) (ig:mg "list" = none):aH P w K mg base bp 9 f fd ["word"] (sr K ca):=by
 refine F.ok wH (fun vs H Q E h=>?_) (fun cdv A outer s H vs Q E hr h=>?_)
 ·obtain ⟨f,items,rfl,hf,hi,q⟩:=h
  rfl
 obtain ⟨f,items,rfl,hf,hi,q⟩:=h
 refine ⟨_,ar (aJ (i:=1) wH.nd rfl (Or.inl rfl) (bw vE hr (af (pv 0) aq)))
  (au (aG (qd (vM rfl) rfl ig oR (af (uw (xf hr) (gZ vm hr) (jz (pv 1) rfl) (fun _ _=>rfl)) aq)))),?_⟩
 have ok:∀ g∈ju ca,gK K g.2.1/\bA K g.2.1 "word":=List.forall_mem_cons.mpr ⟨⟨CA.iw,CA.bN⟩,List.forall_mem_cons.mpr ⟨⟨CA.i0,CA.bZ⟩,List.forall_mem_cons.mpr ⟨⟨CA.jD,CA.cD⟩,List.forall_mem_cons.mpr ⟨⟨CA.km,CA.dz⟩,List.forall_mem_cons.mpr ⟨⟨CA.jy,CA.cC⟩,List.forall_mem_cons.mpr ⟨⟨CA.ja,CA.bW⟩,List.forall_mem_cons.mpr ⟨⟨CA.jE,CA.cE⟩,List.forall_mem_cons.mpr ⟨⟨CA.lF,CA.dG⟩,List.forall_mem_cons.mpr ⟨⟨CA.mh,CA.dH⟩,List.forall_mem_cons.mpr ⟨⟨CA.oI,CA.d8⟩,List.forall_mem_nil _⟩⟩⟩⟩⟩⟩⟩⟩⟩⟩
 refine ⟨_,rfl,f,rfl,hf,fun x dx fs H1 s1 hx fl=>⟨rfl,fun p H2 s2 f2 m=>⟨_,rfl,x,_,dx,fs,_,rfl,s2 _ _ hx,(ok f hf).1,(ok f hf).2,fl.word,?_⟩⟩⟩
 obtain ⟨d,g1,g2⟩:=m.get hi
 refine ⟨p,_,rfl,g1,d,_,rfl,g2,fun r hr=>?_⟩
 rw [uM]
 exact q r _ (ai.new (s1.trans s2) hr _) ((s1.trans s2).free hr) ah
theorem A6 (F:aW K "carried_by" "carried_by" lR f fd) {f0:Addr} {fd0:FuncData} (g4:Def P w K mg base "ends" ["name"] 11 (jA K ca er) f0 fd0) {f1:Addr} {fd1:FuncData} (vO:Def P w K mg base "carries" ["words","manner"] 1 (tM K ca) f1 fd1) {f2:Addr} {fd2:FuncData} (ml:Def P w K mg base "manner_of" ["name"] 1 (nY K ca) f2 fd2) {f3:Addr} {fd3:FuncData} (qX:Def P w K mg base "marks_of" ["word"] 9 (sr K ca) f3 fd3):aH P w K mg base (hV P w) 12 f fd ["name"] (nW K ca er):=by
 refine F.okE sM (fun vs H Q E h=>?_) (fun cdv A outer s H vs Q E hr h=>?_)
 ·obtain ⟨x,rfl,gr,q⟩:=h
  rfl
 obtain ⟨x,rfl,gr,q⟩:=h
 refine ⟨_,ar (aJ (i:=1) sM.nd rfl (Or.inl rfl) (i7 g9 g4 hr (af (pv 0) aq)))
  (ar (bG (gI (cR (bw vO hr (af (pv 1) (af (bw ml hr (af (pv 0) aq)) aq))))) (au (aG (bY aq))) aV)
  (ar (aJ (i:=2) sM.nd rfl (Or.inr rfl) (bw qX hr (af (bH ib (pv 1) aw (fun _ _=>rfl)) aq)))
  (au (aG (ua rfl (gN (bw qX hr (af (bH ib (pv 1) aw (fun _ _=>rfl)) aq))) rfl rfl rfl rfl (N:=["one","others"]) (.own (.cap (j:=2) rfl rfl rfl .nil)) (fun _ _ _ _ _ _=>(bD (i:=0) (by show List.Nodup (["one","others"]:List Str); decide +kernel) rfl (Or.inl rfl))) (fun _ _ _ _ _ _=>(pB (aQ (ot (K:=K) rfl) (pv 0) (pv 1) (by rfl)))) (fun _ _ _ _ _ _=>(pv 0))))))),?_⟩
 rcases q with ⟨r,hr,rfl,q⟩ | ⟨hx,q⟩
 ·obtain ⟨e1,e2,e3,e4,e5,e6⟩:=tw hr
  have e10:=List.all_eq_true.mp xZ r hr
  rw [Bool.and_eq_true] at e10
  have t1:=of_decide_eq_true e10.1
  have t2:=of_decide_eq_true e10.2
  refine ⟨_,rfl,r.1,rfl,gr,.inl ⟨r,hr,rfl,fun p H1 s1 f1 h1=>?_⟩⟩
  refine ⟨_,rfl,_,rfl,r.1,rfl,by lia,fun H2 s2=>⟨p,r.2.1,r.2.2.1,jx r.1,rfl,s2 _ _ h1,fun H3 s3=>⟨_,rfl,?_⟩⟩⟩
  have s13:=(s1.trans s2).trans s3
  have h3:=s3 _ _ (s2 _ _ h1)
  unfold yt at q
  cases c:yA r.2.1 r.2.2.1 (jx r.1) with
  | false =>
   rw [c] at q
   exact g7 ⟨Nat.zero_le _,fun u hu=>q u _ (ai.new s13 hu _) (s13.free hu) ah⟩
  | true =>
   rw [c,if_pos rfl] at q
   obtain ⟨f2,it2,hf2,ef2,hl2,em2⟩:=rU ca t2
   obtain ⟨f1',it1,hf1,ef1,hl1,em1⟩:=rU ca t1
   refine dn ⟨_,rfl,p,_,_,_,rfl,rfl,fZ.of h3,rfl,f2,it2,by rw [ef2]; rfl,hf2,by rw [ef2]; exact hl2,fun po H4 s4 f4 h4=>?_⟩
   rw [em2] at h4
   refine ⟨_,rfl,p,_,_,_,rfl,rfl,fZ.of (s4 _ _ h3),rfl,f1',it1,by rw [ef1]; rfl,hf1,by rw [ef1]; exact hl1,fun pm5 H5 s5 f5 h5=>?_⟩
   rw [em1] at h5
   have lm:∀ w,(bI w).length<=3:=fun w=>by unfold bI; split; decide; split<;>decide
   have lm1:=lm r.2.1
   have lml:((bI r.2.1).map V.str).length=(bI r.2.1).length:=List.length_map _
   have s15:=(s13.trans s4).trans s5
   refine ⟨pm5,rfl,⟨_,aI.of h5⟩,fun D hD=>kA (xs:=(bI r.2.1).map V.str) (fun k ys H'=>ai H5 H'/\H' D=some (.lst ys)/\ys=(((bI r.2.1).take k).filter fun x=>decide (x∈bI r.2.2.1)).map V.str/\k<=(bI r.2.1).length) (sz (by lia)) ⟨ai.new (ai.refl H5) hD _,ah,rfl,Nat.zero_le _⟩ (fun k ys H' hk h=>⟨aI.of (h.1 _ _ h5),?_⟩) (fun k v ys H' R R0 hx h r' r0=>?_) (fun ys H' h=>?_)⟩
   ·rw [h.2.2.1,List.length_map]
    exact Nat.le_trans (List.length_filter_le _ _) (by rw [List.length_take]; lia)
   ·obtain ⟨sk,hy,ey,hk⟩:=h
    obtain ⟨c',hc,rfl⟩:∃ c',(bI r.2.1)[k]? = some c'/\v=V.str c':=by
     rw [List.getElem?_map] at hx
     cases e:(bI r.2.1)[k]? with
     | none=>rw [e] at hx; cases hx
     | some d=>rw [e] at hx; exact ⟨d,rfl,(Option.some.inj hx).symm⟩
    have hk1:k < (bI r.2.1).length:=(List.getElem?_eq_some_iff.mp hc).1
    have hpo:=sk _ _ (s5 _ _ h4)
    have etk:((bI r.2.1).take (k+1)).filter (fun x=>decide (x∈bI r.2.2.1))=((bI r.2.1).take k).filter (fun x=>decide (x∈bI r.2.2.1))++if c'∈bI r.2.2.1 then [c'] else []:=by
     rw [List.take_add_one,hc,List.filter_append]
     refine congrArg _ ?_
     show List.filter _ [c']=_
     rw [List.filter_cons]
     by_cases z:c'∈bI r.2.2.1
     ·rw [if_pos z,if_pos (decide_eq_true z)]; rfl
     ·rw [if_neg z,if_neg (by rw [decide_eq_false z]; decide)]; rfl
    refine ⟨Ext.set rfl,_,rfl,_,rfl,po,_,rfl,.inl (aI.of hpo),rfl,ji _,_,rfl,?_⟩
    by_cases z:c'∈bI r.2.2.1
    ·rw [if_pos z] at etk
     refine eqT (by rw [iz]; exact decide_eq_true z) ⟨_,rfl,r' _ _ hy ⟨sk.upd hD _,ah,?_,hk1⟩⟩
     rw [etk,List.map_append,<- ey]
     rfl
    ·rw [if_neg z,List.append_nil] at etk
     exact AY (by rw [iz]; exact decide_eq_false z) (r0 _ ⟨sk,hy,by rw [etk,ey],hk1⟩)
   ·obtain ⟨sk,hy,ey,_⟩:=h
    rw [List.take_of_length_le (by lia)] at ey
    rw [ey] at hy
    exact q D _ (s15.trans sk) (s15.free hD) hy
 ·exact ⟨_,rfl,x,rfl,gr,.inr ⟨hx,q⟩⟩
theorem zB (F:aW K "_law_asked" "_law_asked" mv f fd) {f0:Addr} {fd0:FuncData} (g4:Def P w K mg base "ends" ["name"] 11 (jA K ca er) f0 fd0) {f1:Addr} {fd1:FuncData} (mG:Def P w K mg base "back_of" ["name"] 12 (nZ K ca er) f1 fd1) {f2:Addr} {fd2:FuncData} (mC:Def P w K mg base "carried_by" ["name"] 12 (nW K ca er) f2 fd2) {f3:Addr} {fd3:FuncData} (kU:Def P w K mg base "way_of" ["name"] 10 (ou K ca er) f3 fd3):aH P w K mg base (hV P w) 13 f fd ["_law_kind","_law_name"] (rD K ca er):=by
 refine F.okE Aj (fun vs H Q E h=>?_) (fun cdv A outer s H vs Q E hr h=>?_)
 ·obtain ⟨k,x,rfl,gr,hx,q⟩:=h
  rfl
 obtain ⟨k,x,rfl,gr,hx,q⟩:=h
 refine ⟨_,ar (bG (aQ cP (pv 0) aw (bb _)) (au (aG (i7 g9 g4 hr (af (pv 1) aq)))) aV)
  (ar (bG (aQ cP (pv 0) aw (bb _)) (au (aG (i7 g9 mG hr (af (pv 1) aq)))) aV)
  (ar (bG (aQ cP (pv 0) aw (bb _)) (au (aG (i7 g9 mC hr (af (pv 1) aq)))) aV)
  (au (aG (i7 g9 kU hr (af (pv 1) aq)))))),?_⟩
 refine ⟨_,rfl,rfl,_,rfl,jM (fun _=>⟨_,rfl,x,rfl,gr,.inr ⟨hx,q⟩⟩) (fun _=>?_)⟩
 refine ⟨_,rfl,rfl,_,rfl,jM (fun _=>⟨_,rfl,x,rfl,gr,.inr ⟨hx,q⟩⟩) (fun _=>?_)⟩
 refine ⟨_,rfl,rfl,_,rfl,jM (fun _=>⟨_,rfl,x,rfl,gr,.inr ⟨hx,q⟩⟩) (fun _=>?_)⟩
 exact ⟨_,rfl,x,rfl,gr,.inr ⟨hx,q⟩⟩
theorem AL (F:aW K "_law_is_no_way" "_law_is_no_way" lW f fd) (aN:mg "isinstance" = none) (iX:mg "ValueError" = none):aH P w K mg base bp 1 f fd ["_law_error"] (rp K ca er):=by
 refine F.ok Al (fun vs H Q E h=>?_) (fun cdv A outer s H vs Q E hr h=>?_)
 ·obtain ⟨e,rfl,he,q⟩:=h
  rfl
 obtain ⟨e,rfl,he,q⟩:=h
 refine ⟨_,ar (bG (PW.pt (gb (gI (cR (br (bP) rfl aN bq (af (pv 0) (af (fW (v:=.ref er.way) rfl EO.m_way rfl) aq))))) (gX (gI (cR (br (bP) rfl aN bq (af (pv 0) (af (jJ (v:=.ty "ValueError") rfl iX qy rfl) aq)))))))) (au (aG ip)) aV)
  (ar (bG (PW.pt (gb (cR (br (bP) rfl aN bq (af (pv 0) (af (fW (v:=.ref er.size) rfl EO.m_size rfl) aq)))) (gb (cR (br (bP) rfl aN bq (af (pv 0) (af (fW (v:=.ref er.number) rfl EO.m_number rfl) aq)))) (gX (cR (br (bP) rfl aN bq (af (pv 0) (af (fW (v:=.ref er.thing) rfl EO.m_thing rfl) aq)))))))) (au (aG ip)) aV)
  (ar (bG (PW.pt (gb (cR (br (bP) rfl aN bq (af (pv 0) (af (fW (v:=.ref er.family) rfl EO.m_family rfl) aq)))) (gb (cR (br (bP) rfl aN bq (af (pv 0) (af (fW (v:=.ref er.apart) rfl EO.m_apart rfl) aq)))) (gX (cR (br (bP) rfl aN bq (af (pv 0) (af (fW (v:=.ref er.broken) rfl EO.m_broken rfl) aq)))))))) (au (aG ip)) aV)
  (au (aG (wQ (wA (br (bP) rfl aN bq (af (pv 0) (af (fW (v:=.ref er.mark) rfl EO.m_mark rfl) aq)))) (xm (wA (br (bP) rfl aN bq (af (pv 0) (af (fW (v:=.ref er.text) rfl EO.m_text rfl) aq)))))))))),?_⟩
 refine ⟨_,rfl,e,_,_,er.way,_,rfl,h7,he,EO.k_way,EO.way_way,_,rfl,dn ⟨_,rfl,e,_,_,er.way,_,rfl,og,he,EO.k_way,EO.way_value,_,rfl,dn ?_⟩⟩
 refine ⟨_,rfl,e,_,_,er.way,_,rfl,h7,he,EO.k_way,EO.way_size,_,rfl,dn ⟨_,rfl,e,_,_,er.way,_,rfl,h7,he,EO.k_way,EO.way_number,_,rfl,dn ⟨_,rfl,e,_,_,er.way,_,rfl,h7,he,EO.k_way,EO.way_thing,_,rfl,dn ?_⟩⟩⟩
 refine ⟨_,rfl,e,_,_,er.way,_,rfl,h7,he,EO.k_way,EO.way_family,_,rfl,dn ⟨_,rfl,e,_,_,er.way,_,rfl,h7,he,EO.k_way,EO.way_apart,_,rfl,dn ⟨_,rfl,e,_,_,er.way,_,rfl,h7,he,EO.k_way,EO.way_broken,_,rfl,dn ?_⟩⟩⟩
 exact ⟨_,rfl,e,_,_,er.way,_,rfl,h7,he,EO.k_way,EO.way_mark,_,rfl,_,rfl,g7 ⟨_,rfl,e,_,_,er.way,_,rfl,h7,he,EO.k_way,EO.way_text,_,rfl,q⟩⟩
theorem BR (F:aW K "_law_refused" "_law_refused" kT f fd) {f0:Addr} {fd0:FuncData} (v3:Def P w K mg base "_law_asked" ["_law_kind","_law_name"] 13 (rD K ca er) f0 fd0) {f1:Addr} {fd1:FuncData} (uV:Def P w K mg base "_law_is_no_way" ["_law_error"] 1 (rp K ca er) f1 fd1):aH P w K mg base bp 14 f fd ["_law_kind","_law_name"] (se K ca er):=by
 refine F.ok n8 (fun vs H Q E h=>?_) (fun cdv A outer s H vs Q E hr h=>?_)
 ·obtain ⟨k,x,rfl,gr,hx,q⟩:=h
  rfl
 obtain ⟨k,x,rfl,gr,hx,q⟩:=h
 refine ⟨_,ar (aJ (i:=2) n8.nd rfl (Or.inl rfl) A7)
  (ar (x9 (i:=3) rfl rfl rfl n8.nd rfl rfl rfl EO.m_kin (za v3 hr (fun _ _=>(af (pv 0) (af (pv 1) aq)))) (fun _=>(au (aJ (i:=2) n8.nd rfl (Or.inl rfl) (pv 3)))))
  (au (aG (bw uV hr (af (pv 2) aq))))),?_⟩
 refine ⟨_,rfl,_,rfl,k,x,rfl,gr,hx,fun H1 s1=>⟨EO.c_way,fun e he=>⟨_,rfl,?_⟩⟩⟩
 exact ⟨_,rfl,e,rfl,ah,q _ (ai.new s1 he _)⟩
theorem Bn (F:aW K "_law_texts" "_law_texts" mE f fd) (aN:mg "isinstance" = none) (ig:mg "list" = none) (dm:mg "len" = none) (dE:mg "range" = none) (lC:mg "str" = none):aH P w K mg base bp 1 f fd ["_law_found","_law_due"] (rF K ca):=by
 refine F.ok wC (fun vs H Q E h=>?_) (fun cdv A outer s H vs Q E hr h=>?_)
 ·obtain ⟨p,r,ns,rfl,hp,hr2,hz,q⟩:=h
  rfl
 obtain ⟨p,r,ns,rfl,hp,hr2,hz,q⟩:=h
 refine ⟨_,ar (bG (PW.pt (gb (gI (cR (br iG rfl aN bq (af (pv 0) (af (jJ (v:=.ty "list") rfl ig oR rfl) aq))))) (gX (aQ jN (br ej rfl dm h8 (af (pv 0) aq)) (br ej rfl dm h8 (af (pv 1) aq)) (bb _))))) (au (aG ip)) aV)
  (ar (gG PassesOwn.never rfl (hJ rfl dE (af (br ej rfl dm h8 (af (pv 1) aq)) aq)) (bD (i:=2) wC.nd rfl (Or.inl rfl)) (au (bG (PW.pt (gb (gI (cR (br iG rfl aN bq (af (bH bL (pv 0) (pv 2) (fun _ _=>rfl)) (af (jJ (v:=.ty "str") rfl lC wM rfl) aq))))) (gX (aQ jN (bH bL (pv 0) (pv 2) (fun _ _=>rfl)) (bH bL (pv 1) (pv 2) (fun _ _=>rfl)) (bb _))))) (au (aG ip)) aV)))
  (au (aG ip))),?_⟩
 have lm:(ns.map V.str).length=ns.length:=List.length_map _
 refine ⟨_,rfl,_,_,_,_,_,rfl,og,.lst hp,qB,_,rfl,dn ⟨_,rfl,p,_,rfl,.inl (aI.of hp),_,rfl,r,_,rfl,.inl (aI.of hr2),rfl,_,rfl,jV rfl ?_⟩⟩
 refine ⟨_,rfl,r,_,rfl,.inl (aI.of hr2),_,rfl,by lia,by lia,hU (lo:=0) (n:=(((ns.map V.str).length:Nat):Int).toNat) (fun i σ H'=>H=H'/\∃ o,σ=[some (.ref p),some (.ref r),o]) ⟨rfl,_,rfl⟩ ?_ ?_⟩
 ·rintro i σ H' hi ⟨rfl,o,rfl⟩
  have hik:i < ns.length:=by lia
  have ei:(ns.map V.str)[i]? = some (.str ns[i]):=by rw [List.getElem?_map,List.getElem?_eq_getElem hik]; rfl
  have at1:iy (ns.map V.str) ((0:Int)+(i:Int))=some (.str ns[i]):=by rw [Int.zero_add]; exact hW ei
  refine ⟨_,rfl,_,rfl,p,_,_,_,rfl,rfl,aI.of hp,at1,_,_,_,_,_,rfl,og,.str _,mR,_,rfl,dn ⟨_,rfl,_,rfl,p,_,_,_,rfl,rfl,aI.of hp,at1,_,rfl,_,rfl,r,_,_,_,rfl,rfl,aI.of hr2,at1,rfl,_,rfl,jV rfl ⟨rfl,_,rfl⟩⟩⟩
 ·rintro σ H' ⟨rfl,o,rfl⟩
  exact q
theorem BS (F:aW K "_law_marks" "_law_marks" lX f fd):aH P w K mg base bp 1 f fd ["_law_word"] (rh K ca):=by
 refine F.ok zI (fun vs H Q E h=>?_) (fun cdv A outer s H vs Q E hr h=>?_)
 ·obtain ⟨w,rfl,q⟩:=h
  rfl
 obtain ⟨w,rfl,q⟩:=h
 refine ⟨_,ar (bG (PW.pt (gb (aQ cP (pv 0) ao (bb _)) (gb (aQ cP (pv 0) ao (bb _)) (gX (aQ cP (pv 0) ao (bb _)))))) (au (aG (bY (af ao (af ao aq))))) aV)
  (ar (bG (PW.pt (gb (aQ cP (pv 0) ao (bb _)) (gX (aQ cP (pv 0) ao (bb _))))) (au (aG (bY (af ao (af ao aq))))) aV)
  (au (aG (bY (af ao (af ao (af ao aq))))))),?_⟩
 by_cases c:w = "trees"\/w = "codes"\/w = "cars"
 ·have e:bI w=([Str.ofString "leaves",Str.ofString "rootage"]:List Str):=if_pos c
  refine ⟨_,rfl,rfl,_,rfl,?_⟩
  by_cases c1:w = "trees"
  ·exact hZ (congrArg V.str c1) (g7 ⟨(by show 2<=sizeLine; decide),fun u hu=>q u _ (ai.new (ai.refl H) hu _) hu (by rw [ah,e]; rfl)⟩)
  refine gJ (fun z=>c1 (V.str.inj z)) ⟨_,rfl,rfl,_,rfl,?_⟩
  by_cases c2:w = "codes"
  ·exact hZ (congrArg V.str c2) (g7 ⟨(by show 2<=sizeLine; decide),fun u hu=>q u _ (ai.new (ai.refl H) hu _) hu (by rw [ah,e]; rfl)⟩)
  refine gJ (fun z=>c2 (V.str.inj z)) ⟨_,rfl,rfl,_,rfl,?_⟩
  have c3:w = "cars":=by
   rcases c with c | c | c
   ·exact absurd c c1
   ·exact absurd c c2
   ·exact c
  exact hZ (congrArg V.str c3) ⟨(by show 2<=sizeLine; decide),fun u hu=>q u _ (ai.new (ai.refl H) hu _) hu (by rw [ah,e]; rfl)⟩
 refine ⟨_,rfl,rfl,_,rfl,gJ (fun z=>c (.inl (V.str.inj z))) ⟨_,rfl,rfl,_,rfl,gJ (fun z=>c (.inr (.inl (V.str.inj z)))) ⟨_,rfl,rfl,_,rfl,gJ (fun z=>c (.inr (.inr (V.str.inj z)))) ?_⟩⟩⟩
 by_cases d:w = "rooms"\/w = "floor"
 ·have e:bI w=([Str.ofString "peaks",Str.ofString "returns"]:List Str):=(if_neg c).trans (if_pos d)
  refine ⟨_,rfl,rfl,_,rfl,?_⟩
  by_cases c1:w = "rooms"
  ·exact hZ (congrArg V.str c1) (g7 ⟨(by show 2<=sizeLine; decide),fun u hu=>q u _ (ai.new (ai.refl H) hu _) hu (by rw [ah,e]; rfl)⟩)
  have c3:w = "floor":=d.resolve_left c1
  exact gJ (fun z=>c1 (V.str.inj z)) ⟨_,rfl,rfl,_,rfl,hZ (congrArg V.str c3) ⟨(by show 2<=sizeLine; decide),fun u hu=>q u _ (ai.new (ai.refl H) hu _) hu (by rw [ah,e]; rfl)⟩⟩
 have e:bI w=([Str.ofString "peaks",Str.ofString "returns",Str.ofString "height"]:List Str):=(if_neg c).trans (if_neg d)
 exact ⟨_,rfl,rfl,_,rfl,gJ (fun z=>d (.inl (V.str.inj z))) ⟨_,rfl,rfl,_,rfl,gJ (fun z=>d (.inr (V.str.inj z))) ⟨(by show 3<=sizeLine; decide),fun u hu=>q u _ (ai.new (ai.refl H) hu _) hu (by rw [ah,e]; rfl)⟩⟩⟩
theorem Bk (F:aW K "_law_carried" "_law_carried" kZ f fd) {f0:Addr} {fd0:FuncData} (qR:Def P w K mg base "_law_marks" ["_law_word"] 1 (rh K ca) f0 fd0):aH P w K mg base bp 2 f fd ["_law_row"] (rH K ca):=by
 refine F.ok kj (fun vs H Q E h=>?_) (fun cdv A outer s H vs Q E hr h=>?_)
 ·obtain ⟨p,r,rfl,hp,q⟩:=h
  rfl
 obtain ⟨p,r,rfl,hp,q⟩:=h
 refine ⟨_,ar (rZ (pv 0) (xt rfl (gH (bD (i:=1) kj.nd rfl (Or.inl rfl)) (gH (bD (i:=2) kj.nd rfl (Or.inl rfl)) (gH (bD (i:=3) kj.nd rfl (Or.inr rfl)) (gH (bD (i:=4) kj.nd rfl (Or.inl rfl)) ug))))))
  (oP (bG (PW.pt (n6 (cR (jR PySem.F.plainAttrs_str PySem.F.slot_str_endswith PySem.F.type_str_endswith uf (pv 1) (af ao aq))) (n6 (aQ jN (pv 2) ao (bb _)) (oO (aQ jN (pv 2) ao (bb _)))))) (au (aG (bY (af ao (af ao (af ao aq)))))) aV)
  (oP (bG (PW.pt (gb (PW.pt (n6 (aQ xr ao (pv 1) (by rfl)) (oO (gI (cR (jR PySem.F.plainAttrs_str PySem.F.slot_str_endswith PySem.F.type_str_endswith uf (pv 1) (af ao aq))))))) (gb (aQ cP (pv 1) ao (bb _)) (gX (aQ cP (pv 1) ao (bb _)))))) (au (aG (bY aq))) aV)
  (au (aG (ua rfl (gN (bw qR hr (af (pv 2) aq))) rfl rfl rfl rfl (N:=["_law_one","_law_last"]) (.own (.cap (j:=3) rfl rfl rfl .nil)) (fun _ _ _ _ _ _=>(bD (i:=0) (by show List.Nodup (["_law_one","_law_last"]:List Str); decide +kernel) rfl (Or.inl rfl))) (fun _ _ _ _ _ _=>(pB (aQ (ot (K:=K) rfl) (pv 0) (bw qR hr (af (pv 1) aq)) (by rfl)))) (fun _ _ _ _ _ _=>(pv 0))))))),?_⟩
 obtain ⟨nm',fi,la,ba⟩:=r
 refine ⟨_,rfl,p,_,rfl,fZ.of hp,rfl,_,_,rfl,_,_,rfl,_,_,rfl,_,_,rfl,rfl,?_⟩
 refine ⟨fun σ H'=>σ=[some (.ref p),some (.str nm'),some (.str fi),some (.str la),some (.str ba)]/\H=H'/\rS (nm',fi,la,ba)=false,?_,?_⟩
 ·refine ⟨_,rfl,rfl,nm',_,rfl,rfl,_,rfl,?_⟩
  cases ha:Txt.endswith nm' (Str.ofString ":mirror") with
  | false=>exact dn (dn ⟨rfl,rfl,by show (Txt.endswith nm' (Str.ofString ":mirror")&&_)=false; rw [ha]; rfl⟩)
  | true =>
   refine g7 ⟨_,rfl,rfl,_,rfl,?_⟩
   by_cases c1:fi = "twins"
   ·exact jV (congrArg V.str c1) (dn ⟨rfl,rfl,by unfold rS; simp [c1]⟩)
   refine uJ (fun z=>c1 (V.str.inj z)) ⟨_,rfl,rfl,_,rfl,?_⟩
   by_cases c2:fi = "floor"
   ·exact jV (congrArg V.str c2) ⟨rfl,rfl,by unfold rS; simp [c2]⟩
   have m:rS (nm',fi,la,ba)=true:=by
    show (Txt.endswith nm' (Str.ofString ":mirror")&&(decide (fi≠"twins")&&decide (fi≠"floor")))=true
    rw [ha,decide_eq_true c1,decide_eq_true c2]
    rfl
   have e:jY (nm',fi,la,ba)=([Str.ofString "peaks",Str.ofString "returns",Str.ofString "height"]:List Str):=if_pos m
   exact uJ (fun z=>c2 (V.str.inj z)) ⟨(by show 3<=sizeLine; decide),fun u hu=>q u _ (ai.new (ai.refl H) hu _) hu (by rw [ah,e]; rfl)⟩
 rintro σ H' ⟨rfl,rfl,hm⟩
 refine ⟨fun σ H'=>σ=[some (.ref p),some (.str nm'),some (.str fi),some (.str la),some (.str ba)]/\H=H'/\bare (nm',fi,la,ba)=false,?_,?_⟩
 ·have nob:bare (nm',fi,la,ba)=true->jY (nm',fi,la,ba)=[]:=fun h=>(if_neg (by rw [hm]; decide)).trans (if_pos h)
  have eb:bare (nm',fi,la,ba)=((!(Builtin.Str.occurrences nm' ":" 0 nm'.length 1).isEmpty&&!Txt.endswith nm' ":parts") || (decide (nm' = "cars>codes") || decide (nm' = "codes>cars"))):=rfl
  refine ⟨_,rfl,_,nm',rfl,rfl,_,rfl,?_⟩
  cases h0:(Builtin.Str.occurrences nm' (Str.ofString ":") 0 nm'.length 1).isEmpty with
  | true =>
   refine dn (dn ⟨_,rfl,rfl,_,rfl,?_⟩)
   by_cases c1:nm' = "cars>codes"
   ·exact hZ (congrArg V.str c1) (g7 ⟨Nat.zero_le _,fun u hu=>q u _ (ai.new (ai.refl H) hu _) hu (by rw [ah,nob (by rw [eb,decide_eq_true c1]; simp)]; rfl)⟩)
   refine gJ (fun z=>c1 (V.str.inj z)) ⟨_,rfl,rfl,_,rfl,?_⟩
   by_cases c2:nm' = "codes>cars"
   ·exact hZ (congrArg V.str c2) ⟨Nat.zero_le _,fun u hu=>q u _ (ai.new (ai.refl H) hu _) hu (by rw [ah,nob (by rw [eb,decide_eq_true c2]; simp)]; rfl)⟩
   exact gJ (fun z=>c2 (V.str.inj z)) ⟨rfl,rfl,by rw [eb,h0,decide_eq_false c1,decide_eq_false c2]; rfl⟩
  | false =>
   refine g7 ⟨_,rfl,rfl,nm',_,rfl,rfl,_,rfl,?_⟩
   cases h1:Txt.endswith nm' (Str.ofString ":parts") with
   | false=>exact g7 (g7 ⟨Nat.zero_le _,fun u hu=>q u _ (ai.new (ai.refl H) hu _) hu (by rw [ah,nob (by rw [eb,h0,h1]; rfl)]; rfl)⟩)
   | true =>
    refine dn ⟨_,rfl,rfl,_,rfl,?_⟩
    by_cases c1:nm' = "cars>codes"
    ·exact hZ (congrArg V.str c1) (g7 ⟨Nat.zero_le _,fun u hu=>q u _ (ai.new (ai.refl H) hu _) hu (by rw [ah,nob (by rw [eb,decide_eq_true c1]; simp)]; rfl)⟩)
    refine gJ (fun z=>c1 (V.str.inj z)) ⟨_,rfl,rfl,_,rfl,?_⟩
    by_cases c2:nm' = "codes>cars"
    ·exact hZ (congrArg V.str c2) ⟨Nat.zero_le _,fun u hu=>q u _ (ai.new (ai.refl H) hu _) hu (by rw [ah,nob (by rw [eb,decide_eq_true c2]; simp)]; rfl)⟩
    exact gJ (fun z=>c2 (V.str.inj z)) ⟨rfl,rfl,by rw [eb,h0,h1,decide_eq_false c1,decide_eq_false c2]; rfl⟩
 rintro σ H' ⟨rfl,rfl,hbr⟩
 have e:jY (nm',fi,la,ba)=(bI fi).filter fun x=>decide (x∈bI la):=(if_neg (by rw [hm]; decide)).trans (if_neg (by rw [hbr]; decide))
 rw [e] at q
 have lm:∀ w,(bI w).length<=3:=fun w=>by unfold bI; split; decide; split<;>decide
 have lm1:=lm fi
 have lml:((bI fi).map V.str).length=(bI fi).length:=List.length_map _
 refine ⟨_,rfl,fi,rfl,fun pm5 H5 s5 f5 h5=>?_⟩
 refine ⟨pm5,rfl,⟨_,aI.of h5⟩,fun D hD=>kA (xs:=(bI fi).map V.str) (fun k ys H'=>ai H5 H'/\H' D=some (.lst ys)/\ys=(((bI fi).take k).filter fun x=>decide (x∈bI la)).map V.str/\k<=(bI fi).length) (sz (by lia)) ⟨ai.new (ai.refl H5) hD _,ah,rfl,Nat.zero_le _⟩ (fun k ys H' hk h=>⟨aI.of (h.1 _ _ h5),?_⟩) (fun k v ys H' R R0 hx h r' r0=>?_) (fun ys H' h=>?_)⟩
 ·rw [h.2.2.1,List.length_map]
  exact Nat.le_trans (List.length_filter_le _ _) (by rw [List.length_take]; lia)
 ·obtain ⟨sk,hy,ey,hk⟩:=h
  obtain ⟨c',hc,rfl⟩:∃ c',(bI fi)[k]? = some c'/\v=V.str c':=by
   rw [List.getElem?_map] at hx
   cases e:(bI fi)[k]? with
   | none=>rw [e] at hx; cases hx
   | some d=>rw [e] at hx; exact ⟨d,rfl,(Option.some.inj hx).symm⟩
  have hk1:k < (bI fi).length:=(List.getElem?_eq_some_iff.mp hc).1
  have etk:((bI fi).take (k+1)).filter (fun x=>decide (x∈bI la))=((bI fi).take k).filter (fun x=>decide (x∈bI la))++if c'∈bI la then [c'] else []:=by
   rw [List.take_add_one,hc,List.filter_append]
   refine congrArg _ ?_
   show List.filter _ [c']=_
   rw [List.filter_cons]
   by_cases z:c'∈bI la
   ·rw [if_pos z,if_pos (decide_eq_true z)]; rfl
   ·rw [if_neg z,if_neg (by rw [decide_eq_false z]; decide)]; rfl
  refine ⟨Ext.set rfl,_,rfl,_,rfl,la,rfl,fun po H6 s6 f6 h6=>⟨po,_,rfl,.inl (aI.of h6),rfl,ji _,_,rfl,?_⟩⟩
  have hy6:=s6 _ _ hy
  by_cases z:c'∈bI la
  ·rw [if_pos z] at etk
   refine eqT (by rw [iz]; exact decide_eq_true z) ⟨_,rfl,r' _ _ hy6 ⟨(sk.trans s6).upd hD _,ah,?_,hk1⟩⟩
   rw [etk,List.map_append,<- ey]
   rfl
  ·rw [if_neg z,List.append_nil] at etk
   exact AY (by rw [iz]; exact decide_eq_false z) (r0 _ ⟨sk.trans s6,hy6,by rw [etk,ey],hk1⟩)
 ·obtain ⟨sk,hy,ey,_⟩:=h
  rw [List.take_of_length_le (by lia)] at ey
  rw [ey] at hy
  exact q D _ (s5.trans sk) (s5.free hD) hy
theorem Ay (F:aW K "_law_good" "_law_good" mB f fd) {f0:Addr} {fd0:FuncData} (g4:Def P w K mg base "ends" ["name"] 11 (jA K ca er) f0 fd0) {f1:Addr} {fd1:FuncData} (qQ:Def P w K mg base "_law_texts" ["_law_found","_law_due"] 1 (rF K ca) f1 fd1) {f2:Addr} {fd2:FuncData} (mG:Def P w K mg base "back_of" ["name"] 12 (nZ K ca er) f2 fd2) {f3:Addr} {fd3:FuncData} (u6:Def P w K mg base "_law_carried" ["_law_row"] 2 (rH K ca) f3 fd3) {f4:Addr} {fd4:FuncData} (mC:Def P w K mg base "carried_by" ["name"] 12 (nW K ca er) f4 fd4) (aN:mg "isinstance" = none) (pJ:mg "tuple" = none) (dm:mg "len" = none) (ig:mg "list" = none) (lC:mg "str" = none):aH P w K mg base bp 13 f fd ["_law_row"] (tm K ca er):=by
 refine F.ok i4 (fun vs H Q E h=>?_) (fun cdv A outer s H vs Q E hr h=>?_)
 ·obtain ⟨p,r,rfl,hp,hin,gr,q⟩:=h
  rfl
 obtain ⟨p,r,rfl,hp,hin,gr,q⟩:=h
 refine ⟨_,ar (rZ (pv 0) (xt rfl (gH (bD (i:=1) i4.nd rfl (Or.inl rfl)) (gH (bD (i:=2) i4.nd rfl (Or.inl rfl)) (gH (bD (i:=3) i4.nd rfl (Or.inl rfl)) (gH (bD (i:=4) i4.nd rfl (Or.inl rfl)) ug))))))
  (ar (aJ (i:=5) i4.nd rfl (Or.inl rfl) (bw g4 hr (af (pv 1) aq)))
  (ar (bG (PW.pt (gb (gI (cR (br iG rfl aN bq (af (pv 5) (af (jJ (v:=.ty "tuple") rfl pJ yr rfl) aq))))) (gb (aQ jN (br ej rfl dm h8 (af (pv 5) aq)) aw (bb _)) (gX (gI (cR (bw qQ hr (af (qd rV rfl ig oR (af (pv 5) aq)) (af (bY (af (pv 2) (af (pv 3) aq))) aq))))))))) (au (aG ip)) aV)
  (ar (aJ (i:=5) i4.nd rfl (Or.inl rfl) (bw mG hr (af (pv 1) aq)))
  (ar (bG (PW.pt (gb (gI (cR (br iG rfl aN bq (af (pv 5) (af (jJ (v:=.ty "str") rfl lC wM rfl) aq))))) (gX (aQ jN (pv 5) (pv 4) (bb _))))) (au (aG ip)) aV)
  (au (aG (bw qQ hr (af (bw mC hr (af (pv 1) aq)) (af (bw u6 hr (af (pv 0) aq)) aq))))))))),?_⟩
 obtain ⟨nm',fi,la,ba⟩:=r
 have z:1000<=sizeLine:=by decide
 refine ⟨_,rfl,p,_,rfl,fZ.of hp,rfl,_,_,rfl,_,_,rfl,_,_,rfl,_,_,rfl,rfl,?_⟩
 refine ⟨_,rfl,nm',rfl,gr,.inl ⟨(nm',fi,la,ba),hin,rfl,fun u1 H1 s1 f1 h1=>?_⟩⟩
 refine ⟨_,rfl,_,_,_,_,_,rfl,og,.tup h1,n9,_,rfl,dn ⟨_,rfl,u1,_,rfl,.inr (fZ.of h1),rfl,_,rfl,jV rfl ?_⟩⟩
 refine ⟨_,rfl,u1,_,rfl,.inr (fZ.of h1),fun c hc=>⟨_,rfl,_,rfl,(by show 2<=sizeLine; decide),fun d hd=>?_⟩⟩
 have k1:=ai.new (ai.refl H1) hc (.lst [.str fi,.str la])
 have k2:=ai.new (ai.refl _) hd (.lst [.str fi,.str la])
 refine ⟨c,d,[fi,la],rfl,k2 _ _ ah,ah,by show 2<=1000; decide,_,rfl,dn ?_⟩
 have t2:=s1.trans (k1.trans k2)
 generalize upd (upd H1 c (.lst [.str fi,.str la])) d (.lst [.str fi,.str la])=H2 at k2 t2 |-
 refine ⟨_,rfl,nm',rfl,gr.same t2,.inl ⟨(nm',fi,la,ba),hin,rfl,fun H3 s3=>?_⟩⟩
 refine ⟨_,rfl,_,_,_,_,_,rfl,og,.str _,mR,_,rfl,dn ⟨_,rfl,_,rfl,rfl,_,rfl,jV rfl ?_⟩⟩
 have t3:=t2.trans s3
 refine ⟨_,rfl,nm',rfl,gr.same t3,.inl ⟨(nm',fi,la,ba),hin,rfl,fun u4 H4 s4 f4 h4=>?_⟩⟩
 rw [Bl hin] at h4
 have t4:=t3.trans s4
 refine ⟨_,rfl,p,(nm',fi,la,ba),rfl,t4 _ _ hp,fun u5 H5 s5 f5 h5=>?_⟩
 have lm:∀ w,(bI w).length<=3:=fun w=>by unfold bI; split; decide; split<;>decide
 have lc:(jY (nm',fi,la,ba)).length<=1000:=by
  unfold jY
  split
  ·show 3<=1000; decide
  split
  ·exact Nat.zero_le _
  ·exact Nat.le_trans (List.length_filter_le _ _) (Nat.le_trans (lm _) (by decide))
 exact ⟨u4,u5,jY (nm',fi,la,ba),rfl,s5 _ _ h4,h5,lc,q _ (t4.trans s5)⟩
theorem zU (F:aW K "law" "law" iQ f fd) {f0:Addr} {fd0:FuncData} (va:Def P w K mg base "_law_ways" [] 2 (rO K ca) f0 fd0) {f1:Addr} {fd1:FuncData} (uF:Def P w K mg base "_law_draws" ["_law_script","_law_turn","_law_many"] 2 (rm K ca) f1 fd1) {f2:Addr} {fd2:FuncData} (vX:Def P w K mg base "_law_spoiled" ["_law_name","_law_cell","_law_number"] 2 (sf K ca) f2 fd2) {f3:Addr} {fd3:FuncData} (uY:Def P w K mg base "_law_refused" ["_law_kind","_law_name"] 14 (se K ca er) f3 fd3) {f4:Addr} {fd4:FuncData} (uG:Def P w K mg base "_law_good" ["_law_row"] 13 (tm K ca er) f4 fd4) (dE:mg "range" = none) (dm:mg "len" = none):aH P w K mg base bp 15 f fd ["_law_script"] (Bf K ca er):=by
 refine F.ok ij (fun vs H Q E h=>?_) (fun cdv A outer s H vs Q E hr h=>?_)
 ·obtain ⟨a,ns,rfl,hS,h63,gr,q⟩:=h
  rfl
 obtain ⟨a,ns,rfl,hS,h63,gr,q⟩:=h
 refine ⟨_,ar (aJ (i:=1) ij.nd rfl (Or.inl rfl) (gZ va hr))
  (ar (aJ (i:=2) ij.nd rfl (Or.inl rfl) (bw uF hr (af (pv 0) (af aw (af aw aq)))))
  (ar (gG PassesOwn.never rfl (hJ rfl dE (af aw aq)) (bD (i:=3) ij.nd rfl (Or.inl rfl)) (ar (aJ (i:=4) ij.nd rfl (Or.inl rfl) (bH bL (pv 2) (aA gS aw (pv 3)) (fun _ _=>rfl)))
  (ar (aJ (i:=5) ij.nd rfl (Or.inl rfl) (bH bL (pv 1) (aA cA (pv 4) (br ej rfl dm h8 (af (pv 1) aq))) (fun _ _=>rfl)))
  (oP (bG (aQ cP (aA cA (aA g6 (pv 4) aw) aw) aw (bb _)) (ar (aJ (i:=6) ij.nd rfl (Or.inr rfl) (bw vX hr (af (bH ib (pv 5) aw (fun _ _=>rfl)) (af (aA cA (bH bL (pv 2) (aA gE (aA gS aw (pv 3)) aw) (fun _ _=>rfl)) (aA Aq aw aw)) (af (bH bL (pv 2) (aA gE (aA gS aw (pv 3)) aw) (fun _ _=>rfl)) aq)))))
  (ar (nQ (i:=7) ij.nd rfl (Or.inl rfl) rfl rfl (gN (pv 1)) rfl rfl rfl rfl (N:=["_law_other","_law_name"]) (.own (.cap (j:=6) rfl rfl rfl .nil)) (fun _ _ _ _ _ _=>(bD (i:=0) (by show List.Nodup (["_law_other","_law_name"]:List Str); decide +kernel) rfl (Or.inl rfl))) (fun _ _ _ _ _ _=>(pB (aQ cP (bH (zd (K:=K) rfl) (pv 0) aw (fun _ _=>rfl)) (pv 1) (bb _)))) (fun _ _ _ _ _ _=>(pv 0)))
  (ar (bG (PW.pt (n6 (aQ (Bj (qW hr)) (pv 7) (bY aq) (bb _)) (oO (gI (cR (bw uY hr (af (aA cA (aA g6 (pv 4) aw) aw) (af (pv 6) aq)))))))) (au (aG ip)) aV)
  (au (bG (aQ (rP (qW hr)) (pv 7) (bY aq) (bb _)) (au (aJ (i:=5) ij.nd rfl (Or.inl rfl) (bH bL (pv 7) aw (fun _ _=>rfl)))) aV))))) aV)
  (au (bG (gI (cR (bw uG hr (af (pv 5) aq)))) (au (aG ip)) aV))))))
  (au (aG ip)))),?_⟩
 have z:1000<=sizeLine:=by decide
 refine ⟨rfl,fun pw H1 s1 f1 w1=>?_⟩
 obtain ⟨xw,ew,ww⟩:=w1
 have lw:xw.length=73:=(Paired.length ww).trans sL
 refine ⟨_,rfl,a,ns,0,18,rfl,s1.seq hS,h63,by decide,by decide,by decide,by decide,fun pd xs H2 s2 f2 h2 lx bx=>?_⟩
 have lx:xs.length=18:=lx
 have t2:=s1.trans s2
 refine ⟨_,rfl,by decide,by decide,hU (lo:=0) (n:=6) (fun k σ H'=>∃ (o1 o2 o3 o4 o5:Option V),σ=[some (.ref a),some (.ref pw),some (.ref pd),o1,o2,o3,o4,o5]/\ai H2 H') ⟨_,_,_,_,_,rfl,ai.refl H2⟩ ?_ ?_⟩
 ·rintro k σ H3 hk ⟨o1,o2,o3,o4,o5,rfl,s3⟩
  have hd3:=s3 _ _ h2
  have ew3:=s3 _ _ (s2 _ _ ew)
  have ww3:=aY ww (s2.trans s3)
  have at0:=iV (ns:=xs) (i:=3*((0:Int)+(k:Int))) (by lia) (by lia)
  have at1:=iV (ns:=xs) (i:=3*((0:Int)+(k:Int))+1) (by lia) (by lia)
  have at2:=iV (ns:=xs) (i:=3*((0:Int)+(k:Int))+2) (by lia) (by lia)
  refine ⟨_,rfl,_,rfl,_,_,rfl,rfl,.inl ⟨by decide,by decide⟩,pd,_,_,_,rfl,rfl,aI.of hd3,at0,?_⟩
  generalize xs.getD (3*((0:Int)+(k:Int))).toNat 0=n
  generalize xs.getD (3*((0:Int)+(k:Int))+1).toNat 0=n1 at at1
  generalize xs.getD (3*((0:Int)+(k:Int))+2).toNat 0=n2 at at2
  have pos:(0:Int) < ((xw.length:Nat):Int):=by lia
  have b0:=Int.emod_nonneg n (show ((xw.length:Nat):Int)≠0 by lia)
  have b1:=Int.emod_lt_of_pos n pos
  obtain ⟨i,ei⟩:∃ i:Nat,n % ((xw.length:Nat):Int)=(i:Int):=⟨_,(Int.toNat_of_nonneg b0).symm⟩
  have ix:i < xw.length:=by lia
  obtain ⟨r,hrw,v0,ev,hv⟩:=uh ww3 (List.getElem?_eq_getElem ix)
  have eat:iy xw (n % ((xw.length:Nat):Int))=some (.ref v0):=by
   rw [ei]
   exact hW (by rw [List.getElem?_eq_getElem ix,ev])
  have rin:=List.mem_of_getElem? hrw
  refine ⟨_,rfl,_,rfl,_,rfl,pw,_,rfl,.inl (aI.of ew3),_,_,rfl,rfl,pm pos,pw,_,_,_,rfl,rfl,aI.of ew3,eat,?_⟩
  refine ⟨fun σ H'=>∃ (v0:Addr) (r:Way) (o4 o5:Option V),σ=[some (.ref a),some (.ref pw),some (.ref pd),some (.int ((0:Int)+(k:Int))),some (.int n),some (.ref v0),o4,o5]/\ai H2 H'/\r∈fS/\H' v0=some (.tup (pK r)),?_,?_⟩
  ·refine ⟨_,rfl,_,_,rfl,rfl,⟨by decide,by decide +kernel⟩,_,_,rfl,rfl,pm (by decide),rfl,_,rfl,jM (fun _=>?_) (fun _=>⟨v0,r,_,_,rfl,s3,rin,hv⟩)⟩
   have lr:r.1.length<=100:=of_decide_eq_true (List.all_eq_true.mp xc _ rin)
   refine ⟨_,rfl,v0,_,_,_,rfl,rfl,fZ.of hv,rfl,?_⟩
   refine ⟨_,rfl,_,rfl,_,_,rfl,rfl,.inl ⟨by decide,by decide⟩,_,_,rfl,rfl,pd,_,_,_,rfl,rfl,aI.of hd3,at1,_,_,rfl,rfl,⟨by decide,by decide,by decide⟩,_,_,rfl,rfl,pm (by decide),?_⟩
   refine ⟨_,rfl,_,rfl,_,_,rfl,rfl,.inl ⟨by decide,by decide⟩,_,_,rfl,rfl,pd,_,_,_,rfl,rfl,aI.of hd3,at2,?_⟩
   refine ⟨r.1,_,n2,rfl,lr,fun y H5 s5=>?_⟩
   have ew5:=s5 _ _ ew3
   have ww5:=aY ww3 s5
   refine ⟨_,rfl,pw,rfl,⟨_,aI.of ew5⟩,fun D hD=>kA (xs:=xw) (fun j ys H'=>ai H5 H'/\H' D=some (.lst ys)/\j<=73/\ys.length<=j/\(∀ v∈ys,∃ r∈fS,gz H5 v r)/\(ys=[]->∀ (i:Nat) (r:Way),i < j->fS[i]? = some r->r.1≠y)) (sz (by lia)) ⟨ai.new (ai.refl H5) hD _,ah,Nat.zero_le _,Nat.zero_le _,fun v hv=>absurd hv (List.not_mem_nil),fun _ i r hi=>absurd hi (Nat.not_lt_zero _)⟩ (fun j ys H' hj h=>⟨aI.of (h.1 _ _ ew5),h.2.2.2.1⟩) (fun j v ys H' R R0 hx h r' r0=>?_) (fun ys H6 h=>?_)⟩
   ·obtain ⟨sk,hy,hj,ly,ally,noy⟩:=h
    obtain ⟨rk,hrk,vk,rfl,hvk⟩:=uh ww5 hx
    have hj1:j < 73:=by have:=(List.getElem?_eq_some_iff.mp hx).1; lia
    refine ⟨Ext.set rfl,_,rfl,vk,_,_,_,rfl,rfl,fZ.of (sk _ _ hvk),rfl,_,rfl,rfl,_,rfl,?_⟩
    by_cases e:rk.1=y
    ·refine hZ (congrArg V.str e) ⟨_,rfl,r' _ _ hy ⟨sk.upd hD _,ah,hj1,by simp; lia,fun v hv=>?_,fun z=>by simp at z⟩⟩
     rcases List.mem_append.mp hv with m | m
     ·exact ally v m
     ·rw [List.mem_singleton.mp m]
      exact ⟨rk,List.mem_of_getElem? hrk,vk,rfl,hvk⟩
    ·refine gJ (fun z=>e (V.str.inj z)) (r0 _ ⟨sk,hy,hj1,by lia,ally,fun z i r hi hr'=>?_⟩)
     by_cases c:i=j
     ·subst c
      rw [hrk] at hr'
      cases hr'
      exact e
     ·exact noy z i r (by lia) hr'
   obtain ⟨sk,hy,-,-,ally,noy⟩:=h
   refine ⟨_,rfl,Nat.zero_le _,fun pe hpe=>?_⟩
   have k7:=ai.new (ai.refl H6) hpe (.lst [])
   have ne7:D≠pe:=bh hy hpe
   have hy7:=k7 _ _ hy
   have he7:upd H6 pe (.lst []) pe=some (.lst []):=ah
   have t7:=s3.trans (s5.trans (sk.trans k7))
   have u7:=sk.trans k7
   generalize upd H6 pe (.lst [])=H7 at k7 hy7 he7 t7 u7 |-
   refine ⟨1,_,by decide,ft.void ne7 (aI.of hy7) (aI.of he7),⟨D,pe,rfl,rfl,ne7⟩,_,rfl,?_⟩
   by_cases e0:ys=[]
   ·have hno:y∉names:=fun m=>by
     obtain ⟨r',m1,m2⟩:=qb.mp m
     obtain ⟨i,hi,e⟩:=List.getElem_of_mem m1
     have hi':i < xw.length:=by rw [sL] at hi; lia
     exact noy e0 i r' hi' (by rw [List.getElem?_eq_getElem hi,e]) m2
    refine eqT (decide_eq_true e0) ⟨_,rfl,_,_,rfl,rfl,⟨by decide,by decide +kernel⟩,_,_,rfl,rfl,pm (by decide),_,rfl,_,y,rfl,gr.same (t2.trans t7),hno,fun H8 s8=>⟨_,rfl,dn ?_⟩⟩
    refine ⟨_,rfl,Nat.zero_le _,fun pf hpf=>?_⟩
    have k9:=ai.new s8 hpf (.lst [])
    have ne9:D≠pf:=bh (s8 _ _ hy7) hpf
    refine ⟨1,_,by decide,ft.void ne9 (aI.of (k9 _ _ hy7)) (aI.of ah),⟨D,pf,rfl,rfl,ne9⟩,_,rfl,Dt (decide_eq_true e0) ?_⟩
    exact ⟨v0,r,_,_,rfl,t7.trans k9,rin,k9 _ _ (u7 _ _ (s5 _ _ hv))⟩
   ·refine AY (decide_eq_false e0) (dn ?_)
    refine ⟨_,rfl,Nat.zero_le _,fun pf hpf=>?_⟩
    have k9:=ai.new (ai.refl H7) hpf (.lst [])
    have ne9:D≠pf:=bh hy7 hpf
    refine ⟨1,_,by decide,ft.void ne9 (aI.of (k9 _ _ hy7)) (aI.of ah),⟨D,pf,rfl,rfl,ne9⟩,_,rfl,neT (decide_eq_false e0) ?_⟩
    cases ys with
    | nil=>exact absurd rfl e0
    | cons u us =>
     obtain ⟨ru,mu,vu,rfl,hu⟩:=ally u (List.mem_cons_self ..)
     have ea:iy (V.ref vu::us) ((0:Nat):Int)=some (V.ref vu):=hW rfl
     exact ⟨_,rfl,D,_,_,_,rfl,rfl,aI.of (k9 _ _ hy7),ea,vu,ru,_,_,rfl,t7.trans k9,mu,k9 _ _ (u7 _ _ hu)⟩
  ·rintro σ H4 ⟨v4,r4,o6,o7,rfl,s4,hr4,hv4⟩
   refine ⟨_,rfl,v4,r4,rfl,hv4,hr4,gr.same (t2.trans s4),fun H5 s5=>⟨_,rfl,dn ?_⟩⟩
   exact ⟨_,_,_,_,_,rfl,s4.trans s5⟩
 ·rintro σ H3 ⟨o1,o2,o3,o4,o5,rfl,s3⟩
  exact q _ (t2.trans s3)
end
noncomputable def A5 (K:W.Frag) (T D:Addr):Sp:=fun vs H Q _=>∃ (a:Addr) (ns:List Int),vs=[.ref a]/\aI K H a (ns.map V.int)/\ns.length<=63/\(∃ oD,xk T D #[] oD pG H)/\∀ H',ai H H'->Q (.bl true) H'
theorem g8 {P:List Value->Prop} (h:P []):∀ us:List Value,us.length=0->P us
 | [],_=>h
theorem bE {P:List Value->Prop} (h:∀ a0:Value,P [a0]):∀ us:List Value,us.length=1->P us
 | [a0],_=>h a0
theorem bX {P:List Value->Prop} (h:∀ a0 a1:Value,P [a0,a1]):∀ us:List Value,us.length=2->P us
 | [a0,a1],_=>h a0 a1
theorem eQ {P:List Value->Prop} (h:∀ a0 a1 a2:Value,P [a0,a1,a2]):∀ us:List Value,us.length=3->P us
 | [a0,a1,a2],_=>h a0 a1 a2
theorem yL {P:List Value->Prop} (h:∀ a0 a1 a2 a3:Value,P [a0,a1,a2,a3]):∀ us:List Value,us.length=4->P us
 | [a0,a1,a2,a3],_=>h a0 a1 a2 a3
theorem all_mk {l:W.OpenLaw} {w:World} {K:W.Frag} {h:Heap} {mg:Str->Option Value} {fa:Addr} (X:K.In h) (G:h.Ns mainGlobals mg) (hfa:mg "law" = some (.ref fa)) {aF:Addr} {aK:Addr} {aR:Addr} {bu:Addr} {aU:Addr} {aP:Addr} {bc:Addr} {az:Addr} {aC:Addr} {aS:Addr} {aX:Addr} {bB:Addr} {aZ:Addr} {fX:Addr} {fw:Addr} {fL:Addr} {fU:Addr} {fK:Addr} {fE:Addr} {en:Addr} {eB:Addr} {cV:Addr} {cS:Addr} {cW:Addr} {cT:Addr} {dA:Addr} {dC:Addr} {cU:Addr} {cQ:Addr} {cm:Addr} {cq:Addr} {ia:Addr} {kH:Addr} {fg:Addr} {eU:Addr} {eF:Addr} {gC:Addr} {eR:Addr} {gY:Addr} {fO:Addr} {fB:Addr} {fT:Addr} {gj:Addr} {dM:Addr} {fY:Addr} {gq:Addr} {eS:Addr} {fA:Addr} {fc:Addr} {fP:Addr} {fR:Addr} {eW:Addr} {gn:Addr} {eY:Addr} {gk:Addr} {fb:Addr} {gu:Addr} {gf:Addr} {fV:Addr} {gF:Addr} {fF:Addr} {eX:Addr} {gg:Addr} {fe:Addr} {ed:Addr} {fz:Addr} {dI:Addr} {dq:Addr} {ee:Addr}
 {f1 f2 f3 f4 f5 f6 f7 f8 f9 f10 f11 f12 f13 f14 f15 f16 f17 f18 f19 f20 f21 f22 f23 f24 f25 f26 f27 f28 f29 f30 f31 f32 f33 f34 f35 f36 f37 f38 f39 f40 f41 f42 f43 f44 f45 f46 f47 f48 f49 f50 f51 f52 f53 f54 f55 f56 f57 f58 f59 f60 f61:Addr} {od1 an1 od2 an2 od3 an3 od4 an4 od5 an5 od6 an6 od7 an7 od8 an8 od9 an9 od10 an10 od11 an11 od12 an12 od13 an13 od14 an14 od15 an15 od16 an16 od17 an17 od18 an18 od19 an19 od20 an20 od21 an21 od22 an22 od23 an23 od24 an24 od25 an25 od26 an26 od27 an27 od28 an28 od29 an29 od30 an30 od31 an31 od32 an32 od33 an33 od34 an34 od35 an35 od36 an36 od37 an37 od38 an38 od39 an39 od40 an40 od41 an41 od42 an42 od43 an43 od44 an44 od45 an45 od46 an46 od47 an47 od48 an48 od49 an49 od50 an50 od51 an51 od52 an52 od53 an53 od54 an54 od55 an55 od56 an56 od57 an57 od58 an58 od59 an59 od60 an60 od61 an61:Option Addr} {sl1 sl2 sl3 sl4 sl5 sl6 sl7 sl8 sl9 sl10 sl11 sl12 sl13 sl14 sl15 sl16 sl17 sl18 sl19 sl20 sl21 sl22 sl23 sl24 sl25 sl26 sl27 sl28 sl29 sl30 sl31 sl32 sl33 sl34 sl35 sl36 sl37 sl38 sl39 sl40 sl41 sl42 sl43 sl44 sl45 sl46 sl47 sl48 sl49 sl50 sl51 sl52 sl53 sl54 sl55 sl56 sl57 sl58 sl59 sl60 sl61:Array (Option Value)} {oc1 kV1 dc1 pm1 cd1 ct1 oc2 kV2 dc2 pm2 cd2 ct2 oc3 kV3 dc3 pm3 cd3 ct3 oc4 kV4 dc4 pm4 cd4 ct4 oc5 kV5 dc5 pm5 cd5 ct5 oc6 kV6 dc6 pm6 cd6 ct6 oc7 kV7 dc7 pm7 cd7 ct7 oc8 kV8 dc8 pm8 cd8 ct8 oc9 kV9 dc9 pm9 cd9 ct9 oc10 kV10 dc10 pm10 cd10 ct10 oc11 kV11 dc11 pm11 cd11 ct11 oc12 kV12 dc12 pm12 cd12 ct12 oc13 kV13 dc13 pm13 cd13 ct13 oc14 kV14 dc14 pm14 cd14 ct14 oc15 kV15 dc15 pm15 cd15 ct15 oc16 kV16 dc16 pm16 cd16 ct16 oc17 kV17 dc17 pm17 cd17 ct17 oc18 kV18 dc18 pm18 cd18 ct18 oc19 kV19 dc19 pm19 cd19 ct19 oc20 kV20 dc20 pm20 cd20 ct20 oc21 kV21 dc21 pm21 cd21 ct21 oc22 kV22 dc22 pm22 cd22 ct22 oc23 kV23 dc23 pm23 cd23 ct23 oc24 kV24 dc24 pm24 cd24 ct24 oc25 kV25 dc25 pm25 cd25 ct25 oc26 kV26 dc26 pm26 cd26 ct26 oc27 kV27 dc27 pm27 cd27 ct27 oc28 kV28 dc28 pm28 cd28 ct28 oc29 kV29 dc29 pm29 cd29 ct29 oc30 kV30 dc30 pm30 cd30 ct30 oc31 kV31 dc31 pm31 ct31 oc32 kV32 dc32 pm32 cd32 ct32 oc33 kV33 dc33 pm33 cd33 ct33 oc34 kV34 dc34 pm34 cd34 ct34 oc35 kV35 dc35 pm35 cd35 ct35 oc36 kV36 dc36 pm36 cd36 ct36 oc37 kV37 dc37 pm37 cd37 ct37 oc38 kV38 dc38 pm38 cd38 ct38 oc39 kV39 dc39 pm39 cd39 ct39 oc40 kV40 dc40 pm40 cd40 ct40 oc41 kV41 dc41 pm41 cd41 ct41 oc42 kV42 dc42 pm42 cd42 ct42 oc43 kV43 dc43 pm43 cd43 ct43 oc44 kV44 dc44 pm44 cd44 ct44 oc45 kV45 dc45 pm45 cd45 ct45 oc46 kV46 dc46 pm46 cd46 ct46 oc47 kV47 dc47 pm47 cd47 ct47 oc48 kV48 dc48 pm48 cd48 ct48 oc49 kV49 dc49 pm49 cd49 ct49 oc50 kV50 dc50 pm50 cd50 ct50 oc51 kV51 dc51 pm51 cd51 ct51 oc52 kV52 dc52 pm52 cd52 ct52 oc53 kV53 dc53 pm53 cd53 ct53 oc54 kV54 dc54 pm54 cd54 ct54 oc55 kV55 dc55 pm55 cd55 ct55 oc56 kV56 dc56 pm56 cd56 ct56 oc57 kV57 dc57 pm57 cd57 ct57 oc58 kV58 dc58 pm58 cd58 ct58 oc59 kV59 dc59 pm59 cd59 ct59 oc60 kV60 dc60 pm60 cd60 ct60 oc61 kV61 dc61 pm61 cd61 ct61:Value}
  {cc T D bm:Addr} {odC:Option Addr} {vsC:Array Value} {slC slB:Array (Option Value)}
  (jq:W.nsIn K mainGlobals "Brackets" = some (some (.ref aF)))
  (kr:W.nsIn K mainGlobals "Stairs" = some (some (.ref aK)))
  (nj:W.nsIn K mainGlobals "Twins" = some (some (.ref aR)))
  (oS:W.nsIn K mainGlobals "Bows" = some (some (.ref bu)))
  (nA:W.nsIn K mainGlobals "Rooms" = some (some (.ref aU)))
  (kn:W.nsIn K mainGlobals "Floors" = some (some (.ref aP)))
  (nG:W.nsIn K mainGlobals "Turns" = some (some (.ref bc)))
  (iA:W.nsIn K mainGlobals "SplitFamily" = some (some (.ref az)))
  (kh:W.nsIn K mainGlobals "Family" = some (some (.ref aC)))
  (mX:W.nsIn K mainGlobals "Codes" = some (some (.ref aS)))
  (m7:W.nsIn K mainGlobals "Trees" = some (some (.ref aX)))
  (pZ:W.nsIn K mainGlobals "Cars" = some (some (.ref bB)))
  (iM:W.nsIn K mainGlobals "RingFamily" = some (some (.ref aZ)))
  (jt:W.findIn K (.ref aF) "__init__" = some (some (.ref f10)))
  (kq:W.findIn K (.ref aK) "__init__" = some (some (.ref f13)))
  (nH:W.findIn K (.ref aR) "__init__" = some (some (.ref f16)))
  (oQ:W.findIn K (.ref bu) "__init__" = some (some (.ref f19)))
  (nz:W.findIn K (.ref aU) "__init__" = some (some (.ref f22)))
  (kR:W.findIn K (.ref aP) "__init__" = some (some (.ref f25)))
  (mZ:W.findIn K (.ref bc) "__init__" = some (some (.ref f28)))
  (nF:W.findIn K (.ref aS) "__init__" = some (some (.ref f42)))
  (nh:W.findIn K (.ref aX) "__init__" = some (some (.ref f45)))
  (pz:W.findIn K (.ref bB) "__init__" = some (some (.ref f48)))
  (bU:W.findCls K (.ref az) (.type "type") "__init__" = some (.val (.ref f9)))
  (bR:W.specialIn K (.ref az) "__getattribute__" = some (some (.builtin "type.__getattribute__")))
  (bQ:W.readsIn K az (.type "type")=true)
  (dB:W.findCls K (.ref aC) (.type "type") "__init__" = some (.val (.ref f8)))
  (dw:W.specialIn K (.ref aC) "__getattribute__" = some (some (.builtin "type.__getattribute__")))
  (du:W.readsIn K aC (.type "type")=true)
  (cu:W.findCls K (.ref az) (.type "type") "__init__" = some (.val (.ref f12)))
  (cz:W.specialIn K (.ref az) "__getattribute__" = some (some (.builtin "type.__getattribute__")))
  (cn:W.readsIn K az (.type "type")=true)
  (dP:W.findCls K (.ref aC) (.type "type") "__init__" = some (.val (.ref f11)))
  (dO:W.specialIn K (.ref aC) "__getattribute__" = some (some (.builtin "type.__getattribute__")))
  (dW:W.readsIn K aC (.type "type")=true)
  (cN:W.findCls K (.ref az) (.type "type") "__init__" = some (.val (.ref f15)))
  (cG:W.specialIn K (.ref az) "__getattribute__" = some (some (.builtin "type.__getattribute__")))
  (cJ:W.readsIn K az (.type "type")=true)
  (d6:W.findCls K (.ref aC) (.type "type") "__init__" = some (.val (.ref f14)))
  (ez:W.specialIn K (.ref aC) "__getattribute__" = some (some (.builtin "type.__getattribute__")))
  (eI:W.readsIn K aC (.type "type")=true)
  (di:W.findCls K (.ref az) (.type "type") "__init__" = some (.val (.ref f18)))
  (de:W.specialIn K (.ref az) "__getattribute__" = some (some (.builtin "type.__getattribute__")))
  (cY:W.readsIn K az (.type "type")=true)
  (eO:W.findCls K (.ref aC) (.type "type") "__init__" = some (.val (.ref f17)))
  (eL:W.specialIn K (.ref aC) "__getattribute__" = some (some (.builtin "type.__getattribute__")))
  (eM:W.readsIn K aC (.type "type")=true)
  (cK:W.findCls K (.ref az) (.type "type") "__init__" = some (.val (.ref f21)))
  (cO:W.specialIn K (.ref az) "__getattribute__" = some (some (.builtin "type.__getattribute__")))
  (cH:W.readsIn K az (.type "type")=true)
  (dY:W.findCls K (.ref aC) (.type "type") "__init__" = some (.val (.ref f20)))
  (eD:W.specialIn K (.ref aC) "__getattribute__" = some (some (.builtin "type.__getattribute__")))
  (eE:W.readsIn K aC (.type "type")=true)
  (cB:W.findCls K (.ref az) (.type "type") "__init__" = some (.val (.ref f24)))
  (cg:W.specialIn K (.ref az) "__getattribute__" = some (some (.builtin "type.__getattribute__")))
  (cw:W.readsIn K az (.type "type")=true)
  (dR:W.findCls K (.ref aC) (.type "type") "__init__" = some (.val (.ref f23)))
  (dQ:W.specialIn K (.ref aC) "__getattribute__" = some (some (.builtin "type.__getattribute__")))
  (dU:W.readsIn K aC (.type "type")=true)
  (cI:W.findCls K (.ref az) (.type "type") "__init__" = some (.val (.ref f27)))
  (cM:W.specialIn K (.ref az) "__getattribute__" = some (some (.builtin "type.__getattribute__")))
  (cL:W.readsIn K az (.type "type")=true)
  (d7:W.findCls K (.ref aC) (.type "type") "__init__" = some (.val (.ref f26)))
  (et:W.specialIn K (.ref aC) "__getattribute__" = some (some (.builtin "type.__getattribute__")))
  (dZ:W.readsIn K aC (.type "type")=true)
  (cZ:W.findCls K (.ref aZ) (.type "type") "__init__" = some (.val (.ref f41)))
  (cX:W.specialIn K (.ref aZ) "__getattribute__" = some (some (.builtin "type.__getattribute__")))
  (dc:W.readsIn K aZ (.type "type")=true)
  (eC:W.findCls K (.ref aC) (.type "type") "__init__" = some (.val (.ref f40)))
  (d9:W.specialIn K (.ref aC) "__getattribute__" = some (some (.builtin "type.__getattribute__")))
  (eA:W.readsIn K aC (.type "type")=true)
  (da:W.findCls K (.ref aZ) (.type "type") "__init__" = some (.val (.ref f44)))
  (c0:W.specialIn K (.ref aZ) "__getattribute__" = some (some (.builtin "type.__getattribute__")))
  (dj:W.readsIn K aZ (.type "type")=true)
  (d5:W.findCls K (.ref aC) (.type "type") "__init__" = some (.val (.ref f43)))
  (eo:W.specialIn K (.ref aC) "__getattribute__" = some (some (.builtin "type.__getattribute__")))
  (eG:W.readsIn K aC (.type "type")=true)
  (dD:W.findCls K (.ref aZ) (.type "type") "__init__" = some (.val (.ref f47)))
  (dt:W.specialIn K (.ref aZ) "__getattribute__" = some (some (.builtin "type.__getattribute__")))
  (dv:W.readsIn K aZ (.type "type")=true)
  (eK:W.findCls K (.ref aC) (.type "type") "__init__" = some (.val (.ref f46)))
  (eN:W.specialIn K (.ref aC) "__getattribute__" = some (some (.builtin "type.__getattribute__")))
  (eJ:W.readsIn K aC (.type "type")=true)
  (a1:W.nsIn K mainGlobals "_law_there_and_back" = some (some (.ref f1)))
  (l1:K.lookup f1=some ⟨oc1,od1,.func (W.fnOf "_law_there_and_back" "_law_there_and_back" (ag mi) (ae mi) (aa mi) .none kV1 dc1 pm1 an1 cd1 ct1),sl1⟩)
  (c1:W.codeIn K cd1 "_law_there_and_back" = true)
  (k1:W.keepIn K (.ref f1)=true)
  (a2:W.nsIn K mainGlobals "_law_ways" = some (some (.ref f2)))
  (l2:K.lookup f2=some ⟨oc2,od2,.func (W.fnOf "_law_ways" "_law_ways" (ag lO) (ae lO) (aa lO) .none kV2 dc2 pm2 an2 cd2 ct2),sl2⟩)
  (c2:W.codeIn K cd2 "_law_ways" = true)
  (k2:W.keepIn K (.ref f2)=true)
  (a3:W.nsIn K mainGlobals "_law_mix" = some (some (.ref f3)))
  (l3:K.lookup f3=some ⟨oc3,od3,.func (W.fnOf "_law_mix" "_law_mix" (ag mw) (ae mw) (aa mw) .none kV3 dc3 pm3 an3 cd3 ct3),sl3⟩)
  (c3:W.codeIn K cd3 "_law_mix" = true)
  (k3:W.keepIn K (.ref f3)=true)
  (a4:W.nsIn K mainGlobals "_law_draws" = some (some (.ref f4)))
  (l4:K.lookup f4=some ⟨oc4,od4,.func (W.fnOf "_law_draws" "_law_draws" (ag kY) (ae kY) (aa kY) .none kV4 dc4 pm4 an4 cd4 ct4),sl4⟩)
  (c4:W.codeIn K cd4 "_law_draws" = true)
  (k4:W.keepIn K (.ref f4)=true)
  (a5:W.nsIn K mainGlobals "_law_any" = some (some (.ref f5)))
  (l5:K.lookup f5=some ⟨oc5,od5,.func (W.fnOf "_law_any" "_law_any" (ag mH) (ae mH) (aa mH) .none kV5 dc5 pm5 an5 cd5 ct5),sl5⟩)
  (c5:W.codeIn K cd5 "_law_any" = true)
  (k5:W.keepIn K (.ref f5)=true)
  (a6:W.nsIn K mainGlobals "_law_spoiled" = some (some (.ref f6)))
  (l6:K.lookup f6=some ⟨oc6,od6,.func (W.fnOf "_law_spoiled" "_law_spoiled" (ag mr) (ae mr) (aa mr) .none kV6 dc6 pm6 an6 cd6 ct6),sl6⟩)
  (c6:W.codeIn K cd6 "_law_spoiled" = true)
  (k6:W.keepIn K (.ref f6)=true)
  (a7:W.nsIn K mainGlobals "direct_ways" = some (some (.ref f7)))
  (l7:K.lookup f7=some ⟨oc7,od7,.func (W.fnOf "direct_ways" "direct_ways" (ag jd) (ae jd) (aa jd) .none kV7 dc7 pm7 an7 cd7 ct7),sl7⟩)
  (c7:W.codeIn K cd7 "direct_ways" = true)
  (k7:W.keepIn K (.ref f7)=true)
  (l8:K.lookup f8=some ⟨oc8,od8,.func (W.fnOf "__init__" "Family.__init__" (ag lZ) (ae lZ) (aa lZ) .none kV8 dc8 pm8 an8 cd8 ct8),sl8⟩)
  (c8:W.codeIn K cd8 "Family.__init__" = true)
  (k8:W.keepIn K (.ref f8)=true)
  (i8:W.isFn K (.ref f8)=true)
  (l9:K.lookup f9=some ⟨oc9,od9,.func (W.fnOf "__init__" "SplitFamily.__init__" (ag pC) (ae pC) (aa pC) .none kV9 dc9 pm9 an9 cd9 ct9),sl9⟩)
  (c9:W.codeIn K cd9 "SplitFamily.__init__" = true)
  (k9:W.keepIn K (.ref f9)=true)
  (i9:W.isFn K (.ref f9)=true)
  (l10:K.lookup f10=some ⟨oc10,od10,.func (W.fnOf "__init__" "Brackets.__init__" (ag mK) (ae mK) (aa mK) .none kV10 dc10 pm10 an10 cd10 ct10),sl10⟩)
  (c10:W.codeIn K cd10 "Brackets.__init__" = true)
  (k10:W.keepIn K (.ref f10)=true)
  (i10:W.isFn K (.ref f10)=true)
  (l11:K.lookup f11=some ⟨oc11,od11,.func (W.fnOf "__init__" "Family.__init__" (ag lq) (ae lq) (aa lq) .none kV11 dc11 pm11 an11 cd11 ct11),sl11⟩)
  (c11:W.codeIn K cd11 "Family.__init__" = true)
  (k11:W.keepIn K (.ref f11)=true)
  (i11:W.isFn K (.ref f11)=true)
  (l12:K.lookup f12=some ⟨oc12,od12,.func (W.fnOf "__init__" "SplitFamily.__init__" (ag pq) (ae pq) (aa pq) .none kV12 dc12 pm12 an12 cd12 ct12),sl12⟩)
  (c12:W.codeIn K cd12 "SplitFamily.__init__" = true)
  (k12:W.keepIn K (.ref f12)=true)
  (i12:W.isFn K (.ref f12)=true)
  (l13:K.lookup f13=some ⟨oc13,od13,.func (W.fnOf "__init__" "Stairs.__init__" (ag me) (ae me) (aa me) .none kV13 dc13 pm13 an13 cd13 ct13),sl13⟩)
  (c13:W.codeIn K cd13 "Stairs.__init__" = true)
  (k13:W.keepIn K (.ref f13)=true)
  (i13:W.isFn K (.ref f13)=true)
  (l14:K.lookup f14=some ⟨oc14,od14,.func (W.fnOf "__init__" "Family.__init__" (ag lH) (ae lH) (aa lH) .none kV14 dc14 pm14 an14 cd14 ct14),sl14⟩)
  (c14:W.codeIn K cd14 "Family.__init__" = true)
  (k14:W.keepIn K (.ref f14)=true)
  (i14:W.isFn K (.ref f14)=true)
  (l15:K.lookup f15=some ⟨oc15,od15,.func (W.fnOf "__init__" "SplitFamily.__init__" (ag oV) (ae oV) (aa oV) .none kV15 dc15 pm15 an15 cd15 ct15),sl15⟩)
  (c15:W.codeIn K cd15 "SplitFamily.__init__" = true)
  (k15:W.keepIn K (.ref f15)=true)
  (i15:W.isFn K (.ref f15)=true)
  (l16:K.lookup f16=some ⟨oc16,od16,.func (W.fnOf "__init__" "Twins.__init__" (ag lV) (ae lV) (aa lV) .none kV16 dc16 pm16 an16 cd16 ct16),sl16⟩)
  (c16:W.codeIn K cd16 "Twins.__init__" = true)
  (k16:W.keepIn K (.ref f16)=true)
  (i16:W.isFn K (.ref f16)=true)
  (l17:K.lookup f17=some ⟨oc17,od17,.func (W.fnOf "__init__" "Family.__init__" (ag mq) (ae mq) (aa mq) .none kV17 dc17 pm17 an17 cd17 ct17),sl17⟩)
  (c17:W.codeIn K cd17 "Family.__init__" = true)
  (k17:W.keepIn K (.ref f17)=true)
  (i17:W.isFn K (.ref f17)=true)
  (l18:K.lookup f18=some ⟨oc18,od18,.func (W.fnOf "__init__" "SplitFamily.__init__" (ag oM) (ae oM) (aa oM) .none kV18 dc18 pm18 an18 cd18 ct18),sl18⟩)
  (c18:W.codeIn K cd18 "SplitFamily.__init__" = true)
  (k18:W.keepIn K (.ref f18)=true)
  (i18:W.isFn K (.ref f18)=true)
  (l19:K.lookup f19=some ⟨oc19,od19,.func (W.fnOf "__init__" "Bows.__init__" (ag lg) (ae lg) (aa lg) .none kV19 dc19 pm19 an19 cd19 ct19),sl19⟩)
  (c19:W.codeIn K cd19 "Bows.__init__" = true)
  (k19:W.keepIn K (.ref f19)=true)
  (i19:W.isFn K (.ref f19)=true)
  (l20:K.lookup f20=some ⟨oc20,od20,.func (W.fnOf "__init__" "Family.__init__" (ag lM) (ae lM) (aa lM) .none kV20 dc20 pm20 an20 cd20 ct20),sl20⟩)
  (c20:W.codeIn K cd20 "Family.__init__" = true)
  (k20:W.keepIn K (.ref f20)=true)
  (i20:W.isFn K (.ref f20)=true)
  (l21:K.lookup f21=some ⟨oc21,od21,.func (W.fnOf "__init__" "SplitFamily.__init__" (ag pN) (ae pN) (aa pN) .none kV21 dc21 pm21 an21 cd21 ct21),sl21⟩)
  (c21:W.codeIn K cd21 "SplitFamily.__init__" = true)
  (k21:W.keepIn K (.ref f21)=true)
  (i21:W.isFn K (.ref f21)=true)
  (l22:K.lookup f22=some ⟨oc22,od22,.func (W.fnOf "__init__" "Rooms.__init__" (ag mn) (ae mn) (aa mn) .none kV22 dc22 pm22 an22 cd22 ct22),sl22⟩)
  (c22:W.codeIn K cd22 "Rooms.__init__" = true)
  (k22:W.keepIn K (.ref f22)=true)
  (i22:W.isFn K (.ref f22)=true)
  (l23:K.lookup f23=some ⟨oc23,od23,.func (W.fnOf "__init__" "Family.__init__" (ag ma) (ae ma) (aa ma) .none kV23 dc23 pm23 an23 cd23 ct23),sl23⟩)
  (c23:W.codeIn K cd23 "Family.__init__" = true)
  (k23:W.keepIn K (.ref f23)=true)
  (i23:W.isFn K (.ref f23)=true)
  (l24:K.lookup f24=some ⟨oc24,od24,.func (W.fnOf "__init__" "SplitFamily.__init__" (ag pO) (ae pO) (aa pO) .none kV24 dc24 pm24 an24 cd24 ct24),sl24⟩)
  (c24:W.codeIn K cd24 "SplitFamily.__init__" = true)
  (k24:W.keepIn K (.ref f24)=true)
  (i24:W.isFn K (.ref f24)=true)
  (l25:K.lookup f25=some ⟨oc25,od25,.func (W.fnOf "__init__" "Floors.__init__" (ag mI) (ae mI) (aa mI) .none kV25 dc25 pm25 an25 cd25 ct25),sl25⟩)
  (c25:W.codeIn K cd25 "Floors.__init__" = true)
  (k25:W.keepIn K (.ref f25)=true)
  (i25:W.isFn K (.ref f25)=true)
  (l26:K.lookup f26=some ⟨oc26,od26,.func (W.fnOf "__init__" "Family.__init__" (ag kX) (ae kX) (aa kX) .none kV26 dc26 pm26 an26 cd26 ct26),sl26⟩)
  (c26:W.codeIn K cd26 "Family.__init__" = true)
  (k26:W.keepIn K (.ref f26)=true)
  (i26:W.isFn K (.ref f26)=true)
  (l27:K.lookup f27=some ⟨oc27,od27,.func (W.fnOf "__init__" "SplitFamily.__init__" (ag oW) (ae oW) (aa oW) .none kV27 dc27 pm27 an27 cd27 ct27),sl27⟩)
  (c27:W.codeIn K cd27 "SplitFamily.__init__" = true)
  (k27:W.keepIn K (.ref f27)=true)
  (i27:W.isFn K (.ref f27)=true)
  (l28:K.lookup f28=some ⟨oc28,od28,.func (W.fnOf "__init__" "Turns.__init__" (ag mD) (ae mD) (aa mD) .none kV28 dc28 pm28 an28 cd28 ct28),sl28⟩)
  (c28:W.codeIn K cd28 "Turns.__init__" = true)
  (k28:W.keepIn K (.ref f28)=true)
  (i28:W.isFn K (.ref f28)=true)
  (a29:W.nsIn K mainGlobals "split_families" = some (some (.ref f29)))
  (l29:K.lookup f29=some ⟨oc29,od29,.func (W.fnOf "split_families" "split_families" (ag kS) (ae kS) (aa kS) .none kV29 dc29 pm29 an29 cd29 ct29),sl29⟩)
  (c29:W.codeIn K cd29 "split_families" = true)
  (k29:W.keepIn K (.ref f29)=true)
  (a30:W.nsIn K mainGlobals "parts_name" = some (some (.ref f30)))
  (l30:K.lookup f30=some ⟨oc30,od30,.func (W.fnOf "parts_name" "parts_name" (ag lN) (ae lN) (aa lN) .none kV30 dc30 pm30 an30 cd30 ct30),sl30⟩)
  (c30:W.codeIn K cd30 "parts_name" = true)
  (k30:W.keepIn K (.ref f30)=true)
  (a31:W.nsIn K mainGlobals "parts_way" = some (some (.ref f31)))
  (l31:K.lookup f31=some ⟨oc31,od31,.func (W.fnOf "parts_way" "parts_way" (ag jP) (ae jP) (aa jP) .none kV31 dc31 pm31 an31 (Value.ref cc) ct31),sl31⟩)
  (c31:W.codeIn K (Value.ref cc) "parts_way" = true)
  (k31:W.keepIn K (.ref f31)=true)
  (a32:W.nsIn K mainGlobals "parts_ways" = some (some (.ref f32)))
  (l32:K.lookup f32=some ⟨oc32,od32,.func (W.fnOf "parts_ways" "parts_ways" (ag lS) (ae lS) (aa lS) .none kV32 dc32 pm32 an32 cd32 ct32),sl32⟩)
  (c32:W.codeIn K cd32 "parts_ways" = true)
  (k32:W.keepIn K (.ref f32)=true)
  (a33:W.nsIn K mainGlobals "turning_ways" = some (some (.ref f33)))
  (l33:K.lookup f33=some ⟨oc33,od33,.func (W.fnOf "turning_ways" "turning_ways" (ag jj) (ae jj) (aa jj) .none kV33 dc33 pm33 an33 cd33 ct33),sl33⟩)
  (c33:W.codeIn K cd33 "turning_ways" = true)
  (k33:W.keepIn K (.ref f33)=true)
  (a34:W.nsIn K mainGlobals "all_ways" = some (some (.ref f34)))
  (l34:K.lookup f34=some ⟨oc34,od34,.func (W.fnOf "all_ways" "all_ways" (ag lj) (ae lj) (aa lj) .none kV34 dc34 pm34 an34 cd34 ct34),sl34⟩)
  (c34:W.codeIn K cd34 "all_ways" = true)
  (k34:W.keepIn K (.ref f34)=true)
  (a35:W.nsIn K mainGlobals "way_of" = some (some (.ref f35)))
  (l35:K.lookup f35=some ⟨oc35,od35,.func (W.fnOf "way_of" "way_of" (ag lQ) (ae lQ) (aa lQ) .none kV35 dc35 pm35 an35 cd35 ct35),sl35⟩)
  (c35:W.codeIn K cd35 "way_of" = true)
  (k35:W.keepIn K (.ref f35)=true)
  (a36:W.nsIn K mainGlobals "ends" = some (some (.ref f36)))
  (l36:K.lookup f36=some ⟨oc36,od36,.func (W.fnOf "ends" "ends" (ag lD) (ae lD) (aa lD) .none kV36 dc36 pm36 an36 cd36 ct36),sl36⟩)
  (c36:W.codeIn K cd36 "ends" = true)
  (k36:W.keepIn K (.ref f36)=true)
  (a37:W.nsIn K mainGlobals "manner_of" = some (some (.ref f37)))
  (l37:K.lookup f37=some ⟨oc37,od37,.func (W.fnOf "manner_of" "manner_of" (ag my) (ae my) (aa my) .none kV37 dc37 pm37 an37 cd37 ct37),sl37⟩)
  (c37:W.codeIn K cd37 "manner_of" = true)
  (k37:W.keepIn K (.ref f37)=true)
  (a38:W.nsIn K mainGlobals "back_of" = some (some (.ref f38)))
  (l38:K.lookup f38=some ⟨oc38,od38,.func (W.fnOf "back_of" "back_of" (ag mf) (ae mf) (aa mf) .none kV38 dc38 pm38 an38 cd38 ct38),sl38⟩)
  (c38:W.codeIn K cd38 "back_of" = true)
  (k38:W.keepIn K (.ref f38)=true)
  (a39:W.nsIn K mainGlobals "carries" = some (some (.ref f39)))
  (l39:K.lookup f39=some ⟨oc39,od39,.func (W.fnOf "carries" "carries" (ag mL) (ae mL) (aa mL) .none kV39 dc39 pm39 an39 cd39 ct39),sl39⟩)
  (c39:W.codeIn K cd39 "carries" = true)
  (k39:W.keepIn K (.ref f39)=true)
  (l40:K.lookup f40=some ⟨oc40,od40,.func (W.fnOf "__init__" "Family.__init__" (ag mx) (ae mx) (aa mx) .none kV40 dc40 pm40 an40 cd40 ct40),sl40⟩)
  (c40:W.codeIn K cd40 "Family.__init__" = true)
  (k40:W.keepIn K (.ref f40)=true)
  (i40:W.isFn K (.ref f40)=true)
  (l41:K.lookup f41=some ⟨oc41,od41,.func (W.fnOf "__init__" "RingFamily.__init__" (ag oN) (ae oN) (aa oN) .none kV41 dc41 pm41 an41 cd41 ct41),sl41⟩)
  (c41:W.codeIn K cd41 "RingFamily.__init__" = true)
  (k41:W.keepIn K (.ref f41)=true)
  (i41:W.isFn K (.ref f41)=true)
  (l42:K.lookup f42=some ⟨oc42,od42,.func (W.fnOf "__init__" "Codes.__init__" (ag lI) (ae lI) (aa lI) .none kV42 dc42 pm42 an42 cd42 ct42),sl42⟩)
  (c42:W.codeIn K cd42 "Codes.__init__" = true)
  (k42:W.keepIn K (.ref f42)=true)
  (i42:W.isFn K (.ref f42)=true)
  (l43:K.lookup f43=some ⟨oc43,od43,.func (W.fnOf "__init__" "Family.__init__" (ag lG) (ae lG) (aa lG) .none kV43 dc43 pm43 an43 cd43 ct43),sl43⟩)
  (c43:W.codeIn K cd43 "Family.__init__" = true)
  (k43:W.keepIn K (.ref f43)=true)
  (i43:W.isFn K (.ref f43)=true)
  (l44:K.lookup f44=some ⟨oc44,od44,.func (W.fnOf "__init__" "RingFamily.__init__" (ag p7) (ae p7) (aa p7) .none kV44 dc44 pm44 an44 cd44 ct44),sl44⟩)
  (c44:W.codeIn K cd44 "RingFamily.__init__" = true)
  (k44:W.keepIn K (.ref f44)=true)
  (i44:W.isFn K (.ref f44)=true)
  (l45:K.lookup f45=some ⟨oc45,od45,.func (W.fnOf "__init__" "Trees.__init__" (ag lP) (ae lP) (aa lP) .none kV45 dc45 pm45 an45 cd45 ct45),sl45⟩)
  (c45:W.codeIn K cd45 "Trees.__init__" = true)
  (k45:W.keepIn K (.ref f45)=true)
  (i45:W.isFn K (.ref f45)=true)
  (l46:K.lookup f46=some ⟨oc46,od46,.func (W.fnOf "__init__" "Family.__init__" (ag mz) (ae mz) (aa mz) .none kV46 dc46 pm46 an46 cd46 ct46),sl46⟩)
  (c46:W.codeIn K cd46 "Family.__init__" = true)
  (k46:W.keepIn K (.ref f46)=true)
  (i46:W.isFn K (.ref f46)=true)
  (l47:K.lookup f47=some ⟨oc47,od47,.func (W.fnOf "__init__" "RingFamily.__init__" (ag oK) (ae oK) (aa oK) .none kV47 dc47 pm47 an47 cd47 ct47),sl47⟩)
  (c47:W.codeIn K cd47 "RingFamily.__init__" = true)
  (k47:W.keepIn K (.ref f47)=true)
  (i47:W.isFn K (.ref f47)=true)
  (l48:K.lookup f48=some ⟨oc48,od48,.func (W.fnOf "__init__" "Cars.__init__" (ag mm) (ae mm) (aa mm) .none kV48 dc48 pm48 an48 cd48 ct48),sl48⟩)
  (c48:W.codeIn K cd48 "Cars.__init__" = true)
  (k48:W.keepIn K (.ref f48)=true)
  (i48:W.isFn K (.ref f48)=true)
  (a49:W.nsIn K mainGlobals "ring_families" = some (some (.ref f49)))
  (l49:K.lookup f49=some ⟨oc49,od49,.func (W.fnOf "ring_families" "ring_families" (ag mj) (ae mj) (aa mj) .none kV49 dc49 pm49 an49 cd49 ct49),sl49⟩)
  (c49:W.codeIn K cd49 "ring_families" = true)
  (k49:W.keepIn K (.ref f49)=true)
  (a50:W.nsIn K mainGlobals "family_of" = some (some (.ref f50)))
  (l50:K.lookup f50=some ⟨oc50,od50,.func (W.fnOf "family_of" "family_of" (ag lE) (ae lE) (aa lE) .none kV50 dc50 pm50 an50 cd50 ct50),sl50⟩)
  (c50:W.codeIn K cd50 "family_of" = true)
  (k50:W.keepIn K (.ref f50)=true)
  (a51:W.nsIn K mainGlobals "all_measures" = some (some (.ref f51)))
  (l51:K.lookup f51=some ⟨oc51,od51,.func (W.fnOf "all_measures" "all_measures" (ag jl) (ae jl) (aa jl) .none kV51 dc51 pm51 an51 cd51 ct51),sl51⟩)
  (c51:W.codeIn K cd51 "all_measures" = true)
  (k51:W.keepIn K (.ref f51)=true)
  (a52:W.nsIn K mainGlobals "marks_of" = some (some (.ref f52)))
  (l52:K.lookup f52=some ⟨oc52,od52,.func (W.fnOf "marks_of" "marks_of" (ag lJ) (ae lJ) (aa lJ) .none kV52 dc52 pm52 an52 cd52 ct52),sl52⟩)
  (c52:W.codeIn K cd52 "marks_of" = true)
  (k52:W.keepIn K (.ref f52)=true)
  (a53:W.nsIn K mainGlobals "carried_by" = some (some (.ref f53)))
  (l53:K.lookup f53=some ⟨oc53,od53,.func (W.fnOf "carried_by" "carried_by" (ag lR) (ae lR) (aa lR) .none kV53 dc53 pm53 an53 cd53 ct53),sl53⟩)
  (c53:W.codeIn K cd53 "carried_by" = true)
  (k53:W.keepIn K (.ref f53)=true)
  (a54:W.nsIn K mainGlobals "_law_asked" = some (some (.ref f54)))
  (l54:K.lookup f54=some ⟨oc54,od54,.func (W.fnOf "_law_asked" "_law_asked" (ag mv) (ae mv) (aa mv) .none kV54 dc54 pm54 an54 cd54 ct54),sl54⟩)
  (c54:W.codeIn K cd54 "_law_asked" = true)
  (k54:W.keepIn K (.ref f54)=true)
  (a55:W.nsIn K mainGlobals "_law_is_no_way" = some (some (.ref f55)))
  (l55:K.lookup f55=some ⟨oc55,od55,.func (W.fnOf "_law_is_no_way" "_law_is_no_way" (ag lW) (ae lW) (aa lW) .none kV55 dc55 pm55 an55 cd55 ct55),sl55⟩)
  (c55:W.codeIn K cd55 "_law_is_no_way" = true)
  (k55:W.keepIn K (.ref f55)=true)
  (a56:W.nsIn K mainGlobals "_law_refused" = some (some (.ref f56)))
  (l56:K.lookup f56=some ⟨oc56,od56,.func (W.fnOf "_law_refused" "_law_refused" (ag kT) (ae kT) (aa kT) .none kV56 dc56 pm56 an56 cd56 ct56),sl56⟩)
  (c56:W.codeIn K cd56 "_law_refused" = true)
  (k56:W.keepIn K (.ref f56)=true)
  (a57:W.nsIn K mainGlobals "_law_texts" = some (some (.ref f57)))
  (l57:K.lookup f57=some ⟨oc57,od57,.func (W.fnOf "_law_texts" "_law_texts" (ag mE) (ae mE) (aa mE) .none kV57 dc57 pm57 an57 cd57 ct57),sl57⟩)
  (c57:W.codeIn K cd57 "_law_texts" = true)
  (k57:W.keepIn K (.ref f57)=true)
  (a58:W.nsIn K mainGlobals "_law_marks" = some (some (.ref f58)))
  (l58:K.lookup f58=some ⟨oc58,od58,.func (W.fnOf "_law_marks" "_law_marks" (ag lX) (ae lX) (aa lX) .none kV58 dc58 pm58 an58 cd58 ct58),sl58⟩)
  (c58:W.codeIn K cd58 "_law_marks" = true)
  (k58:W.keepIn K (.ref f58)=true)
  (a59:W.nsIn K mainGlobals "_law_carried" = some (some (.ref f59)))
  (l59:K.lookup f59=some ⟨oc59,od59,.func (W.fnOf "_law_carried" "_law_carried" (ag kZ) (ae kZ) (aa kZ) .none kV59 dc59 pm59 an59 cd59 ct59),sl59⟩)
  (c59:W.codeIn K cd59 "_law_carried" = true)
  (k59:W.keepIn K (.ref f59)=true)
  (a60:W.nsIn K mainGlobals "_law_good" = some (some (.ref f60)))
  (l60:K.lookup f60=some ⟨oc60,od60,.func (W.fnOf "_law_good" "_law_good" (ag mB) (ae mB) (aa mB) .none kV60 dc60 pm60 an60 cd60 ct60),sl60⟩)
  (c60:W.codeIn K cd60 "_law_good" = true)
  (k60:W.keepIn K (.ref f60)=true)
  (a61:W.nsIn K mainGlobals "law" = some (some (.ref f61)))
  (l61:K.lookup f61=some ⟨oc61,od61,.func (W.fnOf "law" "law" (ag iQ) (ae iQ) (aa iQ) .none kV61 dc61 pm61 an61 cd61 ct61),sl61⟩)
  (c61:W.codeIn K cd61 "law" = true)
  (k61:W.keepIn K (.ref f61)=true)
  (pg_Brackets:W.plainGet K aF Str.empty=true)
  (hd_Brackets:W.hasDictIn K aF=true)
  (po_Brackets:W.plainOver K aF=true)
  (sa_Brackets:W.findIn K (.ref aF) "__setattr__" = some (some (.builtin "object.__setattr__")))
  (pg_Stairs:W.plainGet K aK Str.empty=true)
  (hd_Stairs:W.hasDictIn K aK=true)
  (po_Stairs:W.plainOver K aK=true)
  (sa_Stairs:W.findIn K (.ref aK) "__setattr__" = some (some (.builtin "object.__setattr__")))
  (pg_Twins:W.plainGet K aR Str.empty=true)
  (hd_Twins:W.hasDictIn K aR=true)
  (po_Twins:W.plainOver K aR=true)
  (sa_Twins:W.findIn K (.ref aR) "__setattr__" = some (some (.builtin "object.__setattr__")))
  (pg_Bows:W.plainGet K bu Str.empty=true)
  (hd_Bows:W.hasDictIn K bu=true)
  (po_Bows:W.plainOver K bu=true)
  (sa_Bows:W.findIn K (.ref bu) "__setattr__" = some (some (.builtin "object.__setattr__")))
  (pg_Rooms:W.plainGet K aU Str.empty=true)
  (hd_Rooms:W.hasDictIn K aU=true)
  (po_Rooms:W.plainOver K aU=true)
  (sa_Rooms:W.findIn K (.ref aU) "__setattr__" = some (some (.builtin "object.__setattr__")))
  (pg_Floors:W.plainGet K aP Str.empty=true)
  (hd_Floors:W.hasDictIn K aP=true)
  (po_Floors:W.plainOver K aP=true)
  (sa_Floors:W.findIn K (.ref aP) "__setattr__" = some (some (.builtin "object.__setattr__")))
  (pg_Turns:W.plainGet K bc Str.empty=true)
  (hd_Turns:W.hasDictIn K bc=true)
  (po_Turns:W.plainOver K bc=true)
  (sa_Turns:W.findIn K (.ref bc) "__setattr__" = some (some (.builtin "object.__setattr__")))
  (pg_Codes:W.plainGet K aS Str.empty=true)
  (hd_Codes:W.hasDictIn K aS=true)
  (po_Codes:W.plainOver K aS=true)
  (sa_Codes:W.findIn K (.ref aS) "__setattr__" = some (some (.builtin "object.__setattr__")))
  (pg_Trees:W.plainGet K aX Str.empty=true)
  (hd_Trees:W.hasDictIn K aX=true)
  (po_Trees:W.plainOver K aX=true)
  (sa_Trees:W.findIn K (.ref aX) "__setattr__" = some (some (.builtin "object.__setattr__")))
  (pg_Cars:W.plainGet K bB Str.empty=true)
  (hd_Cars:W.hasDictIn K bB=true)
  (po_Cars:W.plainOver K bB=true)
  (sa_Cars:W.findIn K (.ref bB) "__setattr__" = some (some (.builtin "object.__setattr__")))
  (mk_Brackets:W.makesIn K aF=true)
  (kc_Brackets:W.keepIn K (.ref aF)=true)
  (mk_Stairs:W.makesIn K aK=true)
  (kc_Stairs:W.keepIn K (.ref aK)=true)
  (mk_Twins:W.makesIn K aR=true)
  (kc_Twins:W.keepIn K (.ref aR)=true)
  (mk_Bows:W.makesIn K bu=true)
  (kc_Bows:W.keepIn K (.ref bu)=true)
  (mk_Rooms:W.makesIn K aU=true)
  (kc_Rooms:W.keepIn K (.ref aU)=true)
  (mk_Floors:W.makesIn K aP=true)
  (kc_Floors:W.keepIn K (.ref aP)=true)
  (mk_Turns:W.makesIn K bc=true)
  (kc_Turns:W.keepIn K (.ref bc)=true)
  (mk_Codes:W.makesIn K aS=true)
  (kc_Codes:W.keepIn K (.ref aS)=true)
  (mk_Trees:W.makesIn K aX=true)
  (kc_Trees:W.keepIn K (.ref aX)=true)
  (mk_Cars:W.makesIn K bB=true)
  (kc_Cars:W.keepIn K (.ref bB)=true)
  (bN:W.findIn K (.ref aF) "word" = some none)
  (bZ:W.findIn K (.ref aK) "word" = some none)
  (cD:W.findIn K (.ref aR) "word" = some none)
  (dz:W.findIn K (.ref bu) "word" = some none)
  (cC:W.findIn K (.ref aU) "word" = some none)
  (bW:W.findIn K (.ref aP) "word" = some none)
  (cE:W.findIn K (.ref bc) "word" = some none)
  (dJ:W.findIn K (.ref aF) "least" = some none)
  (e9:W.findIn K (.ref aK) "least" = some none)
  (fN:W.findIn K (.ref aR) "least" = some none)
  (gi:W.findIn K (.ref bu) "least" = some none)
  (fQ:W.findIn K (.ref aU) "least" = some none)
  (eZ:W.findIn K (.ref aP) "least" = some none)
  (fJ:W.findIn K (.ref bc) "least" = some none)
  (dG:W.findIn K (.ref aS) "word" = some none)
  (dH:W.findIn K (.ref aX) "word" = some none)
  (d8:W.findIn K (.ref bB) "word" = some none)
  (fI:W.findIn K (.ref aS) "least" = some none)
  (fG:W.findIn K (.ref aX) "least" = some none)
  (gp:W.findIn K (.ref bB) "least" = some none)
  (nf_code_to_cars:W.nsIn K mainGlobals "code_to_cars" = some (some (.ref fX)))
  (nf_cars_to_code:W.nsIn K mainGlobals "cars_to_code" = some (some (.ref fw)))
  (nf_cars_to_tree:W.nsIn K mainGlobals "cars_to_tree" = some (some (.ref fL)))
  (nf_tree_to_cars:W.nsIn K mainGlobals "tree_to_cars" = some (some (.ref fU)))
  (nf_code_to_tree:W.nsIn K mainGlobals "code_to_tree" = some (some (.ref fK)))
  (nf_tree_to_code:W.nsIn K mainGlobals "tree_to_code" = some (some (.ref fE)))
  (nf_floor_to_twins:W.nsIn K mainGlobals "floor_to_twins" = some (some (.ref en)))
  (nf_twins_to_floor:W.nsIn K mainGlobals "twins_to_floor" = some (some (.ref eB)))
  (nf_turns_to_brackets:W.nsIn K mainGlobals "turns_to_brackets" = some (some (.ref cV)))
  (nf_brackets_to_turns:W.nsIn K mainGlobals "brackets_to_turns" = some (some (.ref cS)))
  (nf_rooms_to_brackets:W.nsIn K mainGlobals "rooms_to_brackets" = some (some (.ref cW)))
  (nf_brackets_to_rooms:W.nsIn K mainGlobals "brackets_to_rooms" = some (some (.ref cT)))
  (nf_bows_to_brackets:W.nsIn K mainGlobals "bows_to_brackets" = some (some (.ref dA)))
  (nf_brackets_to_bows:W.nsIn K mainGlobals "brackets_to_bows" = some (some (.ref dC)))
  (nf_twins_to_brackets:W.nsIn K mainGlobals "twins_to_brackets" = some (some (.ref cU)))
  (nf_brackets_to_twins:W.nsIn K mainGlobals "brackets_to_twins" = some (some (.ref cQ)))
  (nf_stairs_to_brackets:W.nsIn K mainGlobals "stairs_to_brackets" = some (some (.ref cm)))
  (nf_brackets_to_stairs:W.nsIn K mainGlobals "brackets_to_stairs" = some (some (.ref cq)))
  (nf_gapsback:W.nsIn K mainGlobals "gapsback" = some (some (.ref ia)))
  (nf_gaps:W.nsIn K mainGlobals "gaps" = some (some (.ref kH)))
  (nf_feet_to_rooms:W.nsIn K mainGlobals "feet_to_rooms" = some (some (.ref fg)))
  (nf_rooms_to_feet:W.nsIn K mainGlobals "rooms_to_feet" = some (some (.ref eU)))
  (nf_floor_turnback:W.nsIn K mainGlobals "floor_turnback" = some (some (.ref eF)))
  (nf_floor_turn:W.nsIn K mainGlobals "floor_turn" = some (some (.ref gC)))
  (nf_bows_turnback:W.nsIn K mainGlobals "bows_turnback" = some (some (.ref eR)))
  (nf_bows_turn:W.nsIn K mainGlobals "bows_turn" = some (some (.ref gY)))
  (nf_turns_mirror:W.nsIn K mainGlobals "turns_mirror" = some (some (.ref fO)))
  (nf_floor_mirror:W.nsIn K mainGlobals "floor_mirror" = some (some (.ref fB)))
  (nf_twins_mirror:W.nsIn K mainGlobals "twins_mirror" = some (some (.ref fT)))
  (nf_bows_mirror:W.nsIn K mainGlobals "bows_mirror" = some (some (.ref gj)))
  (nf_brackets_mirror:W.nsIn K mainGlobals "brackets_mirror" = some (some (.ref dM)))
  (nf_cars_rootage:W.nsIn K mainGlobals "cars_rootage" = some (some (.ref fY)))
  (nf_cars_leaves:W.nsIn K mainGlobals "cars_leaves" = some (some (.ref gq)))
  (nf_trees_rootage:W.nsIn K mainGlobals "trees_rootage" = some (some (.ref eS)))
  (nf_trees_leaves:W.nsIn K mainGlobals "trees_leaves" = some (some (.ref fA)))
  (nf_codes_rootage:W.nsIn K mainGlobals "codes_rootage" = some (some (.ref fc)))
  (nf_codes_leaves:W.nsIn K mainGlobals "codes_leaves" = some (some (.ref fP)))
  (nf_turns_height:W.nsIn K mainGlobals "turns_height" = some (some (.ref fR)))
  (nf_turns_returns:W.nsIn K mainGlobals "turns_returns" = some (some (.ref eW)))
  (nf_turns_peaks:W.nsIn K mainGlobals "turns_peaks" = some (some (.ref gn)))
  (nf_floor_returns:W.nsIn K mainGlobals "floor_returns" = some (some (.ref eY)))
  (nf_floor_peaks:W.nsIn K mainGlobals "floor_peaks" = some (some (.ref gk)))
  (nf_rooms_returns:W.nsIn K mainGlobals "rooms_returns" = some (some (.ref fb)))
  (nf_rooms_peaks:W.nsIn K mainGlobals "rooms_peaks" = some (some (.ref gu)))
  (nf_bows_height:W.nsIn K mainGlobals "bows_height" = some (some (.ref gf)))
  (nf_bows_returns:W.nsIn K mainGlobals "bows_returns" = some (some (.ref fV)))
  (nf_bows_peaks:W.nsIn K mainGlobals "bows_peaks" = some (some (.ref gF)))
  (nf_twins_height:W.nsIn K mainGlobals "twins_height" = some (some (.ref fF)))
  (nf_twins_returns:W.nsIn K mainGlobals "twins_returns" = some (some (.ref eX)))
  (nf_twins_peaks:W.nsIn K mainGlobals "twins_peaks" = some (some (.ref gg)))
  (nf_stairs_height:W.nsIn K mainGlobals "stairs_height" = some (some (.ref fe)))
  (nf_stairs_returns:W.nsIn K mainGlobals "stairs_returns" = some (some (.ref ed)))
  (nf_stairs_peaks:W.nsIn K mainGlobals "stairs_peaks" = some (some (.ref fz)))
  (nf_brackets_height:W.nsIn K mainGlobals "brackets_height" = some (some (.ref dI)))
  (nf_brackets_returns:W.nsIn K mainGlobals "brackets_returns" = some (some (.ref dq)))
  (nf_brackets_peaks:W.nsIn K mainGlobals "brackets_peaks" = some (some (.ref ee)))
  (lcC:K.lookup cc=some ⟨.type "code",odC,.fields vsC,slC⟩)
  (tC:pS vsC=some T)
  (nC:cc≠T)
  (nB:W.nsIn K mainGlobals "__builtins__" = some (some (.ref bm)))
  (lB:K.lookup bm=some ⟨.type "module",some builtinsNs,.plain,slB⟩)
  (neB:bm≠builtinsNs)
  (nDD:W.nsIn K mainGlobals "OTHER_MANNERS" = some (some (.ref D)))
  (z_range:W.nsIn K mainGlobals "range" = some none)
  (z_len:W.nsIn K mainGlobals "len" = some none)
  (z_list:W.nsIn K mainGlobals "list" = some none)
  (z_isinstance:W.nsIn K mainGlobals "isinstance" = some none)
  (z_ValueError:W.nsIn K mainGlobals "ValueError" = some none)
  (z_str:W.nsIn K mainGlobals "str" = some none)
  (z_tuple:W.nsIn K mainGlobals "tuple" = some none)
  {uI:Addr} {sN:Addr} {nu:Addr} {o8:Addr} {nc:Addr} {c_way:Addr} {pR:Addr} {rX:Addr} {sg:Addr} {mU:Addr}
  (ve:W.nsIn K mainGlobals "KinError" = some (some (.ref uI)))
  (sU:W.nsIn K mainGlobals "NoSize" = some (some (.ref sN)))
  (m4:W.nsIn K mainGlobals "NoNumber" = some (some (.ref nu)))
  (ph:W.nsIn K mainGlobals "NoThing" = some (some (.ref o8)))
  (mY:W.nsIn K mainGlobals "NoFamily" = some (some (.ref nc)))
  (vt:W.nsIn K mainGlobals "NoWay" = some (some (.ref c_way)))
  (pT:W.nsIn K mainGlobals "Apart" = some (some (.ref pR)))
  (rG:W.nsIn K mainGlobals "NoMark" = some (some (.ref rX)))
  (rL:W.nsIn K mainGlobals "NoText" = some (some (.ref sg)))
  (nr:W.nsIn K mainGlobals "Broken" = some (some (.ref mU)))
  (t_err:oY K ⟨uI,sN,nu,o8,nc,c_way,pR,rX,sg,mU⟩=true) :
  ∃ fd:FuncData,(∀ (s:Shared) (v:Value),BindsTo s fd ⟨[v],[]⟩ [("_law_script",v)])/\∀ base:Heap,K.In base->base.Ns mainGlobals mg->aH l.prog w K mg base bp 15 fa fd ["_law_script"] (A5 K T D):=by
 have e:=hfa.symm.trans (W.mg_of X G a61)
 cases e
 have EO:rT K mg ⟨uI,sN,nu,o8,nc,c_way,pR,rX,sg,mU⟩:=A0 t_err (W.mg_of X G ve) (W.mg_of X G sU) (W.mg_of X G m4) (W.mg_of X G ph) (W.mg_of X G mY) (W.mg_of X G vt) (W.mg_of X G pT) (W.mg_of X G rG) (W.mg_of X G rL) (W.mg_of X G nr)
 have CA:Bx K mg ⟨aF,aK,aR,bu,aU,aP,bc,az,aC,aS,aX,bB,aZ,f8,f9,f10,f11,f12,f13,f14,f15,f16,f17,f18,f19,f20,f21,f22,f23,f24,f25,f26,f27,f28,f40,f41,f42,f43,f44,f45,f46,f47,f48,fX,fw,fL,fU,fK,fE,en,eB,cV,cS,cW,cT,dA,dC,cU,cQ,cm,cq,ia,kH,fg,eU,eF,gC,eR,gY,fO,fB,fT,gj,dM,fY,gq,eS,fA,fc,fP,fR,eW,gn,eY,gk,fb,gu,gf,fV,gF,fF,eX,gg,fe,ed,fz,dI,dq,ee,cc,T,D⟩:=⟨W.mg_of X G jq,W.mg_of X G kr,W.mg_of X G nj,W.mg_of X G oS,W.mg_of X G nA,W.mg_of X G kn,W.mg_of X G nG,W.mg_of X G iA,W.mg_of X G kh,W.mg_of X G mX,W.mg_of X G m7,W.mg_of X G pZ,W.mg_of X G iM,⟨pg_Brackets,hd_Brackets,po_Brackets,sa_Brackets⟩,⟨pg_Stairs,hd_Stairs,po_Stairs,sa_Stairs⟩,⟨pg_Twins,hd_Twins,po_Twins,sa_Twins⟩,⟨pg_Bows,hd_Bows,po_Bows,sa_Bows⟩,⟨pg_Rooms,hd_Rooms,po_Rooms,sa_Rooms⟩,⟨pg_Floors,hd_Floors,po_Floors,sa_Floors⟩,⟨pg_Turns,hd_Turns,po_Turns,sa_Turns⟩,⟨pg_Codes,hd_Codes,po_Codes,sa_Codes⟩,⟨pg_Trees,hd_Trees,po_Trees,sa_Trees⟩,⟨pg_Cars,hd_Cars,po_Cars,sa_Cars⟩,⟨mk_Brackets,jt,i10,kc_Brackets⟩,⟨mk_Stairs,kq,i13,kc_Stairs⟩,⟨mk_Twins,nH,i16,kc_Twins⟩,⟨mk_Bows,oQ,i19,kc_Bows⟩,⟨mk_Rooms,nz,i22,kc_Rooms⟩,⟨mk_Floors,kR,i25,kc_Floors⟩,⟨mk_Turns,mZ,i28,kc_Turns⟩,⟨mk_Codes,nF,i42,kc_Codes⟩,⟨mk_Trees,nh,i45,kc_Trees⟩,⟨mk_Cars,pz,i48,kc_Cars⟩,⟨bR,bQ,bU,k9⟩,⟨dw,du,dB,k8⟩,⟨cz,cn,cu,k12⟩,⟨dO,dW,dP,k11⟩,⟨cG,cJ,cN,k15⟩,⟨ez,eI,d6,k14⟩,⟨de,cY,di,k18⟩,⟨eL,eM,eO,k17⟩,⟨cO,cH,cK,k21⟩,⟨eD,eE,dY,k20⟩,⟨cg,cw,cB,k24⟩,⟨dQ,dU,dR,k23⟩,⟨cM,cL,cI,k27⟩,⟨et,dZ,d7,k26⟩,⟨cX,dc,cZ,k41⟩,⟨d9,eA,eC,k40⟩,⟨c0,dj,da,k44⟩,⟨eo,eG,d5,k43⟩,⟨dt,dv,dD,k47⟩,⟨eN,eJ,eK,k46⟩,bN,bZ,cD,dz,cC,bW,cE,dJ,e9,fN,gi,fQ,eZ,fJ,dG,dH,d8,fI,fG,gp,W.mg_of X G nf_code_to_cars,W.mg_of X G nf_cars_to_code,W.mg_of X G nf_cars_to_tree,W.mg_of X G nf_tree_to_cars,W.mg_of X G nf_code_to_tree,W.mg_of X G nf_tree_to_code,W.mg_of X G nf_floor_to_twins,W.mg_of X G nf_twins_to_floor,W.mg_of X G nf_turns_to_brackets,W.mg_of X G nf_brackets_to_turns,W.mg_of X G nf_rooms_to_brackets,W.mg_of X G nf_brackets_to_rooms,W.mg_of X G nf_bows_to_brackets,W.mg_of X G nf_brackets_to_bows,W.mg_of X G nf_twins_to_brackets,W.mg_of X G nf_brackets_to_twins,W.mg_of X G nf_stairs_to_brackets,W.mg_of X G nf_brackets_to_stairs,W.mg_of X G nf_gapsback,W.mg_of X G nf_gaps,W.mg_of X G nf_feet_to_rooms,W.mg_of X G nf_rooms_to_feet,W.mg_of X G nf_floor_turnback,W.mg_of X G nf_floor_turn,W.mg_of X G nf_bows_turnback,W.mg_of X G nf_bows_turn,W.mg_of X G nf_turns_mirror,W.mg_of X G nf_floor_mirror,W.mg_of X G nf_twins_mirror,W.mg_of X G nf_bows_mirror,W.mg_of X G nf_brackets_mirror,W.mg_of X G nf_cars_rootage,W.mg_of X G nf_cars_leaves,W.mg_of X G nf_trees_rootage,W.mg_of X G nf_trees_leaves,W.mg_of X G nf_codes_rootage,W.mg_of X G nf_codes_leaves,W.mg_of X G nf_turns_height,W.mg_of X G nf_turns_returns,W.mg_of X G nf_turns_peaks,W.mg_of X G nf_floor_returns,W.mg_of X G nf_floor_peaks,W.mg_of X G nf_rooms_returns,W.mg_of X G nf_rooms_peaks,W.mg_of X G nf_bows_height,W.mg_of X G nf_bows_returns,W.mg_of X G nf_bows_peaks,W.mg_of X G nf_twins_height,W.mg_of X G nf_twins_returns,W.mg_of X G nf_twins_peaks,W.mg_of X G nf_stairs_height,W.mg_of X G nf_stairs_returns,W.mg_of X G nf_stairs_peaks,W.mg_of X G nf_brackets_height,W.mg_of X G nf_brackets_returns,W.mg_of X G nf_brackets_peaks,codeHd_of lcC tC nC,W.mg_of X G nDD⟩
 have F1:=aB (st:=mi) l1 c1 k1
 have b1:=F1.binds (ps:=["_law_first","_law_last","_law_how","_law_back"]) fun _ _ _ _ _ _=>yL (fun _ _ _ _=>rfl)
 have F2:=aB (st:=lO) l2 c2 k2
 have b2:=F2.binds (ps:=[]) fun _ _ _ _ _ _=>g8 rfl
 have F3:=aB (st:=mw) l3 c3 k3
 have b3:=F3.binds (ps:=["_law_cell","_law_turn"]) fun _ _ _ _ _ _=>bX (fun _ _=>rfl)
 have F4:=aB (st:=kY) l4 c4 k4
 have b4:=F4.binds (ps:=["_law_script","_law_turn","_law_many"]) fun _ _ _ _ _ _=>eQ (fun _ _ _=>rfl)
 have F5:=aB (st:=mH) l5 c5 k5
 have b5:=F5.binds (ps:=["_law_number"]) fun _ _ _ _ _ _=>bE (fun _=>rfl)
 have F6:=aB (st:=mr) l6 c6 k6
 have b6:=F6.binds (ps:=["_law_name","_law_cell","_law_number"]) fun _ _ _ _ _ _=>eQ (fun _ _ _=>rfl)
 have F7:=aB (st:=jd) l7 c7 k7
 have b7:=F7.binds (ps:=[]) fun _ _ _ _ _ _=>g8 rfl
 have F8:=aB (st:=lZ) l8 c8 k8
 have b8:=F8.binds (ps:=["self","word","least"]) fun _ _ _ _ _ _=>eQ (fun _ _ _=>rfl)
 have F9:=aB (st:=pC) l9 c9 k9
 have b9:=F9.binds (ps:=["self","word"]) fun _ _ _ _ _ _=>bX (fun _ _=>rfl)
 have F10:=aB (st:=mK) l10 c10 k10
 have b10:=F10.binds (ps:=["self"]) fun _ _ _ _ _ _=>bE (fun _=>rfl)
 have F11:=aB (st:=lq) l11 c11 k11
 have b11:=F11.binds (ps:=["self","word","least"]) fun _ _ _ _ _ _=>eQ (fun _ _ _=>rfl)
 have F12:=aB (st:=pq) l12 c12 k12
 have b12:=F12.binds (ps:=["self","word"]) fun _ _ _ _ _ _=>bX (fun _ _=>rfl)
 have F13:=aB (st:=me) l13 c13 k13
 have b13:=F13.binds (ps:=["self"]) fun _ _ _ _ _ _=>bE (fun _=>rfl)
 have F14:=aB (st:=lH) l14 c14 k14
 have b14:=F14.binds (ps:=["self","word","least"]) fun _ _ _ _ _ _=>eQ (fun _ _ _=>rfl)
 have F15:=aB (st:=oV) l15 c15 k15
 have b15:=F15.binds (ps:=["self","word"]) fun _ _ _ _ _ _=>bX (fun _ _=>rfl)
 have F16:=aB (st:=lV) l16 c16 k16
 have b16:=F16.binds (ps:=["self"]) fun _ _ _ _ _ _=>bE (fun _=>rfl)
 have F17:=aB (st:=mq) l17 c17 k17
 have b17:=F17.binds (ps:=["self","word","least"]) fun _ _ _ _ _ _=>eQ (fun _ _ _=>rfl)
 have F18:=aB (st:=oM) l18 c18 k18
 have b18:=F18.binds (ps:=["self","word"]) fun _ _ _ _ _ _=>bX (fun _ _=>rfl)
 have F19:=aB (st:=lg) l19 c19 k19
 have b19:=F19.binds (ps:=["self"]) fun _ _ _ _ _ _=>bE (fun _=>rfl)
 have F20:=aB (st:=lM) l20 c20 k20
 have b20:=F20.binds (ps:=["self","word","least"]) fun _ _ _ _ _ _=>eQ (fun _ _ _=>rfl)
 have F21:=aB (st:=pN) l21 c21 k21
 have b21:=F21.binds (ps:=["self","word"]) fun _ _ _ _ _ _=>bX (fun _ _=>rfl)
 have F22:=aB (st:=mn) l22 c22 k22
 have b22:=F22.binds (ps:=["self"]) fun _ _ _ _ _ _=>bE (fun _=>rfl)
 have F23:=aB (st:=ma) l23 c23 k23
 have b23:=F23.binds (ps:=["self","word","least"]) fun _ _ _ _ _ _=>eQ (fun _ _ _=>rfl)
 have F24:=aB (st:=pO) l24 c24 k24
 have b24:=F24.binds (ps:=["self","word"]) fun _ _ _ _ _ _=>bX (fun _ _=>rfl)
 have F25:=aB (st:=mI) l25 c25 k25
 have b25:=F25.binds (ps:=["self"]) fun _ _ _ _ _ _=>bE (fun _=>rfl)
 have F26:=aB (st:=kX) l26 c26 k26
 have b26:=F26.binds (ps:=["self","word","least"]) fun _ _ _ _ _ _=>eQ (fun _ _ _=>rfl)
 have F27:=aB (st:=oW) l27 c27 k27
 have b27:=F27.binds (ps:=["self","word"]) fun _ _ _ _ _ _=>bX (fun _ _=>rfl)
 have F28:=aB (st:=mD) l28 c28 k28
 have b28:=F28.binds (ps:=["self"]) fun _ _ _ _ _ _=>bE (fun _=>rfl)
 have F29:=aB (st:=kS) l29 c29 k29
 have b29:=F29.binds (ps:=[]) fun _ _ _ _ _ _=>g8 rfl
 have F30:=aB (st:=lN) l30 c30 k30
 have b30:=F30.binds (ps:=["one","other"]) fun _ _ _ _ _ _=>bX (fun _ _=>rfl)
 have F31:=aB (st:=jP) l31 c31 k31
 have b31:=F31.binds (ps:=["one","other"]) fun _ _ _ _ _ _=>bX (fun _ _=>rfl)
 have F32:=aB (st:=lS) l32 c32 k32
 have b32:=F32.binds (ps:=[]) fun _ _ _ _ _ _=>g8 rfl
 have F33:=aB (st:=jj) l33 c33 k33
 have b33:=F33.binds (ps:=[]) fun _ _ _ _ _ _=>g8 rfl
 have F34:=aB (st:=lj) l34 c34 k34
 have b34:=F34.binds (ps:=[]) fun _ _ _ _ _ _=>g8 rfl
 have F35:=aB (st:=lQ) l35 c35 k35
 have b35:=F35.binds (ps:=["name"]) fun _ _ _ _ _ _=>bE (fun _=>rfl)
 have F36:=aB (st:=lD) l36 c36 k36
 have b36:=F36.binds (ps:=["name"]) fun _ _ _ _ _ _=>bE (fun _=>rfl)
 have F37:=aB (st:=my) l37 c37 k37
 have b37:=F37.binds (ps:=["name"]) fun _ _ _ _ _ _=>bE (fun _=>rfl)
 have F38:=aB (st:=mf) l38 c38 k38
 have b38:=F38.binds (ps:=["name"]) fun _ _ _ _ _ _=>bE (fun _=>rfl)
 have F39:=aB (st:=mL) l39 c39 k39
 have b39:=F39.binds (ps:=["words","manner"]) fun _ _ _ _ _ _=>bX (fun _ _=>rfl)
 have F40:=aB (st:=mx) l40 c40 k40
 have b40:=F40.binds (ps:=["self","word","least"]) fun _ _ _ _ _ _=>eQ (fun _ _ _=>rfl)
 have F41:=aB (st:=oN) l41 c41 k41
 have b41:=F41.binds (ps:=["self","word"]) fun _ _ _ _ _ _=>bX (fun _ _=>rfl)
 have F42:=aB (st:=lI) l42 c42 k42
 have b42:=F42.binds (ps:=["self"]) fun _ _ _ _ _ _=>bE (fun _=>rfl)
 have F43:=aB (st:=lG) l43 c43 k43
 have b43:=F43.binds (ps:=["self","word","least"]) fun _ _ _ _ _ _=>eQ (fun _ _ _=>rfl)
 have F44:=aB (st:=p7) l44 c44 k44
 have b44:=F44.binds (ps:=["self","word"]) fun _ _ _ _ _ _=>bX (fun _ _=>rfl)
 have F45:=aB (st:=lP) l45 c45 k45
 have b45:=F45.binds (ps:=["self"]) fun _ _ _ _ _ _=>bE (fun _=>rfl)
 have F46:=aB (st:=mz) l46 c46 k46
 have b46:=F46.binds (ps:=["self","word","least"]) fun _ _ _ _ _ _=>eQ (fun _ _ _=>rfl)
 have F47:=aB (st:=oK) l47 c47 k47
 have b47:=F47.binds (ps:=["self","word"]) fun _ _ _ _ _ _=>bX (fun _ _=>rfl)
 have F48:=aB (st:=mm) l48 c48 k48
 have b48:=F48.binds (ps:=["self"]) fun _ _ _ _ _ _=>bE (fun _=>rfl)
 have F49:=aB (st:=mj) l49 c49 k49
 have b49:=F49.binds (ps:=[]) fun _ _ _ _ _ _=>g8 rfl
 have F50:=aB (st:=lE) l50 c50 k50
 have b50:=F50.binds (ps:=["word"]) fun _ _ _ _ _ _=>bE (fun _=>rfl)
 have F51:=aB (st:=jl) l51 c51 k51
 have b51:=F51.binds (ps:=[]) fun _ _ _ _ _ _=>g8 rfl
 have F52:=aB (st:=lJ) l52 c52 k52
 have b52:=F52.binds (ps:=["word"]) fun _ _ _ _ _ _=>bE (fun _=>rfl)
 have F53:=aB (st:=lR) l53 c53 k53
 have b53:=F53.binds (ps:=["name"]) fun _ _ _ _ _ _=>bE (fun _=>rfl)
 have F54:=aB (st:=mv) l54 c54 k54
 have b54:=F54.binds (ps:=["_law_kind","_law_name"]) fun _ _ _ _ _ _=>bX (fun _ _=>rfl)
 have F55:=aB (st:=lW) l55 c55 k55
 have b55:=F55.binds (ps:=["_law_error"]) fun _ _ _ _ _ _=>bE (fun _=>rfl)
 have F56:=aB (st:=kT) l56 c56 k56
 have b56:=F56.binds (ps:=["_law_kind","_law_name"]) fun _ _ _ _ _ _=>bX (fun _ _=>rfl)
 have F57:=aB (st:=mE) l57 c57 k57
 have b57:=F57.binds (ps:=["_law_found","_law_due"]) fun _ _ _ _ _ _=>bX (fun _ _=>rfl)
 have F58:=aB (st:=lX) l58 c58 k58
 have b58:=F58.binds (ps:=["_law_word"]) fun _ _ _ _ _ _=>bE (fun _=>rfl)
 have F59:=aB (st:=kZ) l59 c59 k59
 have b59:=F59.binds (ps:=["_law_row"]) fun _ _ _ _ _ _=>bE (fun _=>rfl)
 have F60:=aB (st:=mB) l60 c60 k60
 have b60:=F60.binds (ps:=["_law_row"]) fun _ _ _ _ _ _=>bE (fun _=>rfl)
 have F61:=aB (st:=iQ) l61 c61 k61
 have dE:=W.mg_none_of X G z_range
 have dm:=W.mg_none_of X G z_len
 have ig:=W.mg_none_of X G z_list
 have aN:=W.mg_none_of X G z_isinstance
 have iX:=W.mg_none_of X G z_ValueError
 have lC:=W.mg_none_of X G z_str
 have pJ:=W.mg_none_of X G z_tuple
 refine ⟨W.fnOf "law" "law" (ag iQ) (ae iQ) (aa iQ) .none kV61 dc61 pm61 an61 cd61 ct61,fun s v=>.of_eq rfl,fun base kb _=>?_⟩
 have gM:Def l.prog w K mg base "_law_there_and_back" ["_law_first","_law_last","_law_how","_law_back"] 1 (tN K _) f1 _:=⟨(AO (P:=l.prog) (w:=w) (base:=base) EO CA F1).up,b1,k1,W.mg_of X G a1⟩
 have va:Def l.prog w K mg base "_law_ways" [] 2 (rO K _) f2 _:=⟨(zW (P:=l.prog) (w:=w) (base:=base) EO CA F2 gM dE).up,b2,k2,W.mg_of X G a2⟩
 have mJ:Def l.prog w K mg base "_law_mix" ["_law_cell","_law_turn"] 1 (nS K _) f3 _:=⟨(zD (P:=l.prog) (w:=w) (base:=base) EO CA F3).up,b3,k3,W.mg_of X G a3⟩
 have uF:Def l.prog w K mg base "_law_draws" ["_law_script","_law_turn","_law_many"] 2 (rm K _) f4 _:=⟨(Bo (P:=l.prog) (w:=w) (base:=base) EO CA F4 mJ dE dm).up,b4,k4,W.mg_of X G a4⟩
 have qI:Def l.prog w K mg base "_law_any" ["_law_number"] 1 (rK K _) f5 _:=⟨(Bu (P:=l.prog) (w:=w) (base:=base) EO CA F5 dm).up,b5,k5,W.mg_of X G a5⟩
 have vX:Def l.prog w K mg base "_law_spoiled" ["_law_name","_law_cell","_law_number"] 2 (sf K _) f6 _:=⟨(AB (P:=l.prog) (w:=w) (base:=base) EO CA F6 mJ qI dm).up,b6,k6,W.mg_of X G a6⟩
 have uz:Def l.prog w K mg base "direct_ways" [] 1 (tG K _) f7 _:=⟨(zM (P:=l.prog) (w:=w) (base:=base) EO CA F7).up,b7,k7,W.mg_of X G a7⟩
 have vK:aM l.prog w K mg base ["self","word","least"] 1 (sE K _) f8 _:=⟨(Ar (P:=l.prog) (w:=w) (base:=base) EO CA F8).up,b8⟩
 have xI:aM l.prog w K mg base ["self","word"] 3 (vj K _) f9 _:=⟨(Cg (P:=l.prog) (w:=w) (base:=base) EO CA F9 vK).up,b9⟩
 have uQ:aM l.prog w K mg base ["self"] 5 (sy K _) f10 _:=⟨(Bg (P:=l.prog) (w:=w) (base:=base) EO CA F10 xI).up,b10⟩
 have vD:aM l.prog w K mg base ["self","word","least"] 1 (rq K _) f11 _:=⟨(zS (P:=l.prog) (w:=w) (base:=base) EO CA F11).up,b11⟩
 have xU:aM l.prog w K mg base ["self","word"] 3 (vG K _) f12 _:=⟨(BU (P:=l.prog) (w:=w) (base:=base) EO CA F12 vD).up,b12⟩
 have vq:aM l.prog w K mg base ["self"] 5 (sD K _) f13 _:=⟨(zJ (P:=l.prog) (w:=w) (base:=base) EO CA F13 xU).up,b13⟩
 have vN:aM l.prog w K mg base ["self","word","least"] 1 (rJ K _) f14 _:=⟨(Ap (P:=l.prog) (w:=w) (base:=base) EO CA F14).up,b14⟩
 have ym:aM l.prog w K mg base ["self","word"] 3 (vb K _) f15 _:=⟨(B6 (P:=l.prog) (w:=w) (base:=base) EO CA F15 vN).up,b15⟩
 have vQ:aM l.prog w K mg base ["self"] 5 (sv K _) f16 _:=⟨(zC (P:=l.prog) (w:=w) (base:=base) EO CA F16 ym).up,b16⟩
 have vP:aM l.prog w K mg base ["self","word","least"] 1 (rj K _) f17 _:=⟨(A4 (P:=l.prog) (w:=w) (base:=base) EO CA F17).up,b17⟩
 have xH:aM l.prog w K mg base ["self","word"] 3 (vw K _) f18 _:=⟨(Cm (P:=l.prog) (w:=w) (base:=base) EO CA F18 vP).up,b18⟩
 have uO:aM l.prog w K mg base ["self"] 5 (rN K _) f19 _:=⟨(z5 (P:=l.prog) (w:=w) (base:=base) EO CA F19 xH).up,b19⟩
 have vC:aM l.prog w K mg base ["self","word","least"] 1 (rn K _) f20 _:=⟨(z7 (P:=l.prog) (w:=w) (base:=base) EO CA F20).up,b20⟩
 have xS:aM l.prog w K mg base ["self","word"] 3 (wb K _) f21 _:=⟨(Cp (P:=l.prog) (w:=w) (base:=base) EO CA F21 vC).up,b21⟩
 have vJ:aM l.prog w K mg base ["self"] 5 (rW K _) f22 _:=⟨(Bi (P:=l.prog) (w:=w) (base:=base) EO CA F22 xS).up,b22⟩
 have vS:aM l.prog w K mg base ["self","word","least"] 1 (sV K _) f23 _:=⟨(Aa (P:=l.prog) (w:=w) (base:=base) EO CA F23).up,b23⟩
 have yb:aM l.prog w K mg base ["self","word"] 3 (u0 K _) f24 _:=⟨(Ce (P:=l.prog) (w:=w) (base:=base) EO CA F24 vS).up,b24⟩
 have v7:aM l.prog w K mg base ["self"] 5 (sP K _) f25 _:=⟨(AW (P:=l.prog) (w:=w) (base:=base) EO CA F25 yb).up,b25⟩
 have vf:aM l.prog w K mg base ["self","word","least"] 1 (tI K _) f26 _:=⟨(As (P:=l.prog) (w:=w) (base:=base) EO CA F26).up,b26⟩
 have xF:aM l.prog w K mg base ["self","word"] 3 (wg K _) f27 _:=⟨(BZ (P:=l.prog) (w:=w) (base:=base) EO CA F27 vf).up,b27⟩
 have vh:aM l.prog w K mg base ["self"] 5 (si K _) f28 _:=⟨(Am (P:=l.prog) (w:=w) (base:=base) EO CA F28 xF).up,b28⟩
 have jU:Def l.prog w K mg base "split_families" [] 7 (oG K _) f29 _:=⟨(AM (P:=l.prog) (w:=w) (base:=base) EO CA F29 uQ vq vQ uO vJ v7 vh).up,b29,k29,W.mg_of X G a29⟩
 have vB:Def l.prog w K mg base "parts_name" ["one","other"] 1 (rl K _) f30 _:=⟨(AF (P:=l.prog) (w:=w) (base:=base) EO CA F30).up,b30,k30,W.mg_of X G a30⟩
 have uS:Def l.prog w K mg base "parts_way" ["one","other"] 1 (tL K _) f31 _:=⟨(A3 (P:=l.prog) (w:=w) (base:=base) EO CA F31 rfl (CD (W.mg_of X G nB) lB neB base kb)).up,b31,k31,W.mg_of X G a31⟩
 have vx:Def l.prog w K mg base "parts_ways" [] 8 (sx K _) f32 _:=⟨(z6 (P:=l.prog) (w:=w) (base:=base) EO CA F32 jU vB uS).up,b32,k32,W.mg_of X G a32⟩
 have vW:Def l.prog w K mg base "turning_ways" [] 1 (tK K _) f33 _:=⟨(BL (P:=l.prog) (w:=w) (base:=base) EO CA F33).up,b33,k33,W.mg_of X G a33⟩
 have wa:Def l.prog w K mg base "all_ways" [] 9 (sZ K _) f34 _:=⟨(AR (P:=l.prog) (w:=w) (base:=base) EO CA F34 uz vx vW).up,b34,k34,W.mg_of X G a34⟩
 have kU:Def l.prog w K mg base "way_of" ["name"] 10 (ou K _ _) f35 _:=⟨(BC (P:=l.prog) (w:=w) (base:=base) EO CA F35 wa),b35,k35,W.mg_of X G a35⟩
 have g4:Def l.prog w K mg base "ends" ["name"] 11 (jA K _ _) f36 _:=⟨(By (P:=l.prog) (w:=w) (base:=base) EO CA F36 kU),b36,k36,W.mg_of X G a36⟩
 have ml:Def l.prog w K mg base "manner_of" ["name"] 1 (nY K _) f37 _:=⟨(BK (P:=l.prog) (w:=w) (base:=base) EO CA F37).up,b37,k37,W.mg_of X G a37⟩
 have mG:Def l.prog w K mg base "back_of" ["name"] 12 (nZ K _ _) f38 _:=⟨(BF (P:=l.prog) (w:=w) (base:=base) EO CA F38 g4 ml),b38,k38,W.mg_of X G a38⟩
 have vO:Def l.prog w K mg base "carries" ["words","manner"] 1 (tM K _) f39 _:=⟨(Bw (P:=l.prog) (w:=w) (base:=base) EO CA F39).up,b39,k39,W.mg_of X G a39⟩
 have vV:aM l.prog w K mg base ["self","word","least"] 1 (sA K _) f40 _:=⟨(Bs (P:=l.prog) (w:=w) (base:=base) EO CA F40).up,b40⟩
 have xV:aM l.prog w K mg base ["self","word"] 3 (uU K _) f41 _:=⟨(Cs (P:=l.prog) (w:=w) (base:=base) EO CA F41 vV).up,b41⟩
 have vc:aM l.prog w K mg base ["self"] 5 (sT K _) f42 _:=⟨(BQ (P:=l.prog) (w:=w) (base:=base) EO CA F42 xV).up,b42⟩
 have uN:aM l.prog w K mg base ["self","word","least"] 1 (sX K _) f43 _:=⟨(Ac (P:=l.prog) (w:=w) (base:=base) EO CA F43).up,b43⟩
 have xW:aM l.prog w K mg base ["self","word"] 3 (uL K _) f44 _:=⟨(B8 (P:=l.prog) (w:=w) (base:=base) EO CA F44 uN).up,b44⟩
 have uR:aM l.prog w K mg base ["self"] 5 (tu K _) f45 _:=⟨(Bq (P:=l.prog) (w:=w) (base:=base) EO CA F45 xW).up,b45⟩
 have uZ:aM l.prog w K mg base ["self","word","least"] 1 (sO K _) f46 _:=⟨(Bm (P:=l.prog) (w:=w) (base:=base) EO CA F46).up,b46⟩
 have yi:aM l.prog w K mg base ["self","word"] 3 (vL K _) f47 _:=⟨(CB (P:=l.prog) (w:=w) (base:=base) EO CA F47 uZ).up,b47⟩
 have vd:aM l.prog w K mg base ["self"] 5 (sd K _) f48 _:=⟨(Ao (P:=l.prog) (w:=w) (base:=base) EO CA F48 yi).up,b48⟩
 have vp:Def l.prog w K mg base "ring_families" [] 7 (sH K _) f49 _:=⟨(AU (P:=l.prog) (w:=w) (base:=base) EO CA F49 vc uR vd).up,b49,k49,W.mg_of X G a49⟩
 have vE:Def l.prog w K mg base "family_of" ["word"] 8 (sC K _) f50 _:=⟨(zT (P:=l.prog) (w:=w) (base:=base) EO CA F50 jU vp).up,b50,k50,W.mg_of X G a50⟩
 have vm:Def l.prog w K mg base "all_measures" [] 1 (sj K _) f51 _:=⟨(Bv (P:=l.prog) (w:=w) (base:=base) EO CA F51).up,b51,k51,W.mg_of X G a51⟩
 have qX:Def l.prog w K mg base "marks_of" ["word"] 9 (sr K _) f52 _:=⟨(BO (P:=l.prog) (w:=w) (base:=base) EO CA F52 vE vm ig).up,b52,k52,W.mg_of X G a52⟩
 have mC:Def l.prog w K mg base "carried_by" ["name"] 12 (nW K _ _) f53 _:=⟨(A6 (P:=l.prog) (w:=w) (base:=base) EO CA F53 g4 vO ml qX),b53,k53,W.mg_of X G a53⟩
 have v3:Def l.prog w K mg base "_law_asked" ["_law_kind","_law_name"] 13 (rD K _ _) f54 _:=⟨(zB (P:=l.prog) (w:=w) (base:=base) EO CA F54 g4 mG mC kU),b54,k54,W.mg_of X G a54⟩
 have uV:Def l.prog w K mg base "_law_is_no_way" ["_law_error"] 1 (rp K _ _) f55 _:=⟨(AL (P:=l.prog) (w:=w) (base:=base) EO CA F55 aN iX).up,b55,k55,W.mg_of X G a55⟩
 have uY:Def l.prog w K mg base "_law_refused" ["_law_kind","_law_name"] 14 (se K _ _) f56 _:=⟨(BR (P:=l.prog) (w:=w) (base:=base) EO CA F56 v3 uV).up,b56,k56,W.mg_of X G a56⟩
 have qQ:Def l.prog w K mg base "_law_texts" ["_law_found","_law_due"] 1 (rF K _) f57 _:=⟨(Bn (P:=l.prog) (w:=w) (base:=base) EO CA F57 aN ig dm dE lC).up,b57,k57,W.mg_of X G a57⟩
 have qR:Def l.prog w K mg base "_law_marks" ["_law_word"] 1 (rh K _) f58 _:=⟨(BS (P:=l.prog) (w:=w) (base:=base) EO CA F58).up,b58,k58,W.mg_of X G a58⟩
 have u6:Def l.prog w K mg base "_law_carried" ["_law_row"] 2 (rH K _) f59 _:=⟨(Bk (P:=l.prog) (w:=w) (base:=base) EO CA F59 qR).up,b59,k59,W.mg_of X G a59⟩
 have uG:Def l.prog w K mg base "_law_good" ["_law_row"] 13 (tm K _ _) f60 _:=⟨(Ay (P:=l.prog) (w:=w) (base:=base) EO CA F60 g4 qQ mG u6 mC aN pJ dm ig lC).up,b60,k60,W.mg_of X G a60⟩
 exact zU (P:=l.prog) (w:=w) (base:=base) EO CA F61 va uF vX uY uG dE dm
theorem walk {l:W.OpenLaw} {q:Program} {loose:List Str} {XP:(Str->Option Value)->Heap->Prop} {YP:World->Heap->Prop} {d:DefRec} {K:Params->W.Frag} {c T D:Addr} {oD:Params->Obj} (hn:l.most=some 63) (hdf:d.params.defaults=[])
  (hY:∀ (w:World) (h:Heap),YP w h->(K w.params).In h/\h.TableAt c T #[]/\h.get? D=some (oD w.params)) (hTK:∀ w:World,(K w.params).lookup T=none) (hDK:∀ w:World,(K w.params).lookup D=none)
  (okD:∀ (w:World) (h:Heap) (H:Hp),h.get? D=some (oD w.params)->bg l.prog w H h D (.dK pG)) (D1:D≠mainGlobals) (D2:D≠builtinsNs) (D3:D≠cStatics)
  (F:∀ (w:World) (mg:Str->Option Value) (fa:Addr) (h:Heap),(K w.params).In h->h.Ns mainGlobals mg->mg d.name=some (.ref fa) ->
   ∃ fd:FuncData,(∀ (s:Shared) (u:Value),BindsTo s fd ⟨[u],[]⟩ [("_law_script",u)])/\∀ base:Heap,(K w.params).In base->base.Ns mainGlobals mg->aH l.prog w (K w.params) mg base bp 15 fa fd ["_law_script"] (A5 (K w.params) T D)) :
  W.WalkO q loose XP YP l.row.toRowW d [] (fun f vs=>PySem.call f vs) :=
 L2.walk_ofT (n:=63) (k:=15) (x:="_law_script") (CX:=fun _=>bp) (sp:=fun w=>A5 (K w.params) T D) hn (by decide) hdf ⟨rfl,by decide,by decide⟩ hY hTK hDK trivial okD D1 D2 D3 F (fun _ _ a ns hl hS g=>⟨a,ns,rfl,hS,hl,⟨_,g⟩,fun _ s=>⟨rfl,s _ _ g.tab⟩⟩) fun _ _ _ _ _ z=>z
end Ck
open L2
namespace Ck
open PySem PySem.W PySem.Calls PyProof.Rows
noncomputable def hB:List Stmt:=behindTheImports PySem.Challenge.pw_countkin_k53_ways_by_name
noncomputable def hE:Env:={ scope:=PySem.Challenge.pw_countkin_k53_ways_by_name.main.scope,locals:=mainNs,globals:=mainNs,cells:=[],code:=(.ref 13),frame:=some 14 }
noncomputable def hC:Code:=.body hB hE
noncomputable def hTree (P:Params):BT:=(.node (boot_o_0 P) (.node (boot_o_1 P) (.node (boot_o_3 P) (.node (boot_o_7 P) .nil .nil) (.node ⟨(.type "tuple"),none,(.seq #[] 0),#[]⟩ .nil .nil)) (.node (boot_o_5 P) (.node (boot_o_9 P) .nil .nil) (.node ⟨(.type "code"),none,(.fields #[(.str "<module>" 182),(.str "<module>" 183),(.str "/claim/cut.py" 184),(.int 1 0),(.int 0 0),(.int 0 0),(.int 0 0),(.int 0 0),(.ref 11),(.bool false),(.int 181 0),(.ref 12),.none,.none,.none,.none,(.int 185 0),(.int 1 0),(.str "/claim/cut.py" 186)]),#[]⟩ .nil .nil))) (.node (boot_o_2 P) (.node (boot_o_4 P) (.node (boot_o_8 P) .nil .nil) (.node ⟨.none,none,(.fields #[]),#[]⟩ .nil .nil)) (.node (boot_o_6 P) (.node (boot_o_10 P) .nil .nil) (.node ⟨(.type "frame"),none,.plain,#[(some (.ref 13)),(some (.ref 3)),(some (.ref 3)),none,(some (.str "__main__" 164)),none,(some (.ref 0))]⟩ .nil .nil))))
noncomputable def hS (w:World) (os:OsState):SharedT:=⟨hTree w.params,15,({}:Life),Array.mk [],⟨0,0,0,0⟩,187,os⟩
noncomputable def hQ:Program:={ PySem.Challenge.pw_countkin_k53_ways_by_name with main:={ PySem.Challenge.pw_countkin_k53_ways_by_name.main with body:=[top 167] } }
noncomputable def hL:List Str:=(Str.ofString "_wall"::Str.ofString "GREATEST_SIZE"::Str.ofString "by_rule"::Str.ofString "ring_many"::Str.ofString "KinError"::Str.ofString "NoSize"::Str.ofString "NoNumber"::Str.ofString "NoThing"::Str.ofString "NoFamily"::Str.ofString "NoWay"::Str.ofString "Apart"::Str.ofString "NoMark"::Str.ofString "NoText"::Str.ofString "Broken"::Str.ofString "Family"::Str.ofString "SplitFamily"::Str.ofString "by_parts"::Str.ofString "led_by_parts"::Str.ofString "RingFamily"::Str.ofString "Codes"::Str.ofString "Cars"::Str.ofString "cars_to_code"::Str.ofString "code_to_cars"::Str.ofString "raised_by"::Str.ofString "pairs_raised_by"::Str.ofString "flat"::Str.ofString "each_once"::Str.ofString "any_cross"::Str.ofString "pairs_anew"::Str.ofString "Floors"::Str.ofString "may_be_cut"::Str.ofString "third_corner"::Str.ofString "closes"::Str.ofString "Brackets"::Str.ofString "first_close"::Str.ofString "Stairs"::Str.ofString "right_begin"::Str.ofString "Twins"::Str.ofString "brackets_to_twins"::Str.ofString "twins_to_brackets"::Str.ofString "twins_to_floor"::Str.ofString "lines_over"::Str.ofString "floor_to_twins"::Str.ofString "Trees"::Str.ofString "comes_to_0"::Str.ofString "tree_to_code"::Str.ofString "code_to_tree"::Str.ofString "Bows"::Str.ofString "Rooms"::Str.ofString "neighbours"::Str.ofString "Turns"::Str.ofString "comes_off_a_stack"::Str.ofString "split_families"::Str.ofString "ring_families"::Str.ofString "family_of"::Str.ofString "missing"::Str.ofString "trees_leaves"::Str.ofString "trees_rootage"::Str.ofString "codes_leaves"::Str.ofString "codes_rootage"::Str.ofString "cars_leaves"::Str.ofString "cars_rootage"::Str.ofString "brackets_peaks"::Str.ofString "depths"::Str.ofString "brackets_returns"::Str.ofString "stairs_peaks"::Str.ofString "stairs_returns"::Str.ofString "twins_peaks"::Str.ofString "twins_returns"::Str.ofString "bows_peaks"::Str.ofString "bows_over"::Str.ofString "bows_returns"::Str.ofString "rooms_peaks"::Str.ofString "rooms_around"::Str.ofString "rooms_returns"::Str.ofString "triangles"::Str.ofString "floor_peaks"::Str.ofString "floor_returns"::Str.ofString "turns_peaks"::Str.ofString "turns_returns"::Str.ofString "brackets_height"::Str.ofString "stairs_height"::Str.ofString "twins_height"::Str.ofString "bows_height"::Str.ofString "turns_height"::Str.ofString "all_measures"::Str.ofString "marks_of"::Str.ofString "brackets_mirror"::Str.ofString "bows_mirror"::Str.ofString "mirrored_pairs"::Str.ofString "twins_mirror"::Str.ofString "mirrored_twins"::Str.ofString "floor_mirror"::Str.ofString "turns_mirror"::Str.ofString "knots_with"::Str.ofString "tree_to_cars"::Str.ofString "cars_to_tree"::Str.ofString "turned_pairs"::Str.ofString "bows_turn"::Str.ofString "bows_turnback"::Str.ofString "floor_turn"::Str.ofString "floor_turnback"::Str.ofString "rooms_to_feet"::Str.ofString "feet_to_rooms"::Str.ofString "room_from"::Str.ofString "gaps"::Str.ofString "gapsback"::Str.ofString "brackets_to_stairs"::Str.ofString "stairs_to_brackets"::Str.ofString "brackets_to_bows"::Str.ofString "bows_to_brackets"::Str.ofString "closed_in_runs"::Str.ofString "brackets_to_rooms"::Str.ofString "rooms_to_brackets"::Str.ofString "brackets_to_turns"::Str.ofString "turns_to_brackets"::Str.ofString "OTHER_MANNERS"::Str.ofString "direct_ways"::Str.ofString "turning_ways"::Str.ofString "parts_name"::Str.ofString "parts_way"::Str.ofString "parts_ways"::Str.ofString "all_ways"::Str.ofString "way_of"::Str.ofString "manner_of"::Str.ofString "ends"::Str.ofString "back_of"::Str.ofString "carried_by"::Str.ofString "carries"::Str.ofString "_law_mix"::Str.ofString "_law_there_and_back"::Str.ofString "_law_ways"::Str.ofString "_law_marks"::Str.ofString "_law_carried"::Str.ofString "_law_texts"::Str.ofString "_law_any"::Str.ofString "_law_spoiled"::Str.ofString "_law_is_no_way"::Str.ofString "_law_asked"::Str.ofString "_law_refused"::Str.ofString "_law_good"::Str.ofString "_law_draws"::[])
noncomputable def kD (P:Params) (x:Str) (n:Tok) (v:Value):DictEntry:=⟨PyData.keyHash P x,.str x n,v⟩
noncomputable def kF (a b:Str) (s:Stmt) (m:Str) (n:Tok) (c:Addr):Obj:=⟨.type "function",none,.func (fnOf a b (ag s) (ae s) (aa s) .none .none .none (.str m n) none (.ref c) .none),#[]⟩
noncomputable def kC (a b:Str) (t:Nat) (l n:Int) (r q x y z w:Value) (e:Nat):Obj:=⟨.type "code",none,.fields #[.str a t,.str b (t+1),.str "/claim/cut.py" (t+2),.int l 0,.int n 0,.int 0 0,.int 0 0,.int 3 0,r,.bool true,.int 181 0,q,x,y,z,w,.int (Int.ofNat e) 0,.int l 0,.str "/claim/cut.py" (e+1)],#[]⟩
noncomputable def hK:Params->Frag:=fun P=>(nat_lit 2,⟨.none,none,(.dict #[] 0),#[]⟩)::(nat_lit 3,⟨(.type "dict"),none,(.dict (List.toArray (kD P "__name__" 165 (.str "law_countkin_k53_ways_by_name" 2071)::kD P "__doc__" 166 .none::kD P "__package__" 167 .none::kD P "__loader__" 168 (.builtin "__main__.__loader__#opaque")::kD P "__spec__" 169 .none::kD P "__annotations__" 170 (.ref 6)::kD P "__builtins__" 171 (.ref 4)::kD P "__file__" 173 (.str "/claim/cut.py" 172)::kD P "__cached__" 174 .none::kD P "_wall" 193 (.ref 21)::kD P "GREATEST_SIZE" 197 (.int 40 196)::kD P "by_rule" 206 (.ref 28)::kD P "ring_many" 215 (.ref 35)::kD P "KinError" 235 (.ref 45)::kD P "NoSize" 251 (.ref 58)::kD P "NoNumber" 267 (.ref 70)::kD P "NoThing" 283 (.ref 82)::kD P "NoFamily" 299 (.ref 94)::kD P "NoWay" 315 (.ref 106)::kD P "Apart" 331 (.ref 118)::kD P "NoMark" 347 (.ref 130)::kD P "NoText" 363 (.ref 142)::kD P "Broken" 388 (.ref 161)::kD P "Family" 503 (.ref 250)::kD P "SplitFamily" 595 (.ref 327)::kD P "by_parts" 604 (.ref 336)::kD P "led_by_parts" 616 (.ref 343)::kD P "RingFamily" 683 (.ref 395)::kD P "Codes" 736 (.ref 440)::kD P "Cars" 787 (.ref 481)::kD P "cars_to_code" 794 (.ref 490)::kD P "code_to_cars" 801 (.ref 497)::kD P "raised_by" 809 (.ref 502)::kD P "pairs_raised_by" 815 (.ref 507)::kD P "flat" 824 (.ref 514)::kD P "each_once" 831 (.ref 521)::kD P "any_cross" 842 (.ref 528)::kD P "pairs_anew" 848 (.ref 533)::kD P "Floors" 912 (.ref 581)::kD P "may_be_cut" 921 (.ref 590)::kD P "third_corner" 927 (.ref 595)::kD P "closes" 938 (.ref 602)::kD P "Brackets" 1004 (.ref 654)::kD P "first_close" 1013 (.ref 663)::kD P "Stairs" 1080 (.ref 715)::kD P "right_begin" 1088 (.ref 724)::kD P "Twins" 1156 (.ref 776)::kD P "brackets_to_twins" 1168 (.ref 785)::kD P "twins_to_brackets" 1178 (.ref 792)::kD P "twins_to_floor" 1187 (.ref 799)::kD P "lines_over" 1198 (.ref 806)::kD P "floor_to_twins" 1204 (.ref 811)::kD P "Trees" 1255 (.ref 850)::kD P "comes_to_0" 1265 (.ref 859)::kD P "tree_to_code" 1272 (.ref 866)::kD P "code_to_tree" 1279 (.ref 873)::kD P "Bows" 1346 (.ref 923)::kD P "Rooms" 1400 (.ref 969)::kD P "neighbours" 1406 (.ref 976)::kD P "Turns" 1472 (.ref 1028)::kD P "comes_off_a_stack" 1482 (.ref 1037)::kD P "split_families" 1490 (.ref 1044)::kD P "ring_families" 1496 (.ref 1051)::kD P "family_of" 1504 (.ref 1058)::kD P "missing" 1512 (.ref 1063)::kD P "trees_leaves" 1519 (.ref 1070)::kD P "trees_rootage" 1526 (.ref 1077)::kD P "codes_leaves" 1533 (.ref 1084)::kD P "codes_rootage" 1540 (.ref 1091)::kD P "cars_leaves" 1547 (.ref 1098)::kD P "cars_rootage" 1554 (.ref 1105)::kD P "brackets_peaks" 1563 (.ref 1112)::kD P "depths" 1573 (.ref 1119)::kD P "brackets_returns" 1580 (.ref 1126)::kD P "stairs_peaks" 1587 (.ref 1133)::kD P "stairs_returns" 1593 (.ref 1138)::kD P "twins_peaks" 1603 (.ref 1145)::kD P "twins_returns" 1612 (.ref 1152)::kD P "bows_peaks" 1618 (.ref 1157)::kD P "bows_over" 1624 (.ref 1162)::kD P "bows_returns" 1630 (.ref 1167)::kD P "rooms_peaks" 1637 (.ref 1174)::kD P "rooms_around" 1643 (.ref 1179)::kD P "rooms_returns" 1649 (.ref 1184)::kD P "triangles" 1655 (.ref 1189)::kD P "floor_peaks" 1661 (.ref 1194)::kD P "floor_returns" 1667 (.ref 1199)::kD P "turns_peaks" 1673 (.ref 1204)::kD P "turns_returns" 1679 (.ref 1209)::kD P "brackets_height" 1688 (.ref 1216)::kD P "stairs_height" 1694 (.ref 1221)::kD P "twins_height" 1701 (.ref 1228)::kD P "bows_height" 1707 (.ref 1233)::kD P "turns_height" 1713 (.ref 1238)::kD P "all_measures" 1721 (.ref 1245)::kD P "marks_of" 1729 (.ref 1252)::kD P "brackets_mirror" 1737 (.ref 1257)::kD P "bows_mirror" 1744 (.ref 1264)::kD P "mirrored_pairs" 1750 (.ref 1269)::kD P "twins_mirror" 1757 (.ref 1276)::kD P "mirrored_twins" 1764 (.ref 1283)::kD P "floor_mirror" 1771 (.ref 1290)::kD P "turns_mirror" 1782 (.ref 1297)::kD P "knots_with" 1790 (.ref 1302)::kD P "tree_to_cars" 1796 (.ref 1307)::kD P "cars_to_tree" 1802 (.ref 1312)::kD P "turned_pairs" 1810 (.ref 1317)::kD P "bows_turn" 1817 (.ref 1324)::kD P "bows_turnback" 1824 (.ref 1331)::kD P "floor_turn" 1831 (.ref 1338)::kD P "floor_turnback" 1838 (.ref 1345)::kD P "rooms_to_feet" 1844 (.ref 1350)::kD P "feet_to_rooms" 1850 (.ref 1355)::kD P "room_from" 1859 (.ref 1362)::kD P "gaps" 1866 (.ref 1369)::kD P "gapsback" 1873 (.ref 1376)::kD P "brackets_to_stairs" 1885 (.ref 1383)::kD P "stairs_to_brackets" 1895 (.ref 1390)::kD P "brackets_to_bows" 1906 (.ref 1397)::kD P "bows_to_brackets" 1916 (.ref 1404)::kD P "closed_in_runs" 1928 (.ref 1411)::kD P "brackets_to_rooms" 1934 (.ref 1416)::kD P "rooms_to_brackets" 1943 (.ref 1423)::kD P "brackets_to_turns" 1950 (.ref 1430)::kD P "turns_to_brackets" 1960 (.ref 1437)::kD P "OTHER_MANNERS" 1975 (.ref 1438)::kD P "direct_ways" 1981 (.ref 1445)::kD P "turning_ways" 1987 (.ref 1452)::kD P "parts_name" 1995 (.ref 1459)::kD P "parts_way" 2005 (.ref 1466)::kD P "parts_ways" 2014 (.ref 1473)::kD P "all_ways" 2021 (.ref 1480)::kD P "way_of" 2029 (.ref 1487)::kD P "manner_of" 2036 (.ref 1494)::kD P "ends" 2044 (.ref 1501)::kD P "back_of" 2056 (.ref 1508)::kD P "carried_by" 2062 (.ref 1513)::kD P "carries" 2070 (.ref 1520)::kD P "_law_mix" 2081 (.ref 1527)::kD P "_law_there_and_back" 2093 (.ref 1534)::kD P "_law_ways" 2104 (.ref 1541)::kD P "_law_marks" 2111 (.ref 1548)::kD P "_law_carried" 2117 (.ref 1553)::kD P "_law_texts" 2126 (.ref 1560)::kD P "_law_any" 2134 (.ref 1567)::kD P "_law_spoiled" 2147 (.ref 1574)::kD P "_law_is_no_way" 2154 (.ref 1581)::kD P "_law_asked" 2162 (.ref 1588)::kD P "_law_refused" 2172 (.ref 1595)::kD P "_law_good" 2184 (.ref 1602)::kD P "_law_draws" 2190 (.ref 1607)::kD P "law" 2196 (.ref 1612)::[])) 152),#[]⟩)::(nat_lit 4,⟨(.type "module"),(some 0),.plain,#[]⟩)::(nat_lit 44,⟨(.type "dict"),none,(.dict #[kD P "__module__" 225 (.str "countkin.errors" 216),kD P "__firstlineno__" 229 (.int 17 228),kD P "__static_attributes__" 230 (.ref 43),kD P "__weakref__" 232 (.ref 46),kD P "__doc__" 233 .none] 3),#[]⟩)::(nat_lit 45,⟨(.type "type"),none,(.cls ⟨"KinError",[(.type "ValueError")],[(.ref 45),(.type "ValueError"),(.type "Exception"),(.type "BaseException"),(.type "object")],44,"KinError",true,[],[(.ref 58),(.ref 70),(.ref 82),(.ref 94),(.ref 106),(.ref 118),(.ref 130),(.ref 142),(.ref 161)],false,none,false⟩),#[(some (.ref 36)),none,(some (.str "KinError" 218)),(some (.str "KinError" 226)),(some (.builtin "ValueError.__new__")),(some (.bool true))]⟩)::(nat_lit 46,⟨(.type "getset_descriptor"),none,(.fields #[(.str "__weakref__" 231),(.ref 45),(.builtin "ExceptionGroup.__weakref__"),.none]),#[]⟩)::(nat_lit 57,⟨(.type "dict"),none,(.dict #[kD P "__module__" 243 (.str "countkin.errors" 216),kD P "__firstlineno__" 247 (.int 19 246),kD P "__static_attributes__" 248 (.ref 56),kD P "__doc__" 249 .none] 2),#[]⟩)::(nat_lit 58,⟨(.type "type"),none,(.cls ⟨"NoSize",[(.ref 45)],[(.ref 58),(.ref 45),(.type "ValueError"),(.type "Exception"),(.type "BaseException"),(.type "object")],57,"NoSize",true,[],[],false,none,false⟩),#[(some (.ref 49)),none,(some (.str "NoSize" 236)),(some (.str "NoSize" 244)),(some (.builtin "ValueError.__new__")),(some (.bool true))]⟩)::(nat_lit 69,⟨(.type "dict"),none,(.dict #[kD P "__module__" 259 (.str "countkin.errors" 216),kD P "__firstlineno__" 263 (.int 21 262),kD P "__static_attributes__" 264 (.ref 68),kD P "__doc__" 265 .none] 2),#[]⟩)::(nat_lit 70,⟨(.type "type"),none,(.cls ⟨"NoNumber",[(.ref 45)],[(.ref 70),(.ref 45),(.type "ValueError"),(.type "Exception"),(.type "BaseException"),(.type "object")],69,"NoNumber",true,[],[],false,none,false⟩),#[(some (.ref 61)),none,(some (.str "NoNumber" 252)),(some (.str "NoNumber" 260)),(some (.builtin "ValueError.__new__")),(some (.bool true))]⟩)::(nat_lit 81,⟨(.type "dict"),none,(.dict #[kD P "__module__" 275 (.str "countkin.errors" 216),kD P "__firstlineno__" 279 (.int 23 278),kD P "__static_attributes__" 280 (.ref 80),kD P "__doc__" 281 .none] 2),#[]⟩)::(nat_lit 82,⟨(.type "type"),none,(.cls ⟨"NoThing",[(.ref 45)],[(.ref 82),(.ref 45),(.type "ValueError"),(.type "Exception"),(.type "BaseException"),(.type "object")],81,"NoThing",true,[],[],false,none,false⟩),#[(some (.ref 73)),none,(some (.str "NoThing" 268)),(some (.str "NoThing" 276)),(some (.builtin "ValueError.__new__")),(some (.bool true))]⟩)::(nat_lit 93,⟨(.type "dict"),none,(.dict #[kD P "__module__" 291 (.str "countkin.errors" 216),kD P "__firstlineno__" 295 (.int 25 294),kD P "__static_attributes__" 296 (.ref 92),kD P "__doc__" 297 .none] 2),#[]⟩)::(nat_lit 94,⟨(.type "type"),none,(.cls ⟨"NoFamily",[(.ref 45)],[(.ref 94),(.ref 45),(.type "ValueError"),(.type "Exception"),(.type "BaseException"),(.type "object")],93,"NoFamily",true,[],[],false,none,false⟩),#[(some (.ref 85)),none,(some (.str "NoFamily" 284)),(some (.str "NoFamily" 292)),(some (.builtin "ValueError.__new__")),(some (.bool true))]⟩)::(nat_lit 105,⟨(.type "dict"),none,(.dict #[kD P "__module__" 307 (.str "countkin.errors" 216),kD P "__firstlineno__" 311 (.int 27 310),kD P "__static_attributes__" 312 (.ref 104),kD P "__doc__" 313 .none] 2),#[]⟩)::(nat_lit 106,⟨(.type "type"),none,(.cls ⟨"NoWay",[(.ref 45)],[(.ref 106),(.ref 45),(.type "ValueError"),(.type "Exception"),(.type "BaseException"),(.type "object")],105,"NoWay",true,[],[],false,none,false⟩),#[(some (.ref 97)),none,(some (.str "NoWay" 300)),(some (.str "NoWay" 308)),(some (.builtin "ValueError.__new__")),(some (.bool true))]⟩)::(nat_lit 117,⟨(.type "dict"),none,(.dict #[kD P "__module__" 323 (.str "countkin.errors" 216),kD P "__firstlineno__" 327 (.int 29 326),kD P "__static_attributes__" 328 (.ref 116),kD P "__doc__" 329 .none] 2),#[]⟩)::(nat_lit 118,⟨(.type "type"),none,(.cls ⟨"Apart",[(.ref 45)],[(.ref 118),(.ref 45),(.type "ValueError"),(.type "Exception"),(.type "BaseException"),(.type "object")],117,"Apart",true,[],[],false,none,false⟩),#[(some (.ref 109)),none,(some (.str "Apart" 316)),(some (.str "Apart" 324)),(some (.builtin "ValueError.__new__")),(some (.bool true))]⟩)::(nat_lit 129,⟨(.type "dict"),none,(.dict #[kD P "__module__" 339 (.str "countkin.errors" 216),kD P "__firstlineno__" 343 (.int 31 342),kD P "__static_attributes__" 344 (.ref 128),kD P "__doc__" 345 .none] 2),#[]⟩)::(nat_lit 130,⟨(.type "type"),none,(.cls ⟨"NoMark",[(.ref 45)],[(.ref 130),(.ref 45),(.type "ValueError"),(.type "Exception"),(.type "BaseException"),(.type "object")],129,"NoMark",true,[],[],false,none,false⟩),#[(some (.ref 121)),none,(some (.str "NoMark" 332)),(some (.str "NoMark" 340)),(some (.builtin "ValueError.__new__")),(some (.bool true))]⟩)::(nat_lit 141,⟨(.type "dict"),none,(.dict #[kD P "__module__" 355 (.str "countkin.errors" 216),kD P "__firstlineno__" 359 (.int 33 358),kD P "__static_attributes__" 360 (.ref 140),kD P "__doc__" 361 .none] 2),#[]⟩)::(nat_lit 142,⟨(.type "type"),none,(.cls ⟨"NoText",[(.ref 45)],[(.ref 142),(.ref 45),(.type "ValueError"),(.type "Exception"),(.type "BaseException"),(.type "object")],141,"NoText",true,[],[],false,none,false⟩),#[(some (.ref 133)),none,(some (.str "NoText" 348)),(some (.str "NoText" 356)),(some (.builtin "ValueError.__new__")),(some (.bool true))]⟩)::(nat_lit 160,⟨(.type "dict"),none,(.dict #[kD P "__module__" 371 (.str "countkin.errors" 216),kD P "__firstlineno__" 375 (.int 35 374),kD P "__init__" 383 (.ref 158),kD P "__static_attributes__" 385 (.ref 159),kD P "__doc__" 386 .none] 2),#[]⟩)::(nat_lit 161,⟨(.type "type"),none,(.cls ⟨"Broken",[(.ref 45)],[(.ref 161),(.ref 45),(.type "ValueError"),(.type "Exception"),(.type "BaseException"),(.type "object")],160,"Broken",true,[],[],false,none,false⟩),#[(some (.ref 145)),none,(some (.str "Broken" 364)),(some (.str "Broken" 372)),(some (.builtin "ValueError.__new__")),(some (.bool true))]⟩)::(nat_lit 176,(kC "__init__" "Family.__init__" 403 43 3 (.ref 171) (.ref 172) .none (.ref 173) (.ref 174) (.ref 175) 409))::(nat_lit 177,(kF "__init__" "Family.__init__" (inClass (top 17) 0) "countkin.kin" 389 176))::(nat_lit 249,⟨(.type "dict"),none,(.dict #[kD P "__module__" 398 (.str "countkin.kin" 389),kD P "__firstlineno__" 402 (.int 41 401),kD P "__init__" 411 (.ref 177),kD P "size_of" 419 (.ref 184),kD P "is_one" 427 (.ref 191),kD P "unchecked_many" 435 (.ref 198),kD P "unchecked_number" 443 (.ref 205),kD P "unchecked_thing" 452 (.ref 212),kD P "many" 460 (.ref 219),kD P "refuse_other" 468 (.ref 226),kD P "number_of" 476 (.ref 233),kD P "thing_of" 485 (.ref 240),kD P "next_of" 493 (.ref 247),kD P "__static_attributes__" 496 (.ref 248),kD P "__dict__" 498 (.ref 251),kD P "__weakref__" 500 (.ref 252),kD P "__doc__" 501 .none] 4),#[]⟩)::(nat_lit 250,⟨(.type "type"),none,(.cls ⟨"Family",[(.type "object")],[(.ref 250),(.type "object")],249,"Family",true,[],[(.ref 327),(.ref 395)],false,none,false⟩),#[none,none,(some (.str "Family" 391)),(some (.str "Family" 399)),(some (.builtin "object.__new__")),(some (.bool true))]⟩)::(nat_lit 251,⟨(.type "getset_descriptor"),none,(.fields #[(.str "__dict__" 497),(.ref 250),(.builtin "function.__dict__"),(.builtin "function.__dict__#set")]),#[]⟩)::(nat_lit 252,⟨(.type "getset_descriptor"),none,(.fields #[(.str "__weakref__" 499),(.ref 250),(.builtin "ExceptionGroup.__weakref__"),.none]),#[]⟩)::(nat_lit 267,(kC "__init__" "SplitFamily.__init__" 516 81 2 (.ref 262) (.ref 263) .none (.ref 264) (.ref 265) (.ref 266) 521))::(nat_lit 268,(kF "__init__" "SplitFamily.__init__" (inClass (top 18) 0) "countkin.kin" 389 267))::(nat_lit 326,⟨(.type "dict"),none,(.dict #[kD P "__module__" 511 (.str "countkin.kin" 389),kD P "__firstlineno__" 515 (.int 79 514),kD P "__init__" 523 (.ref 268),kD P "bare" 530 (.ref 275),kD P "parted" 538 (.ref 282),kD P "joined" 547 (.ref 289),kD P "unchecked_many" 555 (.ref 296),kD P "unchecked_number" 563 (.ref 303),kD P "unchecked_thing" 572 (.ref 310),kD P "number_by_parts" 581 (.ref 317),kD P "thing_by_parts" 591 (.ref 324),kD P "__static_attributes__" 592 (.ref 325),kD P "__doc__" 593 .none] 2),#[]⟩)::(nat_lit 327,⟨(.type "type"),none,(.cls ⟨"SplitFamily",[(.ref 250)],[(.ref 327),(.ref 250),(.type "object")],326,"SplitFamily",true,[],[(.ref 581),(.ref 654),(.ref 715),(.ref 776),(.ref 923),(.ref 969),(.ref 1028)],false,none,false⟩),#[(some (.ref 255)),none,(some (.str "SplitFamily" 504)),(some (.str "SplitFamily" 512)),(some (.builtin "object.__new__")),(some (.bool true))]⟩)::(nat_lit 356,(kC "__init__" "RingFamily.__init__" 631 120 2 (.ref 351) (.ref 352) .none (.ref 353) (.ref 354) (.ref 355) 636))::(nat_lit 357,(kF "__init__" "RingFamily.__init__" (inClass (top 22) 0) "countkin.ring" 617 356))::(nat_lit 394,⟨(.type "dict"),none,(.dict #[kD P "__module__" 626 (.str "countkin.ring" 617),kD P "__firstlineno__" 630 (.int 118 629),kD P "__init__" 638 (.ref 357),kD P "code_of" 646 (.ref 364),kD P "of_code" 654 (.ref 371),kD P "unchecked_many" 662 (.ref 378),kD P "unchecked_number" 670 (.ref 385),kD P "unchecked_thing" 679 (.ref 392),kD P "__static_attributes__" 680 (.ref 393),kD P "__doc__" 681 .none] 2),#[]⟩)::(nat_lit 395,⟨(.type "type"),none,(.cls ⟨"RingFamily",[(.ref 250)],[(.ref 395),(.ref 250),(.type "object")],394,"RingFamily",true,[],[(.ref 440),(.ref 481),(.ref 850)],false,none,false⟩),#[(some (.ref 344)),none,(some (.str "RingFamily" 619)),(some (.str "RingFamily" 627)),(some (.builtin "object.__new__")),(some (.bool true))]⟩)::(nat_lit 410,(kC "__init__" "Codes.__init__" 696 139 1 (.ref 405) (.ref 406) .none (.ref 407) (.ref 408) (.ref 409) 700))::(nat_lit 411,(kF "__init__" "Codes.__init__" (inClass (top 23) 0) "countkin.ring" 617 410))::(nat_lit 439,⟨(.type "dict"),none,(.dict #[kD P "__module__" 691 (.str "countkin.ring" 617),kD P "__firstlineno__" 695 (.int 137 694),kD P "__init__" 702 (.ref 411),kD P "size_of" 710 (.ref 418),kD P "is_one" 716 (.ref 423),kD P "code_of" 724 (.ref 430),kD P "of_code" 732 (.ref 437),kD P "__static_attributes__" 733 (.ref 438),kD P "__doc__" 734 .none] 2),#[]⟩)::(nat_lit 440,⟨(.type "type"),none,(.cls ⟨"Codes",[(.ref 395)],[(.ref 440),(.ref 395),(.ref 250),(.type "object")],439,"Codes",true,[],[],false,none,false⟩),#[(some (.ref 398)),none,(some (.str "Codes" 684)),(some (.str "Codes" 692)),(some (.builtin "object.__new__")),(some (.bool true))]⟩)::(nat_lit 455,(kC "__init__" "Cars.__init__" 751 157 1 (.ref 450) (.ref 451) .none (.ref 452) (.ref 453) (.ref 454) 755))::(nat_lit 456,(kF "__init__" "Cars.__init__" (inClass (top 25) 0) "countkin.cars" 737 455))::(nat_lit 480,⟨(.type "dict"),none,(.dict #[kD P "__module__" 746 (.str "countkin.cars" 737),kD P "__firstlineno__" 750 (.int 155 749),kD P "__init__" 757 (.ref 456),kD P "size_of" 765 (.ref 463),kD P "is_one" 771 (.ref 468),kD P "code_of" 777 (.ref 473),kD P "of_code" 783 (.ref 478),kD P "__static_attributes__" 784 (.ref 479),kD P "__doc__" 785 .none] 2),#[]⟩)::(nat_lit 481,⟨(.type "type"),none,(.cls ⟨"Cars",[(.ref 395)],[(.ref 481),(.ref 395),(.ref 250),(.type "object")],480,"Cars",true,[],[],false,none,false⟩),#[(some (.ref 443)),none,(some (.str "Cars" 739)),(some (.str "Cars" 747)),(some (.builtin "object.__new__")),(some (.bool true))]⟩)::(nat_lit 546,(kC "__init__" "Floors.__init__" 863 209 1 (.ref 541) (.ref 542) .none (.ref 543) (.ref 544) (.ref 545) 867))::(nat_lit 547,(kF "__init__" "Floors.__init__" (inClass (top 36) 0) "countkin.floors" 849 546))::(nat_lit 580,⟨(.type "dict"),none,(.dict #[kD P "__module__" 858 (.str "countkin.floors" 849),kD P "__firstlineno__" 862 (.int 207 861),kD P "__init__" 869 (.ref 547),kD P "size_of" 877 (.ref 554),kD P "is_one" 883 (.ref 559),kD P "bare" 890 (.ref 566),kD P "parted" 896 (.ref 571),kD P "joined" 908 (.ref 578),kD P "__static_attributes__" 909 (.ref 579),kD P "__doc__" 910 .none] 2),#[]⟩)::(nat_lit 581,⟨(.type "type"),none,(.cls ⟨"Floors",[(.ref 327)],[(.ref 581),(.ref 327),(.ref 250),(.type "object")],580,"Floors",true,[],[],false,none,false⟩),#[(some (.ref 534)),none,(some (.str "Floors" 851)),(some (.str "Floors" 859)),(some (.builtin "object.__new__")),(some (.bool true))]⟩)::(nat_lit 615,(kC "__init__" "Brackets.__init__" 953 262 1 (.ref 610) (.ref 611) .none (.ref 612) (.ref 613) (.ref 614) 957))::(nat_lit 616,(kF "__init__" "Brackets.__init__" (inClass (top 42) 0) "countkin.signs" 939 615))::(nat_lit 653,⟨(.type "dict"),none,(.dict #[kD P "__module__" 948 (.str "countkin.signs" 939),kD P "__firstlineno__" 952 (.int 260 951),kD P "__init__" 959 (.ref 616),kD P "size_of" 967 (.ref 623),kD P "is_one" 975 (.ref 630),kD P "bare" 982 (.ref 637),kD P "parted" 991 (.ref 644),kD P "joined" 1000 (.ref 651),kD P "__static_attributes__" 1001 (.ref 652),kD P "__doc__" 1002 .none] 2),#[]⟩)::(nat_lit 654,⟨(.type "type"),none,(.cls ⟨"Brackets",[(.ref 327)],[(.ref 654),(.ref 327),(.ref 250),(.type "object")],653,"Brackets",true,[],[],false,none,false⟩),#[(some (.ref 603)),none,(some (.str "Brackets" 941)),(some (.str "Brackets" 949)),(some (.builtin "object.__new__")),(some (.bool true))]⟩)::(nat_lit 676,(kC "__init__" "Stairs.__init__" 1026 292 1 (.ref 671) (.ref 672) .none (.ref 673) (.ref 674) (.ref 675) 1030))::(nat_lit 677,(kF "__init__" "Stairs.__init__" (inClass (top 44) 0) "countkin.signs" 939 676))::(nat_lit 714,⟨(.type "dict"),none,(.dict #[kD P "__module__" 1021 (.str "countkin.signs" 939),kD P "__firstlineno__" 1025 (.int 290 1024),kD P "__init__" 1032 (.ref 677),kD P "size_of" 1040 (.ref 684),kD P "is_one" 1051 (.ref 691),kD P "bare" 1058 (.ref 698),kD P "parted" 1067 (.ref 705),kD P "joined" 1076 (.ref 712),kD P "__static_attributes__" 1077 (.ref 713),kD P "__doc__" 1078 .none] 2),#[]⟩)::(nat_lit 715,⟨(.type "type"),none,(.cls ⟨"Stairs",[(.ref 327)],[(.ref 715),(.ref 327),(.ref 250),(.type "object")],714,"Stairs",true,[],[],false,none,false⟩),#[(some (.ref 664)),none,(some (.str "Stairs" 1014)),(some (.str "Stairs" 1022)),(some (.builtin "object.__new__")),(some (.bool true))]⟩)::(nat_lit 737,(kC "__init__" "Twins.__init__" 1103 323 1 (.ref 732) (.ref 733) .none (.ref 734) (.ref 735) (.ref 736) 1107))::(nat_lit 738,(kF "__init__" "Twins.__init__" (inClass (top 47) 0) "countkin.twigs" 1089 737))::(nat_lit 775,⟨(.type "dict"),none,(.dict #[kD P "__module__" 1098 (.str "countkin.twigs" 1089),kD P "__firstlineno__" 1102 (.int 321 1101),kD P "__init__" 1109 (.ref 738),kD P "size_of" 1120 (.ref 745),kD P "is_one" 1128 (.ref 752),kD P "bare" 1135 (.ref 759),kD P "parted" 1143 (.ref 766),kD P "joined" 1152 (.ref 773),kD P "__static_attributes__" 1153 (.ref 774),kD P "__doc__" 1154 .none] 2),#[]⟩)::(nat_lit 776,⟨(.type "type"),none,(.cls ⟨"Twins",[(.ref 327)],[(.ref 776),(.ref 327),(.ref 250),(.type "object")],775,"Twins",true,[],[],false,none,false⟩),#[(some (.ref 725)),none,(some (.str "Twins" 1091)),(some (.str "Twins" 1099)),(some (.builtin "object.__new__")),(some (.bool true))]⟩)::(nat_lit 824,(kC "__init__" "Trees.__init__" 1219 399 1 (.ref 819) (.ref 820) .none (.ref 821) (.ref 822) (.ref 823) 1223))::(nat_lit 825,(kF "__init__" "Trees.__init__" (inClass (top 55) 0) "countkin.elders" 1205 824))::(nat_lit 849,⟨(.type "dict"),none,(.dict #[kD P "__module__" 1214 (.str "countkin.elders" 1205),kD P "__firstlineno__" 1218 (.int 397 1217),kD P "__init__" 1225 (.ref 825),kD P "size_of" 1233 (.ref 832),kD P "is_one" 1239 (.ref 837),kD P "code_of" 1245 (.ref 842),kD P "of_code" 1251 (.ref 847),kD P "__static_attributes__" 1252 (.ref 848),kD P "__doc__" 1253 .none] 2),#[]⟩)::(nat_lit 850,⟨(.type "type"),none,(.cls ⟨"Trees",[(.ref 395)],[(.ref 850),(.ref 395),(.ref 250),(.type "object")],849,"Trees",true,[],[],false,none,false⟩),#[(some (.ref 812)),none,(some (.str "Trees" 1207)),(some (.str "Trees" 1215)),(some (.builtin "object.__new__")),(some (.bool true))]⟩)::(nat_lit 886,(kC "__init__" "Bows.__init__" 1294 445 1 (.ref 881) (.ref 882) .none (.ref 883) (.ref 884) (.ref 885) 1298))::(nat_lit 887,(kF "__init__" "Bows.__init__" (inClass (top 60) 0) "countkin.bends" 1280 886))::(nat_lit 922,⟨(.type "dict"),none,(.dict #[kD P "__module__" 1289 (.str "countkin.bends" 1280),kD P "__firstlineno__" 1293 (.int 443 1292),kD P "__init__" 1300 (.ref 887),kD P "size_of" 1308 (.ref 894),kD P "is_one" 1314 (.ref 899),kD P "bare" 1321 (.ref 906),kD P "parted" 1332 (.ref 913),kD P "joined" 1342 (.ref 920),kD P "__static_attributes__" 1343 (.ref 921),kD P "__doc__" 1344 .none] 2),#[]⟩)::(nat_lit 923,⟨(.type "type"),none,(.cls ⟨"Bows",[(.ref 327)],[(.ref 923),(.ref 327),(.ref 250),(.type "object")],922,"Bows",true,[],[],false,none,false⟩),#[(some (.ref 874)),none,(some (.str "Bows" 1282)),(some (.str "Bows" 1290)),(some (.builtin "object.__new__")),(some (.bool true))]⟩)::(nat_lit 938,(kC "__init__" "Rooms.__init__" 1359 470 1 (.ref 933) (.ref 934) .none (.ref 935) (.ref 936) (.ref 937) 1363))::(nat_lit 939,(kF "__init__" "Rooms.__init__" (inClass (top 61) 0) "countkin.bends" 1280 938))::(nat_lit 968,⟨(.type "dict"),none,(.dict #[kD P "__module__" 1354 (.str "countkin.bends" 1280),kD P "__firstlineno__" 1358 (.int 468 1357),kD P "__init__" 1365 (.ref 939),kD P "size_of" 1371 (.ref 944),kD P "is_one" 1377 (.ref 949),kD P "bare" 1384 (.ref 956),kD P "parted" 1390 (.ref 961),kD P "joined" 1396 (.ref 966),kD P "__static_attributes__" 1397 (.ref 967),kD P "__doc__" 1398 .none] 2),#[]⟩)::(nat_lit 969,⟨(.type "type"),none,(.cls ⟨"Rooms",[(.ref 327)],[(.ref 969),(.ref 327),(.ref 250),(.type "object")],968,"Rooms",true,[],[],false,none,false⟩),#[(some (.ref 926)),none,(some (.str "Rooms" 1347)),(some (.str "Rooms" 1355)),(some (.builtin "object.__new__")),(some (.bool true))]⟩)::(nat_lit 989,(kC "__init__" "Turns.__init__" 1421 507 1 (.ref 984) (.ref 985) .none (.ref 986) (.ref 987) (.ref 988) 1425))::(nat_lit 990,(kF "__init__" "Turns.__init__" (inClass (top 64) 0) "countkin.rows" 1407 989))::(nat_lit 1027,⟨(.type "dict"),none,(.dict #[kD P "__module__" 1416 (.str "countkin.rows" 1407),kD P "__firstlineno__" 1420 (.int 505 1419),kD P "__init__" 1427 (.ref 990),kD P "size_of" 1435 (.ref 997),kD P "is_one" 1443 (.ref 1004),kD P "bare" 1450 (.ref 1011),kD P "parted" 1459 (.ref 1018),kD P "joined" 1468 (.ref 1025),kD P "__static_attributes__" 1469 (.ref 1026),kD P "__doc__" 1470 .none] 2),#[]⟩)::(nat_lit 1028,⟨(.type "type"),none,(.cls ⟨"Turns",[(.ref 327)],[(.ref 1028),(.ref 327),(.ref 250),(.type "object")],1027,"Turns",true,[],[],false,none,false⟩),#[(some (.ref 977)),none,(some (.str "Turns" 1409)),(some (.str "Turns" 1417)),(some (.builtin "object.__new__")),(some (.bool true))]⟩)::(nat_lit 1043,(kC "split_families" "split_families" 1485 536 0 (.ref 1038) (.ref 1039) .none (.ref 1040) (.ref 1041) (.ref 1042) 1488))::(nat_lit 1044,(kF "split_families" "split_families" (top 67) "countkin.names" 1483 1043))::(nat_lit 1050,(kC "ring_families" "ring_families" 1491 538 0 (.ref 1045) (.ref 1046) .none (.ref 1047) (.ref 1048) (.ref 1049) 1494))::(nat_lit 1051,(kF "ring_families" "ring_families" (top 68) "countkin.names" 1483 1050))::(nat_lit 1057,(kC "family_of" "family_of" 1497 540 1 (.ref 1052) (.ref 1053) .none (.ref 1054) (.ref 1055) (.ref 1056) 1502))::(nat_lit 1058,(kF "family_of" "family_of" (top 69) "countkin.names" 1483 1057))::(nat_lit 1244,(kC "all_measures" "all_measures" 1716 639 0 (.ref 1239) (.ref 1240) .none (.ref 1241) (.ref 1242) (.ref 1243) 1719))::(nat_lit 1245,(kF "all_measures" "all_measures" (top 104) "countkin.marks" 1714 1244))::(nat_lit 1251,(kC "marks_of" "marks_of" 1722 641 1 (.ref 1246) (.ref 1247) .none (.ref 1248) (.ref 1249) (.ref 1250) 1727))::(nat_lit 1252,(kF "marks_of" "marks_of" (top 105) "countkin.marks" 1714 1251))::(nat_lit 1444,(kC "direct_ways" "direct_ways" 1976 793 0 (.ref 1439) (.ref 1440) .none (.ref 1441) (.ref 1442) (.ref 1443) 1979))::(nat_lit 1445,(kF "direct_ways" "direct_ways" (top 141) "countkin.chains" 1961 1444))::(nat_lit 1451,(kC "turning_ways" "turning_ways" 1982 795 0 (.ref 1446) (.ref 1447) .none (.ref 1448) (.ref 1449) (.ref 1450) 1985))::(nat_lit 1452,(kF "turning_ways" "turning_ways" (top 142) "countkin.chains" 1961 1451))::(nat_lit 1458,(kC "parts_name" "parts_name" 1988 797 2 (.ref 1453) (.ref 1454) .none (.ref 1455) (.ref 1456) (.ref 1457) 1993))::(nat_lit 1459,(kF "parts_name" "parts_name" (top 143) "countkin.chains" 1961 1458))::(nat_lit 1465,(kC "parts_way" "parts_way" 1996 799 2 (.ref 1460) (.ref 1461) .none (.ref 1462) (.ref 1463) (.ref 1464) 2003))::(nat_lit 1466,(kF "parts_way" "parts_way" (top 144) "countkin.chains" 1961 1465))::(nat_lit 1472,(kC "parts_ways" "parts_ways" 2006 801 0 (.ref 1467) (.ref 1468) .none (.ref 1469) (.ref 1470) (.ref 1471) 2012))::(nat_lit 1473,(kF "parts_ways" "parts_ways" (top 145) "countkin.chains" 1961 1472))::(nat_lit 1479,(kC "all_ways" "all_ways" 2015 808 0 (.ref 1474) (.ref 1475) .none (.ref 1476) (.ref 1477) (.ref 1478) 2019))::(nat_lit 1480,(kF "all_ways" "all_ways" (top 146) "countkin.chains" 1961 1479))::(nat_lit 1486,(kC "way_of" "way_of" 2022 813 1 (.ref 1481) (.ref 1482) .none (.ref 1483) (.ref 1484) (.ref 1485) 2027))::(nat_lit 1487,(kF "way_of" "way_of" (top 147) "countkin.chains" 1961 1486))::(nat_lit 1493,(kC "manner_of" "manner_of" 2030 818 1 (.ref 1488) (.ref 1489) .none (.ref 1490) (.ref 1491) (.ref 1492) 2034))::(nat_lit 1494,(kF "manner_of" "manner_of" (top 148) "countkin.chains" 1961 1493))::(nat_lit 1500,(kC "ends" "ends" 2037 820 1 (.ref 1495) (.ref 1496) .none (.ref 1497) (.ref 1498) (.ref 1499) 2042))::(nat_lit 1501,(kF "ends" "ends" (top 149) "countkin.chains" 1961 1500))::(nat_lit 1507,(kC "back_of" "back_of" 2045 824 1 (.ref 1502) (.ref 1503) .none (.ref 1504) (.ref 1505) (.ref 1506) 2054))::(nat_lit 1508,(kF "back_of" "back_of" (top 150) "countkin.chains" 1961 1507))::(nat_lit 1512,(kC "carried_by" "carried_by" 2057 833 1 (.ref 1509) (.ref 1510) .none .none .none (.ref 1511) 2060))::(nat_lit 1513,(kF "carried_by" "carried_by" (top 151) "countkin.chains" 1961 1512))::(nat_lit 1519,(kC "carries" "carries" 2063 839 2 (.ref 1514) (.ref 1515) .none (.ref 1516) (.ref 1517) (.ref 1518) 2068))::(nat_lit 1520,(kF "carries" "carries" (top 152) "countkin.chains" 1961 1519))::(nat_lit 1526,(kC "_law_mix" "_law_mix" 2073 846 2 (.ref 1521) (.ref 1522) .none (.ref 1523) (.ref 1524) (.ref 1525) 2079))::(nat_lit 1527,(kF "_law_mix" "_law_mix" (top 154) "law_countkin_k53_ways_by_name" 2071 1526))::(nat_lit 1533,(kC "_law_there_and_back" "_law_there_and_back" 2082 849 4 (.ref 1528) (.ref 1529) .none (.ref 1530) (.ref 1531) (.ref 1532) 2091))::(nat_lit 1534,(kF "_law_there_and_back" "_law_there_and_back" (top 155) "law_countkin_k53_ways_by_name" 2071 1533))::(nat_lit 1540,(kC "_law_ways" "_law_ways" 2094 853 0 (.ref 1535) (.ref 1536) .none (.ref 1537) (.ref 1538) (.ref 1539) 2102))::(nat_lit 1541,(kF "_law_ways" "_law_ways" (top 156) "law_countkin_k53_ways_by_name" 2071 1540))::(nat_lit 1547,(kC "_law_marks" "_law_marks" 2105 870 1 (.ref 1542) (.ref 1543) .none (.ref 1544) (.ref 1545) (.ref 1546) 2109))::(nat_lit 1548,(kF "_law_marks" "_law_marks" (top 157) "law_countkin_k53_ways_by_name" 2071 1547))::(nat_lit 1552,(kC "_law_carried" "_law_carried" 2112 876 1 (.ref 1549) (.ref 1550) .none .none .none (.ref 1551) 2115))::(nat_lit 1553,(kF "_law_carried" "_law_carried" (top 158) "law_countkin_k53_ways_by_name" 2071 1552))::(nat_lit 1559,(kC "_law_texts" "_law_texts" 2118 883 2 (.ref 1554) (.ref 1555) .none (.ref 1556) (.ref 1557) (.ref 1558) 2124))::(nat_lit 1560,(kF "_law_texts" "_law_texts" (top 159) "law_countkin_k53_ways_by_name" 2071 1559))::(nat_lit 1566,(kC "_law_any" "_law_any" 2127 890 1 (.ref 1561) (.ref 1562) .none (.ref 1563) (.ref 1564) (.ref 1565) 2132))::(nat_lit 1567,(kF "_law_any" "_law_any" (top 160) "law_countkin_k53_ways_by_name" 2071 1566))::(nat_lit 1573,(kC "_law_spoiled" "_law_spoiled" 2135 894 3 (.ref 1568) (.ref 1569) .none (.ref 1570) (.ref 1571) (.ref 1572) 2145))::(nat_lit 1574,(kF "_law_spoiled" "_law_spoiled" (top 161) "law_countkin_k53_ways_by_name" 2071 1573))::(nat_lit 1580,(kC "_law_is_no_way" "_law_is_no_way" 2148 908 1 (.ref 1575) (.ref 1576) .none (.ref 1577) (.ref 1578) (.ref 1579) 2152))::(nat_lit 1581,(kF "_law_is_no_way" "_law_is_no_way" (top 162) "law_countkin_k53_ways_by_name" 2071 1580))::(nat_lit 1587,(kC "_law_asked" "_law_asked" 2155 916 2 (.ref 1582) (.ref 1583) .none (.ref 1584) (.ref 1585) (.ref 1586) 2160))::(nat_lit 1588,(kF "_law_asked" "_law_asked" (top 163) "law_countkin_k53_ways_by_name" 2071 1587))::(nat_lit 1594,(kC "_law_refused" "_law_refused" 2163 924 2 (.ref 1589) (.ref 1590) .none (.ref 1591) (.ref 1592) (.ref 1593) 2170))::(nat_lit 1595,(kF "_law_refused" "_law_refused" (top 164) "law_countkin_k53_ways_by_name" 2071 1594))::(nat_lit 1601,(kC "_law_good" "_law_good" 2173 931 1 (.ref 1596) (.ref 1597) .none (.ref 1598) (.ref 1599) (.ref 1600) 2182))::(nat_lit 1602,(kF "_law_good" "_law_good" (top 165) "law_countkin_k53_ways_by_name" 2071 1601))::(nat_lit 1606,(kC "_law_draws" "_law_draws" 2185 940 3 (.ref 1603) (.ref 1604) .none .none .none (.ref 1605) 2188))::(nat_lit 1607,(kF "_law_draws" "_law_draws" (top 166) "law_countkin_k53_ways_by_name" 2071 1606))::(nat_lit 1611,(kC "law" "law" 2191 954 1 (.ref 1608) (.ref 1609) .none .none .none (.ref 1610) 2194))::(nat_lit 1612,(kF "law" "law" (top 167) "law_countkin_k53_ways_by_name" 2071 1611))::[]
noncomputable def hT:Params->Obj:=fun _=>⟨.none,none,(.fields #[]),#[]⟩
noncomputable def hD:Params->Obj:=fun P=>⟨(.type "dict"),none,(.dict #[kD P "turn" 1963 (.str "turnback" 1964),kD P "turnback" 1965 (.str "turn" 1966),kD P "gaps" 1967 (.str "gapsback" 1968),kD P "gapsback" 1969 (.str "gaps" 1970)] 4),#[]⟩
noncomputable def hKall:Params->Frag:=fun P=>(hK P).take 88++(nat_lit 1438,hD P)::(((hK P).drop 88).take 6++(nat_lit 1461,hT P)::(((hK P).drop 88).drop 6))
noncomputable def bT:Bool:=true
noncomputable def bF:Bool:=false
noncomputable def hM:List Bool:=(bF::bF::bT::bT::bT::bF::bF::bF::bF::bF::bF::bF::bF::bF::bF::bF::bF::bF::bF::bF::bF::bF::bF::bF::bF::bF::bF::bF::bF::bF::bF::bF::bF::bF::bF::bF::bF::bF::bF::bF::bF::bF::bF::bF::bT::bT::bT::bF::bF::bF::bF::bF::bF::bF::bF::bF::bF::bT::bT::bF::bF::bF::bF::bF::bF::bF::bF::bF::bF::bT::bT::bF::bF::bF::bF::bF::bF::bF::bF::bF::bF::bT::bT::bF::bF::bF::bF::bF::bF::bF::bF::bF::bF::bT::bT::bF::bF::bF::bF::bF::bF::bF::bF::bF::bF::bT::bT::bF::bF::bF::bF::bF::bF::bF::bF::bF::bF::bT::bT::bF::bF::bF::bF::bF::bF::bF::bF::bF::bF::bT::bT::bF::bF::bF::bF::bF::bF::bF::bF::bF::bF::bT::bT::bF::bF::bF::bF::bF::bF::bF::bF::bF::bF::bF::bF::bF::bF::bF::bF::bF::bT::bT::bF::bF::bF::bF::bF::bF::bF::bF::bF::bF::bF::bF::bF::bF::bT::bT::bF::bF::bF::bF::bF::bF::bF::bF::bF::bF::bF::bF::bF::bF::bF::bF::bF::bF::bF::bF::bF::bF::bF::bF::bF::bF::bF::bF::bF::bF::bF::bF::bF::bF::bF::bF::bF::bF::bF::bF::bF::bF::bF::bF::bF::bF::bF::bF::bF::bF::bF::bF::bF::bF::bF::bF::bF::bF::bF::bF::bF::bF::bF::bF::bF::bF::bF::bF::bF::bF::bF::bT::bT::bT::bT::bF::bF::bF::bF::bF::bF::bF::bF::bF::bF::bF::bF::bF::bF::bT::bT::bF::bF::bF::bF::bF::bF::bF::bF::bF::bF::bF::bF::bF::bF::bF::bF::bF::bF::bF::bF::bF::bF::bF::bF::bF::bF::bF::bF::bF::bF::bF::bF::bF::bF::bF::bF::bF::bF::bF::bF::bF::bF::bF::bF::bF::bF::bF::bF::bF::bF::bF::bF::bF::bF::bF::bF::bF::bT::bT::bF::bF::bF::bF::bF::bF::bF::bF::bF::bF::bF::bF::bF::bF::bF::bF::bF::bF::bF::bF::bF::bF::bF::bF::bF::bF::bF::bF::bT::bT::bF::bF::bF::bF::bF::bF::bF::bF::bF::bF::bF::bF::bF::bF::bF::bF::bF::bF::bF::bF::bF::bF::bF::bF::bF::bF::bF::bF::bF::bF::bF::bF::bF::bF::bF::bF::bT::bT::bF::bF::bF::bF::bF::bF::bF::bF::bF::bF::bF::bF::bF::bF::bT::bT::bF::bF::bF::bF::bF::bF::bF::bF::bF::bF::bF::bF::bF::bF::bF::bF::bF::bF::bF::bF::bF::bF::bF::bF::bF::bF::bF::bT::bT::bF::bF::bF::bF::bF::bF::bF::bF::bF::bF::bF::bF::bF::bF::bT::bT::bF::bF::bF::bF::bF::bF::bF::bF::bF::bF::bF::bF::bF::bF::bF::bF::bF::bF::bF::bF::bF::bF::bF::bT::bT::bF::bF::bF::bF::bF::bF::bF::bF::bF::bF::bF::bF::bF::bF::bF::bF::bF::bF::bF::bF::bF::bF::bF::bF::bF::bF::bF::bF::bF::bF::bF::bF::bF::bF::bF::bF::bF::bF::bF::bF::bF::bF::bF::bF::bF::bF::bF::bF::bF::bF::bF::bF::bF::bF::bF::bF::bF::bF::bF::bF::bF::bF::bF::bF::bT::bT::bF::bF::bF::bF::bF::bF::bF::bF::bF::bF::bF::bF::bF::bF::bF::bF::bF::bF::bF::bF::bF::bF::bF::bF::bF::bF::bF::bF::bF::bF::bF::bF::bT::bT::bF::bF::bF::bF::bF::bF::bF::bF::bF::bF::bF::bF::bF::bF::bF::bF::bF::bF::bF::bF::bF::bF::bF::bF::bF::bF::bF::bF::bF::bF::bF::bF::bF::bT::bT::bF::bF::bF::bF::bF::bF::bF::bF::bF::bF::bF::bF::bF::bF::bF::bF::bF::bF::bF::bF::bF::bF::bF::bF::bF::bF::bF::bF::bF::bF::bF::bF::bF::bF::bF::bF::bT::bT::bF::bF::bF::bF::bF::bF::bF::bF::bF::bF::bF::bF::bF::bF::bF::bF::bF::bF::bF::bF::bF::bT::bT::bF::bF::bF::bF::bF::bF::bF::bF::bF::bF::bF::bF::bF::bF::bF::bF::bF::bF::bF::bF::bF::bF::bF::bF::bF::bF::bF::bF::bF::bF::bF::bF::bF::bF::bF::bF::bT::bT::bF::bF::bF::bF::bF::bF::bF::bF::bF::bF::bF::bF::bF::bF::bF::bF::bF::bF::bF::bF::bF::bT::bT::bF::bF::bF::bF::bF::bF::bF::bF::bF::bF::bF::bF::bF::bF::bF::bF::bF::bF::bF::bF::bF::bF::bF::bF::bF::bF::bF::bF::bF::bF::bF::bF::bF::bF::bF::bF::bT::bT::bF::bF::bF::bF::bF::bF::bF::bF::bF::bF::bF::bF::bF::bF::bF::bF::bF::bF::bF::bF::bF::bF::bF::bF::bF::bF::bF::bF::bF::bF::bF::bF::bF::bF::bF::bF::bF::bF::bF::bF::bF::bF::bF::bF::bF::bF::bF::bT::bT::bF::bF::bF::bF::bF::bF::bF::bF::bF::bF::bF::bF::bF::bF::bF::bF::bF::bF::bF::bF::bF::bF::bF::bT::bT::bF::bF::bF::bF::bF::bF::bF::bF::bF::bF::bF::bF::bF::bF::bF::bF::bF::bF::bF::bF::bF::bF::bF::bF::bF::bF::bF::bF::bF::bF::bF::bF::bF::bF::bF::bT::bT::bF::bF::bF::bF::bF::bF::bF::bF::bF::bF::bF::bF::bF::bF::bF::bF::bF::bF::bF::bF::bF::bF::bF::bF::bF::bF::bF::bF::bF::bF::bF::bF::bF::bF::bT::bT::bF::bF::bF::bF::bF::bF::bF::bF::bF::bF::bF::bF::bF::bF::bT::bT::bF::bF::bF::bF::bF::bF::bF::bF::bF::bF::bF::bF::bF::bF::bF::bF::bF::bF::bF::bF::bF::bF::bF::bF::bF::bF::bF::bF::bT::bT::bF::bF::bF::bF::bF::bF::bF::bF::bF::bF::bF::bF::bF::bF::bF::bF::bF::bF::bF::bT::bT::bF::bF::bF::bF::bF::bF::bF::bF::bF::bF::bF::bF::bF::bF::bF::bF::bF::bF::bF::bF::bF::bF::bF::bF::bF::bF::bF::bF::bF::bF::bF::bF::bF::bF::bF::bF::bT::bT::bF::bF::bF::bF::bF::bF::bF::bF::bF::bF::bF::bF::bF::bF::bT::bT::bF::bF::bF::bF::bF::bT::bT::bF::bF::bF::bF::bF::bT::bT::bF::bF::bF::bF::bF::bF::bF::bF::bF::bF::bF::bF::bF::bF::bF::bF::bF::bF::bF::bF::bF::bF::bF::bF::bF::bF::bF::bF::bF::bF::bF::bF::bF::bF::bF::bF::bF::bF::bF::bF::bF::bF::bF::bF::bF::bF::bF::bF::bF::bF::bF::bF::bF::bF::bF::bF::bF::bF::bF::bF::bF::bF::bF::bF::bF::bF::bF::bF::bF::bF::bF::bF::bF::bF::bF::bF::bF::bF::bF::bF::bF::bF::bF::bF::bF::bF::bF::bF::bF::bF::bF::bF::bF::bF::bF::bF::bF::bF::bF::bF::bF::bF::bF::bF::bF::bF::bF::bF::bF::bF::bF::bF::bF::bF::bF::bF::bF::bF::bF::bF::bF::bF::bF::bF::bF::bF::bF::bF::bF::bF::bF::bF::bF::bF::bF::bF::bF::bF::bF::bF::bF::bF::bF::bF::bF::bF::bF::bF::bF::bF::bF::bF::bF::bF::bF::bF::bF::bF::bF::bF::bF::bF::bF::bF::bF::bF::bF::bF::bF::bF::bF::bF::bF::bF::bF::bF::bF::bF::bF::bF::bF::bF::bF::bF::bF::bT::bT::bF::bF::bF::bF::bF::bT::bT::bF::bF::bF::bF::bF::bF::bF::bF::bF::bF::bF::bF::bF::bF::bF::bF::bF::bF::bF::bF::bF::bF::bF::bF::bF::bF::bF::bF::bF::bF::bF::bF::bF::bF::bF::bF::bF::bF::bF::bF::bF::bF::bF::bF::bF::bF::bF::bF::bF::bF::bF::bF::bF::bF::bF::bF::bF::bF::bF::bF::bF::bF::bF::bF::bF::bF::bF::bF::bF::bF::bF::bF::bF::bF::bF::bF::bF::bF::bF::bF::bF::bF::bF::bF::bF::bF::bF::bF::bF::bF::bF::bF::bF::bF::bF::bF::bF::bF::bF::bF::bF::bF::bF::bF::bF::bF::bF::bF::bF::bF::bF::bF::bF::bF::bF::bF::bF::bF::bF::bF::bF::bF::bF::bF::bF::bF::bF::bF::bF::bF::bF::bF::bF::bF::bF::bF::bF::bF::bF::bF::bF::bF::bF::bF::bF::bF::bF::bF::bF::bF::bF::bF::bF::bF::bF::bF::bF::bF::bF::bF::bF::bF::bF::bF::bF::bF::bF::bF::bF::bF::bF::bF::bF::bF::bF::bF::bF::bF::bF::bF::bF::bF::bF::bF::bF::bT::bF::bF::bF::bF::bF::bT::bT::bF::bF::bF::bF::bF::bT::bT::bF::bF::bF::bF::bF::bT::bT::bF::bT::bF::bF::bF::bT::bT::bF::bF::bF::bF::bF::bT::bT::bF::bF::bF::bF::bF::bT::bT::bF::bF::bF::bF::bF::bT::bT::bF::bF::bF::bF::bF::bT::bT::bF::bF::bF::bF::bF::bT::bT::bF::bF::bF::bF::bF::bT::bT::bF::bF::bF::bT::bT::bF::bF::bF::bF::bF::bT::bT::bF::bF::bF::bF::bF::bT::bT::bF::bF::bF::bF::bF::bT::bT::bF::bF::bF::bF::bF::bT::bT::bF::bF::bF::bF::bF::bT::bT::bF::bF::bF::bT::bT::bF::bF::bF::bF::bF::bT::bT::bF::bF::bF::bF::bF::bT::bT::bF::bF::bF::bF::bF::bT::bT::bF::bF::bF::bF::bF::bT::bT::bF::bF::bF::bF::bF::bT::bT::bF::bF::bF::bF::bF::bT::bT::bF::bF::bF::bF::bF::bT::bT::bF::bF::bF::bT::bT::bF::bF::bF::bT::bT::[])
noncomputable def hA:List Addr:=kf hM 0
theorem hAM:hA=kf hM 0:=rfl
noncomputable abbrev hX:Shared->Bool:=(fun s=>xlAt hQ [] s&&recOk (RowW.records (OpenRow.toRowW (OpenLaw.row PySem.Challenge.rw_countkin_k53_ways_by_name))) s)
theorem hKA:∀ P:Params,hA=(hKall P).map (·.1):=fun _=>by kernel_rfl
noncomputable abbrev hH:Hook:=kHook hKall hA hKA
noncomputable def hLook (P:Params) (s:Shared):=((staticsOk (importedModules PySem.Challenge.pw_countkin_k53_ways_by_name.main.body) (boot_heap P) s.heap&&namesBound PySem.Challenge.pw_countkin_k53_ways_by_name s.heap&&gensDone s&&laidKept (boot_heap P) s.heap),openSeen hQ hL (importedModules PySem.Challenge.pw_countkin_k53_ways_by_name.main.body) hX true s,iI s.heap.objs.toList hM)
noncomputable def hPreF (w:World) (os:OsState):=topGo treeTable PySem.Challenge.pw_countkin_k53_ways_by_name w 11 (some (.ref 6)) 12 ⟨boot_heap w.params,Array.mk [],boot_drawn,boot_toks,os⟩ (topStub PySem.Challenge.pw_countkin_k53_ways_by_name)
noncomputable def hPreG (w:World) (os:OsState):Option (Shared × Thread):=some ((hS w os).abs,⟨denote treeTable hC,hC,⟨0,0,0,0⟩,[topFrame ⟨0,0,0,0⟩]⟩)
noncomputable def hBlkF (w:World) (os:OsState):=segRun treeTable PySem.Challenge.pw_countkin_k53_ways_by_name w 11 (some (.ref 6)) 1 1 (hS w os).abs (blockOf hB hE hC ⟨0,0,0,0⟩ [topFrame ⟨0,0,0,0⟩])
noncomputable def hBlkG (w:World) (os:OsState):Option (Flow × Shared × Code × Pos):=some (.next,(hS w os).abs,hC,⟨0,0,0,0⟩)
noncomputable def hTree2 (P:Params):BT:=(.node (boot_o_0 P) (.node (boot_o_1 P) (.node ⟨(.type "dict"),none,(.dict (List.toArray (⟨PyData.keyHash P "__name__",.str "__name__" 165,(.str "countkin.bends" 1280)⟩::⟨PyData.keyHash P "__doc__",.str "__doc__" 166,.none⟩::⟨PyData.keyHash P "__package__",.str "__package__" 167,.none⟩::⟨PyData.keyHash P "__loader__",.str "__loader__" 168,(.builtin "__main__.__loader__#opaque")⟩::⟨PyData.keyHash P "__spec__",.str "__spec__" 169,.none⟩::⟨PyData.keyHash P "__annotations__",.str "__annotations__" 170,(.ref 6)⟩::⟨PyData.keyHash P "__builtins__",.str "__builtins__" 171,(.ref 4)⟩::⟨PyData.keyHash P "__file__",.str "__file__" 173,(.str "/claim/cut.py" 172)⟩::⟨PyData.keyHash P "__cached__",.str "__cached__" 174,.none⟩::⟨PyData.keyHash P "_wall",.str "_wall" 193,(.ref 21)⟩::⟨PyData.keyHash P "GREATEST_SIZE",.str "GREATEST_SIZE" 197,(.int 40 196)⟩::⟨PyData.keyHash P "by_rule",.str "by_rule" 206,(.ref 28)⟩::⟨PyData.keyHash P "ring_many",.str "ring_many" 215,(.ref 35)⟩::⟨PyData.keyHash P "KinError",.str "KinError" 235,(.ref 45)⟩::⟨PyData.keyHash P "NoSize",.str "NoSize" 251,(.ref 58)⟩::⟨PyData.keyHash P "NoNumber",.str "NoNumber" 267,(.ref 70)⟩::⟨PyData.keyHash P "NoThing",.str "NoThing" 283,(.ref 82)⟩::⟨PyData.keyHash P "NoFamily",.str "NoFamily" 299,(.ref 94)⟩::⟨PyData.keyHash P "NoWay",.str "NoWay" 315,(.ref 106)⟩::⟨PyData.keyHash P "Apart",.str "Apart" 331,(.ref 118)⟩::⟨PyData.keyHash P "NoMark",.str "NoMark" 347,(.ref 130)⟩::⟨PyData.keyHash P "NoText",.str "NoText" 363,(.ref 142)⟩::⟨PyData.keyHash P "Broken",.str "Broken" 388,(.ref 161)⟩::⟨PyData.keyHash P "Family",.str "Family" 503,(.ref 250)⟩::⟨PyData.keyHash P "SplitFamily",.str "SplitFamily" 595,(.ref 327)⟩::⟨PyData.keyHash P "by_parts",.str "by_parts" 604,(.ref 336)⟩::⟨PyData.keyHash P "led_by_parts",.str "led_by_parts" 616,(.ref 343)⟩::⟨PyData.keyHash P "RingFamily",.str "RingFamily" 683,(.ref 395)⟩::⟨PyData.keyHash P "Codes",.str "Codes" 736,(.ref 440)⟩::⟨PyData.keyHash P "Cars",.str "Cars" 787,(.ref 481)⟩::⟨PyData.keyHash P "cars_to_code",.str "cars_to_code" 794,(.ref 490)⟩::⟨PyData.keyHash P "code_to_cars",.str "code_to_cars" 801,(.ref 497)⟩::⟨PyData.keyHash P "raised_by",.str "raised_by" 809,(.ref 502)⟩::⟨PyData.keyHash P "pairs_raised_by",.str "pairs_raised_by" 815,(.ref 507)⟩::⟨PyData.keyHash P "flat",.str "flat" 824,(.ref 514)⟩::⟨PyData.keyHash P "each_once",.str "each_once" 831,(.ref 521)⟩::⟨PyData.keyHash P "any_cross",.str "any_cross" 842,(.ref 528)⟩::⟨PyData.keyHash P "pairs_anew",.str "pairs_anew" 848,(.ref 533)⟩::⟨PyData.keyHash P "Floors",.str "Floors" 912,(.ref 581)⟩::⟨PyData.keyHash P "may_be_cut",.str "may_be_cut" 921,(.ref 590)⟩::⟨PyData.keyHash P "third_corner",.str "third_corner" 927,(.ref 595)⟩::⟨PyData.keyHash P "closes",.str "closes" 938,(.ref 602)⟩::⟨PyData.keyHash P "Brackets",.str "Brackets" 1004,(.ref 654)⟩::⟨PyData.keyHash P "first_close",.str "first_close" 1013,(.ref 663)⟩::⟨PyData.keyHash P "Stairs",.str "Stairs" 1080,(.ref 715)⟩::⟨PyData.keyHash P "right_begin",.str "right_begin" 1088,(.ref 724)⟩::⟨PyData.keyHash P "Twins",.str "Twins" 1156,(.ref 776)⟩::⟨PyData.keyHash P "brackets_to_twins",.str "brackets_to_twins" 1168,(.ref 785)⟩::⟨PyData.keyHash P "twins_to_brackets",.str "twins_to_brackets" 1178,(.ref 792)⟩::⟨PyData.keyHash P "twins_to_floor",.str "twins_to_floor" 1187,(.ref 799)⟩::⟨PyData.keyHash P "lines_over",.str "lines_over" 1198,(.ref 806)⟩::⟨PyData.keyHash P "floor_to_twins",.str "floor_to_twins" 1204,(.ref 811)⟩::⟨PyData.keyHash P "Trees",.str "Trees" 1255,(.ref 850)⟩::⟨PyData.keyHash P "comes_to_0",.str "comes_to_0" 1265,(.ref 859)⟩::⟨PyData.keyHash P "tree_to_code",.str "tree_to_code" 1272,(.ref 866)⟩::⟨PyData.keyHash P "code_to_tree",.str "code_to_tree" 1279,(.ref 873)⟩::⟨PyData.keyHash P "Bows",.str "Bows" 1346,(.ref 923)⟩::[])) 57),#[]⟩ (.node (boot_o_7 P) (.node ⟨(.type "tuple"),none,(.seq #[] 0),#[]⟩ (.node ⟨(.type "tuple"),none,(.seq #[(.str "size" 210),(.str "product" 211),(.str "factor" 212)] 0),#[]⟩ (.node ⟨(.type "dict"),none,(.dict #[⟨PyData.keyHash P "__module__",.str "__module__" 259,(.str "countkin.errors" 216)⟩,⟨PyData.keyHash P "__qualname__",.str "__qualname__" 261,(.str "NoNumber" 260)⟩,⟨PyData.keyHash P "__firstlineno__",.str "__firstlineno__" 263,(.int 21 262)⟩,⟨PyData.keyHash P "__static_attributes__",.str "__static_attributes__" 264,(.ref 68)⟩] 4),#[]⟩ (.node ⟨(.type "frame"),none,.plain,#[(some (.ref 126)),(some (.ref 3)),(some (.ref 123)),none,(some (.str "countkin.errors" 216)),none,(some (.ref 0))]⟩ (.node ⟨(.type "tuple"),none,(.seq #[(.ref 250)] 0),#[]⟩ (.node ⟨(.type "tuple"),none,(.seq #[] 0),#[]⟩ .nil .nil) (.node ⟨(.type "tuple"),none,(.seq #[] 0),#[]⟩ .nil .nil)) (.node ⟨.none,none,(.func { (fnOf "unchecked_number" "RingFamily.unchecked_number" (ag (inClass (top 22) 4)) (ae (inClass (top 22) 4)) (aa (inClass (top 22) 4)) .none .none .none .none none .none .none) with globals:=0 }),#[]⟩ (.node ⟨.none,none,(.fields #[]),#[]⟩ .nil .nil) (.node ⟨(.type "tuple"),none,(.seq #[] 0),#[]⟩ .nil .nil))) (.node ⟨(.type "function"),none,(.func (fnOf "is_one" "Family.is_one" (ag (inClass (top 17) 2)) (ae (inClass (top 17) 2)) (aa (inClass (top 17) 2)) .none .none .none (.str "countkin.kin" 389) none (.ref 190) .none)),#[]⟩ (.node ⟨.none,none,(.fields #[]),#[]⟩ (.node ⟨(.type "tuple"),none,(.seq #[] 0),#[]⟩ .nil .nil) (.node ⟨(.type "code"),none,(.fields #[(.str "size_of" 1226),(.str "Trees.size_of" 1227),(.str "/claim/cut.py" 1228),(.int 402 0),(.int 2 0),(.int 0 0),(.int 0 0),(.int 3 0),(.ref 826),(.bool true),(.int 181 0),(.ref 827),.none,(.ref 828),(.ref 829),(.ref 830),(.int 1231 0),(.int 402 0),(.str "/claim/cut.py" 1232)]),#[]⟩ .nil .nil)) (.node ⟨.none,none,(.fields #[(.int 157 0),(.int 4 0),(.ref 455),(.int 160 0),(.int 4 0),(.ref 462),(.int 163 0),(.int 4 0),(.ref 467),(.int 168 0),(.int 4 0),(.ref 472),(.int 172 0),(.int 4 0),(.ref 477)]),#[]⟩ (.node ⟨.none,none,(.func { (fnOf "parted" "Stairs.parted" (ag (inClass (top 44) 4)) (ae (inClass (top 44) 4)) (aa (inClass (top 44) 4)) .none .none .none .none none .none .none) with globals:=0 }),#[]⟩ .nil .nil) .nil))) (.node ⟨(.type "super"),none,(.fields #[(.ref 94),(.ref 94),(.ref 94)]),#[]⟩ (.node ⟨(.type "tuple"),none,(.seq #[(.str "place" 384)] 0),#[]⟩ (.node ⟨.none,none,(.func { (fnOf "joined" "SplitFamily.joined" (ag (inClass (top 18) 3)) (ae (inClass (top 18) 3)) (aa (inClass (top 18) 3)) .none .none .none .none none .none .none) with globals:=0 }),#[]⟩ (.node ⟨(.type "tuple"),none,(.seq #[(.str "self" 866)] 0),#[]⟩ .nil .nil) (.node ⟨(.type "function"),none,(.func (fnOf "twins_to_floor" "twins_to_floor" (ag (top 51)) (ae (top 51)) (aa (top 51)) .none .none .none (.str "countkin.cuts" 1157) none (.ref 798) .none)),#[]⟩ .nil .nil)) (.node ⟨(.type "tuple"),none,(.seq #[] 0),#[]⟩ (.node ⟨(.type "tuple"),none,(.seq #[] 0),#[]⟩ .nil .nil) .nil)) (.node ⟨(.type "tuple"),none,(.seq #[] 0),#[]⟩ (.node ⟨(.type "tuple"),none,(.seq #[] 0),#[]⟩ (.node ⟨.none,none,(.fields #[(.int 262 0),(.int 4 0),(.ref 615),(.int 265 0),(.int 4 0),(.ref 622),(.int 268 0),(.int 4 0),(.ref 629),(.int 271 0),(.int 4 0),(.ref 636),(.int 274 0),(.int 4 0),(.ref 643),(.int 278 0),(.int 4 0),(.ref 650)]),#[]⟩ .nil .nil) (.node ⟨(.type "tuple"),none,(.seq #[] 0),#[]⟩ .nil .nil)) (.node ⟨(.type "tuple"),none,(.seq #[] 0),#[]⟩ (.node ⟨(.type "tuple"),none,(.seq #[] 0),#[]⟩ .nil .nil) .nil)))) (.node ⟨(.type "super"),none,(.fields #[(.ref 45),(.ref 45),(.ref 45)]),#[]⟩ (.node ⟨(.type "frame"),none,.plain,#[(some (.ref 78)),(some (.ref 3)),(some (.ref 75)),none,(some (.str "countkin.errors" 216)),none,(some (.ref 0))]⟩ (.node ⟨(.type "super"),none,(.fields #[(.ref 142),(.ref 142),(.ref 142)]),#[]⟩ (.node ⟨(.type "tuple"),none,(.seq #[(.str "self" 527)] 0),#[]⟩ (.node ⟨(.type "code"),none,(.fields #[(.str "any_cross" 832),(.str "any_cross" 833),(.str "/claim/cut.py" 834),(.int 198 0),(.int 1 0),(.int 0 0),(.int 0 0),(.int 3 0),(.ref 522),(.bool true),(.int 181 0),(.ref 523),.none,(.ref 524),(.ref 525),(.ref 526),(.int 840 0),(.int 198 0),(.str "/claim/cut.py" 841)]),#[]⟩ .nil .nil) (.node ⟨.none,none,(.func { (fnOf "brackets_to_twins" "brackets_to_twins" (ag (top 49)) (ae (top 49)) (aa (top 49)) .none .none .none .none none .none .none) with globals:=0 }),#[]⟩ .nil .nil)) (.node ⟨(.type "builtin_function_or_method"),none,(.fields #[(.builtin "type.__prepare__"),(.type "type")]),#[]⟩ (.node ⟨(.type "super"),none,(.fields #[(.ref 654),(.ref 654),(.ref 654)]),#[]⟩ .nil .nil) (.node ⟨.none,none,(.func { (fnOf "parted" "Bows.parted" (ag (inClass (top 60) 4)) (ae (inClass (top 60) 4)) (aa (inClass (top 60) 4)) .none .none .none .none none .none .none) with globals:=0 }),#[]⟩ .nil .nil))) (.node ⟨.none,none,(.fields #[]),#[]⟩ (.node ⟨(.type "code"),none,(.fields #[(.str "by_parts" 596),(.str "by_parts" 597),(.str "/claim/cut.py" 598),(.int 107 0),(.int 3 0),(.int 0 0),(.int 0 0),(.int 3 0),(.ref 330),(.bool true),(.int 181 0),(.ref 331),.none,(.ref 332),(.ref 333),(.ref 334),(.int 602 0),(.int 107 0),(.str "/claim/cut.py" 603)]),#[]⟩ (.node ⟨(.type "tuple"),none,(.seq #[] 0),#[]⟩ .nil .nil) (.node ⟨(.type "function"),none,(.func (fnOf "of_code" "Trees.of_code" (ag (inClass (top 55) 4)) (ae (inClass (top 55) 4)) (aa (inClass (top 55) 4)) .none .none .none (.str "countkin.elders" 1205) none (.ref 846) .none)),#[]⟩ .nil .nil)) (.node ⟨(.type "function"),none,(.func (fnOf "size_of" "Cars.size_of" (ag (inClass (top 25) 1)) (ae (inClass (top 25) 1)) (aa (inClass (top 25) 1)) .none .none .none (.str "countkin.cars" 737) none (.ref 462) .none)),#[]⟩ (.node ⟨.none,none,(.fields #[]),#[]⟩ .nil .nil) .nil))) (.node ⟨(.type "dict"),none,(.dict #[⟨PyData.keyHash P "__module__",.str "__module__" 323,(.str "countkin.errors" 216)⟩,⟨PyData.keyHash P "__qualname__",.str "__qualname__" 325,(.str "Apart" 324)⟩,⟨PyData.keyHash P "__firstlineno__",.str "__firstlineno__" 327,(.int 29 326)⟩,⟨PyData.keyHash P "__static_attributes__",.str "__static_attributes__" 328,(.ref 116)⟩] 4),#[]⟩ (.node ⟨.none,none,(.func { (fnOf "__init__" "Family.__init__" (ag (inClass (top 17) 0)) (ae (inClass (top 17) 0)) (aa (inClass (top 17) 0)) .none .none .none .none none .none .none) with globals:=0 }),#[]⟩ (.node ⟨(.type "function"),none,(.func (fnOf "unchecked_number" "SplitFamily.unchecked_number" (ag (inClass (top 18) 5)) (ae (inClass (top 18) 5)) (aa (inClass (top 18) 5)) .none .none .none (.str "countkin.kin" 389) none (.ref 302) .none)),#[]⟩ (.node ⟨(.type "function"),none,(.func (fnOf "is_one" "Floors.is_one" (ag (inClass (top 36) 2)) (ae (inClass (top 36) 2)) (aa (inClass (top 36) 2)) .none .none .none (.str "countkin.floors" 849) none (.ref 558) .none)),#[]⟩ .nil .nil) (.node ⟨(.type "tuple"),none,(.seq #[] 0),#[]⟩ .nil .nil)) (.node ⟨(.type "tuple"),none,(.seq #[] 0),#[]⟩ (.node ⟨(.type "tuple"),none,(.seq #[(.str "self" 1044),(.str "thing" 1045),(.str "ahead" 1046),(.str "place" 1047),(.str "number" 1048)] 0),#[]⟩ .nil .nil) .nil)) (.node ⟨(.type "code"),none,(.fields #[(.str "thing_of" 477),(.str "Family.thing_of" 478),(.str "/claim/cut.py" 479),(.int 74 0),(.int 3 0),(.int 0 0),(.int 0 0),(.int 3 0),(.ref 234),(.bool true),(.int 181 0),(.ref 235),.none,(.ref 236),(.ref 237),(.ref 238),(.int 483 0),(.int 74 0),(.str "/claim/cut.py" 484)]),#[]⟩ (.node ⟨(.type "tuple"),none,(.seq #[(.str "self" 650),(.str "code" 651)] 0),#[]⟩ (.node ⟨(.type "function"),none,(.func (fnOf "size_of" "Brackets.size_of" (ag (inClass (top 42) 1)) (ae (inClass (top 42) 1)) (aa (inClass (top 42) 1)) .none .none .none (.str "countkin.signs" 939) none (.ref 622) .none)),#[]⟩ .nil .nil) (.node ⟨(.type "code"),none,(.fields #[(.str "Bows" 1284),(.str "Bows" 1285),(.str "/claim/cut.py" 1286),(.int 443 0),(.int 0 0),(.int 0 0),(.int 0 0),(.int 0 0),(.ref 877),(.bool false),(.int 181 0),(.ref 878),.none,.none,.none,.none,(.int 1287 0),(.int 443 0),(.str "/claim/cut.py" 1288)]),#[]⟩ .nil .nil)) (.node ⟨.none,none,(.func { (fnOf "code_to_cars" "code_to_cars" (ag (top 27)) (ae (top 27)) (aa (top 27)) .none .none .none .none none .none .none) with globals:=0 }),#[]⟩ (.node ⟨(.type "code"),none,(.fields #[(.str "is_one" 1121),(.str "Twins.is_one" 1122),(.str "/claim/cut.py" 1123),(.int 336 0),(.int 2 0),(.int 0 0),(.int 0 0),(.int 3 0),(.ref 746),(.bool true),(.int 181 0),(.ref 747),.none,(.ref 748),(.ref 749),(.ref 750),(.int 1126 0),(.int 336 0),(.str "/claim/cut.py" 1127)]),#[]⟩ .nil .nil) .nil))))) (.node ⟨.none,none,(.fields #[]),#[]⟩ (.node ⟨(.type "tuple"),none,(.seq #[] 0),#[]⟩ (.node ⟨(.type "super"),none,(.fields #[(.ref 70),(.ref 70),(.ref 70)]),#[]⟩ (.node ⟨(.type "dict"),none,(.dict #[⟨PyData.keyHash P "__module__",.str "__module__" 355,(.str "countkin.errors" 216)⟩,⟨PyData.keyHash P "__qualname__",.str "__qualname__" 357,(.str "NoText" 356)⟩,⟨PyData.keyHash P "__firstlineno__",.str "__firstlineno__" 359,(.int 33 358)⟩,⟨PyData.keyHash P "__static_attributes__",.str "__static_attributes__" 360,(.ref 140)⟩] 4),#[]⟩ (.node ⟨.none,none,(.fields #[]),#[]⟩ (.node ⟨.none,none,(.func { (fnOf "each_once" "each_once" (ag (top 32)) (ae (top 32)) (aa (top 32)) .none .none .none .none none .none .none) with globals:=0 }),#[]⟩ .nil .nil) (.node ⟨(.type "dict"),none,(.dict #[⟨PyData.keyHash P "__module__",.str "__module__" 1098,(.str "countkin.twigs" 1089)⟩,⟨PyData.keyHash P "__firstlineno__",.str "__firstlineno__" 1102,(.int 321 1101)⟩,⟨PyData.keyHash P "__init__",.str "__init__" 1109,(.ref 738)⟩,⟨PyData.keyHash P "size_of",.str "size_of" 1120,(.ref 745)⟩,⟨PyData.keyHash P "is_one",.str "is_one" 1128,(.ref 752)⟩,⟨PyData.keyHash P "bare",.str "bare" 1135,(.ref 759)⟩,⟨PyData.keyHash P "parted",.str "parted" 1143,(.ref 766)⟩,⟨PyData.keyHash P "joined",.str "joined" 1152,(.ref 773)⟩,⟨PyData.keyHash P "__static_attributes__",.str "__static_attributes__" 1153,(.ref 774)⟩,⟨PyData.keyHash P "__doc__",.str "__doc__" 1154,.none⟩] 2),#[]⟩ .nil .nil)) (.node ⟨(.type "code"),none,(.fields #[(.str "unchecked_thing" 671),(.str "RingFamily.unchecked_thing" 672),(.str "/claim/cut.py" 673),(.int 135 0),(.int 3 0),(.int 0 0),(.int 0 0),(.int 3 0),(.ref 386),(.bool true),(.int 181 0),(.ref 387),.none,(.ref 388),(.ref 389),(.ref 390),(.int 677 0),(.int 135 0),(.str "/claim/cut.py" 678)]),#[]⟩ (.node ⟨(.type "tuple"),none,(.seq #[(.str "self" 995),(.str "left" 996),(.str "right" 997)] 0),#[]⟩ .nil .nil) (.node ⟨(.type "tuple"),none,(.seq #[] 0),#[]⟩ .nil .nil))) (.node ⟨(.type "tuple"),none,(.seq #[] 0),#[]⟩ (.node ⟨(.type "type"),none,(.cls ⟨"SplitFamily",[(.ref 250)],[(.ref 327),(.ref 250),(.type "object")],326,"SplitFamily",true,[],[(.ref 581),(.ref 654),(.ref 715),(.ref 776),(.ref 923)],false,none,false⟩),#[(some (.ref 255)),none,(some (.str "SplitFamily" 504)),(some (.str "SplitFamily" 512)),(some (.builtin "object.__new__")),(some (.bool true))]⟩ (.node ⟨(.type "builtin_function_or_method"),none,(.fields #[(.builtin "object.__init_subclass__"),(.ref 581)]),#[]⟩ .nil .nil) (.node ⟨.none,none,(.fields #[]),#[]⟩ .nil .nil)) (.node ⟨(.type "code"),none,(.fields #[(.str "__init__" 751),(.str "Cars.__init__" 752),(.str "/claim/cut.py" 753),(.int 157 0),(.int 1 0),(.int 0 0),(.int 0 0),(.int 3 0),(.ref 450),(.bool true),(.int 181 0),(.ref 451),.none,(.ref 452),(.ref 453),(.ref 454),(.int 755 0),(.int 157 0),(.str "/claim/cut.py" 756)]),#[]⟩ (.node ⟨(.type "code"),none,(.fields #[(.str "joined" 1068),(.str "Stairs.joined" 1069),(.str "/claim/cut.py" 1070),(.int 313 0),(.int 3 0),(.int 0 0),(.int 0 0),(.int 3 0),(.ref 706),(.bool true),(.int 181 0),(.ref 707),.none,(.ref 708),(.ref 709),(.ref 710),(.int 1074 0),(.int 313 0),(.str "/claim/cut.py" 1075)]),#[]⟩ .nil .nil) .nil))) (.node ⟨(.type "frame"),none,.plain,#[(some (.ref 102)),(some (.ref 3)),(some (.ref 99)),none,(some (.str "countkin.errors" 216)),none,(some (.ref 0))]⟩ (.node ⟨(.type "tuple"),none,(.seq #[] 0),#[]⟩ (.node ⟨(.type "code"),none,(.fields #[(.str "unchecked_many" 548),(.str "SplitFamily.unchecked_many" 549),(.str "/claim/cut.py" 550),(.int 93 0),(.int 2 0),(.int 0 0),(.int 0 0),(.int 3 0),(.ref 290),(.bool true),(.int 181 0),(.ref 291),.none,(.ref 292),(.ref 293),(.ref 294),(.int 553 0),(.int 93 0),(.str "/claim/cut.py" 554)]),#[]⟩ (.node ⟨(.type "tuple"),none,(.seq #[] 0),#[]⟩ .nil .nil) (.node ⟨(.type "tuple"),none,(.seq #[] 0),#[]⟩ .nil .nil)) (.node ⟨(.type "function"),none,(.func (fnOf "is_one" "Codes.is_one" (ag (inClass (top 23) 2)) (ae (inClass (top 23) 2)) (aa (inClass (top 23) 2)) .none .none .none (.str "countkin.ring" 617) none (.ref 422) .none)),#[]⟩ (.node ⟨.none,none,(.fields #[]),#[]⟩ .nil .nil) .nil)) (.node ⟨.none,none,(.func { (fnOf "number_of" "Family.number_of" (ag (inClass (top 17) 8)) (ae (inClass (top 17) 8)) (aa (inClass (top 17) 8)) .none .none .none .none none .none .none) with globals:=0 }),#[]⟩ (.node ⟨.none,none,(.fields #[]),#[]⟩ (.node ⟨(.type "code"),none,(.fields #[(.str "__init__" 953),(.str "Brackets.__init__" 954),(.str "/claim/cut.py" 955),(.int 262 0),(.int 1 0),(.int 0 0),(.int 0 0),(.int 3 0),(.ref 610),(.bool true),(.int 181 0),(.ref 611),.none,(.ref 612),(.ref 613),(.ref 614),(.int 957 0),(.int 262 0),(.str "/claim/cut.py" 958)]),#[]⟩ .nil .nil) (.node ⟨.none,none,(.func { (fnOf "code_to_tree" "code_to_tree" (ag (top 58)) (ae (top 58)) (aa (top 58)) .none .none .none .none none .none .none) with globals:=0 }),#[]⟩ .nil .nil)) (.node ⟨(.type "tuple"),none,(.seq #[] 0),#[]⟩ (.node ⟨.none,none,(.func { (fnOf "size_of" "Twins.size_of" (ag (inClass (top 47) 1)) (ae (inClass (top 47) 1)) (aa (inClass (top 47) 1)) .none .none .none .none none .none .none) with globals:=0 }),#[]⟩ .nil .nil) .nil)))) (.node ⟨(.type "frame"),none,.plain,#[(some (.ref 54)),(some (.ref 3)),(some (.ref 51)),none,(some (.str "countkin.errors" 216)),none,(some (.ref 0))]⟩ (.node ⟨(.type "dict"),none,(.dict #[⟨PyData.keyHash P "__module__",.str "__module__" 291,(.str "countkin.errors" 216)⟩,⟨PyData.keyHash P "__qualname__",.str "__qualname__" 293,(.str "NoFamily" 292)⟩,⟨PyData.keyHash P "__firstlineno__",.str "__firstlineno__" 295,(.int 25 294)⟩,⟨PyData.keyHash P "__static_attributes__",.str "__static_attributes__" 296,(.ref 92)⟩] 4),#[]⟩ (.node ⟨(.type "frame"),none,.plain,#[(some (.ref 150)),(some (.ref 3)),(some (.ref 147)),none,(some (.str "countkin.errors" 216)),none,(some (.ref 0))]⟩ (.node ⟨(.type "tuple"),none,(.seq #[] 0),#[]⟩ (.node ⟨(.type "builtin_function_or_method"),none,(.fields #[(.builtin "type.__prepare__"),(.type "type")]),#[]⟩ .nil .nil) (.node ⟨(.type "code"),none,(.fields #[(.str "twins_to_brackets" 1169),(.str "twins_to_brackets" 1170),(.str "/claim/cut.py" 1171),(.int 359 0),(.int 1 0),(.int 0 0),(.int 0 0),(.int 3 0),(.ref 786),(.bool true),(.int 181 0),(.ref 787),.none,(.ref 788),(.ref 789),(.ref 790),(.int 1176 0),(.int 359 0),(.str "/claim/cut.py" 1177)]),#[]⟩ .nil .nil)) (.node ⟨(.type "tuple"),none,(.seq #[(.str "self" 699)] 0),#[]⟩ (.node ⟨(.type "function"),none,(.func (fnOf "first_close" "first_close" (ag (top 43)) (ae (top 43)) (aa (top 43)) .none .none .none (.str "countkin.signs" 939) none (.ref 662) .none)),#[]⟩ .nil .nil) (.node ⟨(.type "code"),none,(.fields #[(.str "joined" 1333),(.str "Bows.joined" 1334),(.str "/claim/cut.py" 1335),(.int 465 0),(.int 3 0),(.int 0 0),(.int 0 0),(.int 3 0),(.ref 914),(.bool true),(.int 181 0),(.ref 915),.none,(.ref 916),(.ref 917),(.ref 918),(.int 1340 0),(.int 465 0),(.str "/claim/cut.py" 1341)]),#[]⟩ .nil .nil))) (.node ⟨(.type "tuple"),none,(.seq #[(.str "self" 456),(.str "size" 457)] 0),#[]⟩ (.node ⟨(.type "function"),none,(.func (fnOf "led_by_parts" "led_by_parts" (ag (top 20)) (ae (top 20)) (aa (top 20)) .none .none .none (.str "countkin.kin" 389) none (.ref 342) .none)),#[]⟩ (.node ⟨(.type "tuple"),none,(.seq #[] 0),#[]⟩ .nil .nil) (.node ⟨(.type "tuple"),none,(.seq #[(.str "elders" 1259),(.str "knot" 1260),(.str "reached" 1261),(.str "step" 1262)] 0),#[]⟩ .nil .nil)) (.node ⟨.none,none,(.func { (fnOf "code_of" "Cars.code_of" (ag (inClass (top 25) 3)) (ae (inClass (top 25) 3)) (aa (inClass (top 25) 3)) .none .none .none .none none .none .none) with globals:=0 }),#[]⟩ (.node ⟨(.type "dict"),none,(.dict #[⟨PyData.keyHash P "__module__",.str "__module__" 1098,(.str "countkin.twigs" 1089)⟩,⟨PyData.keyHash P "__qualname__",.str "__qualname__" 1100,(.str "Twins" 1099)⟩,⟨PyData.keyHash P "__firstlineno__",.str "__firstlineno__" 1102,(.int 321 1101)⟩,⟨PyData.keyHash P "__init__",.str "__init__" 1109,(.ref 738)⟩,⟨PyData.keyHash P "size_of",.str "size_of" 1120,(.ref 745)⟩,⟨PyData.keyHash P "is_one",.str "is_one" 1128,(.ref 752)⟩,⟨PyData.keyHash P "bare",.str "bare" 1135,(.ref 759)⟩,⟨PyData.keyHash P "parted",.str "parted" 1143,(.ref 766)⟩,⟨PyData.keyHash P "joined",.str "joined" 1152,(.ref 773)⟩,⟨PyData.keyHash P "__static_attributes__",.str "__static_attributes__" 1153,(.ref 774)⟩] 10),#[]⟩ .nil .nil) .nil))) (.node ⟨(.type "super"),none,(.fields #[(.ref 118),(.ref 118),(.ref 118)]),#[]⟩ (.node ⟨(.type "code"),none,(.fields #[(.str "size_of" 412),(.str "Family.size_of" 413),(.str "/claim/cut.py" 414),(.int 47 0),(.int 2 0),(.int 0 0),(.int 0 0),(.int 3 0),(.ref 178),(.bool true),(.int 181 0),(.ref 179),.none,(.ref 180),(.ref 181),(.ref 182),(.int 417 0),(.int 47 0),(.str "/claim/cut.py" 418)]),#[]⟩ (.node ⟨(.type "tuple"),none,(.seq #[] 0),#[]⟩ (.node ⟨(.type "tuple"),none,(.seq #[] 0),#[]⟩ .nil .nil) (.node ⟨.none,none,(.func { (fnOf "__init__" "Trees.__init__" (ag (inClass (top 55) 0)) (ae (inClass (top 55) 0)) (aa (inClass (top 55) 0)) .none .none .none .none none .none .none) with globals:=0 }),#[]⟩ .nil .nil)) (.node ⟨(.type "dict"),none,(.dict #[⟨PyData.keyHash P "__module__",.str "__module__" 691,(.str "countkin.ring" 617)⟩,⟨PyData.keyHash P "__firstlineno__",.str "__firstlineno__" 695,(.int 137 694)⟩,⟨PyData.keyHash P "__init__",.str "__init__" 702,(.ref 411)⟩,⟨PyData.keyHash P "size_of",.str "size_of" 710,(.ref 418)⟩,⟨PyData.keyHash P "is_one",.str "is_one" 716,(.ref 423)⟩,⟨PyData.keyHash P "code_of",.str "code_of" 724,(.ref 430)⟩,⟨PyData.keyHash P "of_code",.str "of_code" 732,(.ref 437)⟩,⟨PyData.keyHash P "__static_attributes__",.str "__static_attributes__" 733,(.ref 438)⟩,⟨PyData.keyHash P "__doc__",.str "__doc__" 734,.none⟩] 2),#[]⟩ (.node ⟨(.type "tuple"),none,(.seq #[] 0),#[]⟩ .nil .nil) .nil)) (.node ⟨(.type "function"),none,(.func (fnOf "next_of" "Family.next_of" (ag (inClass (top 17) 10)) (ae (inClass (top 17) 10)) (aa (inClass (top 17) 10)) .none .none .none (.str "countkin.kin" 389) none (.ref 246) .none)),#[]⟩ (.node ⟨(.type "tuple"),none,(.seq #[] 0),#[]⟩ (.node ⟨(.type "tuple"),none,(.seq #[] 0),#[]⟩ .nil .nil) (.node ⟨(.type "function"),none,(.func (fnOf "__init__" "Bows.__init__" (ag (inClass (top 60) 0)) (ae (inClass (top 60) 0)) (aa (inClass (top 60) 0)) .none .none .none (.str "countkin.bends" 1280) none (.ref 886) .none)),#[]⟩ .nil .nil)) (.node ⟨(.type "tuple"),none,(.seq #[] 0),#[]⟩ (.node ⟨(.type "function"),none,(.func (fnOf "bare" "Twins.bare" (ag (inClass (top 47) 3)) (ae (inClass (top 47) 3)) (aa (inClass (top 47) 3)) .none .none .none (.str "countkin.twigs" 1089) none (.ref 758) .none)),#[]⟩ .nil .nil) .nil)))))) (.node ⟨(.type "tuple"),none,(.seq #[] 0),#[]⟩ (.node ⟨.none,none,(.func { (fnOf "_wall" "_wall" (ag (top 0)) (ae (top 0)) (aa (top 0)) .none .none .none .none none .none .none) with globals:=0 }),#[]⟩ (.node ⟨(.type "function"),none,(.func (fnOf "ring_many" "ring_many" (ag (top 4)) (ae (top 4)) (aa (top 4)) .none .none .none (.str "countkin.counts" 194) none (.ref 34) .none)),#[]⟩ (.node ⟨(.type "frame"),none,.plain,#[(some (.ref 66)),(some (.ref 3)),(some (.ref 63)),none,(some (.str "countkin.errors" 216)),none,(some (.ref 0))]⟩ (.node ⟨(.type "super"),none,(.fields #[(.ref 130),(.ref 130),(.ref 130)]),#[]⟩ (.node ⟨.none,none,(.fields #[(.int 81 0),(.int 4 0),(.ref 267),(.int 84 0),(.int 4 0),(.ref 274),(.int 87 0),(.int 4 0),(.ref 281),(.int 90 0),(.int 4 0),(.ref 288),(.int 93 0),(.int 4 0),(.ref 295),(.int 96 0),(.int 4 0),(.ref 302),(.int 99 0),(.int 4 0),(.ref 309),(.int 102 0),(.int 4 0),(.ref 316),(.int 105 0),(.int 4 0),(.ref 323)]),#[]⟩ (.node ⟨(.type "tuple"),none,(.seq #[] 0),#[]⟩ .nil .nil) (.node ⟨.none,none,(.func { (fnOf "joined" "Twins.joined" (ag (inClass (top 47) 5)) (ae (inClass (top 47) 5)) (aa (inClass (top 47) 5)) .none .none .none .none none .none .none) with globals:=0 }),#[]⟩ .nil .nil)) (.node ⟨.none,none,(.fields #[]),#[]⟩ (.node ⟨(.type "code"),none,(.fields #[(.str "parted" 983),(.str "Brackets.parted" 984),(.str "/claim/cut.py" 985),(.int 274 0),(.int 2 0),(.int 0 0),(.int 0 0),(.int 3 0),(.ref 638),(.bool true),(.int 181 0),(.ref 639),.none,(.ref 640),(.ref 641),(.ref 642),(.int 989 0),(.int 274 0),(.str "/claim/cut.py" 990)]),#[]⟩ .nil .nil) (.node ⟨(.type "function"),none,(.func (fnOf "is_one" "Bows.is_one" (ag (inClass (top 60) 2)) (ae (inClass (top 60) 2)) (aa (inClass (top 60) 2)) .none .none .none (.str "countkin.bends" 1280) none (.ref 898) .none)),#[]⟩ .nil .nil))) (.node ⟨(.type "tuple"),none,(.seq #[] 0),#[]⟩ (.node ⟨(.type "code"),none,(.fields #[(.str "thing_by_parts" 582),(.str "SplitFamily.thing_by_parts" 583),(.str "/claim/cut.py" 584),(.int 105 0),(.int 4 0),(.int 0 0),(.int 0 0),(.int 3 0),(.ref 318),(.bool true),(.int 181 0),(.ref 319),.none,(.ref 320),(.ref 321),(.ref 322),(.int 589 0),(.int 105 0),(.str "/claim/cut.py" 590)]),#[]⟩ (.node ⟨(.type "tuple"),none,(.seq #[] 0),#[]⟩ .nil .nil) (.node ⟨.none,none,(.func { (fnOf "is_one" "Trees.is_one" (ag (inClass (top 55) 2)) (ae (inClass (top 55) 2)) (aa (inClass (top 55) 2)) .none .none .none .none none .none .none) with globals:=0 }),#[]⟩ .nil .nil)) (.node ⟨.none,none,(.fields #[]),#[]⟩ (.node ⟨.none,none,(.fields #[]),#[]⟩ .nil .nil) .nil))) (.node ⟨(.type "dict"),none,(.dict #[⟨PyData.keyHash P "__module__",.str "__module__" 307,(.str "countkin.errors" 216)⟩,⟨PyData.keyHash P "__qualname__",.str "__qualname__" 309,(.str "NoWay" 308)⟩,⟨PyData.keyHash P "__firstlineno__",.str "__firstlineno__" 311,(.int 27 310)⟩,⟨PyData.keyHash P "__static_attributes__",.str "__static_attributes__" 312,(.ref 104)⟩] 4),#[]⟩ (.node ⟨(.type "builtin_function_or_method"),none,(.fields #[(.builtin "object.__init_subclass__"),(.ref 161)]),#[]⟩ (.node ⟨.none,none,(.fields #[]),#[]⟩ (.node ⟨(.type "function"),none,(.func (fnOf "__init__" "Floors.__init__" (ag (inClass (top 36) 0)) (ae (inClass (top 36) 0)) (aa (inClass (top 36) 0)) .none .none .none (.str "countkin.floors" 849) none (.ref 546) .none)),#[]⟩ .nil .nil) (.node ⟨(.type "tuple"),none,(.seq #[] 0),#[]⟩ .nil .nil)) (.node ⟨(.type "tuple"),none,(.seq #[] 0),#[]⟩ (.node ⟨.none,none,(.func { (fnOf "__init__" "Stairs.__init__" (ag (inClass (top 44) 0)) (ae (inClass (top 44) 0)) (aa (inClass (top 44) 0)) .none .none .none .none none .none .none) with globals:=0 }),#[]⟩ .nil .nil) .nil)) (.node ⟨(.type "tuple"),none,(.seq #[] 0),#[]⟩ (.node ⟨.none,none,(.func { (fnOf "__init__" "RingFamily.__init__" (ag (inClass (top 22) 0)) (ae (inClass (top 22) 0)) (aa (inClass (top 22) 0)) .none .none .none .none none .none .none) with globals:=0 }),#[]⟩ (.node ⟨.none,none,(.fields #[]),#[]⟩ .nil .nil) (.node ⟨(.type "tuple"),none,(.seq #[] 0),#[]⟩ .nil .nil)) (.node ⟨(.type "builtin_function_or_method"),none,(.fields #[(.builtin "object.__init_subclass__"),(.ref 481)]),#[]⟩ (.node ⟨(.type "tuple"),none,(.seq #[] 0),#[]⟩ .nil .nil) .nil)))) (.node ⟨(.type "dict"),none,(.dict #[⟨PyData.keyHash P "__module__",.str "__module__" 243,(.str "countkin.errors" 216)⟩,⟨PyData.keyHash P "__qualname__",.str "__qualname__" 245,(.str "NoSize" 244)⟩,⟨PyData.keyHash P "__firstlineno__",.str "__firstlineno__" 247,(.int 19 246)⟩,⟨PyData.keyHash P "__static_attributes__",.str "__static_attributes__" 248,(.ref 56)⟩] 4),#[]⟩ (.node ⟨(.type "super"),none,(.fields #[(.ref 82),(.ref 82),(.ref 82)]),#[]⟩ (.node ⟨(.type "dict"),none,(.dict #[⟨PyData.keyHash P "__module__",.str "__module__" 371,(.str "countkin.errors" 216)⟩,⟨PyData.keyHash P "__qualname__",.str "__qualname__" 373,(.str "Broken" 372)⟩,⟨PyData.keyHash P "__firstlineno__",.str "__firstlineno__" 375,(.int 35 374)⟩,⟨PyData.keyHash P "__init__",.str "__init__" 383,(.ref 158)⟩,⟨PyData.keyHash P "__static_attributes__",.str "__static_attributes__" 385,(.ref 159)⟩] 5),#[]⟩ (.node ⟨(.type "function"),none,(.func (fnOf "bare" "SplitFamily.bare" (ag (inClass (top 18) 1)) (ae (inClass (top 18) 1)) (aa (inClass (top 18) 1)) .none .none .none (.str "countkin.kin" 389) none (.ref 274) .none)),#[]⟩ (.node ⟨.none,none,(.func { (fnOf "pairs_anew" "pairs_anew" (ag (top 34)) (ae (top 34)) (aa (top 34)) .none .none .none .none none .none .none) with globals:=0 }),#[]⟩ .nil .nil) (.node ⟨.none,none,(.fields #[]),#[]⟩ .nil .nil)) (.node ⟨(.type "code"),none,(.fields #[(.str "Codes" 686),(.str "Codes" 687),(.str "/claim/cut.py" 688),(.int 137 0),(.int 0 0),(.int 0 0),(.int 0 0),(.int 0 0),(.ref 401),(.bool false),(.int 181 0),(.ref 402),.none,.none,.none,.none,(.int 689 0),(.int 137 0),(.str "/claim/cut.py" 690)]),#[]⟩ (.node ⟨(.type "tuple"),none,(.seq #[(.str "text" 1008),(.str "depth" 1009),(.str "place" 1010)] 0),#[]⟩ .nil .nil) (.node ⟨.none,none,(.fields #[]),#[]⟩ .nil .nil))) (.node ⟨(.type "code"),none,(.fields #[(.str "unchecked_thing" 444),(.str "Family.unchecked_thing" 445),(.str "/claim/cut.py" 446),(.int 59 0),(.int 3 0),(.int 0 0),(.int 0 0),(.int 3 0),(.ref 206),(.bool true),(.int 181 0),(.ref 207),.none,(.ref 208),(.ref 209),(.ref 210),(.int 450 0),(.int 59 0),(.str "/claim/cut.py" 451)]),#[]⟩ (.node ⟨(.type "tuple"),none,(.seq #[(.str "one" 608),(.str "other" 609),(.str "thing" 610),(.str "parts" 611),(.str "left" 612),(.str "right" 613)] 0),#[]⟩ (.node ⟨(.type "function"),none,(.func (fnOf "third_corner" "third_corner" (ag (top 38)) (ae (top 38)) (aa (top 38)) .none .none .none (.str "countkin.floors" 849) none (.ref 594) .none)),#[]⟩ .nil .nil) (.node ⟨(.type "super"),none,(.fields #[(.ref 850),(.ref 850),(.ref 850)]),#[]⟩ .nil .nil)) (.node ⟨(.type "code"),none,(.fields #[(.str "is_one" 766),(.str "Cars.is_one" 767),(.str "/claim/cut.py" 768),(.int 163 0),(.int 2 0),(.int 0 0),(.int 0 0),(.int 3 0),(.ref 464),(.bool true),(.int 181 0),(.ref 465),.none,.none,.none,(.ref 466),(.int 769 0),(.int 163 0),(.str "/claim/cut.py" 770)]),#[]⟩ (.node ⟨(.type "code"),none,(.fields #[(.str "right_begin" 1081),(.str "right_begin" 1082),(.str "/claim/cut.py" 1083),(.int 315 0),(.int 1 0),(.int 0 0),(.int 0 0),(.int 3 0),(.ref 718),(.bool true),(.int 181 0),(.ref 719),.none,(.ref 720),(.ref 721),(.ref 722),(.int 1086 0),(.int 315 0),(.str "/claim/cut.py" 1087)]),#[]⟩ .nil .nil) .nil))) (.node ⟨(.type "frame"),none,.plain,#[(some (.ref 114)),(some (.ref 3)),(some (.ref 111)),none,(some (.str "countkin.errors" 216)),none,(some (.ref 0))]⟩ (.node ⟨.none,none,(.fields #[]),#[]⟩ (.node ⟨(.type "tuple"),none,(.seq #[] 0),#[]⟩ (.node ⟨(.type "tuple"),none,(.seq #[] 0),#[]⟩ .nil .nil) (.node ⟨(.type "tuple"),none,(.seq #[] 0),#[]⟩ .nil .nil)) (.node ⟨.none,none,(.func { (fnOf "of_code" "Codes.of_code" (ag (inClass (top 23) 4)) (ae (inClass (top 23) 4)) (aa (inClass (top 23) 4)) .none .none .none .none none .none .none) with globals:=0 }),#[]⟩ (.node ⟨(.type "function"),none,(.func (fnOf "is_one" "Stairs.is_one" (ag (inClass (top 44) 2)) (ae (inClass (top 44) 2)) (aa (inClass (top 44) 2)) .none .none .none (.str "countkin.signs" 939) none (.ref 690) .none)),#[]⟩ .nil .nil) .nil)) (.node ⟨(.type "tuple"),none,(.seq #[(.str "self" 489),(.str "thing" 490)] 0),#[]⟩ (.node ⟨(.type "function"),none,(.func (fnOf "of_code" "RingFamily.of_code" (ag (inClass (top 22) 2)) (ae (inClass (top 22) 2)) (aa (inClass (top 22) 2)) .none .none .none (.str "countkin.ring" 617) none (.ref 370) .none)),#[]⟩ (.node ⟨(.type "tuple"),none,(.seq #[] 0),#[]⟩ .nil .nil) (.node ⟨(.type "tuple"),none,(.seq #[(.str "self" 1297)] 0),#[]⟩ .nil .nil)) (.node ⟨.none,none,(.fields #[]),#[]⟩ (.node ⟨(.type "tuple"),none,(.seq #[(.str "self" 1132)] 0),#[]⟩ .nil .nil) .nil))))) (.node ⟨(.type "code"),none,(.fields #[(.str "by_rule" 198),(.str "by_rule" 199),(.str "/claim/cut.py" 200),(.int 6 0),(.int 1 0),(.int 0 0),(.int 0 0),(.int 3 0),(.ref 22),(.bool true),(.int 181 0),(.ref 23),.none,(.ref 24),(.ref 25),(.ref 26),(.int 204 0),(.int 6 0),(.str "/claim/cut.py" 205)]),#[]⟩ (.node ⟨(.type "tuple"),none,(.seq #[] 0),#[]⟩ (.node ⟨(.type "dict"),none,(.dict #[⟨PyData.keyHash P "__module__",.str "__module__" 275,(.str "countkin.errors" 216)⟩,⟨PyData.keyHash P "__qualname__",.str "__qualname__" 277,(.str "NoThing" 276)⟩,⟨PyData.keyHash P "__firstlineno__",.str "__firstlineno__" 279,(.int 23 278)⟩,⟨PyData.keyHash P "__static_attributes__",.str "__static_attributes__" 280,(.ref 80)⟩] 4),#[]⟩ (.node ⟨(.type "frame"),none,.plain,#[(some (.ref 138)),(some (.ref 3)),(some (.ref 135)),none,(some (.str "countkin.errors" 216)),none,(some (.ref 0))]⟩ (.node ⟨(.type "code"),none,(.fields #[(.str "__init__" 516),(.str "SplitFamily.__init__" 517),(.str "/claim/cut.py" 518),(.int 81 0),(.int 2 0),(.int 0 0),(.int 0 0),(.int 3 0),(.ref 262),(.bool true),(.int 181 0),(.ref 263),.none,(.ref 264),(.ref 265),(.ref 266),(.int 521 0),(.int 81 0),(.str "/claim/cut.py" 522)]),#[]⟩ (.node ⟨.none,none,(.fields #[]),#[]⟩ .nil .nil) (.node ⟨(.type "tuple"),none,(.seq #[] 0),#[]⟩ .nil .nil)) (.node ⟨(.type "type"),none,(.cls ⟨"RingFamily",[(.ref 250)],[(.ref 395),(.ref 250),(.type "object")],394,"RingFamily",true,[],[(.ref 440),(.ref 481),(.ref 850)],false,none,false⟩),#[(some (.ref 344)),none,(some (.str "RingFamily" 619)),(some (.str "RingFamily" 627)),(some (.builtin "object.__new__")),(some (.bool true))]⟩ (.node ⟨(.type "function"),none,(.func (fnOf "joined" "Brackets.joined" (ag (inClass (top 42) 5)) (ae (inClass (top 42) 5)) (aa (inClass (top 42) 5)) .none .none .none (.str "countkin.signs" 939) none (.ref 650) .none)),#[]⟩ .nil .nil) (.node ⟨(.type "tuple"),none,(.seq #[] 0),#[]⟩ .nil .nil))) (.node ⟨.none,none,(.func { (fnOf "unchecked_number" "Family.unchecked_number" (ag (inClass (top 17) 4)) (ae (inClass (top 17) 4)) (aa (inClass (top 17) 4)) .none .none .none .none none .none .none) with globals:=0 }),#[]⟩ (.node ⟨.none,none,(.fields #[]),#[]⟩ (.node ⟨(.type "tuple"),none,(.seq #[] 0),#[]⟩ .nil .nil) (.node ⟨(.type "tuple"),none,(.seq #[] 0),#[]⟩ .nil .nil)) (.node ⟨(.type "tuple"),none,(.seq #[(.str "self" 761),(.str "thing" 762)] 0),#[]⟩ (.node ⟨(.type "type"),none,(.cls ⟨"Stairs",[(.ref 327)],[(.ref 715),(.ref 327),(.ref 250),(.type "object")],714,"Stairs",true,[],[],false,none,false⟩),#[(some (.ref 664)),none,(some (.str "Stairs" 1014)),(some (.str "Stairs" 1022)),(some (.builtin "object.__new__")),(some (.bool true))]⟩ .nil .nil) .nil))) (.node ⟨(.type "super"),none,(.fields #[(.ref 106),(.ref 106),(.ref 106)]),#[]⟩ (.node ⟨(.type "tuple"),none,(.seq #[] 0),#[]⟩ (.node ⟨(.type "tuple"),none,(.seq #[(.str "self" 559),(.str "thing" 560)] 0),#[]⟩ (.node ⟨(.type "tuple"),none,(.seq #[] 0),#[]⟩ .nil .nil) (.node ⟨(.type "function"),none,(.func (fnOf "floor_to_twins" "floor_to_twins" (ag (top 53)) (ae (top 53)) (aa (top 53)) .none .none .none (.str "countkin.cuts" 1157) none (.ref 810) .none)),#[]⟩ .nil .nil)) (.node ⟨(.type "tuple"),none,(.seq #[] 0),#[]⟩ (.node ⟨(.type "code"),none,(.fields #[(.str "size_of" 1033),(.str "Stairs.size_of" 1034),(.str "/claim/cut.py" 1035),(.int 295 0),(.int 2 0),(.int 0 0),(.int 0 0),(.int 3 0),(.ref 678),(.bool true),(.int 181 0),(.ref 679),.none,(.ref 680),(.ref 681),(.ref 682),(.int 1038 0),(.int 295 0),(.str "/claim/cut.py" 1039)]),#[]⟩ .nil .nil) .nil)) (.node ⟨.none,none,(.fields #[]),#[]⟩ (.node ⟨(.type "code"),none,(.fields #[(.str "code_of" 639),(.str "RingFamily.code_of" 640),(.str "/claim/cut.py" 641),(.int 123 0),(.int 2 0),(.int 0 0),(.int 0 0),(.int 3 0),(.ref 358),(.bool true),(.int 181 0),(.ref 359),.none,(.ref 360),(.ref 361),(.ref 362),(.int 644 0),(.int 123 0),(.str "/claim/cut.py" 645)]),#[]⟩ (.node ⟨(.type "tuple"),none,(.seq #[(.str "self" 963),(.str "thing" 964)] 0),#[]⟩ .nil .nil) (.node ⟨(.type "builtin_function_or_method"),none,(.fields #[(.builtin "type.__prepare__"),(.type "type")]),#[]⟩ .nil .nil)) (.node ⟨(.type "tuple"),none,(.seq #[] 0),#[]⟩ (.node ⟨.none,none,(.fields #[]),#[]⟩ .nil .nil) .nil)))) (.node ⟨(.type "super"),none,(.fields #[(.ref 58),(.ref 58),(.ref 58)]),#[]⟩ (.node ⟨(.type "frame"),none,.plain,#[(some (.ref 90)),(some (.ref 3)),(some (.ref 87)),none,(some (.str "countkin.errors" 216)),none,(some (.ref 0))]⟩ (.node ⟨(.type "tuple"),none,(.seq #[] 0),#[]⟩ (.node ⟨(.type "tuple"),none,(.seq #[] 0),#[]⟩ (.node ⟨(.type "code"),none,(.fields #[(.str "Floors" 853),(.str "Floors" 854),(.str "/claim/cut.py" 855),(.int 207 0),(.int 0 0),(.int 0 0),(.int 0 0),(.int 0 0),(.ref 537),(.bool false),(.int 181 0),(.ref 538),.none,.none,.none,.none,(.int 856 0),(.int 207 0),(.str "/claim/cut.py" 857)]),#[]⟩ .nil .nil) (.node ⟨(.type "tuple"),none,(.seq #[(.str "thing" 1182),(.str "lines" 1183),(.str "last" 1184)] 0),#[]⟩ .nil .nil)) (.node ⟨(.type "function"),none,(.func (fnOf "__init__" "Codes.__init__" (ag (inClass (top 23) 0)) (ae (inClass (top 23) 0)) (aa (inClass (top 23) 0)) .none .none .none (.str "countkin.ring" 617) none (.ref 410) .none)),#[]⟩ (.node ⟨(.type "tuple"),none,(.seq #[] 0),#[]⟩ .nil .nil) (.node ⟨(.type "type"),none,(.cls ⟨"Bows",[(.ref 327)],[(.ref 923),(.ref 327),(.ref 250),(.type "object")],922,"Bows",true,[],[],false,none,false⟩),#[(some (.ref 874)),none,(some (.str "Bows" 1282)),(some (.str "Bows" 1290)),(some (.builtin "object.__new__")),(some (.bool true))]⟩ .nil .nil))) (.node ⟨(.type "function"),none,(.func (fnOf "many" "Family.many" (ag (inClass (top 17) 6)) (ae (inClass (top 17) 6)) (aa (inClass (top 17) 6)) .none .none .none (.str "countkin.kin" 389) none (.ref 218) .none)),#[]⟩ (.node ⟨(.type "tuple"),none,(.seq #[] 0),#[]⟩ (.node ⟨(.type "tuple"),none,(.seq #[(.ref 327)] 0),#[]⟩ .nil .nil) (.node ⟨(.type "function"),none,(.func (fnOf "comes_to_0" "comes_to_0" (ag (top 56)) (ae (top 56)) (aa (top 56)) .none .none .none (.str "countkin.elders" 1205) none (.ref 858) .none)),#[]⟩ .nil .nil)) (.node ⟨.none,none,(.fields #[]),#[]⟩ (.node ⟨(.type "frame"),none,.plain,#[(some (.ref 730)),(some (.ref 3)),(some (.ref 727)),none,(some (.str "countkin.twigs" 1089)),none,(some (.ref 0))]⟩ .nil .nil) .nil))) (.node ⟨(.type "dict"),none,(.dict #[⟨PyData.keyHash P "__module__",.str "__module__" 339,(.str "countkin.errors" 216)⟩,⟨PyData.keyHash P "__qualname__",.str "__qualname__" 341,(.str "NoMark" 340)⟩,⟨PyData.keyHash P "__firstlineno__",.str "__firstlineno__" 343,(.int 31 342)⟩,⟨PyData.keyHash P "__static_attributes__",.str "__static_attributes__" 344,(.ref 128)⟩] 4),#[]⟩ (.node ⟨(.type "tuple"),none,(.seq #[(.str "self" 423),(.str "thing" 424)] 0),#[]⟩ (.node ⟨.none,none,(.func { (fnOf "number_by_parts" "SplitFamily.number_by_parts" (ag (inClass (top 18) 7)) (ae (inClass (top 18) 7)) (aa (inClass (top 18) 7)) .none .none .none .none none .none .none) with globals:=0 }),#[]⟩ (.node ⟨(.type "function"),none,(.func (fnOf "parted" "Floors.parted" (ag (inClass (top 36) 4)) (ae (inClass (top 36) 4)) (aa (inClass (top 36) 4)) .none .none .none (.str "countkin.floors" 849) none (.ref 570) .none)),#[]⟩ .nil .nil) (.node ⟨.none,none,(.fields #[]),#[]⟩ .nil .nil)) (.node ⟨(.type "tuple"),none,(.seq #[(.ref 395)] 0),#[]⟩ (.node ⟨(.type "tuple"),none,(.seq #[] 0),#[]⟩ .nil .nil) .nil)) (.node ⟨(.type "getset_descriptor"),none,(.fields #[(.str "__dict__" 497),(.ref 250),(.builtin "function.__dict__"),(.builtin "function.__dict__#set")]),#[]⟩ (.node ⟨(.type "tuple"),none,(.seq #[] 0),#[]⟩ (.node ⟨.none,none,(.func { (fnOf "bare" "Brackets.bare" (ag (inClass (top 42) 3)) (ae (inClass (top 42) 3)) (aa (inClass (top 42) 3)) .none .none .none .none none .none .none) with globals:=0 }),#[]⟩ .nil .nil) (.node ⟨(.type "tuple"),none,(.seq #[] 0),#[]⟩ .nil .nil)) (.node ⟨(.type "function"),none,(.func (fnOf "pairs_raised_by" "pairs_raised_by" (ag (top 30)) (ae (top 30)) (aa (top 30)) .none .none .none (.str "countkin.common" 802) none (.ref 506) .none)),#[]⟩ (.node ⟨(.type "tuple"),none,(.seq #[] 0),#[]⟩ .nil .nil) .nil))))))) (.node (boot_o_5 P) (.node (boot_o_9 P) (.node ⟨(.type "tuple"),none,(.seq #[(.str "k" 190)] 0),#[]⟩ (.node ⟨.none,none,(.func { (fnOf "ring_many" "ring_many" (ag (top 4)) (ae (top 4)) (aa (top 4)) .none .none .none .none none .none .none) with globals:=0 }),#[]⟩ (.node ⟨.none,none,(.fields #[]),#[]⟩ (.node ⟨(.type "dict"),none,(.dict #[⟨PyData.keyHash P "__module__",.str "__module__" 339,(.str "countkin.errors" 216)⟩,⟨PyData.keyHash P "__firstlineno__",.str "__firstlineno__" 343,(.int 31 342)⟩,⟨PyData.keyHash P "__static_attributes__",.str "__static_attributes__" 344,(.ref 128)⟩,⟨PyData.keyHash P "__doc__",.str "__doc__" 345,.none⟩] 2),#[]⟩ (.node ⟨(.type "dict"),none,(.dict #[⟨PyData.keyHash P "__module__",.str "__module__" 511,(.str "countkin.kin" 389)⟩,⟨PyData.keyHash P "__qualname__",.str "__qualname__" 513,(.str "SplitFamily" 512)⟩,⟨PyData.keyHash P "__firstlineno__",.str "__firstlineno__" 515,(.int 79 514)⟩,⟨PyData.keyHash P "__init__",.str "__init__" 523,(.ref 268)⟩,⟨PyData.keyHash P "bare",.str "bare" 530,(.ref 275)⟩,⟨PyData.keyHash P "parted",.str "parted" 538,(.ref 282)⟩,⟨PyData.keyHash P "joined",.str "joined" 547,(.ref 289)⟩,⟨PyData.keyHash P "unchecked_many",.str "unchecked_many" 555,(.ref 296)⟩,⟨PyData.keyHash P "unchecked_number",.str "unchecked_number" 563,(.ref 303)⟩,⟨PyData.keyHash P "unchecked_thing",.str "unchecked_thing" 572,(.ref 310)⟩,⟨PyData.keyHash P "number_by_parts",.str "number_by_parts" 581,(.ref 317)⟩,⟨PyData.keyHash P "thing_by_parts",.str "thing_by_parts" 591,(.ref 324)⟩,⟨PyData.keyHash P "__static_attributes__",.str "__static_attributes__" 592,(.ref 325)⟩] 13),#[]⟩ (.node ⟨(.type "code"),none,(.fields #[(.str "flat" 816),(.str "flat" 817),(.str "/claim/cut.py" 818),(.int 191 0),(.int 1 0),(.int 0 0),(.int 0 0),(.int 3 0),(.ref 508),(.bool true),(.int 181 0),(.ref 509),.none,(.ref 510),(.ref 511),(.ref 512),(.int 822 0),(.int 191 0),(.str "/claim/cut.py" 823)]),#[]⟩ .nil .nil) (.node ⟨(.type "tuple"),none,(.seq #[(.str "self" 1147),(.str "left" 1148),(.str "right" 1149)] 0),#[]⟩ .nil .nil)) (.node ⟨(.type "function"),none,(.func (fnOf "unchecked_number" "RingFamily.unchecked_number" (ag (inClass (top 22) 4)) (ae (inClass (top 22) 4)) (aa (inClass (top 22) 4)) .none .none .none (.str "countkin.ring" 617) none (.ref 384) .none)),#[]⟩ (.node ⟨(.type "tuple"),none,(.seq #[] 0),#[]⟩ .nil .nil) (.node ⟨.none,none,(.func { (fnOf "is_one" "Bows.is_one" (ag (inClass (top 60) 2)) (ae (inClass (top 60) 2)) (aa (inClass (top 60) 2)) .none .none .none .none none .none .none) with globals:=0 }),#[]⟩ .nil .nil))) (.node ⟨.none,none,(.fields #[]),#[]⟩ (.node ⟨(.type "tuple"),none,(.seq #[] 0),#[]⟩ (.node ⟨(.type "code"),none,(.fields #[(.str "joined" 897),(.str "Floors.joined" 898),(.str "/claim/cut.py" 899),(.int 235 0),(.int 3 0),(.int 0 0),(.int 0 0),(.int 3 0),(.ref 572),(.bool true),(.int 181 0),(.ref 573),.none,(.ref 574),(.ref 575),(.ref 576),(.int 906 0),(.int 235 0),(.str "/claim/cut.py" 907)]),#[]⟩ .nil .nil) (.node ⟨(.type "tuple"),none,(.seq #[] 0),#[]⟩ .nil .nil)) (.node ⟨(.type "frame"),none,.plain,#[(some (.ref 448)),(some (.ref 3)),(some (.ref 445)),none,(some (.str "countkin.cars" 737)),none,(some (.ref 0))]⟩ (.node ⟨(.type "function"),none,(.func (fnOf "parted" "Stairs.parted" (ag (inClass (top 44) 4)) (ae (inClass (top 44) 4)) (aa (inClass (top 44) 4)) .none .none .none (.str "countkin.signs" 939) none (.ref 704) .none)),#[]⟩ .nil .nil) .nil))) (.node ⟨(.type "tuple"),none,(.seq #[(.ref 45)] 0),#[]⟩ (.node ⟨(.type "type"),none,(.cls ⟨"Broken",[(.ref 45)],[(.ref 161),(.ref 45),(.type "ValueError"),(.type "Exception"),(.type "BaseException"),(.type "object")],160,"Broken",true,[],[],false,none,false⟩),#[(some (.ref 145)),none,(some (.str "Broken" 364)),(some (.str "Broken" 372)),(some (.builtin "ValueError.__new__")),(some (.bool true))]⟩ (.node ⟨(.type "function"),none,(.func (fnOf "joined" "SplitFamily.joined" (ag (inClass (top 18) 3)) (ae (inClass (top 18) 3)) (aa (inClass (top 18) 3)) .none .none .none (.str "countkin.kin" 389) none (.ref 288) .none)),#[]⟩ (.node ⟨.none,none,(.func { (fnOf "__init__" "Floors.__init__" (ag (inClass (top 36) 0)) (ae (inClass (top 36) 0)) (aa (inClass (top 36) 0)) .none .none .none .none none .none .none) with globals:=0 }),#[]⟩ .nil .nil) (.node ⟨.none,none,(.fields #[]),#[]⟩ .nil .nil)) (.node ⟨(.type "code"),none,(.fields #[(.str "size_of" 703),(.str "Codes.size_of" 704),(.str "/claim/cut.py" 705),(.int 142 0),(.int 2 0),(.int 0 0),(.int 0 0),(.int 3 0),(.ref 412),(.bool true),(.int 181 0),(.ref 413),.none,(.ref 414),(.ref 415),(.ref 416),(.int 708 0),(.int 142 0),(.str "/claim/cut.py" 709)]),#[]⟩ (.node ⟨(.type "tuple"),none,(.seq #[(.str "self" 1029)] 0),#[]⟩ .nil .nil) .nil)) (.node ⟨(.type "code"),none,(.fields #[(.str "refuse_other" 461),(.str "Family.refuse_other" 462),(.str "/claim/cut.py" 463),(.int 67 0),(.int 2 0),(.int 0 0),(.int 0 0),(.int 3 0),(.ref 220),(.bool true),(.int 181 0),(.ref 221),.none,(.ref 222),(.ref 223),(.ref 224),(.int 466 0),(.int 67 0),(.str "/claim/cut.py" 467)]),#[]⟩ (.node ⟨(.type "tuple"),none,(.seq #[(.str "self" 634),(.str "word" 635)] 0),#[]⟩ (.node ⟨(.type "frame"),none,.plain,#[(some (.ref 608)),(some (.ref 3)),(some (.ref 605)),none,(some (.str "countkin.signs" 939)),none,(some (.ref 0))]⟩ .nil .nil) (.node ⟨(.type "code"),none,(.fields #[(.str "tree_to_code" 1266),(.str "tree_to_code" 1267),(.str "/claim/cut.py" 1268),(.int 436 0),(.int 1 0),(.int 0 0),(.int 0 0),(.int 3 0),(.ref 860),(.bool true),(.int 181 0),(.ref 861),.none,(.ref 862),(.ref 863),(.ref 864),(.int 1270 0),(.int 436 0),(.str "/claim/cut.py" 1271)]),#[]⟩ .nil .nil)) (.node ⟨(.type "type"),none,(.cls ⟨"Cars",[(.ref 395)],[(.ref 481),(.ref 395),(.ref 250),(.type "object")],480,"Cars",true,[],[],false,none,false⟩),#[(some (.ref 443)),none,(some (.str "Cars" 739)),(some (.str "Cars" 747)),(some (.builtin "object.__new__")),(some (.bool true))]⟩ (.node ⟨(.type "code"),none,(.fields #[(.str "__init__" 1103),(.str "Twins.__init__" 1104),(.str "/claim/cut.py" 1105),(.int 323 0),(.int 1 0),(.int 0 0),(.int 0 0),(.int 3 0),(.ref 732),(.bool true),(.int 181 0),(.ref 733),.none,(.ref 734),(.ref 735),(.ref 736),(.int 1107 0),(.int 323 0),(.str "/claim/cut.py" 1108)]),#[]⟩ .nil .nil) .nil)))) (.node ⟨(.type "tuple"),none,(.seq #[(.ref 45)] 0),#[]⟩ (.node ⟨(.type "dict"),none,(.dict #[⟨PyData.keyHash P "__module__",.str "__module__" 275,(.str "countkin.errors" 216)⟩,⟨PyData.keyHash P "__firstlineno__",.str "__firstlineno__" 279,(.int 23 278)⟩,⟨PyData.keyHash P "__static_attributes__",.str "__static_attributes__" 280,(.ref 80)⟩,⟨PyData.keyHash P "__doc__",.str "__doc__" 281,.none⟩] 2),#[]⟩ (.node ⟨(.type "tuple"),none,(.seq #[(.ref 45)] 0),#[]⟩ (.node ⟨.none,none,(.func { (fnOf "bare" "SplitFamily.bare" (ag (inClass (top 18) 1)) (ae (inClass (top 18) 1)) (aa (inClass (top 18) 1)) .none .none .none .none none .none .none) with globals:=0 }),#[]⟩ (.node ⟨(.type "tuple"),none,(.seq #[] 0),#[]⟩ .nil .nil) (.node ⟨(.type "function"),none,(.func (fnOf "brackets_to_twins" "brackets_to_twins" (ag (top 49)) (ae (top 49)) (aa (top 49)) .none .none .none (.str "countkin.cuts" 1157) none (.ref 784) .none)),#[]⟩ .nil .nil)) (.node ⟨(.type "tuple"),none,(.seq #[] 0),#[]⟩ (.node ⟨(.type "tuple"),none,(.seq #[] 0),#[]⟩ .nil .nil) (.node ⟨(.type "function"),none,(.func (fnOf "parted" "Bows.parted" (ag (inClass (top 60) 4)) (ae (inClass (top 60) 4)) (aa (inClass (top 60) 4)) .none .none .none (.str "countkin.bends" 1280) none (.ref 912) .none)),#[]⟩ .nil .nil))) (.node ⟨(.type "tuple"),none,(.seq #[] 0),#[]⟩ (.node ⟨(.type "tuple"),none,(.seq #[] 0),#[]⟩ (.node ⟨.none,none,(.func { (fnOf "third_corner" "third_corner" (ag (top 38)) (ae (top 38)) (aa (top 38)) .none .none .none .none none .none .none) with globals:=0 }),#[]⟩ .nil .nil) (.node ⟨(.type "dict"),none,(.dict #[⟨PyData.keyHash P "__module__",.str "__module__" 1214,(.str "countkin.elders" 1205)⟩,⟨PyData.keyHash P "__firstlineno__",.str "__firstlineno__" 1218,(.int 397 1217)⟩,⟨PyData.keyHash P "__init__",.str "__init__" 1225,(.ref 825)⟩,⟨PyData.keyHash P "size_of",.str "size_of" 1233,(.ref 832)⟩,⟨PyData.keyHash P "is_one",.str "is_one" 1239,(.ref 837)⟩,⟨PyData.keyHash P "code_of",.str "code_of" 1245,(.ref 842)⟩,⟨PyData.keyHash P "of_code",.str "of_code" 1251,(.ref 847)⟩,⟨PyData.keyHash P "__static_attributes__",.str "__static_attributes__" 1252,(.ref 848)⟩,⟨PyData.keyHash P "__doc__",.str "__doc__" 1253,.none⟩] 2),#[]⟩ .nil .nil)) (.node ⟨.none,none,(.fields #[]),#[]⟩ (.node ⟨(.type "tuple"),none,(.seq #[] 0),#[]⟩ .nil .nil) .nil))) (.node ⟨.none,none,(.fields #[]),#[]⟩ (.node ⟨(.type "function"),none,(.func (fnOf "__init__" "Family.__init__" (ag (inClass (top 17) 0)) (ae (inClass (top 17) 0)) (aa (inClass (top 17) 0)) .none .none .none (.str "countkin.kin" 389) none (.ref 176) .none)),#[]⟩ (.node ⟨.none,none,(.fields #[]),#[]⟩ (.node ⟨.none,none,(.fields #[]),#[]⟩ .nil .nil) (.node ⟨(.type "code"),none,(.fields #[(.str "Trees" 1209),(.str "Trees" 1210),(.str "/claim/cut.py" 1211),(.int 397 0),(.int 0 0),(.int 0 0),(.int 0 0),(.int 0 0),(.ref 815),(.bool false),(.int 181 0),(.ref 816),.none,.none,.none,.none,(.int 1212 0),(.int 397 0),(.str "/claim/cut.py" 1213)]),#[]⟩ .nil .nil)) (.node ⟨(.type "tuple"),none,(.seq #[(.str "self" 728),(.str "code" 729)] 0),#[]⟩ (.node ⟨.none,none,(.func { (fnOf "is_one" "Stairs.is_one" (ag (inClass (top 44) 2)) (ae (inClass (top 44) 2)) (aa (inClass (top 44) 2)) .none .none .none .none none .none .none) with globals:=0 }),#[]⟩ .nil .nil) .nil)) (.node ⟨(.type "tuple"),none,(.seq #[] 0),#[]⟩ (.node ⟨.none,none,(.func { (fnOf "of_code" "RingFamily.of_code" (ag (inClass (top 22) 2)) (ae (inClass (top 22) 2)) (aa (inClass (top 22) 2)) .none .none .none .none none .none .none) with globals:=0 }),#[]⟩ (.node ⟨.none,none,(.fields #[]),#[]⟩ .nil .nil) (.node ⟨(.type "tuple"),none,(.seq #[] 0),#[]⟩ .nil .nil)) (.node ⟨(.type "function"),none,(.func (fnOf "code_to_cars" "code_to_cars" (ag (top 27)) (ae (top 27)) (aa (top 27)) .none .none .none (.str "countkin.cars" 737) none (.ref 496) .none)),#[]⟩ (.node ⟨(.type "tuple"),none,(.seq #[] 0),#[]⟩ .nil .nil) .nil))))) (.node ⟨(.type "tuple"),none,(.seq #[] 0),#[]⟩ (.node ⟨(.type "code"),none,(.fields #[(.str "KinError" 220),(.str "KinError" 221),(.str "/claim/cut.py" 222),(.int 17 0),(.int 0 0),(.int 0 0),(.int 0 0),(.int 0 0),(.ref 39),(.bool false),(.int 181 0),(.ref 40),.none,.none,.none,.none,(.int 223 0),(.int 17 0),(.str "/claim/cut.py" 224)]),#[]⟩ (.node ⟨(.type "tuple"),none,(.seq #[(.ref 45)] 0),#[]⟩ (.node ⟨.none,none,(.fields #[]),#[]⟩ (.node ⟨(.type "tuple"),none,(.seq #[] 0),#[]⟩ (.node ⟨(.type "function"),none,(.func (fnOf "each_once" "each_once" (ag (top 32)) (ae (top 32)) (aa (top 32)) .none .none .none (.str "countkin.common" 802) none (.ref 520) .none)),#[]⟩ .nil .nil) (.node ⟨(.type "super"),none,(.fields #[(.ref 776),(.ref 776),(.ref 776)]),#[]⟩ .nil .nil)) (.node ⟨(.type "tuple"),none,(.seq #[] 0),#[]⟩ (.node ⟨.none,none,(.func { (fnOf "joined" "Brackets.joined" (ag (inClass (top 42) 5)) (ae (inClass (top 42) 5)) (aa (inClass (top 42) 5)) .none .none .none .none none .none .none) with globals:=0 }),#[]⟩ .nil .nil) (.node ⟨(.type "code"),none,(.fields #[(.str "bare" 1315),(.str "Bows.bare" 1316),(.str "/claim/cut.py" 1317),(.int 456 0),(.int 1 0),(.int 0 0),(.int 0 0),(.int 3 0),(.ref 900),(.bool true),(.int 181 0),(.ref 901),.none,(.ref 902),(.ref 903),(.ref 904),(.int 1319 0),(.int 456 0),(.str "/claim/cut.py" 1320)]),#[]⟩ .nil .nil))) (.node ⟨(.type "tuple"),none,(.seq #[(.str "self" 439),(.str "thing" 440)] 0),#[]⟩ (.node ⟨(.type "builtin_function_or_method"),none,(.fields #[(.builtin "object.__init_subclass__"),(.ref 327)]),#[]⟩ (.node ⟨.none,none,(.fields #[]),#[]⟩ .nil .nil) (.node ⟨(.type "code"),none,(.fields #[(.str "code_of" 1240),(.str "Trees.code_of" 1241),(.str "/claim/cut.py" 1242),(.int 411 0),(.int 2 0),(.int 0 0),(.int 0 0),(.int 3 0),(.ref 838),(.bool true),(.int 181 0),(.ref 839),.none,.none,.none,(.ref 840),(.int 1243 0),(.int 411 0),(.str "/claim/cut.py" 1244)]),#[]⟩ .nil .nil)) (.node ⟨(.type "tuple"),none,(.seq #[] 0),#[]⟩ (.node ⟨(.type "tuple"),none,(.seq #[] 0),#[]⟩ .nil .nil) .nil))) (.node ⟨(.type "dict"),none,(.dict #[⟨PyData.keyHash P "__module__",.str "__module__" 307,(.str "countkin.errors" 216)⟩,⟨PyData.keyHash P "__firstlineno__",.str "__firstlineno__" 311,(.int 27 310)⟩,⟨PyData.keyHash P "__static_attributes__",.str "__static_attributes__" 312,(.ref 104)⟩,⟨PyData.keyHash P "__doc__",.str "__doc__" 313,.none⟩] 2),#[]⟩ (.node ⟨(.type "code"),none,(.fields #[(.str "Family" 393),(.str "Family" 394),(.str "/claim/cut.py" 395),(.int 41 0),(.int 0 0),(.int 0 0),(.int 0 0),(.int 0 0),(.ref 167),(.bool false),(.int 181 0),(.ref 168),.none,.none,.none,.none,(.int 396 0),(.int 41 0),(.str "/claim/cut.py" 397)]),#[]⟩ (.node ⟨(.type "tuple"),none,(.seq #[] 0),#[]⟩ (.node ⟨(.type "code"),none,(.fields #[(.str "size_of" 870),(.str "Floors.size_of" 871),(.str "/claim/cut.py" 872),(.int 212 0),(.int 2 0),(.int 0 0),(.int 0 0),(.int 3 0),(.ref 548),(.bool true),(.int 181 0),(.ref 549),.none,(.ref 550),(.ref 551),(.ref 552),(.int 875 0),(.int 212 0),(.str "/claim/cut.py" 876)]),#[]⟩ .nil .nil) (.node ⟨.none,none,(.func { (fnOf "floor_to_twins" "floor_to_twins" (ag (top 53)) (ae (top 53)) (aa (top 53)) .none .none .none .none none .none .none) with globals:=0 }),#[]⟩ .nil .nil)) (.node ⟨.none,none,(.fields #[]),#[]⟩ (.node ⟨(.type "tuple"),none,(.seq #[] 0),#[]⟩ .nil .nil) .nil)) (.node ⟨(.type "function"),none,(.func (fnOf "number_of" "Family.number_of" (ag (inClass (top 17) 8)) (ae (inClass (top 17) 8)) (aa (inClass (top 17) 8)) .none .none .none (.str "countkin.kin" 389) none (.ref 232) .none)),#[]⟩ (.node ⟨(.type "tuple"),none,(.seq #[] 0),#[]⟩ (.node ⟨(.type "tuple"),none,(.seq #[] 0),#[]⟩ .nil .nil) (.node ⟨(.type "function"),none,(.func (fnOf "code_to_tree" "code_to_tree" (ag (top 58)) (ae (top 58)) (aa (top 58)) .none .none .none (.str "countkin.elders" 1205) none (.ref 872) .none)),#[]⟩ .nil .nil)) (.node ⟨(.type "code"),none,(.fields #[(.str "cars_to_code" 788),(.str "cars_to_code" 789),(.str "/claim/cut.py" 790),(.int 180 0),(.int 1 0),(.int 0 0),(.int 0 0),(.int 3 0),(.ref 484),(.bool true),(.int 181 0),(.ref 485),.none,(.ref 486),(.ref 487),(.ref 488),(.int 792 0),(.int 180 0),(.str "/claim/cut.py" 793)]),#[]⟩ (.node ⟨(.type "function"),none,(.func (fnOf "size_of" "Twins.size_of" (ag (inClass (top 47) 1)) (ae (inClass (top 47) 1)) (aa (inClass (top 47) 1)) .none .none .none (.str "countkin.twigs" 1089) none (.ref 744) .none)),#[]⟩ .nil .nil) .nil)))) (.node ⟨(.type "dict"),none,(.dict #[⟨PyData.keyHash P "__module__",.str "__module__" 243,(.str "countkin.errors" 216)⟩,⟨PyData.keyHash P "__firstlineno__",.str "__firstlineno__" 247,(.int 19 246)⟩,⟨PyData.keyHash P "__static_attributes__",.str "__static_attributes__" 248,(.ref 56)⟩,⟨PyData.keyHash P "__doc__",.str "__doc__" 249,.none⟩] 2),#[]⟩ (.node ⟨.none,none,(.fields #[]),#[]⟩ (.node ⟨.none,none,(.fields #[]),#[]⟩ (.node ⟨(.type "code"),none,(.fields #[(.str "parted" 531),(.str "SplitFamily.parted" 532),(.str "/claim/cut.py" 533),(.int 87 0),(.int 2 0),(.int 0 0),(.int 0 0),(.int 3 0),(.ref 276),(.bool true),(.int 181 0),(.ref 277),.none,(.ref 278),(.ref 279),(.ref 280),(.int 536 0),(.int 87 0),(.str "/claim/cut.py" 537)]),#[]⟩ (.node ⟨(.type "tuple"),none,(.seq #[] 0),#[]⟩ .nil .nil) (.node ⟨(.type "tuple"),none,(.seq #[] 0),#[]⟩ .nil .nil)) (.node ⟨.none,none,(.func { (fnOf "__init__" "Codes.__init__" (ag (inClass (top 23) 0)) (ae (inClass (top 23) 0)) (aa (inClass (top 23) 0)) .none .none .none .none none .none .none) with globals:=0 }),#[]⟩ (.node ⟨(.type "builtin_function_or_method"),none,(.fields #[(.builtin "type.__prepare__"),(.type "type")]),#[]⟩ .nil .nil) (.node ⟨(.type "tuple"),none,(.seq #[] 0),#[]⟩ .nil .nil))) (.node ⟨.none,none,(.func { (fnOf "many" "Family.many" (ag (inClass (top 17) 6)) (ae (inClass (top 17) 6)) (aa (inClass (top 17) 6)) .none .none .none .none none .none .none) with globals:=0 }),#[]⟩ (.node ⟨(.type "builtin_function_or_method"),none,(.fields #[(.builtin "type.__prepare__"),(.type "type")]),#[]⟩ (.node ⟨(.type "code"),none,(.fields #[(.str "closes" 930),(.str "closes" 931),(.str "/claim/cut.py" 932),(.int 249 0),(.int 1 0),(.int 0 0),(.int 0 0),(.int 3 0),(.ref 596),(.bool true),(.int 181 0),(.ref 597),.none,(.ref 598),(.ref 599),(.ref 600),(.int 936 0),(.int 249 0),(.str "/claim/cut.py" 937)]),#[]⟩ .nil .nil) (.node ⟨.none,none,(.func { (fnOf "comes_to_0" "comes_to_0" (ag (top 56)) (ae (top 56)) (aa (top 56)) .none .none .none .none none .none .none) with globals:=0 }),#[]⟩ .nil .nil)) (.node ⟨(.type "function"),none,(.func (fnOf "code_of" "Cars.code_of" (ag (inClass (top 25) 3)) (ae (inClass (top 25) 3)) (aa (inClass (top 25) 3)) .none .none .none (.str "countkin.cars" 737) none (.ref 472) .none)),#[]⟩ (.node ⟨.none,none,(.fields #[(.int 323 0),(.int 4 0),(.ref 737),(.int 326 0),(.int 4 0),(.ref 744),(.int 336 0),(.int 4 0),(.ref 751),(.int 339 0),(.int 4 0),(.ref 758),(.int 342 0),(.int 4 0),(.ref 765),(.int 345 0),(.int 4 0),(.ref 772)]),#[]⟩ .nil .nil) .nil))) (.node ⟨(.type "tuple"),none,(.seq #[(.ref 45)] 0),#[]⟩ (.node ⟨(.type "tuple"),none,(.seq #[] 0),#[]⟩ (.node ⟨(.type "tuple"),none,(.seq #[(.str "self" 576),(.str "counts" 577),(.str "thing" 578)] 0),#[]⟩ (.node ⟨.none,none,(.func { (fnOf "parted" "Floors.parted" (ag (inClass (top 36) 4)) (ae (inClass (top 36) 4)) (aa (inClass (top 36) 4)) .none .none .none .none none .none .none) with globals:=0 }),#[]⟩ .nil .nil) (.node ⟨(.type "function"),none,(.func (fnOf "__init__" "Trees.__init__" (ag (inClass (top 55) 0)) (ae (inClass (top 55) 0)) (aa (inClass (top 55) 0)) .none .none .none (.str "countkin.elders" 1205) none (.ref 824) .none)),#[]⟩ .nil .nil)) (.node ⟨(.type "super"),none,(.fields #[(.ref 440),(.ref 440),(.ref 440)]),#[]⟩ (.node ⟨(.type "code"),none,(.fields #[(.str "bare" 1052),(.str "Stairs.bare" 1053),(.str "/claim/cut.py" 1054),(.int 306 0),(.int 1 0),(.int 0 0),(.int 0 0),(.int 3 0),(.ref 692),(.bool true),(.int 181 0),(.ref 693),.none,(.ref 694),(.ref 695),(.ref 696),(.int 1056 0),(.int 306 0),(.str "/claim/cut.py" 1057)]),#[]⟩ .nil .nil) .nil)) (.node ⟨(.type "dict"),none,(.dict #[⟨PyData.keyHash P "__module__",.str "__module__" 398,(.str "countkin.kin" 389)⟩,⟨PyData.keyHash P "__firstlineno__",.str "__firstlineno__" 402,(.int 41 401)⟩,⟨PyData.keyHash P "__init__",.str "__init__" 411,(.ref 177)⟩,⟨PyData.keyHash P "size_of",.str "size_of" 419,(.ref 184)⟩,⟨PyData.keyHash P "is_one",.str "is_one" 427,(.ref 191)⟩,⟨PyData.keyHash P "unchecked_many",.str "unchecked_many" 435,(.ref 198)⟩,⟨PyData.keyHash P "unchecked_number",.str "unchecked_number" 443,(.ref 205)⟩,⟨PyData.keyHash P "unchecked_thing",.str "unchecked_thing" 452,(.ref 212)⟩,⟨PyData.keyHash P "many",.str "many" 460,(.ref 219)⟩,⟨PyData.keyHash P "refuse_other",.str "refuse_other" 468,(.ref 226)⟩,⟨PyData.keyHash P "number_of",.str "number_of" 476,(.ref 233)⟩,⟨PyData.keyHash P "thing_of",.str "thing_of" 485,(.ref 240)⟩,⟨PyData.keyHash P "next_of",.str "next_of" 493,(.ref 247)⟩,⟨PyData.keyHash P "__static_attributes__",.str "__static_attributes__" 496,(.ref 248)⟩,⟨PyData.keyHash P "__dict__",.str "__dict__" 498,(.ref 251)⟩,⟨PyData.keyHash P "__weakref__",.str "__weakref__" 500,(.ref 252)⟩,⟨PyData.keyHash P "__doc__",.str "__doc__" 501,.none⟩] 4),#[]⟩ (.node ⟨(.type "code"),none,(.fields #[(.str "unchecked_many" 655),(.str "RingFamily.unchecked_many" 656),(.str "/claim/cut.py" 657),(.int 129 0),(.int 2 0),(.int 0 0),(.int 0 0),(.int 3 0),(.ref 372),(.bool true),(.int 181 0),(.ref 373),.none,(.ref 374),(.ref 375),(.ref 376),(.int 660 0),(.int 129 0),(.str "/claim/cut.py" 661)]),#[]⟩ (.node ⟨(.type "tuple"),none,(.seq #[(.str "self" 979)] 0),#[]⟩ .nil .nil) (.node ⟨.none,none,(.fields #[]),#[]⟩ .nil .nil)) (.node ⟨.none,none,(.func { (fnOf "pairs_raised_by" "pairs_raised_by" (ag (top 30)) (ae (top 30)) (aa (top 30)) .none .none .none .none none .none .none) with globals:=0 }),#[]⟩ (.node ⟨.none,none,(.fields #[]),#[]⟩ .nil .nil) .nil)))))) (.node ⟨(.type "code"),none,(.fields #[(.str "<module>" 182),(.str "<module>" 183),(.str "/claim/cut.py" 184),(.int 1 0),(.int 0 0),(.int 0 0),(.int 0 0),(.int 0 0),(.ref 11),(.bool false),(.int 181 0),(.ref 12),.none,.none,.none,.none,(.int 185 0),(.int 1 0),(.str "/claim/cut.py" 186)]),#[]⟩ (.node ⟨(.type "function"),none,(.func (fnOf "_wall" "_wall" (ag (top 0)) (ae (top 0)) (aa (top 0)) .none .none .none (.str "__main__" 164) none (.ref 20) .none)),#[]⟩ (.node ⟨(.type "builtin_function_or_method"),none,(.fields #[(.builtin "type.__prepare__"),(.type "type")]),#[]⟩ (.node ⟨(.type "dict"),none,(.dict #[⟨PyData.keyHash P "__module__",.str "__module__" 259,(.str "countkin.errors" 216)⟩,⟨PyData.keyHash P "__firstlineno__",.str "__firstlineno__" 263,(.int 21 262)⟩,⟨PyData.keyHash P "__static_attributes__",.str "__static_attributes__" 264,(.ref 68)⟩,⟨PyData.keyHash P "__doc__",.str "__doc__" 265,.none⟩] 2),#[]⟩ (.node ⟨(.type "tuple"),none,(.seq #[(.ref 45)] 0),#[]⟩ (.node ⟨(.type "frame"),none,.plain,#[(some (.ref 260)),(some (.ref 3)),(some (.ref 257)),none,(some (.str "countkin.kin" 389)),none,(some (.ref 0))]⟩ (.node ⟨(.type "tuple"),none,(.seq #[(.str "numbers" 828)] 0),#[]⟩ .nil .nil) (.node ⟨(.type "function"),none,(.func (fnOf "joined" "Twins.joined" (ag (inClass (top 47) 5)) (ae (inClass (top 47) 5)) (aa (inClass (top 47) 5)) .none .none .none (.str "countkin.twigs" 1089) none (.ref 772) .none)),#[]⟩ .nil .nil)) (.node ⟨(.type "tuple"),none,(.seq #[] 0),#[]⟩ (.node ⟨(.type "tuple"),none,(.seq #[] 0),#[]⟩ .nil .nil) (.node ⟨.none,none,(.fields #[]),#[]⟩ .nil .nil))) (.node ⟨(.type "code"),none,(.fields #[(.str "unchecked_many" 428),(.str "Family.unchecked_many" 429),(.str "/claim/cut.py" 430),(.int 53 0),(.int 2 0),(.int 0 0),(.int 0 0),(.int 3 0),(.ref 192),(.bool true),(.int 181 0),(.ref 193),.none,(.ref 194),(.ref 195),(.ref 196),(.int 433 0),(.int 53 0),(.str "/claim/cut.py" 434)]),#[]⟩ (.node ⟨(.type "tuple"),none,(.seq #[] 0),#[]⟩ (.node ⟨(.type "type"),none,(.cls ⟨"Floors",[(.ref 327)],[(.ref 581),(.ref 327),(.ref 250),(.type "object")],580,"Floors",true,[],[],false,none,false⟩),#[(some (.ref 534)),none,(some (.str "Floors" 851)),(some (.str "Floors" 859)),(some (.builtin "object.__new__")),(some (.bool true))]⟩ .nil .nil) (.node ⟨(.type "function"),none,(.func (fnOf "is_one" "Trees.is_one" (ag (inClass (top 55) 2)) (ae (inClass (top 55) 2)) (aa (inClass (top 55) 2)) .none .none .none (.str "countkin.elders" 1205) none (.ref 836) .none)),#[]⟩ .nil .nil)) (.node ⟨(.type "tuple"),none,(.seq #[] 0),#[]⟩ (.node ⟨(.type "tuple"),none,(.seq #[] 0),#[]⟩ .nil .nil) .nil))) (.node ⟨.none,none,(.fields #[]),#[]⟩ (.node ⟨(.type "builtin_function_or_method"),none,(.fields #[(.builtin "type.__prepare__"),(.type "type")]),#[]⟩ (.node ⟨(.type "tuple"),none,(.seq #[] 0),#[]⟩ (.node ⟨.none,none,(.fields #[]),#[]⟩ .nil .nil) (.node ⟨(.type "code"),none,(.fields #[(.str "lines_over" 1188),(.str "lines_over" 1189),(.str "/claim/cut.py" 1190),(.int 376 0),(.int 3 0),(.int 0 0),(.int 0 0),(.int 3 0),(.ref 800),(.bool true),(.int 181 0),(.ref 801),.none,(.ref 802),(.ref 803),(.ref 804),(.int 1196 0),(.int 376 0),(.str "/claim/cut.py" 1197)]),#[]⟩ .nil .nil)) (.node ⟨.none,none,(.func { (fnOf "is_one" "Codes.is_one" (ag (inClass (top 23) 2)) (ae (inClass (top 23) 2)) (aa (inClass (top 23) 2)) .none .none .none .none none .none .none) with globals:=0 }),#[]⟩ (.node ⟨(.type "function"),none,(.func (fnOf "__init__" "Stairs.__init__" (ag (inClass (top 44) 0)) (ae (inClass (top 44) 0)) (aa (inClass (top 44) 0)) .none .none .none (.str "countkin.signs" 939) none (.ref 676) .none)),#[]⟩ .nil .nil) .nil)) (.node ⟨(.type "tuple"),none,(.seq #[(.str "self" 472),(.str "thing" 473)] 0),#[]⟩ (.node ⟨(.type "function"),none,(.func (fnOf "__init__" "RingFamily.__init__" (ag (inClass (top 22) 0)) (ae (inClass (top 22) 0)) (aa (inClass (top 22) 0)) .none .none .none (.str "countkin.ring" 617) none (.ref 356) .none)),#[]⟩ (.node ⟨(.type "tuple"),none,(.seq #[] 0),#[]⟩ .nil .nil) (.node ⟨(.type "tuple"),none,(.seq #[(.str "thing" 1276)] 0),#[]⟩ .nil .nil)) (.node ⟨.none,none,(.fields #[]),#[]⟩ (.node ⟨(.type "tuple"),none,(.seq #[(.str "self" 1113),(.str "thing" 1114),(.str "pairs" 1115),(.str "row" 1116),(.str "twin" 1117)] 0),#[]⟩ .nil .nil) .nil)))) (.node ⟨.none,none,(.fields #[]),#[]⟩ (.node ⟨(.type "tuple"),none,(.seq #[(.ref 45)] 0),#[]⟩ (.node ⟨.none,none,(.fields #[(.int 37 0),(.int 4 0),(.ref 157)]),#[]⟩ (.node ⟨.none,none,(.fields #[]),#[]⟩ (.node ⟨(.type "function"),none,(.func (fnOf "pairs_anew" "pairs_anew" (ag (top 34)) (ae (top 34)) (aa (top 34)) .none .none .none (.str "countkin.common" 802) none (.ref 532) .none)),#[]⟩ .nil .nil) (.node ⟨(.type "tuple"),none,(.seq #[] 0),#[]⟩ .nil .nil)) (.node ⟨(.type "tuple"),none,(.seq #[] 0),#[]⟩ (.node ⟨.none,none,(.func { (fnOf "first_close" "first_close" (ag (top 43)) (ae (top 43)) (aa (top 43)) .none .none .none .none none .none .none) with globals:=0 }),#[]⟩ .nil .nil) (.node ⟨(.type "tuple"),none,(.seq #[] 0),#[]⟩ .nil .nil))) (.node ⟨(.type "tuple"),none,(.seq #[] 0),#[]⟩ (.node ⟨.none,none,(.func { (fnOf "led_by_parts" "led_by_parts" (ag (top 20)) (ae (top 20)) (aa (top 20)) .none .none .none .none none .none .none) with globals:=0 }),#[]⟩ (.node ⟨.none,none,(.fields #[]),#[]⟩ .nil .nil) (.node ⟨(.type "tuple"),none,(.seq #[] 0),#[]⟩ .nil .nil)) (.node ⟨(.type "tuple"),none,(.seq #[] 0),#[]⟩ (.node ⟨(.type "tuple"),none,(.seq #[(.ref 327)] 0),#[]⟩ .nil .nil) .nil))) (.node ⟨(.type "dict"),none,(.dict #[⟨PyData.keyHash P "__module__",.str "__module__" 323,(.str "countkin.errors" 216)⟩,⟨PyData.keyHash P "__firstlineno__",.str "__firstlineno__" 327,(.int 29 326)⟩,⟨PyData.keyHash P "__static_attributes__",.str "__static_attributes__" 328,(.ref 116)⟩,⟨PyData.keyHash P "__doc__",.str "__doc__" 329,.none⟩] 2),#[]⟩ (.node ⟨(.type "tuple"),none,(.seq #[] 0),#[]⟩ (.node ⟨(.type "code"),none,(.fields #[(.str "unchecked_thing" 564),(.str "SplitFamily.unchecked_thing" 565),(.str "/claim/cut.py" 566),(.int 99 0),(.int 3 0),(.int 0 0),(.int 0 0),(.int 3 0),(.ref 304),(.bool true),(.int 181 0),(.ref 305),.none,(.ref 306),(.ref 307),(.ref 308),(.int 570 0),(.int 99 0),(.str "/claim/cut.py" 571)]),#[]⟩ (.node ⟨(.type "code"),none,(.fields #[(.str "bare" 884),(.str "Floors.bare" 885),(.str "/claim/cut.py" 886),(.int 224 0),(.int 1 0),(.int 0 0),(.int 0 0),(.int 3 0),(.ref 560),(.bool true),(.int 181 0),(.ref 561),.none,(.ref 562),(.ref 563),(.ref 564),(.int 888 0),(.int 224 0),(.str "/claim/cut.py" 889)]),#[]⟩ .nil .nil) (.node ⟨(.type "tuple"),none,(.seq #[(.str "self" 1222)] 0),#[]⟩ .nil .nil)) (.node ⟨(.type "function"),none,(.func (fnOf "of_code" "Codes.of_code" (ag (inClass (top 23) 4)) (ae (inClass (top 23) 4)) (aa (inClass (top 23) 4)) .none .none .none (.str "countkin.ring" 617) none (.ref 436) .none)),#[]⟩ (.node ⟨.none,none,(.fields #[]),#[]⟩ .nil .nil) .nil)) (.node ⟨.none,none,(.func { (fnOf "next_of" "Family.next_of" (ag (inClass (top 17) 10)) (ae (inClass (top 17) 10)) (aa (inClass (top 17) 10)) .none .none .none .none none .none .none) with globals:=0 }),#[]⟩ (.node ⟨.none,none,(.fields #[]),#[]⟩ (.node ⟨(.type "code"),none,(.fields #[(.str "is_one" 968),(.str "Brackets.is_one" 969),(.str "/claim/cut.py" 970),(.int 268 0),(.int 2 0),(.int 0 0),(.int 0 0),(.int 3 0),(.ref 624),(.bool true),(.int 181 0),(.ref 625),.none,(.ref 626),(.ref 627),(.ref 628),(.int 973 0),(.int 268 0),(.str "/claim/cut.py" 974)]),#[]⟩ .nil .nil) (.node ⟨.none,none,(.func { (fnOf "__init__" "Bows.__init__" (ag (inClass (top 60) 0)) (ae (inClass (top 60) 0)) (aa (inClass (top 60) 0)) .none .none .none .none none .none .none) with globals:=0 }),#[]⟩ .nil .nil)) (.node ⟨(.type "code"),none,(.fields #[(.str "raised_by" 804),(.str "raised_by" 805),(.str "/claim/cut.py" 806),(.int 187 0),(.int 2 0),(.int 0 0),(.int 0 0),(.int 3 0),(.ref 498),(.bool true),(.int 181 0),(.ref 499),.none,.none,.none,(.ref 500),(.int 807 0),(.int 187 0),(.str "/claim/cut.py" 808)]),#[]⟩ (.node ⟨.none,none,(.func { (fnOf "bare" "Twins.bare" (ag (inClass (top 47) 3)) (ae (inClass (top 47) 3)) (aa (inClass (top 47) 3)) .none .none .none .none none .none .none) with globals:=0 }),#[]⟩ .nil .nil) .nil))))) (.node ⟨(.type "tuple"),none,(.seq #[] 0),#[]⟩ (.node ⟨(.type "type"),none,(.cls ⟨"KinError",[(.type "ValueError")],[(.ref 45),(.type "ValueError"),(.type "Exception"),(.type "BaseException"),(.type "object")],44,"KinError",true,[],[(.ref 58),(.ref 70),(.ref 82),(.ref 94),(.ref 106),(.ref 118),(.ref 130),(.ref 142),(.ref 161)],false,none,false⟩),#[(some (.ref 36)),none,(some (.str "KinError" 218)),(some (.str "KinError" 226)),(some (.builtin "ValueError.__new__")),(some (.bool true))]⟩ (.node ⟨.none,none,(.fields #[]),#[]⟩ (.node ⟨(.type "dict"),none,(.dict #[⟨PyData.keyHash P "__module__",.str "__module__" 355,(.str "countkin.errors" 216)⟩,⟨PyData.keyHash P "__firstlineno__",.str "__firstlineno__" 359,(.int 33 358)⟩,⟨PyData.keyHash P "__static_attributes__",.str "__static_attributes__" 360,(.ref 140)⟩,⟨PyData.keyHash P "__doc__",.str "__doc__" 361,.none⟩] 2),#[]⟩ (.node ⟨(.type "tuple"),none,(.seq #[] 0),#[]⟩ (.node ⟨(.type "tuple"),none,(.seq #[] 0),#[]⟩ .nil .nil) (.node ⟨(.type "tuple"),none,(.seq #[(.str "thing" 1162),(.str "waiting" 1163),(.str "twin" 1164),(.str "place" 1165)] 0),#[]⟩ .nil .nil)) (.node ⟨(.type "builtin_function_or_method"),none,(.fields #[(.builtin "object.__init_subclass__"),(.ref 395)]),#[]⟩ (.node ⟨(.type "dict"),none,(.dict #[⟨PyData.keyHash P "__module__",.str "__module__" 948,(.str "countkin.signs" 939)⟩,⟨PyData.keyHash P "__firstlineno__",.str "__firstlineno__" 952,(.int 260 951)⟩,⟨PyData.keyHash P "__init__",.str "__init__" 959,(.ref 616)⟩,⟨PyData.keyHash P "size_of",.str "size_of" 967,(.ref 623)⟩,⟨PyData.keyHash P "is_one",.str "is_one" 975,(.ref 630)⟩,⟨PyData.keyHash P "bare",.str "bare" 982,(.ref 637)⟩,⟨PyData.keyHash P "parted",.str "parted" 991,(.ref 644)⟩,⟨PyData.keyHash P "joined",.str "joined" 1000,(.ref 651)⟩,⟨PyData.keyHash P "__static_attributes__",.str "__static_attributes__" 1001,(.ref 652)⟩,⟨PyData.keyHash P "__doc__",.str "__doc__" 1002,.none⟩] 2),#[]⟩ .nil .nil) (.node ⟨(.type "tuple"),none,(.seq #[(.str "self" 1325),(.str "thing" 1326),(.str "left_size" 1327),(.str "left" 1328),(.str "right" 1329)] 0),#[]⟩ .nil .nil))) (.node ⟨(.type "function"),none,(.func (fnOf "unchecked_number" "Family.unchecked_number" (ag (inClass (top 17) 4)) (ae (inClass (top 17) 4)) (aa (inClass (top 17) 4)) .none .none .none (.str "countkin.kin" 389) none (.ref 204) .none)),#[]⟩ (.node ⟨(.type "tuple"),none,(.seq #[] 0),#[]⟩ (.node ⟨(.type "code"),none,(.fields #[(.str "may_be_cut" 913),(.str "may_be_cut" 914),(.str "/claim/cut.py" 915),(.int 244 0),(.int 3 0),(.int 0 0),(.int 0 0),(.int 3 0),(.ref 584),(.bool true),(.int 181 0),(.ref 585),.none,(.ref 586),(.ref 587),(.ref 588),(.int 919 0),(.int 244 0),(.str "/claim/cut.py" 920)]),#[]⟩ .nil .nil) (.node ⟨.none,none,(.func { (fnOf "of_code" "Trees.of_code" (ag (inClass (top 55) 4)) (ae (inClass (top 55) 4)) (aa (inClass (top 55) 4)) .none .none .none .none none .none .none) with globals:=0 }),#[]⟩ .nil .nil)) (.node ⟨.none,none,(.func { (fnOf "size_of" "Cars.size_of" (ag (inClass (top 25) 1)) (ae (inClass (top 25) 1)) (aa (inClass (top 25) 1)) .none .none .none .none none .none .none) with globals:=0 }),#[]⟩ (.node ⟨(.type "builtin_function_or_method"),none,(.fields #[(.builtin "object.__init_subclass__"),(.ref 715)]),#[]⟩ .nil .nil) .nil))) (.node ⟨(.type "tuple"),none,(.seq #[(.ref 45)] 0),#[]⟩ (.node ⟨(.type "tuple"),none,(.seq #[(.str "self" 406),(.str "word" 407),(.str "least" 408)] 0),#[]⟩ (.node ⟨.none,none,(.func { (fnOf "unchecked_number" "SplitFamily.unchecked_number" (ag (inClass (top 18) 5)) (ae (inClass (top 18) 5)) (aa (inClass (top 18) 5)) .none .none .none .none none .none .none) with globals:=0 }),#[]⟩ (.node ⟨.none,none,(.func { (fnOf "is_one" "Floors.is_one" (ag (inClass (top 36) 2)) (ae (inClass (top 36) 2)) (aa (inClass (top 36) 2)) .none .none .none .none none .none .none) with globals:=0 }),#[]⟩ .nil .nil) (.node ⟨(.type "builtin_function_or_method"),none,(.fields #[(.builtin "type.__prepare__"),(.type "type")]),#[]⟩ .nil .nil)) (.node ⟨(.type "code"),none,(.fields #[(.str "code_of" 717),(.str "Codes.code_of" 718),(.str "/claim/cut.py" 719),(.int 149 0),(.int 2 0),(.int 0 0),(.int 0 0),(.int 3 0),(.ref 424),(.bool true),(.int 181 0),(.ref 425),.none,(.ref 426),(.ref 427),(.ref 428),(.int 722 0),(.int 149 0),(.str "/claim/cut.py" 723)]),#[]⟩ (.node ⟨(.type "tuple"),none,(.seq #[] 0),#[]⟩ .nil .nil) .nil)) (.node ⟨(.type "tuple"),none,(.seq #[] 0),#[]⟩ (.node ⟨(.type "tuple"),none,(.seq #[] 0),#[]⟩ (.node ⟨.none,none,(.func { (fnOf "size_of" "Brackets.size_of" (ag (inClass (top 42) 1)) (ae (inClass (top 42) 1)) (aa (inClass (top 42) 1)) .none .none .none .none none .none .none) with globals:=0 }),#[]⟩ .nil .nil) (.node ⟨(.type "tuple"),none,(.seq #[] 0),#[]⟩ .nil .nil)) (.node ⟨(.type "tuple"),none,(.seq #[(.str "thing" 798)] 0),#[]⟩ (.node ⟨(.type "tuple"),none,(.seq #[] 0),#[]⟩ .nil .nil) .nil)))) (.node ⟨(.type "tuple"),none,(.seq #[(.ref 45)] 0),#[]⟩ (.node ⟨(.type "dict"),none,(.dict #[⟨PyData.keyHash P "__module__",.str "__module__" 291,(.str "countkin.errors" 216)⟩,⟨PyData.keyHash P "__firstlineno__",.str "__firstlineno__" 295,(.int 25 294)⟩,⟨PyData.keyHash P "__static_attributes__",.str "__static_attributes__" 296,(.ref 92)⟩,⟨PyData.keyHash P "__doc__",.str "__doc__" 297,.none⟩] 2),#[]⟩ (.node ⟨(.type "code"),none,(.fields #[(.str "__init__" 376),(.str "Broken.__init__" 377),(.str "/claim/cut.py" 378),(.int 37 0),(.int 2 0),(.int 0 0),(.int 0 0),(.int 3 0),(.ref 152),(.bool true),(.int 181 0),(.ref 153),.none,(.ref 154),(.ref 155),(.ref 156),(.int 381 0),(.int 37 0),(.str "/claim/cut.py" 382)]),#[]⟩ (.node ⟨(.type "tuple"),none,(.seq #[(.str "self" 542),(.str "left" 543),(.str "right" 544)] 0),#[]⟩ (.node ⟨(.type "tuple"),none,(.seq #[] 0),#[]⟩ .nil .nil) (.node ⟨.none,none,(.func { (fnOf "twins_to_floor" "twins_to_floor" (ag (top 51)) (ae (top 51)) (aa (top 51)) .none .none .none .none none .none .none) with globals:=0 }),#[]⟩ .nil .nil)) (.node ⟨.none,none,(.fields #[]),#[]⟩ (.node ⟨(.type "code"),none,(.fields #[(.str "Stairs" 1016),(.str "Stairs" 1017),(.str "/claim/cut.py" 1018),(.int 290 0),(.int 0 0),(.int 0 0),(.int 0 0),(.int 0 0),(.ref 667),(.bool false),(.int 181 0),(.ref 668),.none,.none,.none,.none,(.int 1019 0),(.int 290 0),(.str "/claim/cut.py" 1020)]),#[]⟩ .nil .nil) (.node ⟨(.type "builtin_function_or_method"),none,(.fields #[(.builtin "object.__init_subclass__"),(.ref 923)]),#[]⟩ .nil .nil))) (.node ⟨.none,none,(.fields #[]),#[]⟩ (.node ⟨(.type "code"),none,(.fields #[(.str "RingFamily" 621),(.str "RingFamily" 622),(.str "/claim/cut.py" 623),(.int 118 0),(.int 0 0),(.int 0 0),(.int 0 0),(.int 0 0),(.ref 347),(.bool false),(.int 181 0),(.ref 348),.none,.none,.none,.none,(.int 624 0),(.int 118 0),(.str "/claim/cut.py" 625)]),#[]⟩ (.node ⟨(.type "dict"),none,(.dict #[⟨PyData.keyHash P "__module__",.str "__module__" 948,(.str "countkin.signs" 939)⟩,⟨PyData.keyHash P "__qualname__",.str "__qualname__" 950,(.str "Brackets" 949)⟩,⟨PyData.keyHash P "__firstlineno__",.str "__firstlineno__" 952,(.int 260 951)⟩,⟨PyData.keyHash P "__init__",.str "__init__" 959,(.ref 616)⟩,⟨PyData.keyHash P "size_of",.str "size_of" 967,(.ref 623)⟩,⟨PyData.keyHash P "is_one",.str "is_one" 975,(.ref 630)⟩,⟨PyData.keyHash P "bare",.str "bare" 982,(.ref 637)⟩,⟨PyData.keyHash P "parted",.str "parted" 991,(.ref 644)⟩,⟨PyData.keyHash P "joined",.str "joined" 1000,(.ref 651)⟩,⟨PyData.keyHash P "__static_attributes__",.str "__static_attributes__" 1001,(.ref 652)⟩] 10),#[]⟩ .nil .nil) (.node ⟨.none,none,(.fields #[]),#[]⟩ .nil .nil)) (.node ⟨(.type "code"),none,(.fields #[(.str "of_code" 778),(.str "Cars.of_code" 779),(.str "/claim/cut.py" 780),(.int 172 0),(.int 2 0),(.int 0 0),(.int 0 0),(.int 3 0),(.ref 474),(.bool true),(.int 181 0),(.ref 475),.none,.none,.none,(.ref 476),(.int 781 0),(.int 172 0),(.str "/claim/cut.py" 782)]),#[]⟩ (.node ⟨.none,none,(.fields #[]),#[]⟩ .nil .nil) .nil))) (.node ⟨.none,none,(.fields #[]),#[]⟩ (.node ⟨.none,none,(.func { (fnOf "is_one" "Family.is_one" (ag (inClass (top 17) 2)) (ae (inClass (top 17) 2)) (aa (inClass (top 17) 2)) .none .none .none .none none .none .none) with globals:=0 }),#[]⟩ (.node ⟨(.type "function"),none,(.func (fnOf "number_by_parts" "SplitFamily.number_by_parts" (ag (inClass (top 18) 7)) (ae (inClass (top 18) 7)) (aa (inClass (top 18) 7)) .none .none .none (.str "countkin.kin" 389) none (.ref 316) .none)),#[]⟩ (.node ⟨.none,none,(.fields #[]),#[]⟩ .nil .nil) (.node ⟨(.type "tuple"),none,(.seq #[] 0),#[]⟩ .nil .nil)) (.node ⟨(.type "dict"),none,(.dict #[⟨PyData.keyHash P "__module__",.str "__module__" 746,(.str "countkin.cars" 737)⟩,⟨PyData.keyHash P "__qualname__",.str "__qualname__" 748,(.str "Cars" 747)⟩,⟨PyData.keyHash P "__firstlineno__",.str "__firstlineno__" 750,(.int 155 749)⟩,⟨PyData.keyHash P "__init__",.str "__init__" 757,(.ref 456)⟩,⟨PyData.keyHash P "size_of",.str "size_of" 765,(.ref 463)⟩,⟨PyData.keyHash P "is_one",.str "is_one" 771,(.ref 468)⟩,⟨PyData.keyHash P "code_of",.str "code_of" 777,(.ref 473)⟩,⟨PyData.keyHash P "of_code",.str "of_code" 783,(.ref 478)⟩,⟨PyData.keyHash P "__static_attributes__",.str "__static_attributes__" 784,(.ref 479)⟩] 9),#[]⟩ (.node ⟨(.type "tuple"),none,(.seq #[(.str "self" 1062),(.str "thing" 1063),(.str "begin" 1064)] 0),#[]⟩ .nil .nil) .nil)) (.node ⟨(.type "super"),none,(.fields #[(.ref 250),(.ref 250),(.ref 250)]),#[]⟩ (.node ⟨(.type "tuple"),none,(.seq #[(.str "self" 666),(.str "thing" 667)] 0),#[]⟩ (.node ⟨(.type "function"),none,(.func (fnOf "bare" "Brackets.bare" (ag (inClass (top 42) 3)) (ae (inClass (top 42) 3)) (aa (inClass (top 42) 3)) .none .none .none (.str "countkin.signs" 939) none (.ref 636) .none)),#[]⟩ .nil .nil) (.node ⟨(.type "code"),none,(.fields #[(.str "size_of" 1301),(.str "Bows.size_of" 1302),(.str "/claim/cut.py" 1303),(.int 448 0),(.int 2 0),(.int 0 0),(.int 0 0),(.int 3 0),(.ref 888),(.bool true),(.int 181 0),(.ref 889),.none,(.ref 890),(.ref 891),(.ref 892),(.int 1306 0),(.int 448 0),(.str "/claim/cut.py" 1307)]),#[]⟩ .nil .nil)) (.node ⟨.none,none,(.fields #[]),#[]⟩ (.node ⟨(.type "code"),none,(.fields #[(.str "parted" 1136),(.str "Twins.parted" 1137),(.str "/claim/cut.py" 1138),(.int 342 0),(.int 2 0),(.int 0 0),(.int 0 0),(.int 3 0),(.ref 760),(.bool true),(.int 181 0),(.ref 761),.none,(.ref 762),(.ref 763),(.ref 764),(.int 1141 0),(.int 342 0),(.str "/claim/cut.py" 1142)]),#[]⟩ .nil .nil) .nil)))))))) (.node (boot_o_2 P) (.node (boot_o_4 P) (.node (boot_o_8 P) (.node ⟨.none,none,(.fields #[]),#[]⟩ (.node ⟨(.type "tuple"),none,(.seq #[] 0),#[]⟩ (.node ⟨(.type "tuple"),none,(.seq #[] 0),#[]⟩ (.node ⟨(.type "tuple"),none,(.seq #[] 0),#[]⟩ (.node ⟨(.type "builtin_function_or_method"),none,(.fields #[(.builtin "type.__prepare__"),(.type "type")]),#[]⟩ (.node ⟨.none,none,(.func { (fnOf "flat" "flat" (ag (top 31)) (ae (top 31)) (aa (top 31)) .none .none .none .none none .none .none) with globals:=0 }),#[]⟩ .nil .nil) (.node ⟨.none,none,(.fields #[]),#[]⟩ .nil .nil)) (.node ⟨(.type "code"),none,(.fields #[(.str "unchecked_number" 663),(.str "RingFamily.unchecked_number" 664),(.str "/claim/cut.py" 665),(.int 132 0),(.int 2 0),(.int 0 0),(.int 0 0),(.int 3 0),(.ref 379),(.bool true),(.int 181 0),(.ref 380),.none,(.ref 381),(.ref 382),(.ref 383),(.int 668 0),(.int 132 0),(.str "/claim/cut.py" 669)]),#[]⟩ (.node ⟨(.type "tuple"),none,(.seq #[(.str "self" 986),(.str "thing" 987),(.str "end" 988)] 0),#[]⟩ .nil .nil) (.node ⟨.none,none,(.fields #[]),#[]⟩ .nil .nil))) (.node ⟨(.type "tuple"),none,(.seq #[] 0),#[]⟩ (.node ⟨(.type "tuple"),none,(.seq #[(.str "self" 585),(.str "counts" 586),(.str "size" 587),(.str "number" 588)] 0),#[]⟩ (.node ⟨.none,none,(.func { (fnOf "joined" "Floors.joined" (ag (inClass (top 36) 5)) (ae (inClass (top 36) 5)) (aa (inClass (top 36) 5)) .none .none .none .none none .none .none) with globals:=0 }),#[]⟩ .nil .nil) (.node ⟨(.type "function"),none,(.func (fnOf "size_of" "Trees.size_of" (ag (inClass (top 55) 1)) (ae (inClass (top 55) 1)) (aa (inClass (top 55) 1)) .none .none .none (.str "countkin.elders" 1205) none (.ref 831) .none)),#[]⟩ .nil .nil)) (.node ⟨(.type "code"),none,(.fields #[(.str "Cars" 741),(.str "Cars" 742),(.str "/claim/cut.py" 743),(.int 155 0),(.int 0 0),(.int 0 0),(.int 0 0),(.int 0 0),(.ref 446),(.bool false),(.int 181 0),(.ref 447),.none,.none,.none,.none,(.int 744 0),(.int 155 0),(.str "/claim/cut.py" 745)]),#[]⟩ (.node ⟨(.type "code"),none,(.fields #[(.str "parted" 1059),(.str "Stairs.parted" 1060),(.str "/claim/cut.py" 1061),(.int 309 0),(.int 2 0),(.int 0 0),(.int 0 0),(.int 3 0),(.ref 699),(.bool true),(.int 181 0),(.ref 700),.none,(.ref 701),(.ref 702),(.ref 703),(.int 1065 0),(.int 309 0),(.str "/claim/cut.py" 1066)]),#[]⟩ .nil .nil) .nil))) (.node ⟨(.type "builtin_function_or_method"),none,(.fields #[(.builtin "object.__init_subclass__"),(.ref 94)]),#[]⟩ (.node ⟨(.type "dict"),none,(.dict #[⟨PyData.keyHash P "__module__",.str "__module__" 371,(.str "countkin.errors" 216)⟩,⟨PyData.keyHash P "__firstlineno__",.str "__firstlineno__" 375,(.int 35 374)⟩,⟨PyData.keyHash P "__init__",.str "__init__" 383,(.ref 158)⟩,⟨PyData.keyHash P "__static_attributes__",.str "__static_attributes__" 385,(.ref 159)⟩,⟨PyData.keyHash P "__doc__",.str "__doc__" 386,.none⟩] 2),#[]⟩ (.node ⟨(.type "code"),none,(.fields #[(.str "joined" 539),(.str "SplitFamily.joined" 540),(.str "/claim/cut.py" 541),(.int 90 0),(.int 3 0),(.int 0 0),(.int 0 0),(.int 3 0),(.ref 283),(.bool true),(.int 181 0),(.ref 284),.none,(.ref 285),(.ref 286),(.ref 287),(.int 545 0),(.int 90 0),(.str "/claim/cut.py" 546)]),#[]⟩ (.node ⟨(.type "tuple"),none,(.seq #[] 0),#[]⟩ .nil .nil) (.node ⟨(.type "tuple"),none,(.seq #[] 0),#[]⟩ .nil .nil)) (.node ⟨.none,none,(.func { (fnOf "size_of" "Codes.size_of" (ag (inClass (top 23) 1)) (ae (inClass (top 23) 1)) (aa (inClass (top 23) 1)) .none .none .none .none none .none .none) with globals:=0 }),#[]⟩ (.node ⟨.none,none,(.fields #[]),#[]⟩ .nil .nil) .nil)) (.node ⟨.none,none,(.func { (fnOf "refuse_other" "Family.refuse_other" (ag (inClass (top 17) 7)) (ae (inClass (top 17) 7)) (aa (inClass (top 17) 7)) .none .none .none .none none .none .none) with globals:=0 }),#[]⟩ (.node ⟨.none,none,(.fields #[]),#[]⟩ (.node ⟨(.type "code"),none,(.fields #[(.str "Brackets" 943),(.str "Brackets" 944),(.str "/claim/cut.py" 945),(.int 260 0),(.int 0 0),(.int 0 0),(.int 0 0),(.int 0 0),(.ref 606),(.bool false),(.int 181 0),(.ref 607),.none,.none,.none,.none,(.int 946 0),(.int 260 0),(.str "/claim/cut.py" 947)]),#[]⟩ .nil .nil) (.node ⟨.none,none,(.func { (fnOf "tree_to_code" "tree_to_code" (ag (top 57)) (ae (top 57)) (aa (top 57)) .none .none .none .none none .none .none) with globals:=0 }),#[]⟩ .nil .nil)) (.node ⟨(.type "dict"),none,(.dict #[⟨PyData.keyHash P "__module__",.str "__module__" 746,(.str "countkin.cars" 737)⟩,⟨PyData.keyHash P "__firstlineno__",.str "__firstlineno__" 750,(.int 155 749)⟩,⟨PyData.keyHash P "__init__",.str "__init__" 757,(.ref 456)⟩,⟨PyData.keyHash P "size_of",.str "size_of" 765,(.ref 463)⟩,⟨PyData.keyHash P "is_one",.str "is_one" 771,(.ref 468)⟩,⟨PyData.keyHash P "code_of",.str "code_of" 777,(.ref 473)⟩,⟨PyData.keyHash P "of_code",.str "of_code" 783,(.ref 478)⟩,⟨PyData.keyHash P "__static_attributes__",.str "__static_attributes__" 784,(.ref 479)⟩,⟨PyData.keyHash P "__doc__",.str "__doc__" 785,.none⟩] 2),#[]⟩ (.node ⟨.none,none,(.func { (fnOf "__init__" "Twins.__init__" (ag (inClass (top 47) 0)) (ae (inClass (top 47) 0)) (aa (inClass (top 47) 0)) .none .none .none .none none .none .none) with globals:=0 }),#[]⟩ .nil .nil) .nil)))) (.node ⟨(.type "builtin_function_or_method"),none,(.fields #[(.builtin "object.__init_subclass__"),(.ref 45)]),#[]⟩ (.node ⟨(.type "tuple"),none,(.seq #[] 0),#[]⟩ (.node ⟨(.type "builtin_function_or_method"),none,(.fields #[(.builtin "object.__init_subclass__"),(.ref 142)]),#[]⟩ (.node ⟨(.type "tuple"),none,(.seq #[] 0),#[]⟩ (.node ⟨(.type "function"),none,(.func (fnOf "any_cross" "any_cross" (ag (top 33)) (ae (top 33)) (aa (top 33)) .none .none .none (.str "countkin.common" 802) none (.ref 527) .none)),#[]⟩ .nil .nil) (.node ⟨(.type "code"),none,(.fields #[(.str "brackets_to_twins" 1159),(.str "brackets_to_twins" 1160),(.str "/claim/cut.py" 1161),(.int 348 0),(.int 1 0),(.int 0 0),(.int 0 0),(.int 3 0),(.ref 779),(.bool true),(.int 181 0),(.ref 780),.none,(.ref 781),(.ref 782),(.ref 783),(.int 1166 0),(.int 348 0),(.str "/claim/cut.py" 1167)]),#[]⟩ .nil .nil)) (.node ⟨(.type "dict"),none,(.dict #[⟨PyData.keyHash P "__module__",.str "__module__" 691,(.str "countkin.ring" 617)⟩,⟨PyData.keyHash P "__qualname__",.str "__qualname__" 693,(.str "Codes" 692)⟩,⟨PyData.keyHash P "__firstlineno__",.str "__firstlineno__" 695,(.int 137 694)⟩,⟨PyData.keyHash P "__init__",.str "__init__" 702,(.ref 411)⟩,⟨PyData.keyHash P "size_of",.str "size_of" 710,(.ref 418)⟩,⟨PyData.keyHash P "is_one",.str "is_one" 716,(.ref 423)⟩,⟨PyData.keyHash P "code_of",.str "code_of" 724,(.ref 430)⟩,⟨PyData.keyHash P "of_code",.str "of_code" 732,(.ref 437)⟩,⟨PyData.keyHash P "__static_attributes__",.str "__static_attributes__" 733,(.ref 438)⟩] 9),#[]⟩ (.node ⟨(.type "builtin_function_or_method"),none,(.fields #[(.builtin "object.__init_subclass__"),(.ref 654)]),#[]⟩ .nil .nil) (.node ⟨(.type "code"),none,(.fields #[(.str "parted" 1322),(.str "Bows.parted" 1323),(.str "/claim/cut.py" 1324),(.int 459 0),(.int 2 0),(.int 0 0),(.int 0 0),(.int 3 0),(.ref 907),(.bool true),(.int 181 0),(.ref 908),.none,(.ref 909),(.ref 910),(.ref 911),(.int 1330 0),(.int 459 0),(.str "/claim/cut.py" 1331)]),#[]⟩ .nil .nil))) (.node ⟨(.type "tuple"),none,(.seq #[(.str "self" 447),(.str "size" 448),(.str "number" 449)] 0),#[]⟩ (.node ⟨(.type "function"),none,(.func (fnOf "by_parts" "by_parts" (ag (top 19)) (ae (top 19)) (aa (top 19)) .none .none .none (.str "countkin.kin" 389) none (.ref 335) .none)),#[]⟩ (.node ⟨.none,none,(.fields #[]),#[]⟩ .nil .nil) (.node ⟨(.type "tuple"),none,(.seq #[] 0),#[]⟩ .nil .nil)) (.node ⟨(.type "tuple"),none,(.seq #[] 0),#[]⟩ (.node ⟨(.type "tuple"),none,(.seq #[(.str "stairs" 1084),(.str "place" 1085)] 0),#[]⟩ .nil .nil) .nil))) (.node ⟨(.type "tuple"),none,(.seq #[] 0),#[]⟩ (.node ⟨(.type "code"),none,(.fields #[(.str "__init__" 403),(.str "Family.__init__" 404),(.str "/claim/cut.py" 405),(.int 43 0),(.int 3 0),(.int 0 0),(.int 0 0),(.int 3 0),(.ref 171),(.bool true),(.int 181 0),(.ref 172),.none,(.ref 173),(.ref 174),(.ref 175),(.int 409 0),(.int 43 0),(.str "/claim/cut.py" 410)]),#[]⟩ (.node ⟨(.type "tuple"),none,(.seq #[] 0),#[]⟩ (.node ⟨(.type "tuple"),none,(.seq #[] 0),#[]⟩ .nil .nil) (.node ⟨.none,none,(.fields #[(.int 399 0),(.int 4 0),(.ref 824),(.int 402 0),(.int 4 0),(.ref 831),(.int 405 0),(.int 4 0),(.ref 836),(.int 411 0),(.int 4 0),(.ref 841),(.int 421 0),(.int 4 0),(.ref 846)]),#[]⟩ .nil .nil)) (.node ⟨.none,none,(.fields #[]),#[]⟩ (.node ⟨(.type "tuple"),none,(.seq #[] 0),#[]⟩ .nil .nil) .nil)) (.node ⟨(.type "function"),none,(.func (fnOf "thing_of" "Family.thing_of" (ag (inClass (top 17) 9)) (ae (inClass (top 17) 9)) (aa (inClass (top 17) 9)) .none .none .none (.str "countkin.kin" 389) none (.ref 239) .none)),#[]⟩ (.node ⟨(.type "tuple"),none,(.seq #[] 0),#[]⟩ (.node ⟨(.type "tuple"),none,(.seq #[] 0),#[]⟩ .nil .nil) (.node ⟨(.type "frame"),none,.plain,#[(some (.ref 879)),(some (.ref 3)),(some (.ref 876)),none,(some (.str "countkin.bends" 1280)),none,(some (.ref 0))]⟩ .nil .nil)) (.node ⟨(.type "code"),none,(.fields #[(.str "code_to_cars" 795),(.str "code_to_cars" 796),(.str "/claim/cut.py" 797),(.int 183 0),(.int 1 0),(.int 0 0),(.int 0 0),(.int 3 0),(.ref 491),(.bool true),(.int 181 0),(.ref 492),.none,(.ref 493),(.ref 494),(.ref 495),(.int 799 0),(.int 183 0),(.str "/claim/cut.py" 800)]),#[]⟩ (.node ⟨(.type "function"),none,(.func (fnOf "is_one" "Twins.is_one" (ag (inClass (top 47) 2)) (ae (inClass (top 47) 2)) (aa (inClass (top 47) 2)) .none .none .none (.str "countkin.twigs" 1089) none (.ref 751) .none)),#[]⟩ .nil .nil) .nil))))) (.node ⟨(.type "tuple"),none,(.seq #[(.str "size" 201),(.str "share" 202),(.str "k" 203)] 0),#[]⟩ (.node ⟨.none,none,(.fields #[]),#[]⟩ (.node ⟨(.type "builtin_function_or_method"),none,(.fields #[(.builtin "object.__init_subclass__"),(.ref 70)]),#[]⟩ (.node ⟨(.type "tuple"),none,(.seq #[] 0),#[]⟩ (.node ⟨(.type "tuple"),none,(.seq #[(.str "self" 519),(.str "word" 520)] 0),#[]⟩ (.node ⟨(.type "code"),none,(.fields #[(.str "each_once" 825),(.str "each_once" 826),(.str "/claim/cut.py" 827),(.int 196 0),(.int 1 0),(.int 0 0),(.int 0 0),(.int 3 0),(.ref 515),(.bool true),(.int 181 0),(.ref 516),.none,(.ref 517),(.ref 518),(.ref 519),(.int 829 0),(.int 196 0),(.str "/claim/cut.py" 830)]),#[]⟩ .nil .nil) (.node ⟨(.type "type"),none,(.cls ⟨"Twins",[(.ref 327)],[(.ref 776),(.ref 327),(.ref 250),(.type "object")],775,"Twins",true,[],[],false,none,false⟩),#[(some (.ref 725)),none,(some (.str "Twins" 1091)),(some (.str "Twins" 1099)),(some (.builtin "object.__new__")),(some (.bool true))]⟩ .nil .nil)) (.node ⟨(.type "function"),none,(.func (fnOf "unchecked_thing" "RingFamily.unchecked_thing" (ag (inClass (top 22) 5)) (ae (inClass (top 22) 5)) (aa (inClass (top 22) 5)) .none .none .none (.str "countkin.ring" 617) none (.ref 391) .none)),#[]⟩ (.node ⟨(.type "tuple"),none,(.seq #[] 0),#[]⟩ .nil .nil) (.node ⟨.none,none,(.func { (fnOf "bare" "Bows.bare" (ag (inClass (top 60) 3)) (ae (inClass (top 60) 3)) (aa (inClass (top 60) 3)) .none .none .none .none none .none .none) with globals:=0 }),#[]⟩ .nil .nil))) (.node ⟨.none,none,(.fields #[]),#[]⟩ (.node ⟨(.type "super"),none,(.fields #[(.ref 327),(.ref 327),(.ref 327)]),#[]⟩ (.node ⟨(.type "tuple"),none,(.seq #[] 0),#[]⟩ .nil .nil) (.node ⟨.none,none,(.func { (fnOf "code_of" "Trees.code_of" (ag (inClass (top 55) 3)) (ae (inClass (top 55) 3)) (aa (inClass (top 55) 3)) .none .none .none .none none .none .none) with globals:=0 }),#[]⟩ .nil .nil)) (.node ⟨(.type "function"),none,(.func (fnOf "__init__" "Cars.__init__" (ag (inClass (top 25) 0)) (ae (inClass (top 25) 0)) (aa (inClass (top 25) 0)) .none .none .none (.str "countkin.cars" 737) none (.ref 455) .none)),#[]⟩ (.node ⟨(.type "function"),none,(.func (fnOf "joined" "Stairs.joined" (ag (inClass (top 44) 5)) (ae (inClass (top 44) 5)) (aa (inClass (top 44) 5)) .none .none .none (.str "countkin.signs" 939) none (.ref 711) .none)),#[]⟩ .nil .nil) .nil))) (.node ⟨(.type "tuple"),none,(.seq #[] 0),#[]⟩ (.node ⟨.none,none,(.fields #[(.int 43 0),(.int 4 0),(.ref 176),(.int 47 0),(.int 4 0),(.ref 183),(.int 50 0),(.int 4 0),(.ref 190),(.int 53 0),(.int 4 0),(.ref 197),(.int 56 0),(.int 4 0),(.ref 204),(.int 59 0),(.int 4 0),(.ref 211),(.int 62 0),(.int 4 0),(.ref 218),(.int 67 0),(.int 4 0),(.ref 225),(.int 71 0),(.int 4 0),(.ref 232),(.int 74 0),(.int 4 0),(.ref 239),(.int 77 0),(.int 4 0),(.ref 246)]),#[]⟩ (.node ⟨(.type "function"),none,(.func (fnOf "unchecked_many" "SplitFamily.unchecked_many" (ag (inClass (top 18) 4)) (ae (inClass (top 18) 4)) (aa (inClass (top 18) 4)) .none .none .none (.str "countkin.kin" 389) none (.ref 295) .none)),#[]⟩ (.node ⟨.none,none,(.func { (fnOf "size_of" "Floors.size_of" (ag (inClass (top 36) 1)) (ae (inClass (top 36) 1)) (aa (inClass (top 36) 1)) .none .none .none .none none .none .none) with globals:=0 }),#[]⟩ .nil .nil) (.node ⟨.none,none,(.fields #[]),#[]⟩ .nil .nil)) (.node ⟨(.type "tuple"),none,(.seq #[] 0),#[]⟩ (.node ⟨(.type "tuple"),none,(.seq #[(.str "self" 1036),(.str "thing" 1037)] 0),#[]⟩ .nil .nil) .nil)) (.node ⟨(.type "code"),none,(.fields #[(.str "number_of" 469),(.str "Family.number_of" 470),(.str "/claim/cut.py" 471),(.int 71 0),(.int 2 0),(.int 0 0),(.int 0 0),(.int 3 0),(.ref 227),(.bool true),(.int 181 0),(.ref 228),.none,(.ref 229),(.ref 230),(.ref 231),(.int 474 0),(.int 71 0),(.str "/claim/cut.py" 475)]),#[]⟩ (.node ⟨(.type "tuple"),none,(.seq #[(.str "self" 642),(.str "thing" 643)] 0),#[]⟩ (.node ⟨(.type "function"),none,(.func (fnOf "__init__" "Brackets.__init__" (ag (inClass (top 42) 0)) (ae (inClass (top 42) 0)) (aa (inClass (top 42) 0)) .none .none .none (.str "countkin.signs" 939) none (.ref 615) .none)),#[]⟩ .nil .nil) (.node ⟨(.type "code"),none,(.fields #[(.str "code_to_tree" 1273),(.str "code_to_tree" 1274),(.str "/claim/cut.py" 1275),(.int 439 0),(.int 1 0),(.int 0 0),(.int 0 0),(.int 3 0),(.ref 867),(.bool true),(.int 181 0),(.ref 868),.none,(.ref 869),(.ref 870),(.ref 871),(.int 1277 0),(.int 439 0),(.str "/claim/cut.py" 1278)]),#[]⟩ .nil .nil)) (.node ⟨.none,none,(.func { (fnOf "cars_to_code" "cars_to_code" (ag (top 26)) (ae (top 26)) (aa (top 26)) .none .none .none .none none .none .none) with globals:=0 }),#[]⟩ (.node ⟨(.type "code"),none,(.fields #[(.str "size_of" 1110),(.str "Twins.size_of" 1111),(.str "/claim/cut.py" 1112),(.int 326 0),(.int 2 0),(.int 0 0),(.int 0 0),(.int 3 0),(.ref 739),(.bool true),(.int 181 0),(.ref 740),.none,(.ref 741),(.ref 742),(.ref 743),(.int 1118 0),(.int 326 0),(.str "/claim/cut.py" 1119)]),#[]⟩ .nil .nil) .nil)))) (.node ⟨(.type "tuple"),none,(.seq #[] 0),#[]⟩ (.node ⟨(.type "tuple"),none,(.seq #[] 0),#[]⟩ (.node ⟨(.type "tuple"),none,(.seq #[] 0),#[]⟩ (.node ⟨.none,none,(.func { (fnOf "parted" "SplitFamily.parted" (ag (inClass (top 18) 2)) (ae (inClass (top 18) 2)) (aa (inClass (top 18) 2)) .none .none .none .none none .none .none) with globals:=0 }),#[]⟩ (.node ⟨(.type "dict"),none,(.dict #[⟨PyData.keyHash P "__module__",.str "__module__" 858,(.str "countkin.floors" 849)⟩,⟨PyData.keyHash P "__qualname__",.str "__qualname__" 860,(.str "Floors" 859)⟩,⟨PyData.keyHash P "__firstlineno__",.str "__firstlineno__" 862,(.int 207 861)⟩,⟨PyData.keyHash P "__init__",.str "__init__" 869,(.ref 547)⟩,⟨PyData.keyHash P "size_of",.str "size_of" 877,(.ref 554)⟩,⟨PyData.keyHash P "is_one",.str "is_one" 883,(.ref 559)⟩,⟨PyData.keyHash P "bare",.str "bare" 890,(.ref 566)⟩,⟨PyData.keyHash P "parted",.str "parted" 896,(.ref 571)⟩,⟨PyData.keyHash P "joined",.str "joined" 908,(.ref 578)⟩,⟨PyData.keyHash P "__static_attributes__",.str "__static_attributes__" 909,(.ref 579)⟩] 10),#[]⟩ .nil .nil) (.node ⟨(.type "function"),none,(.func (fnOf "twins_to_brackets" "twins_to_brackets" (ag (top 50)) (ae (top 50)) (aa (top 50)) .none .none .none (.str "countkin.cuts" 1157) none (.ref 791) .none)),#[]⟩ .nil .nil)) (.node ⟨(.type "tuple"),none,(.seq #[] 0),#[]⟩ (.node ⟨(.type "tuple"),none,(.seq #[(.ref 327)] 0),#[]⟩ .nil .nil) (.node ⟨(.type "function"),none,(.func (fnOf "joined" "Bows.joined" (ag (inClass (top 60) 5)) (ae (inClass (top 60) 5)) (aa (inClass (top 60) 5)) .none .none .none (.str "countkin.bends" 1280) none (.ref 919) .none)),#[]⟩ .nil .nil))) (.node ⟨(.type "tuple"),none,(.seq #[] 0),#[]⟩ (.node ⟨(.type "tuple"),none,(.seq #[(.ref 250)] 0),#[]⟩ (.node ⟨.none,none,(.func { (fnOf "closes" "closes" (ag (top 40)) (ae (top 40)) (aa (top 40)) .none .none .none .none none .none .none) with globals:=0 }),#[]⟩ .nil .nil) (.node ⟨(.type "tuple"),none,(.seq #[] 0),#[]⟩ .nil .nil)) (.node ⟨(.type "code"),none,(.fields #[(.str "code_of" 772),(.str "Cars.code_of" 773),(.str "/claim/cut.py" 774),(.int 168 0),(.int 2 0),(.int 0 0),(.int 0 0),(.int 3 0),(.ref 469),(.bool true),(.int 181 0),(.ref 470),.none,.none,.none,(.ref 471),(.int 775 0),(.int 168 0),(.str "/claim/cut.py" 776)]),#[]⟩ (.node ⟨(.type "tuple"),none,(.seq #[] 0),#[]⟩ .nil .nil) .nil))) (.node ⟨(.type "builtin_function_or_method"),none,(.fields #[(.builtin "object.__init_subclass__"),(.ref 118)]),#[]⟩ (.node ⟨(.type "function"),none,(.func (fnOf "size_of" "Family.size_of" (ag (inClass (top 17) 1)) (ae (inClass (top 17) 1)) (aa (inClass (top 17) 1)) .none .none .none (.str "countkin.kin" 389) none (.ref 183) .none)),#[]⟩ (.node ⟨.none,none,(.fields #[]),#[]⟩ (.node ⟨.none,none,(.fields #[]),#[]⟩ .nil .nil) (.node ⟨(.type "code"),none,(.fields #[(.str "__init__" 1219),(.str "Trees.__init__" 1220),(.str "/claim/cut.py" 1221),(.int 399 0),(.int 1 0),(.int 0 0),(.int 0 0),(.int 3 0),(.ref 819),(.bool true),(.int 181 0),(.ref 820),.none,(.ref 821),(.ref 822),(.ref 823),(.int 1223 0),(.int 399 0),(.str "/claim/cut.py" 1224)]),#[]⟩ .nil .nil)) (.node ⟨(.type "type"),none,(.cls ⟨"Codes",[(.ref 395)],[(.ref 440),(.ref 395),(.ref 250),(.type "object")],439,"Codes",true,[],[],false,none,false⟩),#[(some (.ref 398)),none,(some (.str "Codes" 684)),(some (.str "Codes" 692)),(some (.builtin "object.__new__")),(some (.bool true))]⟩ (.node ⟨.none,none,(.func { (fnOf "bare" "Stairs.bare" (ag (inClass (top 44) 3)) (ae (inClass (top 44) 3)) (aa (inClass (top 44) 3)) .none .none .none .none none .none .none) with globals:=0 }),#[]⟩ .nil .nil) .nil)) (.node ⟨(.type "tuple"),none,(.seq #[(.str "least" 494),(.str "word" 495)] 0),#[]⟩ (.node ⟨.none,none,(.func { (fnOf "unchecked_many" "RingFamily.unchecked_many" (ag (inClass (top 22) 3)) (ae (inClass (top 22) 3)) (aa (inClass (top 22) 3)) .none .none .none .none none .none .none) with globals:=0 }),#[]⟩ (.node ⟨.none,none,(.fields #[]),#[]⟩ .nil .nil) (.node ⟨(.type "tuple"),none,(.seq #[] 0),#[]⟩ .nil .nil)) (.node ⟨.none,none,(.fields #[]),#[]⟩ (.node ⟨(.type "tuple"),none,(.seq #[] 0),#[]⟩ .nil .nil) .nil)))))) (.node ⟨.none,none,(.fields (List.toArray ((.int 1 0)::(.int 0 0)::(.ref 20)::(.int 6 0)::(.int 0 0)::(.ref 27)::(.int 11 0)::(.int 0 0)::(.ref 34)::(.int 17 0)::(.int 0 0)::(.ref 41)::(.int 19 0)::(.int 0 0)::(.ref 54)::(.int 21 0)::(.int 0 0)::(.ref 66)::(.int 23 0)::(.int 0 0)::(.ref 78)::(.int 25 0)::(.int 0 0)::(.ref 90)::(.int 27 0)::(.int 0 0)::(.ref 102)::(.int 29 0)::(.int 0 0)::(.ref 114)::(.int 31 0)::(.int 0 0)::(.ref 126)::(.int 33 0)::(.int 0 0)::(.ref 138)::(.int 35 0)::(.int 0 0)::(.ref 150)::(.int 41 0)::(.int 0 0)::(.ref 169)::(.int 79 0)::(.int 0 0)::(.ref 260)::(.int 107 0)::(.int 0 0)::(.ref 335)::(.int 110 0)::(.int 0 0)::(.ref 342)::(.int 118 0)::(.int 0 0)::(.ref 349)::(.int 137 0)::(.int 0 0)::(.ref 403)::(.int 155 0)::(.int 0 0)::(.ref 448)::(.int 180 0)::(.int 0 0)::(.ref 489)::(.int 183 0)::(.int 0 0)::(.ref 496)::(.int 187 0)::(.int 0 0)::(.ref 501)::(.int 189 0)::(.int 0 0)::(.ref 506)::(.int 191 0)::(.int 0 0)::(.ref 513)::(.int 196 0)::(.int 0 0)::(.ref 520)::(.int 198 0)::(.int 0 0)::(.ref 527)::(.int 204 0)::(.int 0 0)::(.ref 532)::(.int 207 0)::(.int 0 0)::(.ref 539)::(.int 244 0)::(.int 0 0)::(.ref 589)::(.int 246 0)::(.int 0 0)::(.ref 594)::(.int 249 0)::(.int 0 0)::(.ref 601)::(.int 260 0)::(.int 0 0)::(.ref 608)::(.int 280 0)::(.int 0 0)::(.ref 662)::(.int 290 0)::(.int 0 0)::(.ref 669)::(.int 315 0)::(.int 0 0)::(.ref 723)::(.int 321 0)::(.int 0 0)::(.ref 730)::(.int 348 0)::(.int 0 0)::(.ref 784)::(.int 359 0)::(.int 0 0)::(.ref 791)::(.int 371 0)::(.int 0 0)::(.ref 798)::(.int 376 0)::(.int 0 0)::(.ref 805)::(.int 383 0)::(.int 0 0)::(.ref 810)::(.int 397 0)::(.int 0 0)::(.ref 817)::(.int 430 0)::(.int 0 0)::(.ref 858)::(.int 436 0)::(.int 0 0)::(.ref 865)::(.int 439 0)::(.int 0 0)::(.ref 872)::(.int 443 0)::(.int 0 0)::(.ref 879)::[]))),#[]⟩ (.node ⟨(.type "code"),none,(.fields #[(.str "_wall" 187),(.str "_wall" 188),(.str "/claim/cut.py" 189),(.int 1 0),(.int 1 0),(.int 0 0),(.int 0 0),(.int 3 0),(.ref 15),(.bool true),(.int 181 0),(.ref 16),.none,(.ref 17),(.ref 18),(.ref 19),(.int 191 0),(.int 1 0),(.str "/claim/cut.py" 192)]),#[]⟩ (.node ⟨(.type "tuple"),none,(.seq #[(.type "ValueError")] 0),#[]⟩ (.node ⟨(.type "tuple"),none,(.seq #[] 0),#[]⟩ (.node ⟨(.type "builtin_function_or_method"),none,(.fields #[(.builtin "object.__init_subclass__"),(.ref 130)]),#[]⟩ (.node ⟨(.type "code"),none,(.fields #[(.str "SplitFamily" 506),(.str "SplitFamily" 507),(.str "/claim/cut.py" 508),(.int 79 0),(.int 0 0),(.int 0 0),(.int 0 0),(.int 0 0),(.ref 258),(.bool false),(.int 181 0),(.ref 259),.none,.none,.none,.none,(.int 509 0),(.int 79 0),(.str "/claim/cut.py" 510)]),#[]⟩ (.node ⟨.none,none,(.fields #[]),#[]⟩ .nil .nil) (.node ⟨(.type "code"),none,(.fields #[(.str "joined" 1144),(.str "Twins.joined" 1145),(.str "/claim/cut.py" 1146),(.int 345 0),(.int 3 0),(.int 0 0),(.int 0 0),(.int 3 0),(.ref 767),(.bool true),(.int 181 0),(.ref 768),.none,(.ref 769),(.ref 770),(.ref 771),(.int 1150 0),(.int 345 0),(.str "/claim/cut.py" 1151)]),#[]⟩ .nil .nil)) (.node ⟨(.type "tuple"),none,(.seq #[(.str "self" 674),(.str "size" 675),(.str "number" 676)] 0),#[]⟩ (.node ⟨(.type "function"),none,(.func (fnOf "parted" "Brackets.parted" (ag (inClass (top 42) 4)) (ae (inClass (top 42) 4)) (aa (inClass (top 42) 4)) .none .none .none (.str "countkin.signs" 939) none (.ref 643) .none)),#[]⟩ .nil .nil) (.node ⟨(.type "tuple"),none,(.seq #[] 0),#[]⟩ .nil .nil))) (.node ⟨.none,none,(.func { (fnOf "unchecked_many" "Family.unchecked_many" (ag (inClass (top 17) 3)) (ae (inClass (top 17) 3)) (aa (inClass (top 17) 3)) .none .none .none .none none .none .none) with globals:=0 }),#[]⟩ (.node ⟨(.type "function"),none,(.func (fnOf "thing_by_parts" "SplitFamily.thing_by_parts" (ag (inClass (top 18) 8)) (ae (inClass (top 18) 8)) (aa (inClass (top 18) 8)) .none .none .none (.str "countkin.kin" 389) none (.ref 323) .none)),#[]⟩ (.node ⟨(.type "dict"),none,(.dict #[⟨PyData.keyHash P "__module__",.str "__module__" 858,(.str "countkin.floors" 849)⟩,⟨PyData.keyHash P "__firstlineno__",.str "__firstlineno__" 862,(.int 207 861)⟩,⟨PyData.keyHash P "__init__",.str "__init__" 869,(.ref 547)⟩,⟨PyData.keyHash P "size_of",.str "size_of" 877,(.ref 554)⟩,⟨PyData.keyHash P "is_one",.str "is_one" 883,(.ref 559)⟩,⟨PyData.keyHash P "bare",.str "bare" 890,(.ref 566)⟩,⟨PyData.keyHash P "parted",.str "parted" 896,(.ref 571)⟩,⟨PyData.keyHash P "joined",.str "joined" 908,(.ref 578)⟩,⟨PyData.keyHash P "__static_attributes__",.str "__static_attributes__" 909,(.ref 579)⟩,⟨PyData.keyHash P "__doc__",.str "__doc__" 910,.none⟩] 2),#[]⟩ .nil .nil) (.node ⟨(.type "code"),none,(.fields #[(.str "is_one" 1234),(.str "Trees.is_one" 1235),(.str "/claim/cut.py" 1236),(.int 405 0),(.int 2 0),(.int 0 0),(.int 0 0),(.int 3 0),(.ref 833),(.bool true),(.int 181 0),(.ref 834),.none,.none,.none,(.ref 835),(.int 1237 0),(.int 405 0),(.str "/claim/cut.py" 1238)]),#[]⟩ .nil .nil)) (.node ⟨(.type "tuple"),none,(.seq #[(.str "self" 754)] 0),#[]⟩ (.node ⟨(.type "tuple"),none,(.seq #[(.str "self" 1071),(.str "left" 1072),(.str "right" 1073)] 0),#[]⟩ .nil .nil) .nil))) (.node ⟨(.type "tuple"),none,(.seq #[] 0),#[]⟩ (.node ⟨(.type "tuple"),none,(.seq #[] 0),#[]⟩ (.node ⟨(.type "tuple"),none,(.seq #[(.str "self" 551),(.str "size" 552)] 0),#[]⟩ (.node ⟨(.type "tuple"),none,(.seq #[] 0),#[]⟩ .nil .nil) (.node ⟨.none,none,(.func { (fnOf "lines_over" "lines_over" (ag (top 52)) (ae (top 52)) (aa (top 52)) .none .none .none .none none .none .none) with globals:=0 }),#[]⟩ .nil .nil)) (.node ⟨.none,none,(.fields #[]),#[]⟩ (.node ⟨(.type "code"),none,(.fields #[(.str "__init__" 1026),(.str "Stairs.__init__" 1027),(.str "/claim/cut.py" 1028),(.int 292 0),(.int 1 0),(.int 0 0),(.int 0 0),(.int 3 0),(.ref 671),(.bool true),(.int 181 0),(.ref 672),.none,(.ref 673),(.ref 674),(.ref 675),(.int 1030 0),(.int 292 0),(.str "/claim/cut.py" 1031)]),#[]⟩ .nil .nil) .nil)) (.node ⟨.none,none,(.fields #[]),#[]⟩ (.node ⟨(.type "code"),none,(.fields #[(.str "__init__" 631),(.str "RingFamily.__init__" 632),(.str "/claim/cut.py" 633),(.int 120 0),(.int 2 0),(.int 0 0),(.int 0 0),(.int 3 0),(.ref 351),(.bool true),(.int 181 0),(.ref 352),.none,(.ref 353),(.ref 354),(.ref 355),(.int 636 0),(.int 120 0),(.str "/claim/cut.py" 637)]),#[]⟩ (.node ⟨(.type "tuple"),none,(.seq #[(.str "self" 956)] 0),#[]⟩ .nil .nil) (.node ⟨.none,none,(.fields #[]),#[]⟩ .nil .nil)) (.node ⟨(.type "tuple"),none,(.seq #[] 0),#[]⟩ (.node ⟨.none,none,(.fields #[]),#[]⟩ .nil .nil) .nil)))) (.node ⟨(.type "tuple"),none,(.seq #[] 0),#[]⟩ (.node ⟨(.type "builtin_function_or_method"),none,(.fields #[(.builtin "object.__init_subclass__"),(.ref 82)]),#[]⟩ (.node ⟨(.type "tuple"),none,(.seq #[] 0),#[]⟩ (.node ⟨(.type "tuple"),none,(.seq #[] 0),#[]⟩ (.node ⟨(.type "code"),none,(.fields #[(.str "pairs_anew" 843),(.str "pairs_anew" 844),(.str "/claim/cut.py" 845),(.int 204 0),(.int 1 0),(.int 0 0),(.int 0 0),(.int 3 0),(.ref 529),(.bool true),(.int 181 0),(.ref 530),.none,.none,.none,(.ref 531),(.int 846 0),(.int 204 0),(.str "/claim/cut.py" 847)]),#[]⟩ .nil .nil) (.node ⟨(.type "tuple"),none,(.seq #[(.str "thing" 1172),(.str "signs" 1173),(.str "waiting" 1174),(.str "one" 1175)] 0),#[]⟩ .nil .nil)) (.node ⟨(.type "frame"),none,.plain,#[(some (.ref 403)),(some (.ref 3)),(some (.ref 400)),none,(some (.str "countkin.ring" 617)),none,(some (.ref 0))]⟩ (.node ⟨(.type "tuple"),none,(.seq #[] 0),#[]⟩ .nil .nil) (.node ⟨(.type "tuple"),none,(.seq #[(.str "self" 1336),(.str "left" 1337),(.str "right" 1338),(.str "end" 1339)] 0),#[]⟩ .nil .nil))) (.node ⟨(.type "function"),none,(.func (fnOf "unchecked_thing" "Family.unchecked_thing" (ag (inClass (top 17) 5)) (ae (inClass (top 17) 5)) (aa (inClass (top 17) 5)) .none .none .none (.str "countkin.kin" 389) none (.ref 211) .none)),#[]⟩ (.node ⟨(.type "tuple"),none,(.seq #[] 0),#[]⟩ (.node ⟨(.type "tuple"),none,(.seq #[] 0),#[]⟩ .nil .nil) (.node ⟨(.type "builtin_function_or_method"),none,(.fields #[(.builtin "object.__init_subclass__"),(.ref 850)]),#[]⟩ .nil .nil)) (.node ⟨(.type "function"),none,(.func (fnOf "is_one" "Cars.is_one" (ag (inClass (top 25) 2)) (ae (inClass (top 25) 2)) (aa (inClass (top 25) 2)) .none .none .none (.str "countkin.cars" 737) none (.ref 467) .none)),#[]⟩ (.node ⟨(.type "function"),none,(.func (fnOf "right_begin" "right_begin" (ag (top 45)) (ae (top 45)) (aa (top 45)) .none .none .none (.str "countkin.signs" 939) none (.ref 723) .none)),#[]⟩ .nil .nil) .nil))) (.node ⟨(.type "tuple"),none,(.seq #[] 0),#[]⟩ (.node ⟨(.type "tuple"),none,(.seq #[(.str "self" 415),(.str "thing" 416)] 0),#[]⟩ (.node ⟨.none,none,(.func { (fnOf "unchecked_thing" "SplitFamily.unchecked_thing" (ag (inClass (top 18) 6)) (ae (inClass (top 18) 6)) (aa (inClass (top 18) 6)) .none .none .none .none none .none .none) with globals:=0 }),#[]⟩ (.node ⟨.none,none,(.func { (fnOf "bare" "Floors.bare" (ag (inClass (top 36) 3)) (ae (inClass (top 36) 3)) (aa (inClass (top 36) 3)) .none .none .none .none none .none .none) with globals:=0 }),#[]⟩ .nil .nil) (.node ⟨.none,none,(.fields #[]),#[]⟩ .nil .nil)) (.node ⟨(.type "code"),none,(.fields #[(.str "of_code" 725),(.str "Codes.of_code" 726),(.str "/claim/cut.py" 727),(.int 152 0),(.int 2 0),(.int 0 0),(.int 0 0),(.int 3 0),(.ref 431),(.bool true),(.int 181 0),(.ref 432),.none,(.ref 433),(.ref 434),(.ref 435),(.int 730 0),(.int 152 0),(.str "/claim/cut.py" 731)]),#[]⟩ (.node ⟨(.type "tuple"),none,(.seq #[] 0),#[]⟩ .nil .nil) .nil)) (.node ⟨(.type "tuple"),none,(.seq #[] 0),#[]⟩ (.node ⟨(.type "tuple"),none,(.seq #[] 0),#[]⟩ (.node ⟨.none,none,(.func { (fnOf "is_one" "Brackets.is_one" (ag (inClass (top 42) 2)) (ae (inClass (top 42) 2)) (aa (inClass (top 42) 2)) .none .none .none .none none .none .none) with globals:=0 }),#[]⟩ .nil .nil) (.node ⟨(.type "tuple"),none,(.seq #[] 0),#[]⟩ .nil .nil)) (.node ⟨.none,none,(.func { (fnOf "raised_by" "raised_by" (ag (top 29)) (ae (top 29)) (aa (top 29)) .none .none .none .none none .none .none) with globals:=0 }),#[]⟩ (.node ⟨(.type "tuple"),none,(.seq #[] 0),#[]⟩ .nil .nil) .nil))))) (.node ⟨(.type "function"),none,(.func (fnOf "by_rule" "by_rule" (ag (top 3)) (ae (top 3)) (aa (top 3)) .none .none .none (.str "countkin.counts" 194) none (.ref 27) .none)),#[]⟩ (.node ⟨(.type "dict"),none,(.dict #[⟨PyData.keyHash P "__module__",.str "__module__" 225,(.str "countkin.errors" 216)⟩,⟨PyData.keyHash P "__firstlineno__",.str "__firstlineno__" 229,(.int 17 228)⟩,⟨PyData.keyHash P "__static_attributes__",.str "__static_attributes__" 230,(.ref 43)⟩,⟨PyData.keyHash P "__weakref__",.str "__weakref__" 232,(.ref 46)⟩,⟨PyData.keyHash P "__doc__",.str "__doc__" 233,.none⟩] 3),#[]⟩ (.node ⟨(.type "tuple"),none,(.seq #[] 0),#[]⟩ (.node ⟨(.type "tuple"),none,(.seq #[] 0),#[]⟩ (.node ⟨(.type "function"),none,(.func (fnOf "__init__" "SplitFamily.__init__" (ag (inClass (top 18) 0)) (ae (inClass (top 18) 0)) (aa (inClass (top 18) 0)) .none .none .none (.str "countkin.kin" 389) none (.ref 267) .none)),#[]⟩ (.node ⟨(.type "tuple"),none,(.seq #[(.str "pairs" 835),(.str "a" 836),(.str "b" 837),(.str "c" 838),(.str "d" 839)] 0),#[]⟩ .nil .nil) (.node ⟨.none,none,(.fields #[]),#[]⟩ .nil .nil)) (.node ⟨(.type "super"),none,(.fields #[(.ref 395),(.ref 395),(.ref 395)]),#[]⟩ (.node ⟨(.type "tuple"),none,(.seq #[] 0),#[]⟩ .nil .nil) (.node ⟨.none,none,(.fields #[]),#[]⟩ .nil .nil))) (.node ⟨(.type "code"),none,(.fields #[(.str "unchecked_number" 436),(.str "Family.unchecked_number" 437),(.str "/claim/cut.py" 438),(.int 56 0),(.int 2 0),(.int 0 0),(.int 0 0),(.int 3 0),(.ref 199),(.bool true),(.int 181 0),(.ref 200),.none,(.ref 201),(.ref 202),(.ref 203),(.int 441 0),(.int 56 0),(.str "/claim/cut.py" 442)]),#[]⟩ (.node ⟨(.type "tuple"),none,(.seq #[(.str "one" 599),(.str "other" 600),(.str "thing" 601)] 0),#[]⟩ (.node ⟨.none,none,(.func { (fnOf "may_be_cut" "may_be_cut" (ag (top 37)) (ae (top 37)) (aa (top 37)) .none .none .none .none none .none .none) with globals:=0 }),#[]⟩ .nil .nil) (.node ⟨.none,none,(.fields #[]),#[]⟩ .nil .nil)) (.node ⟨(.type "tuple"),none,(.seq #[] 0),#[]⟩ (.node ⟨(.type "super"),none,(.fields #[(.ref 715),(.ref 715),(.ref 715)]),#[]⟩ .nil .nil) .nil))) (.node ⟨(.type "builtin_function_or_method"),none,(.fields #[(.builtin "object.__init_subclass__"),(.ref 106)]),#[]⟩ (.node ⟨.none,none,(.fields #[]),#[]⟩ (.node ⟨(.type "tuple"),none,(.seq #[] 0),#[]⟩ (.node ⟨.none,none,(.fields #[]),#[]⟩ .nil .nil) (.node ⟨(.type "tuple"),none,(.seq #[(.ref 395)] 0),#[]⟩ .nil .nil)) (.node ⟨.none,none,(.func { (fnOf "code_of" "Codes.code_of" (ag (inClass (top 23) 3)) (ae (inClass (top 23) 3)) (aa (inClass (top 23) 3)) .none .none .none .none none .none .none) with globals:=0 }),#[]⟩ (.node ⟨(.type "function"),none,(.func (fnOf "size_of" "Stairs.size_of" (ag (inClass (top 44) 1)) (ae (inClass (top 44) 1)) (aa (inClass (top 44) 1)) .none .none .none (.str "countkin.signs" 939) none (.ref 683) .none)),#[]⟩ .nil .nil) .nil)) (.node ⟨(.type "tuple"),none,(.seq #[(.str "self" 480),(.str "size" 481),(.str "number" 482)] 0),#[]⟩ (.node ⟨(.type "function"),none,(.func (fnOf "code_of" "RingFamily.code_of" (ag (inClass (top 22) 1)) (ae (inClass (top 22) 1)) (aa (inClass (top 22) 1)) .none .none .none (.str "countkin.ring" 617) none (.ref 363) .none)),#[]⟩ (.node ⟨(.type "tuple"),none,(.seq #[] 0),#[]⟩ .nil .nil) (.node ⟨(.type "dict"),none,(.dict #[⟨PyData.keyHash P "__module__",.str "__module__" 1289,(.str "countkin.bends" 1280)⟩,⟨PyData.keyHash P "__qualname__",.str "__qualname__" 1291,(.str "Bows" 1290)⟩,⟨PyData.keyHash P "__firstlineno__",.str "__firstlineno__" 1293,(.int 443 1292)⟩,⟨PyData.keyHash P "__init__",.str "__init__" 1300,(.ref 887)⟩,⟨PyData.keyHash P "size_of",.str "size_of" 1308,(.ref 894)⟩,⟨PyData.keyHash P "is_one",.str "is_one" 1314,(.ref 899)⟩,⟨PyData.keyHash P "bare",.str "bare" 1321,(.ref 906)⟩,⟨PyData.keyHash P "parted",.str "parted" 1332,(.ref 913)⟩,⟨PyData.keyHash P "joined",.str "joined" 1342,(.ref 920)⟩,⟨PyData.keyHash P "__static_attributes__",.str "__static_attributes__" 1343,(.ref 921)⟩] 10),#[]⟩ .nil .nil)) (.node ⟨.none,none,(.fields #[]),#[]⟩ (.node ⟨(.type "tuple"),none,(.seq #[(.str "self" 1124),(.str "thing" 1125)] 0),#[]⟩ .nil .nil) .nil)))) (.node ⟨(.type "builtin_function_or_method"),none,(.fields #[(.builtin "object.__init_subclass__"),(.ref 58)]),#[]⟩ (.node ⟨(.type "tuple"),none,(.seq #[] 0),#[]⟩ (.node ⟨.none,none,(.func { (fnOf "__init__" "Broken.__init__" (ag (inClass (top 15) 0)) (ae (inClass (top 15) 0)) (aa (inClass (top 15) 0)) .none .none .none .none none .none .none) with globals:=0 }),#[]⟩ (.node ⟨.none,none,(.fields #[]),#[]⟩ (.node ⟨(.type "frame"),none,.plain,#[(some (.ref 539)),(some (.ref 3)),(some (.ref 536)),none,(some (.str "countkin.floors" 849)),none,(some (.ref 0))]⟩ .nil .nil) (.node ⟨(.type "tuple"),none,(.seq #[] 0),#[]⟩ .nil .nil)) (.node ⟨(.type "tuple"),none,(.seq #[] 0),#[]⟩ (.node ⟨.none,none,(.fields #[(.int 292 0),(.int 4 0),(.ref 676),(.int 295 0),(.int 4 0),(.ref 683),(.int 298 0),(.int 4 0),(.ref 690),(.int 306 0),(.int 4 0),(.ref 697),(.int 309 0),(.int 4 0),(.ref 704),(.int 313 0),(.int 4 0),(.ref 711)]),#[]⟩ .nil .nil) (.node ⟨(.type "super"),none,(.fields #[(.ref 923),(.ref 923),(.ref 923)]),#[]⟩ .nil .nil))) (.node ⟨(.type "tuple"),none,(.seq #[] 0),#[]⟩ (.node ⟨.none,none,(.fields #[(.int 120 0),(.int 4 0),(.ref 356),(.int 123 0),(.int 4 0),(.ref 363),(.int 126 0),(.int 4 0),(.ref 370),(.int 129 0),(.int 4 0),(.ref 377),(.int 132 0),(.int 4 0),(.ref 384),(.int 135 0),(.int 4 0),(.ref 391)]),#[]⟩ (.node ⟨(.type "builtin_function_or_method"),none,(.fields #[(.builtin "type.__prepare__"),(.type "type")]),#[]⟩ .nil .nil) (.node ⟨(.type "tuple"),none,(.seq #[] 0),#[]⟩ .nil .nil)) (.node ⟨.none,none,(.func { (fnOf "of_code" "Cars.of_code" (ag (inClass (top 25) 4)) (ae (inClass (top 25) 4)) (aa (inClass (top 25) 4)) .none .none .none .none none .none .none) with globals:=0 }),#[]⟩ (.node ⟨(.type "tuple"),none,(.seq #[] 0),#[]⟩ .nil .nil) .nil))) (.node ⟨(.type "tuple"),none,(.seq #[] 0),#[]⟩ (.node ⟨(.type "tuple"),none,(.seq #[] 0),#[]⟩ (.node ⟨(.type "code"),none,(.fields #[(.str "number_by_parts" 573),(.str "SplitFamily.number_by_parts" 574),(.str "/claim/cut.py" 575),(.int 102 0),(.int 3 0),(.int 0 0),(.int 0 0),(.int 3 0),(.ref 311),(.bool true),(.int 181 0),(.ref 312),.none,(.ref 313),(.ref 314),(.ref 315),(.int 579 0),(.int 102 0),(.str "/claim/cut.py" 580)]),#[]⟩ (.node ⟨(.type "tuple"),none,(.seq #[] 0),#[]⟩ .nil .nil) (.node ⟨(.type "tuple"),none,(.seq #[(.str "self" 1229),(.str "thing" 1230)] 0),#[]⟩ .nil .nil)) (.node ⟨(.type "builtin_function_or_method"),none,(.fields #[(.builtin "type.__prepare__"),(.type "type")]),#[]⟩ (.node ⟨.none,none,(.fields #[]),#[]⟩ .nil .nil) .nil)) (.node ⟨(.type "getset_descriptor"),none,(.fields #[(.str "__weakref__" 499),(.ref 250),(.builtin "ExceptionGroup.__weakref__"),.none]),#[]⟩ (.node ⟨.none,none,(.fields #[]),#[]⟩ (.node ⟨(.type "code"),none,(.fields #[(.str "bare" 976),(.str "Brackets.bare" 977),(.str "/claim/cut.py" 978),(.int 271 0),(.int 1 0),(.int 0 0),(.int 0 0),(.int 3 0),(.ref 631),(.bool true),(.int 181 0),(.ref 632),.none,(.ref 633),(.ref 634),(.ref 635),(.int 980 0),(.int 271 0),(.str "/claim/cut.py" 981)]),#[]⟩ .nil .nil) (.node ⟨.none,none,(.func { (fnOf "size_of" "Bows.size_of" (ag (inClass (top 60) 1)) (ae (inClass (top 60) 1)) (aa (inClass (top 60) 1)) .none .none .none .none none .none .none) with globals:=0 }),#[]⟩ .nil .nil)) (.node ⟨(.type "tuple"),none,(.seq #[] 0),#[]⟩ (.node ⟨.none,none,(.func { (fnOf "parted" "Twins.parted" (ag (inClass (top 47) 4)) (ae (inClass (top 47) 4)) (aa (inClass (top 47) 4)) .none .none .none .none none .none .none) with globals:=0 }),#[]⟩ .nil .nil) .nil))))))) (.node (boot_o_6 P) (.node (boot_o_10 P) (.node ⟨(.type "tuple"),none,(.seq #[] 0),#[]⟩ (.node ⟨(.type "code"),none,(.fields #[(.str "ring_many" 207),(.str "ring_many" 208),(.str "/claim/cut.py" 209),(.int 11 0),(.int 1 0),(.int 0 0),(.int 0 0),(.int 3 0),(.ref 29),(.bool true),(.int 181 0),(.ref 30),.none,(.ref 31),(.ref 32),(.ref 33),(.int 213 0),(.int 11 0),(.str "/claim/cut.py" 214)]),#[]⟩ (.node ⟨(.type "code"),none,(.fields #[(.str "NoNumber" 254),(.str "NoNumber" 255),(.str "/claim/cut.py" 256),(.int 21 0),(.int 0 0),(.int 0 0),(.int 0 0),(.int 0 0),(.ref 64),(.bool false),(.int 181 0),(.ref 65),.none,.none,.none,.none,(.int 257 0),(.int 21 0),(.str "/claim/cut.py" 258)]),#[]⟩ (.node ⟨(.type "type"),none,(.cls ⟨"NoMark",[(.ref 45)],[(.ref 130),(.ref 45),(.type "ValueError"),(.type "Exception"),(.type "BaseException"),(.type "object")],129,"NoMark",true,[],[],false,none,false⟩),#[(some (.ref 121)),none,(some (.str "NoMark" 332)),(some (.str "NoMark" 340)),(some (.builtin "ValueError.__new__")),(some (.bool true))]⟩ (.node ⟨(.type "tuple"),none,(.seq #[] 0),#[]⟩ (.node ⟨(.type "function"),none,(.func (fnOf "flat" "flat" (ag (top 31)) (ae (top 31)) (aa (top 31)) .none .none .none (.str "countkin.common" 802) none (.ref 513) .none)),#[]⟩ .nil .nil) (.node ⟨(.type "tuple"),none,(.seq #[] 0),#[]⟩ .nil .nil)) (.node ⟨(.type "tuple"),none,(.seq #[] 0),#[]⟩ (.node ⟨.none,none,(.func { (fnOf "parted" "Brackets.parted" (ag (inClass (top 42) 4)) (ae (inClass (top 42) 4)) (aa (inClass (top 42) 4)) .none .none .none .none none .none .none) with globals:=0 }),#[]⟩ .nil .nil) (.node ⟨(.type "code"),none,(.fields #[(.str "is_one" 1309),(.str "Bows.is_one" 1310),(.str "/claim/cut.py" 1311),(.int 451 0),(.int 2 0),(.int 0 0),(.int 0 0),(.int 3 0),(.ref 895),(.bool true),(.int 181 0),(.ref 896),.none,.none,.none,(.ref 897),(.int 1312 0),(.int 451 0),(.str "/claim/cut.py" 1313)]),#[]⟩ .nil .nil))) (.node ⟨(.type "tuple"),none,(.seq #[(.str "self" 431),(.str "size" 432)] 0),#[]⟩ (.node ⟨.none,none,(.func { (fnOf "thing_by_parts" "SplitFamily.thing_by_parts" (ag (inClass (top 18) 8)) (ae (inClass (top 18) 8)) (aa (inClass (top 18) 8)) .none .none .none .none none .none .none) with globals:=0 }),#[]⟩ (.node ⟨(.type "function"),none,(.func (fnOf "joined" "Floors.joined" (ag (inClass (top 36) 5)) (ae (inClass (top 36) 5)) (aa (inClass (top 36) 5)) .none .none .none (.str "countkin.floors" 849) none (.ref 577) .none)),#[]⟩ .nil .nil) (.node ⟨.none,none,(.fields #[]),#[]⟩ .nil .nil)) (.node ⟨(.type "tuple"),none,(.seq #[] 0),#[]⟩ (.node ⟨(.type "tuple"),none,(.seq #[] 0),#[]⟩ .nil .nil) .nil))) (.node ⟨(.type "builtin_function_or_method"),none,(.fields #[(.builtin "type.__prepare__"),(.type "type")]),#[]⟩ (.node ⟨(.type "super"),none,(.fields #[(.ref 161),(.ref 161),(.ref 161)]),#[]⟩ (.node ⟨(.type "tuple"),none,(.seq #[] 0),#[]⟩ (.node ⟨(.type "code"),none,(.fields #[(.str "__init__" 863),(.str "Floors.__init__" 864),(.str "/claim/cut.py" 865),(.int 209 0),(.int 1 0),(.int 0 0),(.int 0 0),(.int 3 0),(.ref 541),(.bool true),(.int 181 0),(.ref 542),.none,(.ref 543),(.ref 544),(.ref 545),(.int 867 0),(.int 209 0),(.str "/claim/cut.py" 868)]),#[]⟩ .nil .nil) (.node ⟨(.type "tuple"),none,(.seq #[(.str "lines" 1191),(.str "twin" 1192),(.str "corner" 1193),(.str "third" 1194),(.str "end" 1195)] 0),#[]⟩ .nil .nil)) (.node ⟨(.type "function"),none,(.func (fnOf "size_of" "Codes.size_of" (ag (inClass (top 23) 1)) (ae (inClass (top 23) 1)) (aa (inClass (top 23) 1)) .none .none .none (.str "countkin.ring" 617) none (.ref 417) .none)),#[]⟩ (.node ⟨(.type "tuple"),none,(.seq #[] 0),#[]⟩ .nil .nil) .nil)) (.node ⟨(.type "function"),none,(.func (fnOf "refuse_other" "Family.refuse_other" (ag (inClass (top 17) 7)) (ae (inClass (top 17) 7)) (aa (inClass (top 17) 7)) .none .none .none (.str "countkin.kin" 389) none (.ref 225) .none)),#[]⟩ (.node ⟨(.type "tuple"),none,(.seq #[] 0),#[]⟩ (.node ⟨(.type "tuple"),none,(.seq #[] 0),#[]⟩ .nil .nil) (.node ⟨(.type "function"),none,(.func (fnOf "tree_to_code" "tree_to_code" (ag (top 57)) (ae (top 57)) (aa (top 57)) .none .none .none (.str "countkin.elders" 1205) none (.ref 865) .none)),#[]⟩ .nil .nil)) (.node ⟨(.type "super"),none,(.fields #[(.ref 481),(.ref 481),(.ref 481)]),#[]⟩ (.node ⟨(.type "function"),none,(.func (fnOf "__init__" "Twins.__init__" (ag (inClass (top 47) 0)) (ae (inClass (top 47) 0)) (aa (inClass (top 47) 0)) .none .none .none (.str "countkin.twigs" 1089) none (.ref 737) .none)),#[]⟩ .nil .nil) .nil)))) (.node ⟨(.type "builtin_function_or_method"),none,(.fields #[(.builtin "type.__prepare__"),(.type "type")]),#[]⟩ (.node ⟨(.type "type"),none,(.cls ⟨"NoThing",[(.ref 45)],[(.ref 82),(.ref 45),(.type "ValueError"),(.type "Exception"),(.type "BaseException"),(.type "object")],81,"NoThing",true,[],[],false,none,false⟩),#[(some (.ref 73)),none,(some (.str "NoThing" 268)),(some (.str "NoThing" 276)),(some (.builtin "ValueError.__new__")),(some (.bool true))]⟩ (.node ⟨(.type "builtin_function_or_method"),none,(.fields #[(.builtin "type.__prepare__"),(.type "type")]),#[]⟩ (.node ⟨(.type "code"),none,(.fields #[(.str "bare" 524),(.str "SplitFamily.bare" 525),(.str "/claim/cut.py" 526),(.int 84 0),(.int 1 0),(.int 0 0),(.int 0 0),(.int 3 0),(.ref 269),(.bool true),(.int 181 0),(.ref 270),.none,(.ref 271),(.ref 272),(.ref 273),(.int 528 0),(.int 84 0),(.str "/claim/cut.py" 529)]),#[]⟩ (.node ⟨.none,none,(.fields #[]),#[]⟩ .nil .nil) (.node ⟨(.type "tuple"),none,(.seq #[] 0),#[]⟩ .nil .nil)) (.node ⟨.none,none,(.fields #[(.int 139 0),(.int 4 0),(.ref 410),(.int 142 0),(.int 4 0),(.ref 417),(.int 145 0),(.int 4 0),(.ref 422),(.int 149 0),(.int 4 0),(.ref 429),(.int 152 0),(.int 4 0),(.ref 436)]),#[]⟩ (.node ⟨.none,none,(.fields #[]),#[]⟩ .nil .nil) (.node ⟨(.type "tuple"),none,(.seq #[] 0),#[]⟩ .nil .nil))) (.node ⟨.none,none,(.func { (fnOf "unchecked_thing" "Family.unchecked_thing" (ag (inClass (top 17) 5)) (ae (inClass (top 17) 5)) (aa (inClass (top 17) 5)) .none .none .none .none none .none .none) with globals:=0 }),#[]⟩ (.node ⟨.none,none,(.fields #[]),#[]⟩ (.node ⟨(.type "code"),none,(.fields #[(.str "third_corner" 922),(.str "third_corner" 923),(.str "/claim/cut.py" 924),(.int 246 0),(.int 3 0),(.int 0 0),(.int 0 0),(.int 3 0),(.ref 591),(.bool true),(.int 181 0),(.ref 592),.none,.none,.none,(.ref 593),(.int 925 0),(.int 246 0),(.str "/claim/cut.py" 926)]),#[]⟩ .nil .nil) (.node ⟨(.type "type"),none,(.cls ⟨"Trees",[(.ref 395)],[(.ref 850),(.ref 395),(.ref 250),(.type "object")],849,"Trees",true,[],[],false,none,false⟩),#[(some (.ref 812)),none,(some (.str "Trees" 1207)),(some (.str "Trees" 1215)),(some (.builtin "object.__new__")),(some (.bool true))]⟩ .nil .nil)) (.node ⟨.none,none,(.func { (fnOf "is_one" "Cars.is_one" (ag (inClass (top 25) 2)) (ae (inClass (top 25) 2)) (aa (inClass (top 25) 2)) .none .none .none .none none .none .none) with globals:=0 }),#[]⟩ (.node ⟨.none,none,(.func { (fnOf "right_begin" "right_begin" (ag (top 45)) (ae (top 45)) (aa (top 45)) .none .none .none .none none .none .none) with globals:=0 }),#[]⟩ .nil .nil) .nil))) (.node ⟨(.type "code"),none,(.fields #[(.str "Apart" 318),(.str "Apart" 319),(.str "/claim/cut.py" 320),(.int 29 0),(.int 0 0),(.int 0 0),(.int 0 0),(.int 0 0),(.ref 112),(.bool false),(.int 181 0),(.ref 113),.none,.none,.none,.none,(.int 321 0),(.int 29 0),(.str "/claim/cut.py" 322)]),#[]⟩ (.node ⟨(.type "tuple"),none,(.seq #[] 0),#[]⟩ (.node ⟨(.type "tuple"),none,(.seq #[(.str "self" 567),(.str "size" 568),(.str "number" 569)] 0),#[]⟩ (.node ⟨(.type "tuple"),none,(.seq #[(.str "self" 887)] 0),#[]⟩ .nil .nil) (.node ⟨(.type "frame"),none,.plain,#[(some (.ref 817)),(some (.ref 3)),(some (.ref 814)),none,(some (.str "countkin.elders" 1205)),none,(some (.ref 0))]⟩ .nil .nil)) (.node ⟨(.type "tuple"),none,(.seq #[] 0),#[]⟩ (.node ⟨(.type "code"),none,(.fields #[(.str "is_one" 1041),(.str "Stairs.is_one" 1042),(.str "/claim/cut.py" 1043),(.int 298 0),(.int 2 0),(.int 0 0),(.int 0 0),(.int 3 0),(.ref 685),(.bool true),(.int 181 0),(.ref 686),.none,(.ref 687),(.ref 688),(.ref 689),(.int 1049 0),(.int 298 0),(.str "/claim/cut.py" 1050)]),#[]⟩ .nil .nil) .nil)) (.node ⟨.none,none,(.fields #[]),#[]⟩ (.node ⟨(.type "code"),none,(.fields #[(.str "of_code" 647),(.str "RingFamily.of_code" 648),(.str "/claim/cut.py" 649),(.int 126 0),(.int 2 0),(.int 0 0),(.int 0 0),(.int 3 0),(.ref 365),(.bool true),(.int 181 0),(.ref 366),.none,(.ref 367),(.ref 368),(.ref 369),(.int 652 0),(.int 126 0),(.str "/claim/cut.py" 653)]),#[]⟩ (.node ⟨(.type "tuple"),none,(.seq #[(.str "self" 971),(.str "thing" 972)] 0),#[]⟩ .nil .nil) (.node ⟨.none,none,(.fields #[]),#[]⟩ .nil .nil)) (.node ⟨(.type "tuple"),none,(.seq #[] 0),#[]⟩ (.node ⟨.none,none,(.fields #[]),#[]⟩ .nil .nil) .nil))))) (.node ⟨.none,none,(.func { (fnOf "by_rule" "by_rule" (ag (top 3)) (ae (top 3)) (aa (top 3)) .none .none .none .none none .none .none) with globals:=0 }),#[]⟩ (.node ⟨(.type "frame"),none,.plain,#[(some (.ref 41)),(some (.ref 3)),(some (.ref 38)),none,(some (.str "countkin.errors" 216)),none,(some (.ref 0))]⟩ (.node ⟨(.type "builtin_function_or_method"),none,(.fields #[(.builtin "type.__prepare__"),(.type "type")]),#[]⟩ (.node ⟨(.type "code"),none,(.fields #[(.str "NoText" 350),(.str "NoText" 351),(.str "/claim/cut.py" 352),(.int 33 0),(.int 0 0),(.int 0 0),(.int 0 0),(.int 0 0),(.ref 136),(.bool false),(.int 181 0),(.ref 137),.none,.none,.none,.none,(.int 353 0),(.int 33 0),(.str "/claim/cut.py" 354)]),#[]⟩ (.node ⟨.none,none,(.func { (fnOf "__init__" "SplitFamily.__init__" (ag (inClass (top 18) 0)) (ae (inClass (top 18) 0)) (aa (inClass (top 18) 0)) .none .none .none .none none .none .none) with globals:=0 }),#[]⟩ (.node ⟨(.type "tuple"),none,(.seq #[] 0),#[]⟩ .nil .nil) (.node ⟨(.type "builtin_function_or_method"),none,(.fields #[(.builtin "object.__init_subclass__"),(.ref 776)]),#[]⟩ .nil .nil)) (.node ⟨(.type "dict"),none,(.dict #[⟨PyData.keyHash P "__module__",.str "__module__" 626,(.str "countkin.ring" 617)⟩,⟨PyData.keyHash P "__firstlineno__",.str "__firstlineno__" 630,(.int 118 629)⟩,⟨PyData.keyHash P "__init__",.str "__init__" 638,(.ref 357)⟩,⟨PyData.keyHash P "code_of",.str "code_of" 646,(.ref 364)⟩,⟨PyData.keyHash P "of_code",.str "of_code" 654,(.ref 371)⟩,⟨PyData.keyHash P "unchecked_many",.str "unchecked_many" 662,(.ref 378)⟩,⟨PyData.keyHash P "unchecked_number",.str "unchecked_number" 670,(.ref 385)⟩,⟨PyData.keyHash P "unchecked_thing",.str "unchecked_thing" 679,(.ref 392)⟩,⟨PyData.keyHash P "__static_attributes__",.str "__static_attributes__" 680,(.ref 393)⟩,⟨PyData.keyHash P "__doc__",.str "__doc__" 681,.none⟩] 2),#[]⟩ (.node ⟨(.type "code"),none,(.fields #[(.str "joined" 992),(.str "Brackets.joined" 993),(.str "/claim/cut.py" 994),(.int 278 0),(.int 3 0),(.int 0 0),(.int 0 0),(.int 3 0),(.ref 645),(.bool true),(.int 181 0),(.ref 646),.none,(.ref 647),(.ref 648),(.ref 649),(.int 998 0),(.int 278 0),(.str "/claim/cut.py" 999)]),#[]⟩ .nil .nil) (.node ⟨(.type "function"),none,(.func (fnOf "bare" "Bows.bare" (ag (inClass (top 60) 3)) (ae (inClass (top 60) 3)) (aa (inClass (top 60) 3)) .none .none .none (.str "countkin.bends" 1280) none (.ref 905) .none)),#[]⟩ .nil .nil))) (.node ⟨(.type "tuple"),none,(.seq #[] 0),#[]⟩ (.node ⟨(.type "tuple"),none,(.seq #[] 0),#[]⟩ (.node ⟨(.type "tuple"),none,(.seq #[(.str "corners" 916),(.str "a" 917),(.str "b" 918)] 0),#[]⟩ .nil .nil) (.node ⟨(.type "function"),none,(.func (fnOf "code_of" "Trees.code_of" (ag (inClass (top 55) 3)) (ae (inClass (top 55) 3)) (aa (inClass (top 55) 3)) .none .none .none (.str "countkin.elders" 1205) none (.ref 841) .none)),#[]⟩ .nil .nil)) (.node ⟨.none,none,(.fields #[]),#[]⟩ (.node ⟨(.type "dict"),none,(.dict #[⟨PyData.keyHash P "__module__",.str "__module__" 1021,(.str "countkin.signs" 939)⟩,⟨PyData.keyHash P "__firstlineno__",.str "__firstlineno__" 1025,(.int 290 1024)⟩,⟨PyData.keyHash P "__init__",.str "__init__" 1032,(.ref 677)⟩,⟨PyData.keyHash P "size_of",.str "size_of" 1040,(.ref 684)⟩,⟨PyData.keyHash P "is_one",.str "is_one" 1051,(.ref 691)⟩,⟨PyData.keyHash P "bare",.str "bare" 1058,(.ref 698)⟩,⟨PyData.keyHash P "parted",.str "parted" 1067,(.ref 705)⟩,⟨PyData.keyHash P "joined",.str "joined" 1076,(.ref 712)⟩,⟨PyData.keyHash P "__static_attributes__",.str "__static_attributes__" 1077,(.ref 713)⟩,⟨PyData.keyHash P "__doc__",.str "__doc__" 1078,.none⟩] 2),#[]⟩ .nil .nil) .nil))) (.node ⟨(.type "type"),none,(.cls ⟨"NoWay",[(.ref 45)],[(.ref 106),(.ref 45),(.type "ValueError"),(.type "Exception"),(.type "BaseException"),(.type "object")],105,"NoWay",true,[],[],false,none,false⟩),#[(some (.ref 97)),none,(some (.str "NoWay" 300)),(some (.str "NoWay" 308)),(some (.builtin "ValueError.__new__")),(some (.bool true))]⟩ (.node ⟨(.type "frame"),none,.plain,#[(some (.ref 169)),(some (.ref 3)),(some (.ref 166)),none,(some (.str "countkin.kin" 389)),none,(some (.ref 0))]⟩ (.node ⟨.none,none,(.fields #[]),#[]⟩ (.node ⟨(.type "function"),none,(.func (fnOf "size_of" "Floors.size_of" (ag (inClass (top 36) 1)) (ae (inClass (top 36) 1)) (aa (inClass (top 36) 1)) .none .none .none (.str "countkin.floors" 849) none (.ref 553) .none)),#[]⟩ .nil .nil) (.node ⟨(.type "code"),none,(.fields #[(.str "floor_to_twins" 1199),(.str "floor_to_twins" 1200),(.str "/claim/cut.py" 1201),(.int 383 0),(.int 1 0),(.int 0 0),(.int 0 0),(.int 3 0),(.ref 807),(.bool true),(.int 181 0),(.ref 808),.none,.none,.none,(.ref 809),(.int 1202 0),(.int 383 0),(.str "/claim/cut.py" 1203)]),#[]⟩ .nil .nil)) (.node ⟨(.type "tuple"),none,(.seq #[(.str "self" 720),(.str "thing" 721)] 0),#[]⟩ (.node ⟨.none,none,(.func { (fnOf "size_of" "Stairs.size_of" (ag (inClass (top 44) 1)) (ae (inClass (top 44) 1)) (aa (inClass (top 44) 1)) .none .none .none .none none .none .none) with globals:=0 }),#[]⟩ .nil .nil) .nil)) (.node ⟨(.type "tuple"),none,(.seq #[] 0),#[]⟩ (.node ⟨.none,none,(.func { (fnOf "code_of" "RingFamily.code_of" (ag (inClass (top 22) 1)) (ae (inClass (top 22) 1)) (aa (inClass (top 22) 1)) .none .none .none .none none .none .none) with globals:=0 }),#[]⟩ (.node ⟨.none,none,(.fields #[]),#[]⟩ .nil .nil) (.node ⟨(.type "tuple"),none,(.seq #[(.ref 327)] 0),#[]⟩ .nil .nil)) (.node ⟨(.type "function"),none,(.func (fnOf "cars_to_code" "cars_to_code" (ag (top 26)) (ae (top 26)) (aa (top 26)) .none .none .none (.str "countkin.cars" 737) none (.ref 489) .none)),#[]⟩ (.node ⟨(.type "tuple"),none,(.seq #[] 0),#[]⟩ .nil .nil) .nil)))) (.node ⟨(.type "type"),none,(.cls ⟨"NoSize",[(.ref 45)],[(.ref 58),(.ref 45),(.type "ValueError"),(.type "Exception"),(.type "BaseException"),(.type "object")],57,"NoSize",true,[],[],false,none,false⟩),#[(some (.ref 49)),none,(some (.str "NoSize" 236)),(some (.str "NoSize" 244)),(some (.builtin "ValueError.__new__")),(some (.bool true))]⟩ (.node ⟨(.type "code"),none,(.fields #[(.str "NoFamily" 286),(.str "NoFamily" 287),(.str "/claim/cut.py" 288),(.int 25 0),(.int 0 0),(.int 0 0),(.int 0 0),(.int 0 0),(.ref 88),(.bool false),(.int 181 0),(.ref 89),.none,.none,.none,.none,(.int 289 0),(.int 25 0),(.str "/claim/cut.py" 290)]),#[]⟩ (.node ⟨(.type "tuple"),none,(.seq #[(.str "self" 379),(.str "place" 380)] 0),#[]⟩ (.node ⟨(.type "function"),none,(.func (fnOf "parted" "SplitFamily.parted" (ag (inClass (top 18) 2)) (ae (inClass (top 18) 2)) (aa (inClass (top 18) 2)) .none .none .none (.str "countkin.kin" 389) none (.ref 281) .none)),#[]⟩ (.node ⟨.none,none,(.fields #[(.int 209 0),(.int 4 0),(.ref 546),(.int 212 0),(.int 4 0),(.ref 553),(.int 215 0),(.int 4 0),(.ref 558),(.int 224 0),(.int 4 0),(.ref 565),(.int 227 0),(.int 4 0),(.ref 570),(.int 235 0),(.int 4 0),(.ref 577)]),#[]⟩ .nil .nil) (.node ⟨.none,none,(.fields #[]),#[]⟩ .nil .nil)) (.node ⟨(.type "code"),none,(.fields #[(.str "__init__" 696),(.str "Codes.__init__" 697),(.str "/claim/cut.py" 698),(.int 139 0),(.int 1 0),(.int 0 0),(.int 0 0),(.int 3 0),(.ref 405),(.bool true),(.int 181 0),(.ref 406),.none,(.ref 407),(.ref 408),(.ref 409),(.int 700 0),(.int 139 0),(.str "/claim/cut.py" 701)]),#[]⟩ (.node ⟨(.type "dict"),none,(.dict #[⟨PyData.keyHash P "__module__",.str "__module__" 1021,(.str "countkin.signs" 939)⟩,⟨PyData.keyHash P "__qualname__",.str "__qualname__" 1023,(.str "Stairs" 1022)⟩,⟨PyData.keyHash P "__firstlineno__",.str "__firstlineno__" 1025,(.int 290 1024)⟩,⟨PyData.keyHash P "__init__",.str "__init__" 1032,(.ref 677)⟩,⟨PyData.keyHash P "size_of",.str "size_of" 1040,(.ref 684)⟩,⟨PyData.keyHash P "is_one",.str "is_one" 1051,(.ref 691)⟩,⟨PyData.keyHash P "bare",.str "bare" 1058,(.ref 698)⟩,⟨PyData.keyHash P "parted",.str "parted" 1067,(.ref 705)⟩,⟨PyData.keyHash P "joined",.str "joined" 1076,(.ref 712)⟩,⟨PyData.keyHash P "__static_attributes__",.str "__static_attributes__" 1077,(.ref 713)⟩] 10),#[]⟩ .nil .nil) (.node ⟨(.type "dict"),none,(.dict #[⟨PyData.keyHash P "__module__",.str "__module__" 1289,(.str "countkin.bends" 1280)⟩,⟨PyData.keyHash P "__firstlineno__",.str "__firstlineno__" 1293,(.int 443 1292)⟩,⟨PyData.keyHash P "__init__",.str "__init__" 1300,(.ref 887)⟩,⟨PyData.keyHash P "size_of",.str "size_of" 1308,(.ref 894)⟩,⟨PyData.keyHash P "is_one",.str "is_one" 1314,(.ref 899)⟩,⟨PyData.keyHash P "bare",.str "bare" 1321,(.ref 906)⟩,⟨PyData.keyHash P "parted",.str "parted" 1332,(.ref 913)⟩,⟨PyData.keyHash P "joined",.str "joined" 1342,(.ref 920)⟩,⟨PyData.keyHash P "__static_attributes__",.str "__static_attributes__" 1343,(.ref 921)⟩,⟨PyData.keyHash P "__doc__",.str "__doc__" 1344,.none⟩] 2),#[]⟩ .nil .nil))) (.node ⟨(.type "code"),none,(.fields #[(.str "many" 453),(.str "Family.many" 454),(.str "/claim/cut.py" 455),(.int 62 0),(.int 2 0),(.int 0 0),(.int 0 0),(.int 3 0),(.ref 213),(.bool true),(.int 181 0),(.ref 214),.none,(.ref 215),(.ref 216),(.ref 217),(.int 458 0),(.int 62 0),(.str "/claim/cut.py" 459)]),#[]⟩ (.node ⟨(.type "dict"),none,(.dict #[⟨PyData.keyHash P "__module__",.str "__module__" 626,(.str "countkin.ring" 617)⟩,⟨PyData.keyHash P "__qualname__",.str "__qualname__" 628,(.str "RingFamily" 627)⟩,⟨PyData.keyHash P "__firstlineno__",.str "__firstlineno__" 630,(.int 118 629)⟩,⟨PyData.keyHash P "__init__",.str "__init__" 638,(.ref 357)⟩,⟨PyData.keyHash P "code_of",.str "code_of" 646,(.ref 364)⟩,⟨PyData.keyHash P "of_code",.str "of_code" 654,(.ref 371)⟩,⟨PyData.keyHash P "unchecked_many",.str "unchecked_many" 662,(.ref 378)⟩,⟨PyData.keyHash P "unchecked_number",.str "unchecked_number" 670,(.ref 385)⟩,⟨PyData.keyHash P "unchecked_thing",.str "unchecked_thing" 679,(.ref 392)⟩,⟨PyData.keyHash P "__static_attributes__",.str "__static_attributes__" 680,(.ref 393)⟩] 10),#[]⟩ (.node ⟨(.type "function"),none,(.func (fnOf "closes" "closes" (ag (top 40)) (ae (top 40)) (aa (top 40)) .none .none .none (.str "countkin.steps" 928) none (.ref 601) .none)),#[]⟩ .nil .nil) (.node ⟨(.type "code"),none,(.fields #[(.str "comes_to_0" 1256),(.str "comes_to_0" 1257),(.str "/claim/cut.py" 1258),(.int 430 0),(.int 2 0),(.int 0 0),(.int 0 0),(.int 3 0),(.ref 853),(.bool true),(.int 181 0),(.ref 854),.none,(.ref 855),(.ref 856),(.ref 857),(.int 1263 0),(.int 430 0),(.str "/claim/cut.py" 1264)]),#[]⟩ .nil .nil)) (.node ⟨(.type "tuple"),none,(.seq #[] 0),#[]⟩ (.node ⟨(.type "code"),none,(.fields #[(.str "Twins" 1093),(.str "Twins" 1094),(.str "/claim/cut.py" 1095),(.int 321 0),(.int 0 0),(.int 0 0),(.int 0 0),(.int 0 0),(.ref 728),(.bool false),(.int 181 0),(.ref 729),.none,.none,.none,.none,(.int 1096 0),(.int 321 0),(.str "/claim/cut.py" 1097)]),#[]⟩ .nil .nil) .nil))) (.node ⟨(.type "builtin_function_or_method"),none,(.fields #[(.builtin "type.__prepare__"),(.type "type")]),#[]⟩ (.node ⟨.none,none,(.fields #[]),#[]⟩ (.node ⟨(.type "tuple"),none,(.seq #[] 0),#[]⟩ (.node ⟨(.type "code"),none,(.fields #[(.str "parted" 891),(.str "Floors.parted" 892),(.str "/claim/cut.py" 893),(.int 227 0),(.int 2 0),(.int 0 0),(.int 0 0),(.int 3 0),(.ref 567),(.bool true),(.int 181 0),(.ref 568),.none,.none,.none,(.ref 569),(.int 894 0),(.int 227 0),(.str "/claim/cut.py" 895)]),#[]⟩ .nil .nil) (.node ⟨(.type "tuple"),none,(.seq #[] 0),#[]⟩ .nil .nil)) (.node ⟨(.type "builtin_function_or_method"),none,(.fields #[(.builtin "object.__init_subclass__"),(.ref 440)]),#[]⟩ (.node ⟨(.type "function"),none,(.func (fnOf "bare" "Stairs.bare" (ag (inClass (top 44) 3)) (ae (inClass (top 44) 3)) (aa (inClass (top 44) 3)) .none .none .none (.str "countkin.signs" 939) none (.ref 697) .none)),#[]⟩ .nil .nil) .nil)) (.node ⟨(.type "type"),none,(.cls ⟨"Family",[(.type "object")],[(.ref 250),(.type "object")],249,"Family",true,[],[(.ref 327),(.ref 395)],false,none,false⟩),#[none,none,(some (.str "Family" 391)),(some (.str "Family" 399)),(some (.builtin "object.__new__")),(some (.bool true))]⟩ (.node ⟨(.type "function"),none,(.func (fnOf "unchecked_many" "RingFamily.unchecked_many" (ag (inClass (top 22) 3)) (ae (inClass (top 22) 3)) (aa (inClass (top 22) 3)) .none .none .none (.str "countkin.ring" 617) none (.ref 377) .none)),#[]⟩ (.node ⟨(.type "tuple"),none,(.seq #[] 0),#[]⟩ .nil .nil) (.node ⟨(.type "tuple"),none,(.seq #[(.str "self" 1304),(.str "thing" 1305)] 0),#[]⟩ .nil .nil)) (.node ⟨(.type "code"),none,(.fields #[(.str "pairs_raised_by" 810),(.str "pairs_raised_by" 811),(.str "/claim/cut.py" 812),(.int 189 0),(.int 2 0),(.int 0 0),(.int 0 0),(.int 3 0),(.ref 503),(.bool true),(.int 181 0),(.ref 504),.none,.none,.none,(.ref 505),(.int 813 0),(.int 189 0),(.str "/claim/cut.py" 814)]),#[]⟩ (.node ⟨(.type "tuple"),none,(.seq #[(.str "self" 1139),(.str "thing" 1140)] 0),#[]⟩ .nil .nil) .nil)))))) (.node ⟨(.type "frame"),none,.plain,#[(some (.ref 13)),(some (.ref 3)),(some (.ref 3)),none,(some (.str "__main__" 164)),none,(some (.ref 0))]⟩ (.node ⟨(.type "tuple"),none,(.seq #[] 0),#[]⟩ (.node ⟨(.type "dict"),none,(.dict #[⟨PyData.keyHash P "__module__",.str "__module__" 225,(.str "countkin.errors" 216)⟩,⟨PyData.keyHash P "__qualname__",.str "__qualname__" 227,(.str "KinError" 226)⟩,⟨PyData.keyHash P "__firstlineno__",.str "__firstlineno__" 229,(.int 17 228)⟩,⟨PyData.keyHash P "__static_attributes__",.str "__static_attributes__" 230,(.ref 43)⟩] 4),#[]⟩ (.node ⟨(.type "type"),none,(.cls ⟨"NoNumber",[(.ref 45)],[(.ref 70),(.ref 45),(.type "ValueError"),(.type "Exception"),(.type "BaseException"),(.type "object")],69,"NoNumber",true,[],[],false,none,false⟩),#[(some (.ref 61)),none,(some (.str "NoNumber" 252)),(some (.str "NoNumber" 260)),(some (.builtin "ValueError.__new__")),(some (.bool true))]⟩ (.node ⟨(.type "builtin_function_or_method"),none,(.fields #[(.builtin "type.__prepare__"),(.type "type")]),#[]⟩ (.node ⟨(.type "tuple"),none,(.seq #[] 0),#[]⟩ (.node ⟨(.type "tuple"),none,(.seq #[] 0),#[]⟩ .nil .nil) (.node ⟨(.type "tuple"),none,(.seq #[] 0),#[]⟩ .nil .nil)) (.node ⟨.none,none,(.func { (fnOf "unchecked_thing" "RingFamily.unchecked_thing" (ag (inClass (top 22) 5)) (ae (inClass (top 22) 5)) (aa (inClass (top 22) 5)) .none .none .none .none none .none .none) with globals:=0 }),#[]⟩ (.node ⟨.none,none,(.fields #[]),#[]⟩ .nil .nil) (.node ⟨(.type "tuple"),none,(.seq #[(.str "self" 1318)] 0),#[]⟩ .nil .nil))) (.node ⟨(.type "function"),none,(.func (fnOf "unchecked_many" "Family.unchecked_many" (ag (inClass (top 17) 3)) (ae (inClass (top 17) 3)) (aa (inClass (top 17) 3)) .none .none .none (.str "countkin.kin" 389) none (.ref 197) .none)),#[]⟩ (.node ⟨(.type "dict"),none,(.dict #[⟨PyData.keyHash P "__module__",.str "__module__" 511,(.str "countkin.kin" 389)⟩,⟨PyData.keyHash P "__firstlineno__",.str "__firstlineno__" 515,(.int 79 514)⟩,⟨PyData.keyHash P "__init__",.str "__init__" 523,(.ref 268)⟩,⟨PyData.keyHash P "bare",.str "bare" 530,(.ref 275)⟩,⟨PyData.keyHash P "parted",.str "parted" 538,(.ref 282)⟩,⟨PyData.keyHash P "joined",.str "joined" 547,(.ref 289)⟩,⟨PyData.keyHash P "unchecked_many",.str "unchecked_many" 555,(.ref 296)⟩,⟨PyData.keyHash P "unchecked_number",.str "unchecked_number" 563,(.ref 303)⟩,⟨PyData.keyHash P "unchecked_thing",.str "unchecked_thing" 572,(.ref 310)⟩,⟨PyData.keyHash P "number_by_parts",.str "number_by_parts" 581,(.ref 317)⟩,⟨PyData.keyHash P "thing_by_parts",.str "thing_by_parts" 591,(.ref 324)⟩,⟨PyData.keyHash P "__static_attributes__",.str "__static_attributes__" 592,(.ref 325)⟩,⟨PyData.keyHash P "__doc__",.str "__doc__" 593,.none⟩] 2),#[]⟩ (.node ⟨(.type "super"),none,(.fields #[(.ref 581),(.ref 581),(.ref 581)]),#[]⟩ .nil .nil) (.node ⟨(.type "tuple"),none,(.seq #[] 0),#[]⟩ .nil .nil)) (.node ⟨.none,none,(.func { (fnOf "__init__" "Cars.__init__" (ag (inClass (top 25) 0)) (ae (inClass (top 25) 0)) (aa (inClass (top 25) 0)) .none .none .none .none none .none .none) with globals:=0 }),#[]⟩ (.node ⟨.none,none,(.func { (fnOf "joined" "Stairs.joined" (ag (inClass (top 44) 5)) (ae (inClass (top 44) 5)) (aa (inClass (top 44) 5)) .none .none .none .none none .none .none) with globals:=0 }),#[]⟩ .nil .nil) .nil))) (.node ⟨(.type "code"),none,(.fields #[(.str "NoWay" 302),(.str "NoWay" 303),(.str "/claim/cut.py" 304),(.int 27 0),(.int 0 0),(.int 0 0),(.int 0 0),(.int 0 0),(.ref 100),(.bool false),(.int 181 0),(.ref 101),.none,.none,.none,.none,(.int 305 0),(.int 27 0),(.str "/claim/cut.py" 306)]),#[]⟩ (.node ⟨(.type "dict"),none,(.dict #[⟨PyData.keyHash P "__module__",.str "__module__" 398,(.str "countkin.kin" 389)⟩,⟨PyData.keyHash P "__qualname__",.str "__qualname__" 400,(.str "Family" 399)⟩,⟨PyData.keyHash P "__firstlineno__",.str "__firstlineno__" 402,(.int 41 401)⟩,⟨PyData.keyHash P "__init__",.str "__init__" 411,(.ref 177)⟩,⟨PyData.keyHash P "size_of",.str "size_of" 419,(.ref 184)⟩,⟨PyData.keyHash P "is_one",.str "is_one" 427,(.ref 191)⟩,⟨PyData.keyHash P "unchecked_many",.str "unchecked_many" 435,(.ref 198)⟩,⟨PyData.keyHash P "unchecked_number",.str "unchecked_number" 443,(.ref 205)⟩,⟨PyData.keyHash P "unchecked_thing",.str "unchecked_thing" 452,(.ref 212)⟩,⟨PyData.keyHash P "many",.str "many" 460,(.ref 219)⟩,⟨PyData.keyHash P "refuse_other",.str "refuse_other" 468,(.ref 226)⟩,⟨PyData.keyHash P "number_of",.str "number_of" 476,(.ref 233)⟩,⟨PyData.keyHash P "thing_of",.str "thing_of" 485,(.ref 240)⟩,⟨PyData.keyHash P "next_of",.str "next_of" 493,(.ref 247)⟩,⟨PyData.keyHash P "__static_attributes__",.str "__static_attributes__" 496,(.ref 248)⟩] 15),#[]⟩ (.node ⟨.none,none,(.func { (fnOf "unchecked_many" "SplitFamily.unchecked_many" (ag (inClass (top 18) 4)) (ae (inClass (top 18) 4)) (aa (inClass (top 18) 4)) .none .none .none .none none .none .none) with globals:=0 }),#[]⟩ (.node ⟨(.type "tuple"),none,(.seq #[(.str "self" 873),(.str "thing" 874)] 0),#[]⟩ .nil .nil) (.node ⟨(.type "function"),none,(.func (fnOf "lines_over" "lines_over" (ag (top 52)) (ae (top 52)) (aa (top 52)) .none .none .none (.str "countkin.cuts" 1157) none (.ref 805) .none)),#[]⟩ .nil .nil)) (.node ⟨(.type "code"),none,(.fields #[(.str "is_one" 711),(.str "Codes.is_one" 712),(.str "/claim/cut.py" 713),(.int 145 0),(.int 2 0),(.int 0 0),(.int 0 0),(.int 3 0),(.ref 419),(.bool true),(.int 181 0),(.ref 420),.none,.none,.none,(.ref 421),(.int 714 0),(.int 145 0),(.str "/claim/cut.py" 715)]),#[]⟩ (.node ⟨(.type "tuple"),none,(.seq #[] 0),#[]⟩ .nil .nil) .nil)) (.node ⟨(.type "tuple"),none,(.seq #[] 0),#[]⟩ (.node ⟨(.type "tuple"),none,(.seq #[] 0),#[]⟩ (.node ⟨.none,none,(.func { (fnOf "__init__" "Brackets.__init__" (ag (inClass (top 42) 0)) (ae (inClass (top 42) 0)) (aa (inClass (top 42) 0)) .none .none .none .none none .none .none) with globals:=0 }),#[]⟩ .nil .nil) (.node ⟨(.type "tuple"),none,(.seq #[] 0),#[]⟩ .nil .nil)) (.node ⟨(.type "tuple"),none,(.seq #[(.str "thing" 791)] 0),#[]⟩ (.node ⟨(.type "tuple"),none,(.seq #[] 0),#[]⟩ .nil .nil) .nil)))) (.node ⟨(.type "code"),none,(.fields #[(.str "NoSize" 238),(.str "NoSize" 239),(.str "/claim/cut.py" 240),(.int 19 0),(.int 0 0),(.int 0 0),(.int 0 0),(.int 0 0),(.ref 52),(.bool false),(.int 181 0),(.ref 53),.none,.none,.none,.none,(.int 241 0),(.int 19 0),(.str "/claim/cut.py" 242)]),#[]⟩ (.node ⟨(.type "builtin_function_or_method"),none,(.fields #[(.builtin "type.__prepare__"),(.type "type")]),#[]⟩ (.node ⟨(.type "code"),none,(.fields #[(.str "Broken" 366),(.str "Broken" 367),(.str "/claim/cut.py" 368),(.int 35 0),(.int 0 0),(.int 0 0),(.int 0 0),(.int 0 0),(.ref 148),(.bool false),(.int 181 0),(.ref 149),.none,.none,.none,.none,(.int 369 0),(.int 35 0),(.str "/claim/cut.py" 370)]),#[]⟩ (.node ⟨(.type "tuple"),none,(.seq #[(.str "self" 534),(.str "thing" 535)] 0),#[]⟩ (.node ⟨(.type "tuple"),none,(.seq #[(.ref 327)] 0),#[]⟩ .nil .nil) (.node ⟨.none,none,(.func { (fnOf "twins_to_brackets" "twins_to_brackets" (ag (top 50)) (ae (top 50)) (aa (top 50)) .none .none .none .none none .none .none) with globals:=0 }),#[]⟩ .nil .nil)) (.node ⟨.none,none,(.fields #[]),#[]⟩ (.node ⟨(.type "code"),none,(.fields #[(.str "first_close" 1005),(.str "first_close" 1006),(.str "/claim/cut.py" 1007),(.int 280 0),(.int 1 0),(.int 0 0),(.int 0 0),(.int 3 0),(.ref 657),(.bool true),(.int 181 0),(.ref 658),.none,(.ref 659),(.ref 660),(.ref 661),(.int 1011 0),(.int 280 0),(.str "/claim/cut.py" 1012)]),#[]⟩ .nil .nil) (.node ⟨.none,none,(.func { (fnOf "joined" "Bows.joined" (ag (inClass (top 60) 5)) (ae (inClass (top 60) 5)) (aa (inClass (top 60) 5)) .none .none .none .none none .none .none) with globals:=0 }),#[]⟩ .nil .nil))) (.node ⟨.none,none,(.fields #[]),#[]⟩ (.node ⟨(.type "code"),none,(.fields #[(.str "led_by_parts" 605),(.str "led_by_parts" 606),(.str "/claim/cut.py" 607),(.int 110 0),(.int 3 0),(.int 0 0),(.int 0 0),(.int 3 0),(.ref 337),(.bool true),(.int 181 0),(.ref 338),.none,(.ref 339),(.ref 340),(.ref 341),(.int 614 0),(.int 110 0),(.str "/claim/cut.py" 615)]),#[]⟩ (.node ⟨(.type "tuple"),none,(.seq #[(.str "text" 933),(.str "depth" 934),(.str "sign" 935)] 0),#[]⟩ .nil .nil) (.node ⟨.none,none,(.fields #[]),#[]⟩ .nil .nil)) (.node ⟨.none,none,(.fields #[]),#[]⟩ (.node ⟨(.type "builtin_function_or_method"),none,(.fields #[(.builtin "type.__prepare__"),(.type "type")]),#[]⟩ .nil .nil) .nil))) (.node ⟨(.type "type"),none,(.cls ⟨"Apart",[(.ref 45)],[(.ref 118),(.ref 45),(.type "ValueError"),(.type "Exception"),(.type "BaseException"),(.type "object")],117,"Apart",true,[],[],false,none,false⟩),#[(some (.ref 109)),none,(some (.str "Apart" 316)),(some (.str "Apart" 324)),(some (.builtin "ValueError.__new__")),(some (.bool true))]⟩ (.node ⟨.none,none,(.func { (fnOf "size_of" "Family.size_of" (ag (inClass (top 17) 1)) (ae (inClass (top 17) 1)) (aa (inClass (top 17) 1)) .none .none .none .none none .none .none) with globals:=0 }),#[]⟩ (.node ⟨(.type "function"),none,(.func (fnOf "unchecked_thing" "SplitFamily.unchecked_thing" (ag (inClass (top 18) 6)) (ae (inClass (top 18) 6)) (aa (inClass (top 18) 6)) .none .none .none (.str "countkin.kin" 389) none (.ref 309) .none)),#[]⟩ (.node ⟨(.type "function"),none,(.func (fnOf "bare" "Floors.bare" (ag (inClass (top 36) 3)) (ae (inClass (top 36) 3)) (aa (inClass (top 36) 3)) .none .none .none (.str "countkin.floors" 849) none (.ref 565) .none)),#[]⟩ .nil .nil) (.node ⟨(.type "tuple"),none,(.seq #[] 0),#[]⟩ .nil .nil)) (.node ⟨(.type "tuple"),none,(.seq #[] 0),#[]⟩ (.node ⟨(.type "tuple"),none,(.seq #[(.str "self" 1055)] 0),#[]⟩ .nil .nil) .nil)) (.node ⟨(.type "code"),none,(.fields #[(.str "next_of" 486),(.str "Family.next_of" 487),(.str "/claim/cut.py" 488),(.int 77 0),(.int 2 0),(.int 0 0),(.int 0 0),(.int 3 0),(.ref 241),(.bool true),(.int 181 0),(.ref 242),.none,(.ref 243),(.ref 244),(.ref 245),(.int 491 0),(.int 77 0),(.str "/claim/cut.py" 492)]),#[]⟩ (.node ⟨(.type "tuple"),none,(.seq #[(.str "self" 658),(.str "size" 659)] 0),#[]⟩ (.node ⟨(.type "function"),none,(.func (fnOf "is_one" "Brackets.is_one" (ag (inClass (top 42) 2)) (ae (inClass (top 42) 2)) (aa (inClass (top 42) 2)) .none .none .none (.str "countkin.signs" 939) none (.ref 629) .none)),#[]⟩ .nil .nil) (.node ⟨(.type "code"),none,(.fields #[(.str "__init__" 1294),(.str "Bows.__init__" 1295),(.str "/claim/cut.py" 1296),(.int 445 0),(.int 1 0),(.int 0 0),(.int 0 0),(.int 3 0),(.ref 881),(.bool true),(.int 181 0),(.ref 882),.none,(.ref 883),(.ref 884),(.ref 885),(.int 1298 0),(.int 445 0),(.str "/claim/cut.py" 1299)]),#[]⟩ .nil .nil)) (.node ⟨(.type "function"),none,(.func (fnOf "raised_by" "raised_by" (ag (top 29)) (ae (top 29)) (aa (top 29)) .none .none .none (.str "countkin.common" 802) none (.ref 501) .none)),#[]⟩ (.node ⟨(.type "code"),none,(.fields #[(.str "bare" 1129),(.str "Twins.bare" 1130),(.str "/claim/cut.py" 1131),(.int 339 0),(.int 1 0),(.int 0 0),(.int 0 0),(.int 3 0),(.ref 753),(.bool true),(.int 181 0),(.ref 754),.none,(.ref 755),(.ref 756),(.ref 757),(.int 1133 0),(.int 339 0),(.str "/claim/cut.py" 1134)]),#[]⟩ .nil .nil) .nil))))) (.node ⟨.none,none,(.fields #[]),#[]⟩ (.node ⟨(.type "getset_descriptor"),none,(.fields #[(.str "__weakref__" 231),(.ref 45),(.builtin "ExceptionGroup.__weakref__"),.none]),#[]⟩ (.node ⟨(.type "code"),none,(.fields #[(.str "NoThing" 270),(.str "NoThing" 271),(.str "/claim/cut.py" 272),(.int 23 0),(.int 0 0),(.int 0 0),(.int 0 0),(.int 0 0),(.ref 76),(.bool false),(.int 181 0),(.ref 77),.none,.none,.none,.none,(.int 273 0),(.int 23 0),(.str "/claim/cut.py" 274)]),#[]⟩ (.node ⟨(.type "type"),none,(.cls ⟨"NoText",[(.ref 45)],[(.ref 142),(.ref 45),(.type "ValueError"),(.type "Exception"),(.type "BaseException"),(.type "object")],141,"NoText",true,[],[],false,none,false⟩),#[(some (.ref 133)),none,(some (.str "NoText" 348)),(some (.str "NoText" 356)),(some (.builtin "ValueError.__new__")),(some (.bool true))]⟩ (.node ⟨.none,none,(.fields #[]),#[]⟩ (.node ⟨.none,none,(.func { (fnOf "any_cross" "any_cross" (ag (top 33)) (ae (top 33)) (aa (top 33)) .none .none .none .none none .none .none) with globals:=0 }),#[]⟩ .nil .nil) (.node ⟨(.type "tuple"),none,(.seq #[] 0),#[]⟩ .nil .nil)) (.node ⟨(.type "tuple"),none,(.seq #[(.ref 395)] 0),#[]⟩ (.node ⟨(.type "type"),none,(.cls ⟨"Brackets",[(.ref 327)],[(.ref 654),(.ref 327),(.ref 250),(.type "object")],653,"Brackets",true,[],[],false,none,false⟩),#[(some (.ref 603)),none,(some (.str "Brackets" 941)),(some (.str "Brackets" 949)),(some (.builtin "object.__new__")),(some (.bool true))]⟩ .nil .nil) (.node ⟨(.type "tuple"),none,(.seq #[] 0),#[]⟩ .nil .nil))) (.node ⟨(.type "tuple"),none,(.seq #[] 0),#[]⟩ (.node ⟨.none,none,(.func { (fnOf "by_parts" "by_parts" (ag (top 19)) (ae (top 19)) (aa (top 19)) .none .none .none .none none .none .none) with globals:=0 }),#[]⟩ (.node ⟨(.type "function"),none,(.func (fnOf "may_be_cut" "may_be_cut" (ag (top 37)) (ae (top 37)) (aa (top 37)) .none .none .none (.str "countkin.floors" 849) none (.ref 589) .none)),#[]⟩ .nil .nil) (.node ⟨(.type "code"),none,(.fields #[(.str "of_code" 1246),(.str "Trees.of_code" 1247),(.str "/claim/cut.py" 1248),(.int 421 0),(.int 2 0),(.int 0 0),(.int 0 0),(.int 3 0),(.ref 843),(.bool true),(.int 181 0),(.ref 844),.none,.none,.none,(.ref 845),(.int 1249 0),(.int 421 0),(.str "/claim/cut.py" 1250)]),#[]⟩ .nil .nil)) (.node ⟨(.type "code"),none,(.fields #[(.str "size_of" 758),(.str "Cars.size_of" 759),(.str "/claim/cut.py" 760),(.int 160 0),(.int 2 0),(.int 0 0),(.int 0 0),(.int 3 0),(.ref 457),(.bool true),(.int 181 0),(.ref 458),.none,(.ref 459),(.ref 460),(.ref 461),(.int 763 0),(.int 160 0),(.str "/claim/cut.py" 764)]),#[]⟩ (.node ⟨(.type "tuple"),none,(.seq #[] 0),#[]⟩ .nil .nil) .nil))) (.node ⟨(.type "builtin_function_or_method"),none,(.fields #[(.builtin "type.__prepare__"),(.type "type")]),#[]⟩ (.node ⟨(.type "tuple"),none,(.seq #[] 0),#[]⟩ (.node ⟨(.type "code"),none,(.fields #[(.str "unchecked_number" 556),(.str "SplitFamily.unchecked_number" 557),(.str "/claim/cut.py" 558),(.int 96 0),(.int 2 0),(.int 0 0),(.int 0 0),(.int 3 0),(.ref 297),(.bool true),(.int 181 0),(.ref 298),.none,(.ref 299),(.ref 300),(.ref 301),(.int 561 0),(.int 96 0),(.str "/claim/cut.py" 562)]),#[]⟩ (.node ⟨(.type "code"),none,(.fields #[(.str "is_one" 878),(.str "Floors.is_one" 879),(.str "/claim/cut.py" 880),(.int 215 0),(.int 2 0),(.int 0 0),(.int 0 0),(.int 3 0),(.ref 555),(.bool true),(.int 181 0),(.ref 556),.none,.none,.none,(.ref 557),(.int 881 0),(.int 215 0),(.str "/claim/cut.py" 882)]),#[]⟩ .nil .nil) (.node ⟨(.type "dict"),none,(.dict #[⟨PyData.keyHash P "__module__",.str "__module__" 1214,(.str "countkin.elders" 1205)⟩,⟨PyData.keyHash P "__qualname__",.str "__qualname__" 1216,(.str "Trees" 1215)⟩,⟨PyData.keyHash P "__firstlineno__",.str "__firstlineno__" 1218,(.int 397 1217)⟩,⟨PyData.keyHash P "__init__",.str "__init__" 1225,(.ref 825)⟩,⟨PyData.keyHash P "size_of",.str "size_of" 1233,(.ref 832)⟩,⟨PyData.keyHash P "is_one",.str "is_one" 1239,(.ref 837)⟩,⟨PyData.keyHash P "code_of",.str "code_of" 1245,(.ref 842)⟩,⟨PyData.keyHash P "of_code",.str "of_code" 1251,(.ref 847)⟩,⟨PyData.keyHash P "__static_attributes__",.str "__static_attributes__" 1252,(.ref 848)⟩] 9),#[]⟩ .nil .nil)) (.node ⟨(.type "function"),none,(.func (fnOf "code_of" "Codes.code_of" (ag (inClass (top 23) 3)) (ae (inClass (top 23) 3)) (aa (inClass (top 23) 3)) .none .none .none (.str "countkin.ring" 617) none (.ref 429) .none)),#[]⟩ (.node ⟨.none,none,(.fields #[]),#[]⟩ .nil .nil) .nil)) (.node ⟨.none,none,(.func { (fnOf "thing_of" "Family.thing_of" (ag (inClass (top 17) 9)) (ae (inClass (top 17) 9)) (aa (inClass (top 17) 9)) .none .none .none .none none .none .none) with globals:=0 }),#[]⟩ (.node ⟨.none,none,(.fields #[]),#[]⟩ (.node ⟨(.type "code"),none,(.fields #[(.str "size_of" 960),(.str "Brackets.size_of" 961),(.str "/claim/cut.py" 962),(.int 265 0),(.int 2 0),(.int 0 0),(.int 0 0),(.int 3 0),(.ref 617),(.bool true),(.int 181 0),(.ref 618),.none,(.ref 619),(.ref 620),(.ref 621),(.int 965 0),(.int 265 0),(.str "/claim/cut.py" 966)]),#[]⟩ .nil .nil) (.node ⟨.none,none,(.fields #[(.int 445 0),(.int 4 0),(.ref 886),(.int 448 0),(.int 4 0),(.ref 893),(.int 451 0),(.int 4 0),(.ref 898),(.int 456 0),(.int 4 0),(.ref 905),(.int 459 0),(.int 4 0),(.ref 912),(.int 465 0),(.int 4 0),(.ref 919)]),#[]⟩ .nil .nil)) (.node ⟨(.type "tuple"),none,(.seq #[] 0),#[]⟩ (.node ⟨.none,none,(.func { (fnOf "is_one" "Twins.is_one" (ag (inClass (top 47) 2)) (ae (inClass (top 47) 2)) (aa (inClass (top 47) 2)) .none .none .none .none none .none .none) with globals:=0 }),#[]⟩ .nil .nil) .nil)))) (.node ⟨(.type "builtin_function_or_method"),none,(.fields #[(.builtin "type.__prepare__"),(.type "type")]),#[]⟩ (.node ⟨(.type "type"),none,(.cls ⟨"NoFamily",[(.ref 45)],[(.ref 94),(.ref 45),(.type "ValueError"),(.type "Exception"),(.type "BaseException"),(.type "object")],93,"NoFamily",true,[],[],false,none,false⟩),#[(some (.ref 85)),none,(some (.str "NoFamily" 284)),(some (.str "NoFamily" 292)),(some (.builtin "ValueError.__new__")),(some (.bool true))]⟩ (.node ⟨(.type "function"),none,(.func (fnOf "__init__" "Broken.__init__" (ag (inClass (top 15) 0)) (ae (inClass (top 15) 0)) (aa (inClass (top 15) 0)) .none .none .none (.str "countkin.errors" 216) none (.ref 157) .none)),#[]⟩ (.node ⟨(.type "tuple"),none,(.seq #[] 0),#[]⟩ (.node ⟨.none,none,(.fields #[]),#[]⟩ .nil .nil) (.node ⟨(.type "code"),none,(.fields #[(.str "twins_to_floor" 1179),(.str "twins_to_floor" 1180),(.str "/claim/cut.py" 1181),(.int 371 0),(.int 1 0),(.int 0 0),(.int 0 0),(.int 3 0),(.ref 793),(.bool true),(.int 181 0),(.ref 794),.none,(.ref 795),(.ref 796),(.ref 797),(.int 1185 0),(.int 371 0),(.str "/claim/cut.py" 1186)]),#[]⟩ .nil .nil)) (.node ⟨(.type "tuple"),none,(.seq #[(.str "self" 706),(.str "thing" 707)] 0),#[]⟩ (.node ⟨(.type "frame"),none,.plain,#[(some (.ref 669)),(some (.ref 3)),(some (.ref 666)),none,(some (.str "countkin.signs" 939)),none,(some (.ref 0))]⟩ .nil .nil) .nil)) (.node ⟨(.type "tuple"),none,(.seq #[(.str "self" 464),(.str "thing" 465)] 0),#[]⟩ (.node ⟨(.type "frame"),none,.plain,#[(some (.ref 349)),(some (.ref 3)),(some (.ref 346)),none,(some (.str "countkin.ring" 617)),none,(some (.ref 0))]⟩ (.node ⟨(.type "tuple"),none,(.seq #[] 0),#[]⟩ .nil .nil) (.node ⟨(.type "tuple"),none,(.seq #[(.str "thing" 1269)] 0),#[]⟩ .nil .nil)) (.node ⟨(.type "function"),none,(.func (fnOf "of_code" "Cars.of_code" (ag (inClass (top 25) 4)) (ae (inClass (top 25) 4)) (aa (inClass (top 25) 4)) .none .none .none (.str "countkin.cars" 737) none (.ref 477) .none)),#[]⟩ (.node ⟨(.type "tuple"),none,(.seq #[(.str "self" 1106)] 0),#[]⟩ .nil .nil) .nil))) (.node ⟨(.type "code"),none,(.fields #[(.str "NoMark" 334),(.str "NoMark" 335),(.str "/claim/cut.py" 336),(.int 31 0),(.int 0 0),(.int 0 0),(.int 0 0),(.int 0 0),(.ref 124),(.bool false),(.int 181 0),(.ref 125),.none,.none,.none,.none,(.int 337 0),(.int 31 0),(.str "/claim/cut.py" 338)]),#[]⟩ (.node ⟨(.type "code"),none,(.fields #[(.str "is_one" 420),(.str "Family.is_one" 421),(.str "/claim/cut.py" 422),(.int 50 0),(.int 2 0),(.int 0 0),(.int 0 0),(.int 3 0),(.ref 185),(.bool true),(.int 181 0),(.ref 186),.none,(.ref 187),(.ref 188),(.ref 189),(.int 425 0),(.int 50 0),(.str "/claim/cut.py" 426)]),#[]⟩ (.node ⟨(.type "tuple"),none,(.seq #[] 0),#[]⟩ (.node ⟨(.type "tuple"),none,(.seq #[(.str "self" 900),(.str "left" 901),(.str "right" 902),(.str "third" 903),(.str "last" 904),(.str "cuts" 905)] 0),#[]⟩ .nil .nil) (.node ⟨.none,none,(.func { (fnOf "size_of" "Trees.size_of" (ag (inClass (top 55) 1)) (ae (inClass (top 55) 1)) (aa (inClass (top 55) 1)) .none .none .none .none none .none .none) with globals:=0 }),#[]⟩ .nil .nil)) (.node ⟨(.type "tuple"),none,(.seq #[] 0),#[]⟩ (.node ⟨(.type "tuple"),none,(.seq #[] 0),#[]⟩ .nil .nil) .nil)) (.node ⟨(.type "builtin_function_or_method"),none,(.fields #[(.builtin "object.__init_subclass__"),(.ref 250)]),#[]⟩ (.node ⟨(.type "tuple"),none,(.seq #[] 0),#[]⟩ (.node ⟨(.type "tuple"),none,(.seq #[] 0),#[]⟩ .nil .nil) (.node ⟨(.type "function"),none,(.func (fnOf "size_of" "Bows.size_of" (ag (inClass (top 60) 1)) (ae (inClass (top 60) 1)) (aa (inClass (top 60) 1)) .none .none .none (.str "countkin.bends" 1280) none (.ref 893) .none)),#[]⟩ .nil .nil)) (.node ⟨(.type "tuple"),none,(.seq #[(.str "rows" 819),(.str "found" 820),(.str "row" 821)] 0),#[]⟩ (.node ⟨(.type "function"),none,(.func (fnOf "parted" "Twins.parted" (ag (inClass (top 47) 4)) (ae (inClass (top 47) 4)) (aa (inClass (top 47) 4)) .none .none .none (.str "countkin.twigs" 1089) none (.ref 765) .none)),#[]⟩ .nil .nil) .nil)))))))))
noncomputable def hS2 (w:World) (os:OsState):SharedT:=⟨hTree2 w.params,926,({}:Life),Array.mk [],⟨0,0,0,0⟩,1347,os⟩
noncomputable def hMidF (w:World) (os:OsState):=segRunT treeTable PySem.Challenge.pw_countkin_k53_ways_by_name w 11 (some (.ref 6)) 1 7710 (hS w os) (piecesOf (hB.take 61) hE hC ⟨0,0,0,0⟩ [topFrame ⟨0,0,0,0⟩])
noncomputable def hMidG (w:World) (os:OsState):Option (Flow × SharedT × Code × Pos):=some (.next,hS2 w os,hC,⟨443,0,467,86⟩)
noncomputable def hRunF (w:World) (os:OsState):=(segRunT treeTable PySem.Challenge.pw_countkin_k53_ways_by_name w 11 (some (.ref 6)) 1 3658 (hS2 w os) (piecesOf (hB.drop 61) hE hC ⟨443,0,467,86⟩ [topFrame ⟨0,0,0,0⟩])).map (pD treeTable PySem.Challenge.pw_countkin_k53_ways_by_name w 11 (some (.ref 6)) ⟨0,0,0,0⟩ hC 2 (hLook w.params))
noncomputable def hRunG (w:World) (_:OsState):=some (Flow.next,hC,some (true,openGood hQ hL,(hKall w.params).map fun p=>some p.2))
noncomputable def hSizF (w:World):=((boot_heap w.params).isNs mainGlobals&&(Array.mk []:Array GenState).size == 0,(boot_heap w.params).objs.size,(boot_heap w.params).nsMap mainGlobals "__annotations__")
noncomputable def hSizG (_:World):Bool × Nat × Option Value:=(true,11,(some (.ref 6)))
noncomputable def hRTF (w:World) (os:OsState):=hRunF (w.withFollow "special-get-raises" true) os
noncomputable def hRTG (w:World) (os:OsState):=hRunG (w.withFollow "special-get-raises" true) os
noncomputable def hRXF (w:World) (os:OsState):=hRunF (w.withFollow "special-get-raises" false) os
noncomputable def hRXG (w:World) (os:OsState):=hRunG (w.withFollow "special-get-raises" false) os
theorem hSeed:(fun _ _ _ _ _ _ _ _ _ _ _ _=>true) hPreF hPreG hBlkF hBlkG hRTF hRTG hRXF hRXG hSizF hSizG hMidF hMidG=true:=by k_qdec
theorem hPre:hPreF=hPreG:=Eq.trans PySem.W.Fast.te5317814654954331368 (Eq.trans (by kernel_rfl) (Eq.symm PySem.W.Fast.te14277440360295502494))
theorem hBlk:hBlkF=hBlkG:=Eq.trans PySem.W.Fast.te2033988648308832629 (Eq.trans (by kernel_rfl) (Eq.symm PySem.W.Fast.te1798457917166677164))
theorem hMid:hMidF=hMidG:=Eq.trans PySem.W.Fast.te3840733706415240168 (Eq.trans (by kernel_rfl) (Eq.symm PySem.W.Fast.te18240272836940206031))
theorem hRunT:hRTF=hRTG:=Eq.trans PySem.W.Fast.te8891643406707985557 (Eq.trans (by kernel_rfl) (Eq.symm PySem.W.Fast.te7486163486653491899))
theorem hRunX:hRXF=hRXG:=Eq.trans PySem.W.Fast.te17394655931934810730 (Eq.trans (by kernel_rfl) (Eq.symm PySem.W.Fast.te5922984737246698765))
theorem hRun:hRunF=hRunG:=by
  funext w os
  have s:=World.withFollow_self w "special-get-raises"
  cases e:w.params.followText "special-get-raises" with
  | true=>rw [e] at s; rw [<- s]; exact congrFun (congrFun hRunT w) os
  | false=>rw [e] at s; rw [<- s]; exact congrFun (congrFun hRunX w) os
theorem hSiz:hSizF=hSizG:=Eq.trans PySem.W.Fast.te13693962943478796877 (by kernel_rfl)
theorem hLeft:LeftO PySem.Challenge.pw_countkin_k53_ways_by_name hQ hL hX (Hook.obs hH) (Hook.val hH) 22858 :=
  v8 (boot_open (by kernel_rfl) (by decide) (fun _=>by kernel_rfl)) (fun w=>congrFun hSiz w)
    (fun w os=>by
      obtain ⟨e,r,l⟩:=yV (b:=hB) (env:=hE) (L:=hLook w.params) rfl (congrFun (congrFun hPre w) os) (congrFun (congrFun hBlk w) os) (congrFun (congrFun hMid w) os) (congrFun (congrFun hRun w) os)
      exact ⟨e,r,(congrArg (fun z=>(_,_,z)) (zb hAM e.heap)).trans l⟩) (by decide)
end Ck
open PySem PySem.W PyProof.Rows
set_option maxRecDepth 100000 in
set_option maxHeartbeats 0 in
theorem PySem.Challenge.cw_countkin_k53_ways_by_name_holds : PySem.Challenge.rw_countkin_k53_ways_by_name.Holds := by
 w_on; o_law
 refine holds_open (q:=Ck.hQ) (loose:=Ck.hL) (Xt:=Ck.hX) (XP:=XL Ck.hQ []) (Yf:=Hook.obs (kHook Ck.hKall Ck.hA Ck.hKA)) (Ya:=Hook.val (kHook Ck.hKall Ck.hA Ck.hKA)) (YP:=Hook.says (kHook Ck.hKall Ck.hA Ck.hKA)) (N:=22858) Ck.hLeft (Hook.of (kHook Ck.hKall Ck.hA Ck.hKA)) (Hook.keeps (kHook Ck.hKall Ck.hA Ck.hKA))
  (fun s e=>xl_of s (Bool.and_eq_true_iff.mp e).1) XL.keeps (by rfl) (by rfl) (by rfl) (fun s e=>recFacts_of (Bool.and_eq_true_iff.mp e).2) (by rfl) (by first | assumption | decide +kernel) (by decide +kernel) ⟨rfl,rfl,rfl,rfl,rfl,by decide +kernel⟩ ?hw ?hc
 case hw=>w_witness2
 refine Ck.walk (l:=PySem.Challenge.rw_countkin_k53_ways_by_name) (K:=Ck.hK) (c:=1465) (T:=1461) (D:=1438) (oD:=Ck.hD) rfl rfl ?hY (fun w=>by kernel_rfl) (fun w=>by kernel_rfl) ?okD (by decide) (by decide) (by decide) ?F
 case F =>
  k_fill
  intro w mg fa h KX G hmg
  refine' Ck.all_mk KX G hmg ?jq ?kr ?nj ?oS ?nA ?kn ?nG ?iA ?kh ?mX ?m7 ?pZ ?iM ?jt ?kq ?nH ?oQ ?nz ?kR ?mZ ?nF ?nh ?pz ?bU ?bR ?bQ ?dB ?dw ?du ?cu ?cz ?cn ?dP ?dO ?dW ?cN ?cG ?cJ ?d6 ?ez ?eI ?di ?de ?cY ?eO ?eL ?eM ?cK ?cO ?cH ?dY ?eD ?eE ?cB ?cg ?cw ?dR ?dQ ?dU ?cI ?cM ?cL ?d7 ?et ?dZ ?cZ ?cX ?dc ?eC ?d9 ?eA ?da ?c0 ?dj ?d5 ?eo ?eG ?dD ?dt ?dv ?eK ?eN ?eJ ?a1 ?l1 ?c1 ?k1 ?a2 ?l2 ?c2 ?k2 ?a3 ?l3 ?c3 ?k3 ?a4 ?l4 ?c4 ?k4 ?a5 ?l5 ?c5 ?k5 ?a6 ?l6 ?c6 ?k6 ?a7 ?l7 ?c7 ?k7 ?l8 ?c8 ?k8 ?i8 ?l9 ?c9 ?k9 ?i9 ?l10 ?c10 ?k10 ?i10 ?l11 ?c11 ?k11 ?i11 ?l12 ?c12 ?k12 ?i12 ?l13 ?c13 ?k13 ?i13 ?l14 ?c14 ?k14 ?i14 ?l15 ?c15 ?k15 ?i15 ?l16 ?c16 ?k16 ?i16 ?l17 ?c17 ?k17 ?i17 ?l18 ?c18 ?k18 ?i18 ?l19 ?c19 ?k19 ?i19 ?l20 ?c20 ?k20 ?i20 ?l21 ?c21 ?k21 ?i21 ?l22 ?c22 ?k22 ?i22 ?l23 ?c23 ?k23 ?i23 ?l24 ?c24 ?k24 ?i24 ?l25 ?c25 ?k25 ?i25 ?l26 ?c26 ?k26 ?i26 ?l27 ?c27 ?k27 ?i27 ?l28 ?c28 ?k28 ?i28 ?a29 ?l29 ?c29 ?k29 ?a30 ?l30 ?c30 ?k30 ?a31 ?l31 ?c31 ?k31 ?a32 ?l32 ?c32 ?k32 ?a33 ?l33 ?c33 ?k33 ?a34 ?l34 ?c34 ?k34 ?a35 ?l35 ?c35 ?k35 ?a36 ?l36 ?c36 ?k36 ?a37 ?l37 ?c37 ?k37 ?a38 ?l38 ?c38 ?k38 ?a39 ?l39 ?c39 ?k39 ?l40 ?c40 ?k40 ?i40 ?l41 ?c41 ?k41 ?i41 ?l42 ?c42 ?k42 ?i42 ?l43 ?c43 ?k43 ?i43 ?l44 ?c44 ?k44 ?i44 ?l45 ?c45 ?k45 ?i45 ?l46 ?c46 ?k46 ?i46 ?l47 ?c47 ?k47 ?i47 ?l48 ?c48 ?k48 ?i48 ?a49 ?l49 ?c49 ?k49 ?a50 ?l50 ?c50 ?k50 ?a51 ?l51 ?c51 ?k51 ?a52 ?l52 ?c52 ?k52 ?a53 ?l53 ?c53 ?k53 ?a54 ?l54 ?c54 ?k54 ?a55 ?l55 ?c55 ?k55 ?a56 ?l56 ?c56 ?k56 ?a57 ?l57 ?c57 ?k57 ?a58 ?l58 ?c58 ?k58 ?a59 ?l59 ?c59 ?k59 ?a60 ?l60 ?c60 ?k60 ?a61 ?l61 ?c61 ?k61 ?pg_Brackets ?hd_Brackets ?po_Brackets ?sa_Brackets ?pg_Stairs ?hd_Stairs ?po_Stairs ?sa_Stairs ?pg_Twins ?hd_Twins ?po_Twins ?sa_Twins ?pg_Bows ?hd_Bows ?po_Bows ?sa_Bows ?pg_Rooms ?hd_Rooms ?po_Rooms ?sa_Rooms ?pg_Floors ?hd_Floors ?po_Floors ?sa_Floors ?pg_Turns ?hd_Turns ?po_Turns ?sa_Turns ?pg_Codes ?hd_Codes ?po_Codes ?sa_Codes ?pg_Trees ?hd_Trees ?po_Trees ?sa_Trees ?pg_Cars ?hd_Cars ?po_Cars ?sa_Cars ?mk_Brackets ?kc_Brackets ?mk_Stairs ?kc_Stairs ?mk_Twins ?kc_Twins ?mk_Bows ?kc_Bows ?mk_Rooms ?kc_Rooms ?mk_Floors ?kc_Floors ?mk_Turns ?kc_Turns ?mk_Codes ?kc_Codes ?mk_Trees ?kc_Trees ?mk_Cars ?kc_Cars ?bN ?bZ ?cD ?dz ?cC ?bW ?cE ?dJ ?e9 ?fN ?gi ?fQ ?eZ ?fJ ?dG ?dH ?d8 ?fI ?fG ?gp ?nf_code_to_cars ?nf_cars_to_code ?nf_cars_to_tree ?nf_tree_to_cars ?nf_code_to_tree ?nf_tree_to_code ?nf_floor_to_twins ?nf_twins_to_floor ?nf_turns_to_brackets ?nf_brackets_to_turns ?nf_rooms_to_brackets ?nf_brackets_to_rooms ?nf_bows_to_brackets ?nf_brackets_to_bows ?nf_twins_to_brackets ?nf_brackets_to_twins ?nf_stairs_to_brackets ?nf_brackets_to_stairs ?nf_gapsback ?nf_gaps ?nf_feet_to_rooms ?nf_rooms_to_feet ?nf_floor_turnback ?nf_floor_turn ?nf_bows_turnback ?nf_bows_turn ?nf_turns_mirror ?nf_floor_mirror ?nf_twins_mirror ?nf_bows_mirror ?nf_brackets_mirror ?nf_cars_rootage ?nf_cars_leaves ?nf_trees_rootage ?nf_trees_leaves ?nf_codes_rootage ?nf_codes_leaves ?nf_turns_height ?nf_turns_returns ?nf_turns_peaks ?nf_floor_returns ?nf_floor_peaks ?nf_rooms_returns ?nf_rooms_peaks ?nf_bows_height ?nf_bows_returns ?nf_bows_peaks ?nf_twins_height ?nf_twins_returns ?nf_twins_peaks ?nf_stairs_height ?nf_stairs_returns ?nf_stairs_peaks ?nf_brackets_height ?nf_brackets_returns ?nf_brackets_peaks ?lcC ?tC ?nC ?nB ?lB ?neB ?nDD ?z_range ?z_len ?z_list ?z_isinstance ?z_ValueError ?z_str ?z_tuple ?ve ?sU ?m4 ?ph ?mY ?vt ?pT ?rG ?rL ?nr ?t_err
  (case jq=>k_is)
  (case kr=>k_is)
  (case nj=>k_is)
  (case oS=>k_is)
  (case nA=>k_is)
  (case kn=>k_is)
  (case nG=>k_is)
  (case iA=>k_is)
  (case kh=>k_is)
  (case mX=>k_is)
  (case m7=>k_is)
  (case pZ=>k_is)
  (case iM=>k_is)
  (case jt=>k_is)
  (case kq=>k_is)
  (case nH=>k_is)
  (case oQ=>k_is)
  (case nz=>k_is)
  (case kR=>k_is)
  (case mZ=>k_is)
  (case nF=>k_is)
  (case nh=>k_is)
  (case pz=>k_is)
  (case bU=>k_is)
  (case bR=>k_is)
  (case bQ=>k_is)
  (case dB=>k_is)
  (case dw=>k_is)
  (case du=>k_is)
  (case cu=>k_is)
  (case cz=>k_is)
  (case cn=>k_is)
  (case dP=>k_is)
  (case dO=>k_is)
  (case dW=>k_is)
  (case cN=>k_is)
  (case cG=>k_is)
  (case cJ=>k_is)
  (case d6=>k_is)
  (case ez=>k_is)
  (case eI=>k_is)
  (case di=>k_is)
  (case de=>k_is)
  (case cY=>k_is)
  (case eO=>k_is)
  (case eL=>k_is)
  (case eM=>k_is)
  (case cK=>k_is)
  (case cO=>k_is)
  (case cH=>k_is)
  (case dY=>k_is)
  (case eD=>k_is)
  (case eE=>k_is)
  (case cB=>k_is)
  (case cg=>k_is)
  (case cw=>k_is)
  (case dR=>k_is)
  (case dQ=>k_is)
  (case dU=>k_is)
  (case cI=>k_is)
  (case cM=>k_is)
  (case cL=>k_is)
  (case d7=>k_is)
  (case et=>k_is)
  (case dZ=>k_is)
  (case cZ=>k_is)
  (case cX=>k_is)
  (case dc=>k_is)
  (case eC=>k_is)
  (case d9=>k_is)
  (case eA=>k_is)
  (case da=>k_is)
  (case c0=>k_is)
  (case dj=>k_is)
  (case d5=>k_is)
  (case eo=>k_is)
  (case eG=>k_is)
  (case dD=>k_is)
  (case dt=>k_is)
  (case dv=>k_is)
  (case eK=>k_is)
  (case eN=>k_is)
  (case eJ=>k_is)
  (case a1=>k_is)
  (case l1=>k_is)
  (case c1=>k_is)
  (case k1=>k_is)
  (case a2=>k_is)
  (case l2=>k_is)
  (case c2=>k_is)
  (case k2=>k_is)
  (case a3=>k_is)
  (case l3=>k_is)
  (case c3=>k_is)
  (case k3=>k_is)
  (case a4=>k_is)
  (case l4=>k_is)
  (case c4=>k_is)
  (case k4=>k_is)
  (case a5=>k_is)
  (case l5=>k_is)
  (case c5=>k_is)
  (case k5=>k_is)
  (case a6=>k_is)
  (case l6=>k_is)
  (case c6=>k_is)
  (case k6=>k_is)
  (case a7=>k_is)
  (case l7=>k_is)
  (case c7=>k_is)
  (case k7=>k_is)
  (case l8=>k_is)
  (case c8=>k_is)
  (case k8=>k_is)
  (case i8=>k_is)
  (case l9=>k_is)
  (case c9=>k_is)
  (case k9=>k_is)
  (case i9=>k_is)
  (case l10=>k_is)
  (case c10=>k_is)
  (case k10=>k_is)
  (case i10=>k_is)
  (case l11=>k_is)
  (case c11=>k_is)
  (case k11=>k_is)
  (case i11=>k_is)
  (case l12=>k_is)
  (case c12=>k_is)
  (case k12=>k_is)
  (case i12=>k_is)
  (case l13=>k_is)
  (case c13=>k_is)
  (case k13=>k_is)
  (case i13=>k_is)
  (case l14=>k_is)
  (case c14=>k_is)
  (case k14=>k_is)
  (case i14=>k_is)
  (case l15=>k_is)
  (case c15=>k_is)
  (case k15=>k_is)
  (case i15=>k_is)
  (case l16=>k_is)
  (case c16=>k_is)
  (case k16=>k_is)
  (case i16=>k_is)
  (case l17=>k_is)
  (case c17=>k_is)
  (case k17=>k_is)
  (case i17=>k_is)
  (case l18=>k_is)
  (case c18=>k_is)
  (case k18=>k_is)
  (case i18=>k_is)
  (case l19=>k_is)
  (case c19=>k_is)
  (case k19=>k_is)
  (case i19=>k_is)
  (case l20=>k_is)
  (case c20=>k_is)
  (case k20=>k_is)
  (case i20=>k_is)
  (case l21=>k_is)
  (case c21=>k_is)
  (case k21=>k_is)
  (case i21=>k_is)
  (case l22=>k_is)
  (case c22=>k_is)
  (case k22=>k_is)
  (case i22=>k_is)
  (case l23=>k_is)
  (case c23=>k_is)
  (case k23=>k_is)
  (case i23=>k_is)
  (case l24=>k_is)
  (case c24=>k_is)
  (case k24=>k_is)
  (case i24=>k_is)
  (case l25=>k_is)
  (case c25=>k_is)
  (case k25=>k_is)
  (case i25=>k_is)
  (case l26=>k_is)
  (case c26=>k_is)
  (case k26=>k_is)
  (case i26=>k_is)
  (case l27=>k_is)
  (case c27=>k_is)
  (case k27=>k_is)
  (case i27=>k_is)
  (case l28=>k_is)
  (case c28=>k_is)
  (case k28=>k_is)
  (case i28=>k_is)
  (case a29=>k_is)
  (case l29=>k_is)
  (case c29=>k_is)
  (case k29=>k_is)
  (case a30=>k_is)
  (case l30=>k_is)
  (case c30=>k_is)
  (case k30=>k_is)
  (case a31=>k_is)
  (case l31=>k_is)
  (case c31=>k_is)
  (case k31=>k_is)
  (case a32=>k_is)
  (case l32=>k_is)
  (case c32=>k_is)
  (case k32=>k_is)
  (case a33=>k_is)
  (case l33=>k_is)
  (case c33=>k_is)
  (case k33=>k_is)
  (case a34=>k_is)
  (case l34=>k_is)
  (case c34=>k_is)
  (case k34=>k_is)
  (case a35=>k_is)
  (case l35=>k_is)
  (case c35=>k_is)
  (case k35=>k_is)
  (case a36=>k_is)
  (case l36=>k_is)
  (case c36=>k_is)
  (case k36=>k_is)
  (case a37=>k_is)
  (case l37=>k_is)
  (case c37=>k_is)
  (case k37=>k_is)
  (case a38=>k_is)
  (case l38=>k_is)
  (case c38=>k_is)
  (case k38=>k_is)
  (case a39=>k_is)
  (case l39=>k_is)
  (case c39=>k_is)
  (case k39=>k_is)
  (case l40=>k_is)
  (case c40=>k_is)
  (case k40=>k_is)
  (case i40=>k_is)
  (case l41=>k_is)
  (case c41=>k_is)
  (case k41=>k_is)
  (case i41=>k_is)
  (case l42=>k_is)
  (case c42=>k_is)
  (case k42=>k_is)
  (case i42=>k_is)
  (case l43=>k_is)
  (case c43=>k_is)
  (case k43=>k_is)
  (case i43=>k_is)
  (case l44=>k_is)
  (case c44=>k_is)
  (case k44=>k_is)
  (case i44=>k_is)
  (case l45=>k_is)
  (case c45=>k_is)
  (case k45=>k_is)
  (case i45=>k_is)
  (case l46=>k_is)
  (case c46=>k_is)
  (case k46=>k_is)
  (case i46=>k_is)
  (case l47=>k_is)
  (case c47=>k_is)
  (case k47=>k_is)
  (case i47=>k_is)
  (case l48=>k_is)
  (case c48=>k_is)
  (case k48=>k_is)
  (case i48=>k_is)
  (case a49=>k_is)
  (case l49=>k_is)
  (case c49=>k_is)
  (case k49=>k_is)
  (case a50=>k_is)
  (case l50=>k_is)
  (case c50=>k_is)
  (case k50=>k_is)
  (case a51=>k_is)
  (case l51=>k_is)
  (case c51=>k_is)
  (case k51=>k_is)
  (case a52=>k_is)
  (case l52=>k_is)
  (case c52=>k_is)
  (case k52=>k_is)
  (case a53=>k_is)
  (case l53=>k_is)
  (case c53=>k_is)
  (case k53=>k_is)
  (case a54=>k_is)
  (case l54=>k_is)
  (case c54=>k_is)
  (case k54=>k_is)
  (case a55=>k_is)
  (case l55=>k_is)
  (case c55=>k_is)
  (case k55=>k_is)
  (case a56=>k_is)
  (case l56=>k_is)
  (case c56=>k_is)
  (case k56=>k_is)
  (case a57=>k_is)
  (case l57=>k_is)
  (case c57=>k_is)
  (case k57=>k_is)
  (case a58=>k_is)
  (case l58=>k_is)
  (case c58=>k_is)
  (case k58=>k_is)
  (case a59=>k_is)
  (case l59=>k_is)
  (case c59=>k_is)
  (case k59=>k_is)
  (case a60=>k_is)
  (case l60=>k_is)
  (case c60=>k_is)
  (case k60=>k_is)
  (case a61=>k_is)
  (case l61=>k_is)
  (case c61=>k_is)
  (case k61=>k_is)
  (case pg_Brackets=>k_is)
  (case hd_Brackets=>k_is)
  (case po_Brackets=>k_is)
  (case sa_Brackets=>k_is)
  (case pg_Stairs=>k_is)
  (case hd_Stairs=>k_is)
  (case po_Stairs=>k_is)
  (case sa_Stairs=>k_is)
  (case pg_Twins=>k_is)
  (case hd_Twins=>k_is)
  (case po_Twins=>k_is)
  (case sa_Twins=>k_is)
  (case pg_Bows=>k_is)
  (case hd_Bows=>k_is)
  (case po_Bows=>k_is)
  (case sa_Bows=>k_is)
  (case pg_Rooms=>k_is)
  (case hd_Rooms=>k_is)
  (case po_Rooms=>k_is)
  (case sa_Rooms=>k_is)
  (case pg_Floors=>k_is)
  (case hd_Floors=>k_is)
  (case po_Floors=>k_is)
  (case sa_Floors=>k_is)
  (case pg_Turns=>k_is)
  (case hd_Turns=>k_is)
  (case po_Turns=>k_is)
  (case sa_Turns=>k_is)
  (case pg_Codes=>k_is)
  (case hd_Codes=>k_is)
  (case po_Codes=>k_is)
  (case sa_Codes=>k_is)
  (case pg_Trees=>k_is)
  (case hd_Trees=>k_is)
  (case po_Trees=>k_is)
  (case sa_Trees=>k_is)
  (case pg_Cars=>k_is)
  (case hd_Cars=>k_is)
  (case po_Cars=>k_is)
  (case sa_Cars=>k_is)
  (case mk_Brackets=>k_is)
  (case kc_Brackets=>k_is)
  (case mk_Stairs=>k_is)
  (case kc_Stairs=>k_is)
  (case mk_Twins=>k_is)
  (case kc_Twins=>k_is)
  (case mk_Bows=>k_is)
  (case kc_Bows=>k_is)
  (case mk_Rooms=>k_is)
  (case kc_Rooms=>k_is)
  (case mk_Floors=>k_is)
  (case kc_Floors=>k_is)
  (case mk_Turns=>k_is)
  (case kc_Turns=>k_is)
  (case mk_Codes=>k_is)
  (case kc_Codes=>k_is)
  (case mk_Trees=>k_is)
  (case kc_Trees=>k_is)
  (case mk_Cars=>k_is)
  (case kc_Cars=>k_is)
  (case bN=>k_is)
  (case bZ=>k_is)
  (case cD=>k_is)
  (case dz=>k_is)
  (case cC=>k_is)
  (case bW=>k_is)
  (case cE=>k_is)
  (case dJ=>k_is)
  (case e9=>k_is)
  (case fN=>k_is)
  (case gi=>k_is)
  (case fQ=>k_is)
  (case eZ=>k_is)
  (case fJ=>k_is)
  (case dG=>k_is)
  (case dH=>k_is)
  (case d8=>k_is)
  (case fI=>k_is)
  (case fG=>k_is)
  (case gp=>k_is)
  (case nf_code_to_cars=>k_is)
  (case nf_cars_to_code=>k_is)
  (case nf_cars_to_tree=>k_is)
  (case nf_tree_to_cars=>k_is)
  (case nf_code_to_tree=>k_is)
  (case nf_tree_to_code=>k_is)
  (case nf_floor_to_twins=>k_is)
  (case nf_twins_to_floor=>k_is)
  (case nf_turns_to_brackets=>k_is)
  (case nf_brackets_to_turns=>k_is)
  (case nf_rooms_to_brackets=>k_is)
  (case nf_brackets_to_rooms=>k_is)
  (case nf_bows_to_brackets=>k_is)
  (case nf_brackets_to_bows=>k_is)
  (case nf_twins_to_brackets=>k_is)
  (case nf_brackets_to_twins=>k_is)
  (case nf_stairs_to_brackets=>k_is)
  (case nf_brackets_to_stairs=>k_is)
  (case nf_gapsback=>k_is)
  (case nf_gaps=>k_is)
  (case nf_feet_to_rooms=>k_is)
  (case nf_rooms_to_feet=>k_is)
  (case nf_floor_turnback=>k_is)
  (case nf_floor_turn=>k_is)
  (case nf_bows_turnback=>k_is)
  (case nf_bows_turn=>k_is)
  (case nf_turns_mirror=>k_is)
  (case nf_floor_mirror=>k_is)
  (case nf_twins_mirror=>k_is)
  (case nf_bows_mirror=>k_is)
  (case nf_brackets_mirror=>k_is)
  (case nf_cars_rootage=>k_is)
  (case nf_cars_leaves=>k_is)
  (case nf_trees_rootage=>k_is)
  (case nf_trees_leaves=>k_is)
  (case nf_codes_rootage=>k_is)
  (case nf_codes_leaves=>k_is)
  (case nf_turns_height=>k_is)
  (case nf_turns_returns=>k_is)
  (case nf_turns_peaks=>k_is)
  (case nf_floor_returns=>k_is)
  (case nf_floor_peaks=>k_is)
  (case nf_rooms_returns=>k_is)
  (case nf_rooms_peaks=>k_is)
  (case nf_bows_height=>k_is)
  (case nf_bows_returns=>k_is)
  (case nf_bows_peaks=>k_is)
  (case nf_twins_height=>k_is)
  (case nf_twins_returns=>k_is)
  (case nf_twins_peaks=>k_is)
  (case nf_stairs_height=>k_is)
  (case nf_stairs_returns=>k_is)
  (case nf_stairs_peaks=>k_is)
  (case nf_brackets_height=>k_is)
  (case nf_brackets_returns=>k_is)
  (case nf_brackets_peaks=>k_is)
  (case lcC=>k_is)
  (case tC=>exact rfl)
  (case nC=>decide)
  (case nB=>k_is)
  (case lB=>k_is)
  (case neB=>decide)
  (case nDD=>k_is)
  (case z_range=>k_is)
  (case z_len=>k_is)
  (case z_list=>k_is)
  (case z_isinstance=>k_is)
  (case z_ValueError=>k_is)
  (case z_str=>k_is)
  (case z_tuple=>k_is)
  (case ve=>k_is)
  (case sU=>k_is)
  (case m4=>k_is)
  (case ph=>k_is)
  (case mY=>k_is)
  (case vt=>k_is)
  (case pT=>k_is)
  (case rG=>k_is)
  (case rL=>k_is)
  (case nr=>k_is)
  (case t_err=>kernel_rfl)
 case hY =>
  intro w h Y
  have X:=W.kIn_of Y
  obtain ⟨a1,a2,a3⟩:=L2.in_two (A:=(Ck.hK w.params).take 88) (B:=((Ck.hK w.params).drop 88).take 6) (C:=((Ck.hK w.params).drop 88).drop 6) X (by kernel_rfl) (by kernel_rfl) (by decide)
  rw [List.take_append_drop,List.take_append_drop] at a1
  refine' ⟨a1,(L2.codeHd_of (K:=Ck.hK w.params) ?lk ?tk ?nk h a1).tab a3,a2⟩
  (case lk=>k_is)
  (case tk=>exact rfl)
  (case nk=>decide)
 case okD =>
  intro w h H e
  exact L2.dict_ok [("turn",1963,"turnback",1964),("turnback",1965,"turn",1966),("gaps",1967,"gapsback",1968),("gapsback",1969,"gaps",1970)] e (by decide +kernel) (by decide) (by decide)
