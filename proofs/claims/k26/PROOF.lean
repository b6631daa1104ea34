import PyProof.Rows.All
import Wide.All
import OpenK.AllK
import Wide.FinOn
import Lean
import PyProof.EqAt
import PyProof.EqKinds
import PyProof.TupleCall
import KE.KMinBuiltin
import KE.KRevIter
import KE.KRevSl
import KE.KSortTup
import KE.KTryMore
import Open.Pieces
import OpenK.KQuick
import OpenK.KWalk
import PyProof.CollectWalk
import PyProof.EnumMake
import PyProof.ExcAttrAll.ValueError
import PyProof.FitsBits
import PyProof.ListRange
import PyProof.NeKinds
import PyProof.Rows.SortRuns
import PyProof.ZipIter
import PySem.Challenge.RW_countkin_k26_rooms_and_rows
set_option Elab.async false
set_option linter.all false
set_option maxRecDepth 100000
namespace L2
open PySem PySem.Spec PyProof.Rows
noncomputable abbrev Key:=Sum Int Str
noncomputable def wF:Key->Value->Bool
  | .inl k,v=>Value.isInt k v
  | .inr x,v=>Value.isStrOf x v
noncomputable def Aj (w:World):Key->Int
  | .inl k=>hashInt k
  | .inr x=>hashStr w x
theorem dq:∀ {k:Key} {v:Value},wF k v=true->(∃ i t,k=Sum.inl i/\v=Value.int i t)\/(∃ x t,k=Sum.inr x/\v=Value.str x t)
  | .inl i,v,h=>by
    obtain ⟨t,e⟩:=Value.isInt_shape (k:=i) (v:=v) h
    exact .inl ⟨i,t,rfl,e⟩
  | .inr x,v,h=>by
    obtain ⟨t,e⟩:=Value.isStrOf_shape (x:=x) (v:=v) h
    exact .inr ⟨x,t,rfl,e⟩
theorem yf (a b:Int):decide ((Sum.inl a:Key)=Sum.inl b)=(a == b):=by
  by_cases e:a=b
  · subst e; simp
  · have h:¬ (Sum.inl a:Key)=Sum.inl b:=fun q=>e (Sum.inl.inj q)
    rw [decide_eq_false h]
    exact (beq_eq_false_iff_ne.mpr e).symm
theorem yp (a b:Str):decide ((Sum.inr a:Key)=Sum.inr b)=decide (a=b):=by
  by_cases e:a=b
  · subst e; simp
  · have h:¬ (Sum.inr a:Key)=Sum.inr b:=fun q=>e (Sum.inr.inj q)
    rw [decide_eq_false h,decide_eq_false e]
theorem yl (a:Int) (b:Str):decide ((Sum.inl a:Key)=Sum.inr b)=false:=decide_eq_false (fun q=>nomatch q)
theorem yB (a:Str) (b:Int):decide ((Sum.inr a:Key)=Sum.inl b)=false:=decide_eq_false (fun q=>nomatch q)
noncomputable def sY (prog:Program) (w:World):PySem.KeyKind prog w Key where
  is:=wF
  hash:=Aj w
  inj:=fun v a b ha hb=>by
    rcases dq ha with ⟨i,t,rfl,rfl⟩ | ⟨x,t,rfl,rfl⟩
    · rcases dq hb with ⟨j,u,rfl,e⟩ | ⟨y,u,rfl,e⟩
      · injection e with e1 _; rw [e1]
      · exact nomatch e
    · rcases dq hb with ⟨j,u,rfl,e⟩ | ⟨y,u,rfl,e⟩
      · exact nomatch e
      · injection e with e1 _; rw [e1]
  byValue:=fun k v h=>by
    rcases dq h with ⟨i,t,rfl,rfl⟩ | ⟨x,t,rfl,rfl⟩<;>rfl
  pyHash:=fun hv h=>by
    rcases dq hv with ⟨i,t,rfl,rfl⟩ | ⟨x,t,rfl,rfl⟩
    · exact wpAny_pyHash_int h
    · exact wpAny_pyHash_str h
  eqBool:=fun hu hv h=>by
    rcases dq hu with ⟨i,t,rfl,rfl⟩ | ⟨x,t,rfl,rfl⟩
    · rcases dq hv with ⟨j,u,rfl,rfl⟩ | ⟨y,u,rfl,rfl⟩
      · rw [yf] at h; exact wpAny_eqBool_int h
      · rw [yl] at h; exact SeqAt.EqAt.int_str i t y u _ _ _ _ h
    · rcases dq hv with ⟨j,u,rfl,rfl⟩ | ⟨y,u,rfl,rfl⟩
      · rw [yB] at h; exact SeqAt.EqAt.str_int x t j u _ _ _ _ h
      · rw [yp] at h; exact wpAny_eqBool_str h
  «strs»:=fun k x t v h=>by
    rcases dq h with ⟨i,u,rfl,e⟩ | ⟨y,u,rfl,e⟩
    · exact nomatch e
    · injection e with e1 _
      subst e1
      cases v<;>rfl
end L2
namespace L2
open PySem PySem.Spec PyProof.Rows
inductive V where
  | non | bl (b:Bool) | int (i:Int) | str (x:Str) | byt (b:Array UInt8) | flt (b:UInt64) | ref (a:Addr) | ty (n:String)
  deriving DecidableEq
noncomputable def RelV:V->Value->Prop
  | .non,u=>u=Value.none
  | .bl b,u=>u=Value.bool b
  | .int i,u=>∃ t,u=Value.int i t
  | .str x,u=>∃ t,u=Value.str x t
  | .byt b,u=>∃ t,u=Value.bytes b t
  | .flt b,u=>∃ t,u=Value.float b t
  | .ref a,u=>u=Value.ref a
  | .ty n,u=>u=Value.type n
noncomputable abbrev Vals:List V->List Value->Prop:=Paired RelV
theorem Vals.length {xs:List V} {us:List Value} (r:Vals xs us):xs.length=us.length:=Paired.length r
theorem Vals.get:∀ {xs:List V} {us:List Value} {i:Nat} {x:V},Vals xs us->xs[i]? = some x->∃ u,us[i]? = some u/\RelV x u
  | _,_,_,_,.nil,e=>by simp at e
  | _,_,0,_,.cons r _,e=>by simp at e; subst e; exact ⟨_,rfl,r⟩
  | _,_,i+1,x,.cons _ t,e=>by
    obtain ⟨u,h1,h2⟩:=Vals.get (i:=i) (x:=x) t (by simpa using e)
    exact ⟨u,by simpa using h1,h2⟩
theorem Vals.set {x:V} {u:Value} (r:RelV x u):∀ {xs:List V} {us:List Value} (i:Nat),Vals xs us->Vals (xs.set i x) (us.set i u)
  | _,_,_,.nil=>.nil
  | _,_,0,.cons _ t=>.cons r t
  | _,_,i+1,.cons q t=>.cons q (Vals.set r i t)
theorem Vals.append:∀ {xs ys:List V} {us ws:List Value},Vals xs us->Vals ys ws->Vals (xs++ys) (us++ws)
  | _,_,_,_,.nil,s=>s
  | _,_,_,_,.cons r t,s=>.cons r (Vals.append t s)
theorem Vals.take:∀ {xs:List V} {us:List Value} (n:Nat),Vals xs us->Vals (xs.take n) (us.take n)
  | _,_,0,_=>.nil
  | _,_,_+1,.nil=>.nil
  | _,_,n+1,.cons r t=>.cons r (Vals.take n t)
theorem Vals.drop:∀ {xs:List V} {us:List Value} (n:Nat),Vals xs us->Vals (xs.drop n) (us.drop n)
  | _,_,0,r=>r
  | _,_,_+1,.nil=>.nil
  | _,_,n+1,.cons _ t=>Vals.drop n t
noncomputable def nX:Option V->Option Value->Prop
  | some v,some u=>RelV v u
  | none,none=>True
  | _,_=>False
noncomputable def KV {κ:Type}:List (κ × V)->List (κ × Value)->Prop:=Paired fun (p:κ × V) (q:κ × Value)=>p.1=q.1/\RelV p.2 q.2
noncomputable def kV:Key->V
  | .inl i=>.int i
  | .inr x=>.str x
inductive HO where
  | lst (xs:List V)
  | tup (xs:List V)
  | dK (kvs:List (Key × V)) | dT (kvs:List (List Key × V))
  | set (S:Int->Bool) (n:Nat)
  | ins (C dx:Addr) (fs:List (Str × V))
  | own (x:Addr)
  | xd (fs:List (Str × V))
  | met (f x:Addr)
  | rng (lo hi:Int)
  | frz (o:Obj) (u:HO)
  | tbl (ps:Array Value)
  | ext (φ:Heap->Prop)
noncomputable abbrev Hp:=Addr->Option HO
noncomputable def upd (H:Hp) (a:Addr) (o:HO):Hp:=fun b=>if b=a then some o else H b
theorem ag {H:Hp} {a:Addr} {o:HO}:upd H a o a=some o:=by unfold upd; rw [if_pos rfl]
theorem ar {H:Hp} {a b:Addr} {o:HO} (h:b≠a):upd H a o b=H b:=by unfold upd; rw [if_neg h]
theorem mM {H:Hp} {a:Addr} {o u:HO}:upd (upd H a o) a u=upd H a u:=by
  funext b; unfold upd; split<;>rfl
theorem zh {H:Hp} {a b:Addr} {o u:HO} (h:H a=some o) (h':H b=some u) (d:o≠u):a≠b:=by
  intro e; subst e; rw [h] at h'; exact d (Option.some.inj h')
theorem ay {H:Hp} {a b:Addr} {o:HO} (h:H a=some o) (h':H b=none):a≠b:=by
  intro e; subst e; rw [h] at h'; cases h'
section
variable (P:Program) (w:World)
noncomputable def dt (H:Hp) (h:Heap) (a:Addr):HO->Prop
  | .lst xs=>xs.length<=sizeLine/\∃ (its:List Value) (n:Nat),Vals xs its/\h.get? a=some { cls:=.type "list",data:=.seq its.toArray n }
  | .tup xs=>xs.length<=sizeLine/\∃ its:List Value,Vals xs its/\IsTup h a its.toArray
  | .dK kvs=>kvs.length<=sizeLine/\(a == sysModules)=false/\∃ vs,KV kvs vs/\h.DictOf (sY P w) a vs
  | .dT kvs=>kvs.length<=sizeLine/\(a == sysModules)=false/\∃ xs:List (List Key × Addr × Value),
      Paired (fun (p:List Key × V) (q:List Key × Addr × Value)=>p.1=q.1/\H q.2.1=some (.tup (p.1.map kV))/\RelV p.2 q.2.2) kvs xs /\
      ∃ o es ep,h.get? a=some o/\o.ExactDict/\o.data = .dict es ep/\es.toList=xs.map (entryOfKey (tupleKind (sY P w)))/\(xs.map (·.1)).Nodup
  | .set S n=>h.SetOf (intKind P w) a S n
  | .ins C dx fs=>H dx=some (.own a)/\fs.length<=1000/\dx≠a/\h.get? a=some (PySem.W.instObj C dx) /\
      ∃ mA,h.Ns1 dx mA/\(∀ f,nX (fs.lookup f) (mA f))/\PySem.Within mA (fs.map (·.1))
  | .own _=>∃ o,h.get? a=some o
  | .xd fs=>∃ mA,h.Ns1 a mA/\∀ f,nX (fs.lookup f) (mA f)
  | .rng lo hi=>∃ t u v,h.get? a=some { cls:=.type "range",data:=.fields #[.int lo t,.int hi u,.int 1 v] }
  | .frz o u=>h.get? a=some o/\dt H h a u
  | .tbl ps=>h.get? a=some { cls:=.none,data:=.fields ps }
  | .met f x=>h.get? a=some (PySem.W.methodObj (.ref f) (.ref x))
  | .ext φ=>φ h/\(∃ o,h.get? a=some o)/\∀ h1 h2:Heap,φ h1->(∀ o,h1.get? a=some o->h2.get? a=some o)->φ h2
def ff (H:Hp) (h:Heap):Prop:=∀ a o,H a=some o->dt P w H h a o
end
section
variable {P:Program} {w:World} {H H':Hp} {h h':Heap} {a:Addr} {o:HO}
theorem dt.lt (x:dt P w H h a o):a < h.objs.size:=by
  cases o with
  | lst xs=>obtain ⟨_,_,_,_,e⟩:=x; exact Heap.lt_size e
  | tup xs=>obtain ⟨_,_,_,p⟩:=x; exact p.lt
  | dK kvs=>obtain ⟨_,_,_,_,o,_,_,e,_⟩:=x; exact Heap.lt_size e
  | dT kvs=>obtain ⟨_,_,_,_,o,_,_,e,_⟩:=x; exact Heap.lt_size e
  | set S n=>obtain ⟨o,_,_,_,e,_⟩:=x; exact Heap.lt_size e
  | ins C dx fs=>obtain ⟨_,_,_,e,_⟩:=x; exact Heap.lt_size e
  | own y=>obtain ⟨_,e⟩:=x; exact Heap.lt_size e
  | xd fs=>obtain ⟨_,⟨_,_,_,e,_⟩,_⟩:=x; exact Heap.lt_size e
  | rng lo hi=>obtain ⟨_,_,_,e⟩:=x; exact Heap.lt_size e
  | frz ob u=>obtain ⟨e,_⟩:=x; exact Heap.lt_size e
  | tbl ps=>exact Heap.lt_size (show h.get? a=some _ from x)
  | met f y=>exact Heap.lt_size (show h.get? a=some _ from x)
  | ext φ=>obtain ⟨_,⟨_,e⟩,_⟩:=x; exact Heap.lt_size e
theorem Paired.mapP {α β:Type} {F G:α->β->Prop}:∀ {l₁:List α} {l₂:List β},Paired F l₁ l₂->(∀ a b,F a b->G a b)->Paired G l₁ l₂
  | _,_,.nil,_=>.nil
  | _,_,.cons r t,f=>.cons (f _ _ r) (Paired.mapP t f)
theorem dt.stay (x:dt P w H h a o) (k:∀ b u,(b=a\/H b=some (.own a))->h.get? b=some u->h'.get? b=some u)
    (ho:∀ b,H b=some (.own a)->H' b=some (.own a)) (ht:∀ b xs,H b=some (.tup xs)->H' b=some (.tup xs)):dt P w H' h' a o:=by
  induction o with
  | lst xs=>obtain ⟨z,its,n,r,e⟩:=x; exact ⟨z,its,n,r,k _ _ (.inl rfl) e⟩
  | tup xs=>obtain ⟨z,its,r,ob,e,c⟩:=x; exact ⟨z,its,r,ob,k _ _ (.inl rfl) e,c⟩
  | dK kvs=>obtain ⟨z,y,vs,r,ob,es,ep,e,c⟩:=x; exact ⟨z,y,vs,r,ob,es,ep,k _ _ (.inl rfl) e,c⟩
  | dT kvs =>
    obtain ⟨z,y,xs,r,ob,es,ep,e,c⟩:=x
    exact ⟨z,y,xs,Paired.mapP r fun p q z=>⟨z.1,ht _ _ z.2.1,z.2.2⟩,ob,es,ep,k _ _ (.inl rfl) e,c⟩
  | set S n=>obtain ⟨ob,es,ep,t,e,c⟩:=x; exact ⟨ob,es,ep,t,k _ _ (.inl rfl) e,c⟩
  | ins C dx fs =>
    obtain ⟨d,z,ne,e,mA,⟨od,es,ep,e2,c⟩,r⟩:=x
    exact ⟨ho _ d,z,ne,k _ _ (.inl rfl) e,mA,⟨od,es,ep,k _ _ (.inr d) e2,c⟩,r⟩
  | own y=>obtain ⟨ob,e⟩:=x; exact ⟨ob,k _ _ (.inl rfl) e⟩
  | xd fs=>obtain ⟨mA,⟨od,es,ep,e,c⟩,r⟩:=x; exact ⟨mA,⟨od,es,ep,k _ _ (.inl rfl) e,c⟩,r⟩
  | rng lo hi=>obtain ⟨t,u,v,e⟩:=x; exact ⟨t,u,v,k _ _ (.inl rfl) e⟩
  | frz ob u ih=>obtain ⟨e,q⟩:=x; exact ⟨k _ _ (.inl rfl) e,ih q⟩
  | tbl ps =>
    have e:h.get? a=some { cls:=.none,data:=.fields ps }:=x
    show h'.get? a=some { cls:=.none,data:=.fields ps }
    exact k a _ (.inl rfl) e
  | met f y =>
    have e:h.get? a=some (PySem.W.methodObj (.ref f) (.ref y)):=x
    show h'.get? a=some (PySem.W.methodObj (.ref f) (.ref y))
    exact k a _ (.inl rfl) e
  | ext φ=>obtain ⟨p,⟨o,e⟩,st⟩:=x; exact ⟨st _ _ p fun o q=>k _ _ (.inl rfl) q,⟨o,k _ _ (.inl rfl) e⟩,st⟩
theorem ff.lt (x:ff P w H h) (e:H a=some o):a < h.objs.size:=(x a o e).lt
theorem ff.fresh (x:ff P w H h) (e:h.objs.size<=a):H a=none:=by
  cases q:H a with
  | none=>rfl
  | some u=>exact absurd (Nat.lt_of_lt_of_le (x.lt q) e) (Nat.lt_irrefl _)
theorem ff.kept (x:ff P w H h) (k:∀ b u,h.get? b=some u->h'.get? b=some u):ff P w H h':=fun a o e =>
  (x a o e).stay (fun b u _ q=>k b u q) (fun _ q=>q) fun _ _ q=>q
theorem ff.laid (x:ff P w H h) (k:∀ b u,h.get? b=some u->h'.get? b=some u) (hp:h.objs.size<=a) (new:dt P w (upd H a o) h' a o):ff P w (upd H a o) h':=fun b u e=>by
  have hn:=x.fresh hp
  by_cases hb:b=a
  · subst hb; rw [ag] at e; cases e; exact new
  · rw [ar hb] at e
    exact (x b u e).stay (fun c v _ q=>k c v q) (fun c q=>by rw [ar (ay q hn)]; exact q) fun c xs q=>by rw [ar (ay q hn)]; exact q
end
def Rd (H:Hp) (a:Addr) (u:HO):Prop:=H a=some u\/∃ o,H a=some (.frz o u)
theorem Rd.ok {P:Program} {w:World} {H:Hp} {h:Heap} {a:Addr} {u:HO} (r:Rd H a u) (x:ff P w H h):dt P w H h a u:=by
  rcases r with r | ⟨o,r⟩
  · exact x a u r
  · obtain ⟨_,q⟩:=x a _ r
    exact q
noncomputable def wG:Option HO->Prop
  | some (.lst _)=>True
  | some (.dK _)=>True
  | some (.dT _)=>True
  | some (.set _ _)=>True
  | some (.ins _ _ _)=>True
  | some (.ext _)=>True
  | _=>False
section
variable {P:Program} {w:World} {H:Hp} {h h':Heap} {x e:Addr} {o':HO}
theorem ff.write (ok:ff P w H h) (mu:wG (H x)) (he:e=x\/H e=some (.own x)) (k:∀ b u,b≠e->h.get? b=some u->h'.get? b=some u) (heo:∃ u,h'.get? e=some u)
    (new:dt P w (upd H x o') h' x o'):ff P w (upd H x o') h':=fun b u q=>by
  have nown:∀ c y,H c=some (.own y)->c≠x:=fun c y r z=>by subst z; rw [r] at mu; exact mu
  have ntup:∀ c xs,H c=some (.tup xs)->c≠x:=fun c xs r z=>by subst z; rw [r] at mu; exact mu
  by_cases hb:b=x
  · subst hb; rw [ag] at q; cases q; exact new
  · rw [ar hb] at q
    by_cases hbe:b=e
    · have q':H b=some (.own x):=by
        rcases he with z | z
        · exact absurd (hbe.trans z) hb
        · rw [hbe]; exact z
      rw [q] at q'; cases q'
      obtain ⟨v,hv⟩:=heo
      exact ⟨v,by rw [hbe]; exact hv⟩
    · refine (ok b u q).stay (fun c v hc r=>k c v ?_ r) (fun c r=>by rw [ar (nown c b r)]; exact r) fun c xs r=>by rw [ar (ntup c xs r)]; exact r
      rcases hc with rfl | hc
      · exact hbe
      · rintro rfl
        rcases he with z | z
        · exact nown c b hc z
        · rw [hc] at z; cases z; exact hb rfl
end
structure Un (fs ex:List Addr) (H H':Hp) (h h':Heap):Prop where
  keep:∀ b o,h.get? b=some o->H b=none->b∉fs->b∉ex->h'.get? b=some o
  slot:∀ b o,h.get? b=some o->H b=none->b∈fs->b∉ex->∃ sl,h'.get? b=some { o with slots:=sl }
  free:∀ b o,h.get? b=some o->H b=none->b∉ex->H' b=none
  there:∀ b o,h.get? b=some o->b∉ex->∃ o',h'.get? b=some o'
  tups:∀ b xs,H b=some (.tup xs)->H' b=some (.tup xs)
  frzs:∀ b o u,H b=some (.frz o u)->H' b=some (.frz o u)
  tbls:∀ b ps,H b=some (.tbl ps)->∃ more,H' b=some (.tbl (ps++more))
section
variable {fs fs' ex ex':List Addr} {H H1 H2:Hp} {h h1 h2 h':Heap} {a x e:Addr} {o:HO}
theorem Un.any (u:Un fs ex H H1 h h1) {b:Addr} {ob:Obj} (q:h.get? b=some ob) (n:H b=none) (hx:b∉ex):∃ sl,h1.get? b=some { ob with slots:=sl }:=by
  by_cases hb:b∈fs
  · exact u.slot b ob q n hb hx
  · exact ⟨ob.slots,u.keep b ob q n hb hx⟩
theorem Un.kept (k:∀ b u,h.get? b=some u->h'.get? b=some u):Un fs ex H H h h' :=
  ⟨fun b ob q _ _ _=>k b ob q,fun b ob q _ _ _=>⟨ob.slots,k b ob q⟩,fun _ _ _ n _=>n,fun b ob q _=>⟨ob,k b ob q⟩,fun _ _ q=>q,fun _ _ _ q=>q,fun _ ps q=>⟨#[],by rw [q]; simp⟩⟩
theorem Un.refl:Un fs ex H H h h:=Un.kept fun _ _ q=>q
theorem Un.laid (k:∀ b u,h.get? b=some u->h'.get? b=some u) (hp:h.objs.size<=a) (hn:H a=none):Un fs ex H (upd H a o) h h' where
  keep:=fun b u q _ _ _=>k b u q
  slot:=fun b u q _ _ _=>⟨u.slots,k b u q⟩
  free:=fun b u q n _=>by rw [ar (Nat.ne_of_lt (Nat.lt_of_lt_of_le (Heap.lt_size q) hp))]; exact n
  there:=fun b u q _=>⟨u,k b u q⟩
  tups:=fun b xs q=>by rw [ar (ay q hn)]; exact q
  frzs:=fun b u xs q=>by rw [ar (ay q hn)]; exact q
  tbls:=fun b ps q=>⟨#[],by rw [ar (ay q hn),q]; simp⟩
theorem Un.write (mu:wG (H x)) (he:e=x\/H e=some (.own x)) (k:∀ b u,b≠e->h.get? b=some u->h'.get? b=some u) (heo:∃ u,h'.get? e=some u):Un fs ex H (upd H x o) h h':=by
  have hx:∀ b,H b=none->b≠x:=fun b n z=>by subst z; rw [n] at mu; exact mu
  have hb:∀ b,H b=none->b≠e:=fun b n z=>by
    subst z
    rcases he with r | r
    · exact hx b n r
    · rw [n] at r; cases r
  have hm:∀ b u,H b=some u->¬ wG (some u)->b≠x:=fun b u q nm z=>by subst z; rw [q] at mu; exact nm mu
  refine ⟨fun b u q n _ _=>k b u (hb b n) q,fun b u q n _ _=>⟨u.slots,k b u (hb b n) q⟩,fun b u q n _=>by rw [ar (hx b n)]; exact n,fun b u q _=>?_,
    fun b xs q=>by rw [ar (hm b _ q fun z=>z)]; exact q,fun b u xs q=>by rw [ar (hm b _ q fun z=>z)]; exact q,fun b ps q=>⟨#[],by rw [ar (hm b _ q fun z=>z),q]; simp⟩⟩
  by_cases hbe:b=e
  · subst hbe; exact heo
  · exact ⟨u,k b u hbe q⟩
end
noncomputable def wJ (h:Heap) (H:Hp):List Addr:=(List.range h.objs.size).filter fun a=>(H a).isSome
noncomputable def kU (h:Heap) (H:Hp):Heap:=PySem.W.hideAll h (wJ h H)
theorem uo (h:Heap) (H:Hp):(kU h H).objs.size=h.objs.size:=PySem.W.hideAll_size _ _
theorem vH {h:Heap} {H:Hp} {b:Addr} {o:Obj} (e:h.get? b=some o) (n:H b=none):(kU h H).get? b=some o :=
  PySem.W.hideAll_get _ e fun hm=>by
    have q:(H b).isSome=true:=(List.mem_filter.mp hm).2
    rw [n] at q; simp at q
theorem xK {h:Heap} {H:Hp} {b:Addr} {o:Obj} (e:(kU h H).get? b=some o):h.get? b=some o/\H b=none:=by
  have e':h.get? b=some o:=PySem.W.of_hideAll (wJ h H) e
  refine ⟨e',?_⟩
  cases q:H b with
  | none=>rfl
  | some x =>
    have hm:b∈wJ h H:=List.mem_filter.mpr ⟨List.mem_range.mpr (Heap.lt_size e'),by simp [q]⟩
    have z:(kU h H).get? b=none:=PySem.W.hideAll_none (wJ h H) hm
    rw [z] at e; cases e
noncomputable def xQ (g h:Heap) (L:Addr):List (Addr × Obj):=(List.range h.objs.size).filterMap fun a=>if a=L\/(g.get? a).isSome=true then none else (h.get? a).map fun o=>(a,o)
noncomputable def rest (g h:Heap) (L d:Addr):List (Addr × Obj):=(xQ g h L).filter fun p=>decide (p.1≠d)
end L2
namespace L2
open PySem PySem.Spec PyProof.Rows
structure Mod (K:PySem.W.Frag) (mg:Str->Option Value) (base:Heap):Prop where
  kin:K.In base
  glob:base.Ns mainGlobals mg
  blt:∃ mb,base.Ns builtinsNs mb/\∀ x:Str,x≠"__name__"->mb x=bootBuiltins x
  nolimit:base.NoLimit
structure Cx where
  prog:Program
  w:World
  K:PySem.W.Frag
  mg:Str->Option Value
  base:Heap
  A:Around
  N:List Str
  s₀:Shared
  H₀:Hp
  env:Env
  outer:List Env
  stack:List Env
  ex:List Addr
  fn:Str->Bool
  calm:Bool
  pn:List (Addr × Obj)
  xe:Value->Shared->Prop
noncomputable def kz (l:List Env):List Addr:=l.filterMap (·.frame)
noncomputable abbrev Cx.fs (X:Cx):List Addr:=kz X.outer
def wL (sc:Scope) (x:Str):Prop:=sc.names.lookup x=some .local\/sc.names.lookup x=some .cell\/sc.names.lookup x=some .free
def Loc (sc:Scope) (x:Str):Prop:=sc.names.lookup x=some .local\/sc.names.lookup x=some .cell
def Look (env:Env) (h:Heap) (m:Str->Option Value) (x:Str) (u:Value):Prop :=
  (env.kindOf x=some .local/\m x=some u)\/((env.kindOf x=some .cell\/env.kindOf x=some .free)/\∃ c,env.cells.lookup x=some c/\h.IsCell c (some u))
structure Cx.Ok (X:Cx):Prop where
  mod:Mod X.K X.mg X.base
  kind:X.env.scope.kind = .function
  glob:X.env.globals=mainGlobals
  blt:X.env.builtins=builtinsNs
  above:X.s₀.heap.objs.size<=X.env.locals
  inj:∀ x y c,X.env.cells.lookup x=some c->X.env.cells.lookup y=some c->x=y
  has:∀ x,(X.env.kindOf x=some .cell\/X.env.kindOf x=some .free)->∃ c,X.env.cells.lookup x=some c
  cab:∀ x c,X.fn x=true->X.env.cells.lookup x=some c->X.s₀.heap.objs.size<=c
  hd:X.calm=true->X.A.handled=none
  frames:X.A.frames=some X.stack
  stk:X.stack=X.outer\/(X.stack=X.env::X.outer/\X.env.frame=some X.env.locals)
  exf:∀ b∈X.ex,b≠X.env.locals/\∀ x c,X.env.cells.lookup x=some c->c≠b
  bs:∀ b o,X.base.get? b=some o->X.s₀.heap.get? b=some o/\X.H₀ b=none
  bsz:X.base.objs.size<=X.s₀.heap.objs.size
  noex:∀ b o,X.base.get? b=some o->b∉X.ex
  exfs:∀ b∈X.ex,b∉X.fs
  funs:X.s₀.heap.FunFrames X.base X.outer
  frf:∀ b∈X.fs,X.H₀ b=none
structure Inv (X:Cx) (pins:List (Addr × Obj)) (σ:List (Option V)) (H:Hp) (s:Shared):Prop where
  ok:X.Ok
  os:s.os=X.s₀.os
  bare:AllBare s.gens
  base:Un X.fs X.ex X.H₀ H X.s₀.heap s.heap
  loc:∃ m,s.heap.Ns X.env.locals m/\∀ (i:Nat) (x:Str) (v:V),X.N[i]? = some x->σ[i]? = some (some v)->wL X.env.scope x->∃ u,RelV v u/\Look X.env s.heap m x u
  cell:∀ x c,X.env.cells.lookup x=some c->∃ v,s.heap.IsCell c v
  free:H X.env.locals=none
  freeC:∀ x c,X.env.cells.lookup x=some c->H c=none
  pin:∀ p∈X.pn++pins,s.heap.get? p.1=some p.2/\H p.1=none/\p.1≠X.env.locals/\p.1∉X.fs/\∀ v,p.2.data≠.cell v
  hok:ff X.prog X.w H s.heap
  len:σ.length=X.N.length
section
variable {X:Cx} {pins:List (Addr × Obj)} {σ:List (Option V)} {H H':Hp} {s:Shared} {h':Heap}
theorem Cx.Ok.nofr (ok:X.Ok) {b:Addr} {o:Obj} (e:X.base.get? b=some o):b∉X.fs:=fun hb=>by
  have:=(ok.funs.mem hb).1
  rw [e] at this; cases this
theorem Inv.bs (I:Inv X pins σ H s):∀ b o,X.base.get? b=some o->s.heap.get? b=some o/\H b=none:=fun b o e =>
  ⟨I.base.keep b o (I.ok.bs b o e).1 (I.ok.bs b o e).2 (I.ok.nofr e) (I.ok.noex b o e),I.base.free b o (I.ok.bs b o e).1 (I.ok.bs b o e).2 (I.ok.noex b o e)⟩
theorem Inv.bk (I:Inv X pins σ H s):∀ b o,X.base.get? b=some o->s.heap.get? b=some o:=fun b o e=>(I.bs b o e).1
theorem Inv.mod (I:Inv X pins σ H s):Mod X.K X.mg X.base:=I.ok.mod
theorem Inv.kIn (I:Inv X pins σ H s):X.K.In s.heap:=I.ok.mod.kin.keeps I.bk
theorem Inv.fr (I:Inv X pins σ H s):∃ m,Fr X.base X.env.locals s.heap m :=
  let ⟨m,hn,_⟩:=I.loc
  ⟨m,hn,I.bk,Nat.le_trans I.ok.bsz I.ok.above⟩
theorem Inv.lt (I:Inv X pins σ H s):X.env.locals < s.heap.objs.size:=let ⟨_,hn,_⟩:=I.loc; hn.lt
theorem Inv.sz (I:Inv X pins σ H s):X.s₀.heap.objs.size<=s.heap.objs.size:=Nat.le_trans I.ok.above (Nat.le_of_lt I.lt)
theorem Inv.nofs (I:Inv X pins σ H s) {a:Addr} (h:s.heap.objs.size<=a):a∉X.fs:=fun hb=>by
  obtain ⟨_,o,ho,_⟩:=I.ok.funs.mem hb
  exact absurd (Nat.lt_of_lt_of_le (Heap.lt_size ho) (Nat.le_trans I.sz h)) (Nat.lt_irrefl _)
theorem Inv.cne (I:Inv X pins σ H s):∀ x c,X.env.cells.lookup x=some c->c≠X.env.locals:=fun x c e z=>by
  obtain ⟨v,o,ho,hd⟩:=I.cell x c e
  obtain ⟨m,⟨o',es,ep,ho',hd',_⟩,_⟩:=I.loc
  rw [z,ho'] at ho; cases ho; rw [hd'] at hd; cases hd
theorem Inv.funs (I:Inv X pins σ H s):s.heap.FunFrames X.base X.outer:=by
  have all:∀ (l:List Env),(∀ b∈kz l,b∈X.fs)->X.s₀.heap.FunFrames X.base l->s.heap.FunFrames X.base l:=by
    intro l
    induction l with
    | nil=>intro _ _; trivial
    | cons env r ih =>
      intro hs hl
      obtain ⟨hk,⟨L,o,hf,hn,ho,hd⟩,hr⟩:=hl
      have hL:L∈X.fs:=hs L (by unfold kz; rw [List.filterMap_cons,hf]; exact List.mem_cons_self)
      obtain ⟨sl,e⟩:=I.base.slot L o ho (I.ok.frf L hL) hL fun z=>I.ok.exfs L z hL
      exact ⟨hk,⟨L,_,hf,hn,e,hd⟩,ih (fun b hb=>hs b (by unfold kz; rw [List.filterMap_cons,hf]; exact List.mem_cons_of_mem _ hb)) hr⟩
  exact all X.outer (fun _ hb=>hb) I.ok.funs
theorem Inv.stack (I:Inv X pins σ H s):s.heap.FunFrames X.base X.stack:=by
  rcases I.ok.stk with e | ⟨e,hf⟩
  · rw [e]; exact I.funs
  · rw [e]
    obtain ⟨m,hn,_⟩:=I.loc
    refine .cons (by rw [I.ok.kind]; decide) hf hn ?_ I.funs
    exact Heap.get?_none_of_le (Nat.le_trans I.ok.bsz I.ok.above)
theorem Inv.stkSub (I:Inv X pins σ H s):∀ b∈kz X.stack,b∈X.env.locals::X.fs:=fun b hb=>by
  rcases I.ok.stk with e | ⟨e,hf⟩
  · rw [e] at hb; exact List.mem_cons_of_mem _ hb
  · rw [e] at hb
    unfold kz at hb
    rw [List.filterMap_cons,hf] at hb
    exact hb
theorem Inv.stkFree (I:Inv X pins σ H s):∀ b∈kz X.stack,H b=none:=fun b hb=>by
  rcases List.mem_cons.mp (I.stkSub b hb) with e | hb
  · rw [e]; exact I.free
  · obtain ⟨_,o,ho,_⟩:=I.ok.funs.mem hb
    exact I.base.free b o ho (I.ok.frf b hb) fun z=>I.ok.exfs b z hb
theorem Inv.step {g':Array GenState} {t':Nat} {d':Drawn} {ch:List Addr} (I:Inv X pins σ H s)
    (hch:∀ b∈ch,(b∈X.ex\/X.s₀.heap.objs.size<=b)/\b≠X.env.locals/\(∀ x c,X.env.cells.lookup x=some c->c≠b)/\∀ p∈X.pn++pins,p.1≠b)
    (keep:∀ b o,b≠X.env.locals->b∉X.fs->b∉ch->s.heap.get? b=some o->H b=none->h'.get? b=some o)
    (slot:∀ b o,b≠X.env.locals->b∈X.fs->b∉ch->s.heap.get? b=some o->H b=none->∃ sl,h'.get? b=some { o with slots:=sl }) (free:∀ b o,b∉ch->s.heap.get? b=some o->H b=none->H' b=none)
    (there:∀ b o,b∉ch->s.heap.get? b=some o->∃ o',h'.get? b=some o')
    (tups:∀ b xs,H b=some (.tup xs)->H' b=some (.tup xs)) (frzs:∀ b o u,H b=some (.frz o u)->H' b=some (.frz o u)) (tbls:∀ b ps,H b=some (.tbl ps)->∃ more,H' b=some (.tbl (ps++more)))
    (ns:∀ m,s.heap.Ns X.env.locals m->h'.Ns X.env.locals m) (hok:ff X.prog X.w H' h') (hg:AllBare g') :
    Inv X pins σ H' { s with heap:=h',gens:=g',drawn:=d',toks:=t' }:=by
  have neL:∀ b o,X.s₀.heap.get? b=some o->b≠X.env.locals:=fun b o e=>Nat.ne_of_lt (Nat.lt_of_lt_of_le (Heap.lt_size e) I.ok.above)
  have neC:∀ b o,X.s₀.heap.get? b=some o->b∉X.ex->b∉ch:=fun b o e hx hb=>by
    rcases (hch b hb).1 with z | z
    · exact hx z
    · exact absurd (Nat.lt_of_lt_of_le (Heap.lt_size e) z) (Nat.lt_irrefl _)
  have cellK:∀ x c,X.env.cells.lookup x=some c->∀ v,s.heap.IsCell c v->h'.IsCell c v:=fun x c e v ⟨o,ho,hd⟩=>by
    have nch:c∉ch:=fun z=>(hch c z).2.2.1 x c e rfl
    by_cases hc:c∈X.fs
    · obtain ⟨sl,q⟩:=slot c o (I.cne x c e) hc nch ho (I.freeC x c e)
      exact ⟨_,q,hd⟩
    · exact ⟨o,keep c o (I.cne x c e) hc nch ho (I.freeC x c e),hd⟩
  refine ⟨I.ok,I.os,hg,⟨fun b o e n hb hx=>?_,fun b o e n hb hx=>?_,fun b o e n hx=>?_,fun b o e hx=>?_,fun b xs e=>tups b xs (I.base.tups b xs e),fun b o xs e=>frzs b o xs (I.base.frzs b o xs e),fun b ps e=>?_⟩,?_,fun x c e=>?_,?_,fun x c e=>?_,fun p hp=>?_,hok,I.len⟩
  · exact keep b o (neL b o e) hb (neC b o e hx) (I.base.keep b o e n hb hx) (I.base.free b o e n hx)
  · obtain ⟨sl,e1⟩:=I.base.slot b o e n hb hx
    obtain ⟨sl',e2⟩:=slot b _ (neL b o e) hb (neC b o e hx) e1 (I.base.free b o e n hx)
    exact ⟨sl',e2⟩
  · obtain ⟨o',e1⟩:=I.base.there b o e hx
    exact free b o' (neC b o e hx) e1 (I.base.free b o e n hx)
  · obtain ⟨o',e1⟩:=I.base.there b o e hx
    exact there b o' (neC b o e hx) e1
  · obtain ⟨m1,e1⟩:=I.base.tbls b ps e
    obtain ⟨m2,e2⟩:=tbls b _ e1
    exact ⟨m1++m2,by rw [e2,Array.append_assoc]⟩
  · obtain ⟨m,hn,hl⟩:=I.loc
    refine ⟨m,ns m hn,fun i x v e1 e2 e3=>?_⟩
    obtain ⟨u,r,l⟩:=hl i x v e1 e2 e3
    refine ⟨u,r,?_⟩
    rcases l with l | ⟨k,c,e,z⟩
    · exact .inl l
    · exact .inr ⟨k,c,e,cellK x c e _ z⟩
  · obtain ⟨v,z⟩:=I.cell x c e
    exact ⟨v,cellK x c e v z⟩
  · obtain ⟨m,⟨o,_,_,ho,_⟩,_⟩:=I.loc
    exact free _ o (fun z=>(hch _ z).2.1 rfl) ho I.free
  · obtain ⟨v,o,ho,hd⟩:=I.cell x c e
    exact free c o (fun z=>(hch c z).2.2.1 x c e rfl) ho (I.freeC x c e)
  · obtain ⟨e,n,ne,nf,d⟩:=I.pin p hp
    have nch:p.1∉ch:=fun z=>(hch p.1 z).2.2.2 p hp rfl
    exact ⟨keep p.1 p.2 ne nf nch e n,free p.1 p.2 nch e n,ne,nf,d⟩
theorem Inv.un {t':Nat} (I:Inv X pins σ H s) (u:Un X.fs [] H H' s.heap h') (hok:ff X.prog X.w H' h'):Inv X pins σ H' { s with heap:=h',toks:=t' }:=by
  obtain ⟨m,⟨o,es,ep,ho,r⟩,_⟩:=id I.loc
  obtain ⟨sl,hL⟩:=u.any ho I.free (by simp)
  exact I.step (g':=s.gens) (d':=s.drawn) (ch:=[]) (fun _ z=>nomatch z) (fun b o _ hb _ e n=>u.keep b o e n hb (by simp)) (fun b o _ hb _ e n=>u.slot b o e n hb (by simp)) (fun b o _ e n=>u.free b o e n (by simp)) (fun b o _ e=>u.there b o e (by simp)) u.tups u.frzs u.tbls (fun m' hm=>by
    obtain ⟨o',es',ep',ho',r'⟩:=hm
    rw [ho] at ho'; cases ho'
    exact ⟨_,es',ep',hL,r'⟩) hok I.bare
theorem Inv.call {g':Array GenState} {t':Nat} {d':Drawn} {ch:List Addr} (I:Inv X pins σ H s) (u:Un (kz X.stack) ch H H' s.heap h') (hok:ff X.prog X.w H' h') (hg:AllBare g')
    (hch:∀ b∈ch,(b∈X.ex\/X.s₀.heap.objs.size<=b)/\b≠X.env.locals/\(∀ x c,X.env.cells.lookup x=some c->c≠b)/\∀ p∈X.pn++pins,p.1≠b) :
    Inv X pins σ H' { s with heap:=h',gens:=g',drawn:=d',toks:=t' }:=by
  obtain ⟨m,⟨o,es,ep,ho,r⟩,_⟩:=id I.loc
  obtain ⟨sl,hL⟩:=u.any ho I.free fun z=>(hch _ z).2.1 rfl
  exact I.step (ch:=ch) hch (fun b o hL hb hc e n=>u.keep b o e n (fun z=>(List.mem_cons.mp (I.stkSub b z)).elim hL hb) hc) (fun b o _ _ hc e n=>u.any e n hc) (fun b o hc e n=>u.free b o e n hc) (fun b o hc e=>u.there b o e hc) u.tups u.frzs u.tbls (fun m' hm=>by
    obtain ⟨o',es',ep',ho',r'⟩:=hm
    rw [ho] at ho'; cases ho'
    exact ⟨_,es',ep',hL,r'⟩) hok hg
theorem Inv.turned {t':Nat} {it:Addr} (I:Inv X pins σ H s) (k:∀ b o,b≠it->s.heap.get? b=some o->h'.get? b=some o) (hn:H it=none) (hL:it≠X.env.locals)
    (h1:it∈X.ex\/X.s₀.heap.objs.size<=it) (h2:∀ x c,X.env.cells.lookup x=some c->c≠it) (h3:∀ p∈X.pn++pins,p.1≠it):Inv X pins σ H { s with heap:=h',toks:=t' }:=by
  have nit:∀ b u,H b=some u->b≠it:=fun b u e z=>by rw [z,hn] at e; cases e
  refine I.step (g':=s.gens) (d':=s.drawn) (ch:=[it]) (fun b hb=>?_) (fun b o _ _ hc e _=>k b o (fun z=>hc (by simp [z])) e) (fun b o _ _ hc e _=>⟨o.slots,k b o (fun z=>hc (by simp [z])) e⟩) (fun _ _ _ _ n=>n)
    (fun b o hc e=>⟨o,k b o (fun z=>hc (by simp [z])) e⟩) (fun _ _ e=>e) (fun _ _ _ e=>e) (fun b ps e=>⟨#[],by rw [e]; simp⟩) (fun m hm=>?_) (fun b u e=>?_) I.bare
  · have e:b=it:=by simpa using hb
    subst e
    exact ⟨h1,hL,h2,h3⟩
  · obtain ⟨o,es,ep,ho,r⟩:=hm
    exact ⟨o,es,ep,k _ o (Ne.symm hL) ho,r⟩
  · refine (I.hok b u e).stay (fun c v hc q=>k c v ?_ q) (fun _ q=>q) fun _ _ q=>q
    rcases hc with z | z
    · rw [z]; exact nit b u e
    · exact nit c _ z
theorem Inv.tok (I:Inv X pins σ H s) (t:Nat):Inv X pins σ H { s with toks:=t }:=I.un (h':=s.heap) (t':=t) Un.refl I.hok
theorem Inv.kept {t':Nat} (I:Inv X pins σ H s) (k:∀ b u,s.heap.get? b=some u->h'.get? b=some u):Inv X pins σ H { s with heap:=h',toks:=t' }:=I.un (Un.kept k) (I.hok.kept k)
theorem Inv.laid {a:Addr} {o:HO} {t':Nat} (I:Inv X pins σ H s) (k:∀ b u,s.heap.get? b=some u->h'.get? b=some u) (hp:s.heap.objs.size<=a) (new:dt X.prog X.w (upd H a o) h' a o) :
    Inv X pins σ (upd H a o) { s with heap:=h',toks:=t' }:=I.un (Un.laid k hp (I.hok.fresh hp)) (I.hok.laid k hp new)
theorem Inv.write {x e:Addr} {o:HO} {t':Nat} (I:Inv X pins σ H s) (mu:wG (H x)) (he:e=x\/H e=some (.own x)) (k:∀ b u,b≠e->s.heap.get? b=some u->h'.get? b=some u) (heo:∃ u,h'.get? e=some u)
    (new:dt X.prog X.w (upd H x o) h' x o):Inv X pins σ (upd H x o) { s with heap:=h',toks:=t' }:=I.un (Un.write mu he k heo) (I.hok.write mu he k heo new)
theorem Inv.weak {σ':List (Option V)} (I:Inv X pins σ H s) (hl:σ'.length=σ.length) (w:∀ (i:Nat) v,σ'[i]? = some (some v)->σ[i]? = some (some v)):Inv X pins σ' H s :=
  ⟨I.ok,I.os,I.bare,I.base,let ⟨m,hn,hl'⟩:=I.loc; ⟨m,hn,fun i x v e1 e2 e3=>hl' i x v e1 (w i v e2) e3⟩,I.cell,I.free,I.freeC,I.pin,I.hok,hl.trans I.len⟩
theorem Inv.pins_of {pins':List (Addr × Obj)} (I:Inv X pins σ H s) (h:∀ p∈pins',s.heap.get? p.1=some p.2/\H p.1=none/\p.1≠X.env.locals/\p.1∉X.fs/\∀ v,p.2.data≠.cell v):Inv X pins' σ H s :=
  ⟨I.ok,I.os,I.bare,I.base,I.loc,I.cell,I.free,I.freeC,fun p hp=>(List.mem_append.mp hp).elim (fun z=>I.pin p (List.mem_append_left _ z)) (h p),I.hok,I.len⟩
theorem rM {N:List Str} (hN:N.Nodup) {i j:Nat} {x:Str} (a:N[i]? = some x) (b:N[j]? = some x):i=j:=by
  obtain ⟨h1,e1⟩:=List.getElem?_eq_some_iff.mp a
  obtain ⟨h2,e2⟩:=List.getElem?_eq_some_iff.mp b
  exact (List.getElem_inj hN).mp (e1.trans e2.symm)
theorem pW {M:Model} {A:Around} {E:Value->Shared->Prop} {i:Nat} {x:Str} {v:V} {u:Value} {Q:Unit->Shared->Prop} (I:Inv X pins σ H s) (hN:X.N.Nodup) (hi:X.N[i]? = some x) (hx:Loc X.env.scope x) (r:RelV v u)
    (h:∀ s',Inv X pins (σ.set i (some v)) H s'->(∃ a,Heap.SameBut a s.heap s'.heap/\(a=X.env.locals\/X.env.cells.lookup x=some a))->Q () s') (hf:X.fn x=true\/X.env.scope.names.lookup x=some .local:=by first | exact .inl rfl | exact .inr rfl | assumption):wpAny M A (storeName X.env x u) Q E s:=by
  obtain ⟨m,hn,hl⟩:=id I.loc
  have hcls:(X.env.scope.kind == .class || (X.env.scope.kind == .module&&X.env.locals != X.env.globals))=false:=by rw [I.ok.kind]; rfl
  have hiσ:i < σ.length:=by rw [I.len]; exact (List.getElem?_eq_some_iff.mp hi).1
  have cne:=I.cne
  have tracked:∀ {a:Addr} {h':Heap},(∃ o,s.heap.get? a=some o/\H a=none)->Heap.SameBut a s.heap h'->ff X.prog X.w H h':=fun {a h'} ha hs b ob e=>by
    obtain ⟨_,_,hfree⟩:=ha
    refine (I.hok b ob e).stay (fun c w' hc q=>(hs.2 c ?_).trans q) (fun _ q=>q) fun _ _ q=>q
    rintro rfl
    rcases hc with rfl | hc
    · rw [hfree] at e; cases e
    · rw [hfree] at hc; cases hc
  rcases hx with hk | hk
  · refine wpAny_storeName_local hk hn (fun h' hn' hs=>?_) hcls
    obtain ⟨oL,_,_,hoL,_⟩:=id hn
    refine h _ ⟨I.ok,I.os,I.bare,⟨fun b o e n hb hx=>?_,fun b o e n hb hx=>?_,I.base.free,fun b o e hx=>?_,I.base.tups,I.base.frzs,I.base.tbls⟩,⟨_,hn',fun j y v' e1 e2 e3=>?_⟩,fun y c e=>?_,I.free,I.freeC,fun p hp=>?_,tracked ⟨oL,hoL,I.free⟩ hs,by simpa using I.len⟩ ⟨_,hs,.inl rfl⟩
    · exact (hs.2 b (Nat.ne_of_lt (Nat.lt_of_lt_of_le (Heap.lt_size e) I.ok.above))).trans (I.base.keep b o e n hb hx)
    · obtain ⟨sl,e1⟩:=I.base.slot b o e n hb hx
      exact ⟨sl,(hs.2 b (Nat.ne_of_lt (Nat.lt_of_lt_of_le (Heap.lt_size e) I.ok.above))).trans e1⟩
    · obtain ⟨o',e1⟩:=I.base.there b o e hx
      exact ⟨o',(hs.2 b (Nat.ne_of_lt (Nat.lt_of_lt_of_le (Heap.lt_size e) I.ok.above))).trans e1⟩
    · by_cases hj:j=i
      · subst hj
        rw [hi] at e1; cases e1
        rw [List.getElem?_set_self hiσ] at e2
        cases e2
        exact ⟨u,r,.inl ⟨hk,by simp⟩⟩
      · rw [List.getElem?_set_ne (Ne.symm hj)] at e2
        obtain ⟨u',r',q⟩:=hl j y v' e1 e2 e3
        refine ⟨u',r',?_⟩
        rcases q with ⟨k,e⟩ | ⟨k,c,e,z⟩
        · refine .inl ⟨k,?_⟩
          have:y≠x:=fun e=>hj (rM hN e1 (e▸hi))
          simp [this,e]
        · exact .inr ⟨k,c,e,z.sameBut hs (cne y c e)⟩
    · obtain ⟨w',z⟩:=I.cell y c e
      exact ⟨w',z.sameBut hs (cne y c e)⟩
    · obtain ⟨e,n,ne,nf,d⟩:=I.pin p hp
      exact ⟨(hs.2 p.1 ne).trans e,n,ne,nf,d⟩
  · have hfn:X.fn x=true:=by
      rcases hf with z | z
      · exact z
      · rw [z] at hk; cases hk
    obtain ⟨c,hc⟩:=I.ok.has x (.inl hk)
    obtain ⟨w',z⟩:=I.cell x c hc
    refine wpAny_storeName_cell I.ok.kind hk hc z (fun h' hc' hs=>?_)
    obtain ⟨oc,hoc,hocd⟩:=id z
    refine h { s with heap:=h' } ⟨I.ok,I.os,I.bare,⟨fun b o e n hb hx=>?_,fun b o e n hb hx=>?_,I.base.free,fun b o e hx=>?_,I.base.tups,I.base.frzs,I.base.tbls⟩,⟨m,hn.sameBut hs (Ne.symm (cne x c hc)),fun j y v' e1 e2 e3=>?_⟩,fun y c' e=>?_,I.free,I.freeC,fun p hp=>?_,tracked ⟨oc,hoc,I.freeC x c hc⟩ hs,by simpa using I.len⟩ ⟨c,hs,.inr hc⟩
    · exact (hs.2 b (Nat.ne_of_lt (Nat.lt_of_lt_of_le (Heap.lt_size e) (I.ok.cab x c hfn hc)))).trans (I.base.keep b o e n hb hx)
    · obtain ⟨sl,e1⟩:=I.base.slot b o e n hb hx
      exact ⟨sl,(hs.2 b (Nat.ne_of_lt (Nat.lt_of_lt_of_le (Heap.lt_size e) (I.ok.cab x c hfn hc)))).trans e1⟩
    · obtain ⟨o',e1⟩:=I.base.there b o e hx
      exact ⟨o',(hs.2 b (Nat.ne_of_lt (Nat.lt_of_lt_of_le (Heap.lt_size e) (I.ok.cab x c hfn hc)))).trans e1⟩
    · by_cases hj:j=i
      · subst hj
        rw [hi] at e1; cases e1
        rw [List.getElem?_set_self hiσ] at e2
        cases e2
        exact ⟨u,r,.inr ⟨.inl hk,c,hc,hc'⟩⟩
      · rw [List.getElem?_set_ne (Ne.symm hj)] at e2
        obtain ⟨u',r',q⟩:=hl j y v' e1 e2 e3
        refine ⟨u',r',?_⟩
        rcases q with q | ⟨k,c',e,z'⟩
        · exact .inl q
        · refine .inr ⟨k,c',e,z'.sameBut hs ?_⟩
          rintro rfl
          exact hj (rM hN e1 (I.ok.inj _ _ _ e hc▸hi))
    · by_cases hcc:c'=c
      · subst hcc; exact ⟨_,hc'⟩
      · obtain ⟨w2,z2⟩:=I.cell y c' e
        exact ⟨w2,z2.sameBut hs hcc⟩
    · obtain ⟨e,n,ne,nf,d⟩:=I.pin p hp
      refine ⟨(hs.2 p.1 ?_).trans e,n,ne,nf,d⟩
      intro q
      rw [q,hoc] at e
      have q':oc=p.2:=Option.some.inj e
      exact d w' (by rw [<- q']; exact hocd)
theorem nI {M:Model} {A:Around} {E:Value->Shared->Prop} {i:Nat} {x:Str} {v:V} {u:Value} {Q:Unit->Shared->Prop} (I:Inv X pins σ H s) (hN:X.N.Nodup) (hi:X.N[i]? = some x) (hx:Loc X.env.scope x) (r:RelV v u)
    (h:∀ s',Inv X pins (σ.set i (some v)) H s'->Q () s') (hf:X.fn x=true\/X.env.scope.names.lookup x=some .local:=by first | exact .inl rfl | exact .inr rfl | assumption):wpAny M A (storeName X.env x u) Q E s :=
  pW I hN hi hx r (fun s' I' _=>h s' I') hf
theorem Inv.call' {s':Shared} {ch:List Addr} (I:Inv X pins σ H s) (ho:s'.os=s.os) (u:Un (kz X.stack) ch H H' s.heap s'.heap) (hok:ff X.prog X.w H' s'.heap) (hg:AllBare s'.gens)
    (hch:∀ b∈ch,(b∈X.ex\/X.s₀.heap.objs.size<=b)/\b≠X.env.locals/\(∀ x c,X.env.cells.lookup x=some c->c≠b)/\∀ p∈X.pn++pins,p.1≠b):Inv X pins σ H' s':=by
  obtain ⟨h',g',d',t',o'⟩:=s'
  have e:o'=s.os:=ho
  subst e
  exact I.call (g':=g') (t':=t') (d':=d') u hok hg hch
end
noncomputable abbrev XK:=Value->Option Addr->Hp->Prop
noncomputable abbrev St:=List (Option V)
noncomputable abbrev VK:=V->Hp->Prop
noncomputable abbrev TE:=St->Hp->VK->Prop
noncomputable abbrev TT:=St->Hp->(Bool->Hp->Prop)->Prop
noncomputable abbrev TA:=St->Hp->(List V->Hp->Prop)->Prop
structure Ends where
  nx:St->Hp->Prop
  rt:VK
  bk:St->Hp->Prop:=fun _ _=>False
  ct:St->Hp->Prop:=fun _ _=>False
noncomputable abbrev TS:=Ends->St->Hp->Prop
def EP (X:Cx) (pins:List (Addr × Obj)) (σ:St) (Q:VK) (u:Value) (s':Shared):Prop:=∃ v H',Inv X pins σ H' s'/\RelV v u/\Q v H'
def TP (X:Cx) (pins:List (Addr × Obj)) (σ:St) (Q:Bool->Hp->Prop) (b:Bool) (s':Shared):Prop:=∃ H',Inv X pins σ H' s'/\Q b H'
def AP (X:Cx) (pins:List (Addr × Obj)) (σ:St) (Q:List V->Hp->Prop) (us:List Value) (s':Shared):Prop:=∃ vs H',Inv X pins σ H' s'/\Vals vs us/\Q vs H'
def SP (X:Cx) (pins:List (Addr × Obj)) (D:Ends) (f:Flow) (s':Shared):Prop :=
  match f with
  | .next=>∃ σ' H',Inv X pins σ' H' s'/\D.nx σ' H'
  | .brk=>∃ σ' H',Inv X pins σ' H' s'/\D.bk σ' H'
  | .cont=>∃ σ' H',Inv X pins σ' H' s'/\D.ct σ' H'
  | .ret u=>∃ v σ' H',Inv X pins σ' H' s'/\RelV v u/\D.rt v H'
def PE (X:Cx) (e:Expr) (t:TE):Prop :=
  ∀ (pins:List (Addr × Obj)) (s:Shared) (σ:St) (H:Hp) (Q:VK),Inv X pins σ H s->t σ H Q->wpAny (model X.prog X.w) X.A (eval e X.env) (EP X pins σ Q) X.xe s
def PT (X:Cx) (e:Expr) (t:TT):Prop :=
  ∀ (pins:List (Addr × Obj)) (s:Shared) (σ:St) (H:Hp) (Q:Bool->Hp->Prop),Inv X pins σ H s->t σ H Q->wpAny (model X.prog X.w) X.A (isTrue e X.env (eval e X.env)) (TP X pins σ Q) X.xe s
def PW (X:Cx) (e:Expr) (t:TT):Prop :=
  ∀ (whole:Sem Value) (pins:List (Addr × Obj)) (s:Shared) (σ:St) (H:Hp) (Q:Bool->Hp->Prop),Inv X pins σ H s->t σ H Q->wpAny (model X.prog X.w) X.A (isTrue e X.env whole) (TP X pins σ Q) X.xe s
theorem PW.pt {X:Cx} {e:Expr} {t:TT} (h:PW X e t):PT X e t:=h _
def PA (X:Cx) (es:List Expr) (t:TA):Prop :=
  ∀ (pos:Pos) (pins:List (Addr × Obj)) (s:Shared) (σ:St) (H:Hp) (Q:List V->Hp->Prop),Inv X pins σ H s->t σ H Q->wpAny (model X.prog X.w) X.A (spliced (backTo pos (starEach es X.env))) (AP X pins σ Q) X.xe s
def PS (X:Cx) (st:Stmt) (t:TS):Prop :=
  ∀ (pins:List (Addr × Obj)) (s:Shared) (σ:St) (H:Hp) (D:Ends),Inv X pins σ H s->t D σ H->wpAny (model X.prog X.w) X.A (exec st X.env) (SP X pins D) X.xe s
def jC (X:Cx) (st:List Stmt) (t:TS):Prop :=
  ∀ (pins:List (Addr × Obj)) (s:Shared) (σ:St) (H:Hp) (D:Ends),Inv X pins σ H s->t D σ H->wpAny (model X.prog X.w) X.A (execs st X.env) (SP X pins D) X.xe s
theorem aE {α:Type} {t:Sem α} {Q Q':α->Shared->Prop} {M:Model} {A:Around} {E:Value->Shared->Prop} {s:Shared} (h:wpAny M A t Q E s) (hQ:∀ a s,Q a s->Q' a s):wpAny M A t Q' E s:=wpAny_mono h hQ fun _ _ x=>x
end L2
namespace L2
open PySem PySem.Spec PyProof.Rows
section
variable {X:Cx}
theorem bin {a b:Expr} {ta tb:TE} (ha:PE X a ta) (hb:PE X b tb) {pins:List (Addr × Obj)} {s:Shared} {σ:St} {H:Hp} {R:V->V->Hp->Prop} (I:Inv X pins σ H s) (h:ta σ H fun x H1=>tb σ H1 fun y H2=>R x y H2)
    {α:Type} {Q:α->Shared->Prop} {f:Value->Value->Sem α}
    (hf:∀ v u s2 x y H2,Inv X pins σ H2 s2->RelV x v->RelV y u->R x y H2->wpAny (model X.prog X.w) X.A (f v u) Q X.xe s2) :
    wpAny (model X.prog X.w) X.A (eval a X.env) (fun v s₁=>wpAny (model X.prog X.w) X.A (eval b X.env) (fun u s₂=>wpAny (model X.prog X.w) X.A (f v u) Q X.xe s₂) X.xe s₁) X.xe s:=by
  refine aE (ha pins s σ H _ I h) fun v s1 ⟨x,H1,I1,r1,q1⟩=>?_
  refine aE (hb pins s1 σ H1 _ I1 q1) fun u s2 ⟨y,H2,I2,r2,q2⟩=>?_
  exact hf v u s2 x y H2 I2 r1 r2 q2
noncomputable def yb (i:Nat):TE:=fun σ H Q=>∃ v,σ[i]? = some (some v)/\Q v H
noncomputable def tC (v:V):TE:=fun _ H Q=>Q v H
theorem yG {i:Nat} {x:Str} {pos:Pos} (hN:X.N[i]? = some x) (hv:wL X.env.scope x) (hd:(x == ("__debug__" : Str))=false:=by decide) (hcd:(x == ("__classdict__" : Str))=false:=by decide):PE X (.Name x pos) (yb i):=by
  intro pins s σ H Q I h
  obtain ⟨v,e,h⟩:=h
  obtain ⟨m,hn,hl⟩:=I.loc
  obtain ⟨u,r,l⟩:=hl i x v hN e hv
  have fin:EP X pins σ Q u s:=⟨v,H,I,r,h⟩
  rcases l with ⟨hk,hm⟩ | ⟨hk,c,hc,hcell⟩
  · exact wpAny_Name (wpAny_loadName_local I.ok.kind hk hn hm fin) hd
  · rcases hk with hk | hk
    · exact wpAny_Name (wpAny_loadName_cell I.ok.kind hk hc hcell fin) hd
    · exact wpAny_Name (wpAny_loadName_free I.ok.kind hk hc hcell fin hcd) hd
theorem au {i j pos}:PE X (.Constant (.int i) j pos) (tC (.int i)):=fun _ _ _ H _ I h=>wpAny_Constant_int ⟨.int i,H,I.tok _,⟨_,rfl⟩,h⟩
theorem dm {b j pos}:PE X (.Constant (.bool b) j pos) (tC (.bl b)):=fun _ _ _ H _ I h=>Constant_bool ⟨.bl b,H,I,rfl,h⟩
theorem bD {x j pos}:PE X (.Constant (.str x) j pos) (tC (.str x)):=fun _ _ _ H _ I h=>Calls.Constant_str ⟨.str x,H,I.tok _,⟨_,rfl⟩,h⟩
def Gl (X:Cx) (x:Str):Prop:=X.env.kindOf x=some .globalImplicit
theorem pV {E:Value->Shared->Prop} {pins:List (Addr × Obj)} {s:Shared} {σ:St} {H:Hp} {x:Str} {u:Value} {pos:Pos} {Q:Value->Shared->Prop} (I:Inv X pins σ H s) (hg:Gl X x) (hm:X.mg x=some u) (h:Q u s)
    (hd:(x == ("__debug__" : Str))=false:=by decide):wpAny (model X.prog X.w) X.A (eval (.Name x pos) X.env) Q E s :=
  Calls.Name_function_global I.ok.kind hg (Calls.loadGlobal_global (by rw [I.ok.glob]; exact I.mod.glob.keeps I.bk) hm h) hd
theorem gm {E:Value->Shared->Prop} {pins:List (Addr × Obj)} {s:Shared} {σ:St} {H:Hp} {x:Str} {u:Value} {pos:Pos} {Q:Value->Shared->Prop} (I:Inv X pins σ H s) (hg:Gl X x) (hm:X.mg x=none) (hv:bootBuiltins x=some u) (h:Q u s)
    (hn:x≠"__name__":=by decide) (hd:(x == ("__debug__" : Str))=false:=by decide):wpAny (model X.prog X.w) X.A (eval (.Name x pos) X.env) Q E s:=by
  obtain ⟨mb,h1,h2⟩:=I.mod.blt
  exact Calls.Name_function_global I.ok.kind hg (Calls.loadGlobal_builtin (by rw [I.ok.glob]; exact I.mod.glob.keeps I.bk) hm (by rw [I.ok.blt]; exact h1.keeps I.bk) ((h2 x hn).trans hv) h) hd
theorem jz {x:Str} {v:V} {u:Value} {pos:Pos} (hg:Gl X x) (hm:X.mg x=none) (hv:bootBuiltins x=some u) (r:RelV v u) (hn:x≠"__name__":=by decide) (hd:(x == ("__debug__" : Str))=false:=by decide):PE X (.Name x pos) (tC v) :=
  fun _ _ _ H _ I h=>gm I hg hm hv ⟨v,H,I,r,h⟩ hn hd
variable {a b:Expr} {ta tb:TE} {pos:Pos}
def PC (X:Cx) (op:CmpOp) (a b:Expr) (t:TE):Prop :=
  ∀ (pins:List (Addr × Obj)) (s:Shared) (σ:St) (H:Hp) (Q:VK),Inv X pins σ H s->t σ H Q ->
    wpAny (model X.prog X.w) X.A (eval a X.env) (fun v s₁=>wpAny (model X.prog X.w) X.A (eval b X.env) (fun u s₂=>wpAny (model X.prog X.w) X.A (compareOp op v u) (EP X pins σ Q) X.xe s₂) X.xe s₁) X.xe s
theorem vP (b:Expr) {op:CmpOp} (h:op≠.In) (h2:op≠.NotIn):behindInMarks op b=false:=by
  have e1:(op == CmpOp.In)=false:=by cases op<;>first | rfl | exact absurd rfl h
  have e2:(op == CmpOp.NotIn)=false:=by cases op<;>first | rfl | exact absurd rfl h2
  cases b<;>simp [behindInMarks,e1,e2]
noncomputable def tB (t:TE):TT:=fun σ H Q=>t σ H fun x H1=>∃ c,x = .bl c/\Q c H1
theorem Ap {op:CmpOp} {t:TE} (h:PC X op a b t) (h1:behindInMarks op b=false:=by first | exact vP _ (by decide) (by decide) | rfl):PT X (.Compare a [op] [b] pos) (tB t):=by
  intro pins s σ H Q I hw
  refine wpAny_isTrue_Compare1 (aE (h pins s σ H _ I hw) fun v s1 h1=>aE h1 fun u s2 h2=>aE h2 fun c s3 ⟨x,H1,I1,r1,q1⟩=>?_) h1
  obtain ⟨d,rfl,q⟩:=q1
  cases r1
  exact wpAny_truthy_bool ⟨H1,I1,q⟩
theorem cG {e:Expr} {t:TE} (h:PE X e t) (he:∀ whole,isTrue e X.env whole=(do let v <- whole; standAt e.pos; holding [v] (truthy v)):=by intro _; rfl):PT X e (tB t):=by
  intro pins s σ H Q I hw
  refine isTrue_plain (aE (h pins s σ H _ I hw) fun v s1 ⟨x,H1,I1,r1,q1⟩=>?_) (he _)
  obtain ⟨d,rfl,q⟩:=q1
  cases r1
  exact wpAny_truthy_bool ⟨H1,I1,q⟩
variable {tA tB':TT} {rest:List Expr}
noncomputable def Ah (t u:TT):TT:=fun σ H Q=>t σ H fun c H1=>if c=true then u σ H1 Q else Q false H1
noncomputable def Am (t u:TT):TT:=fun σ H Q=>t σ H fun c H1=>if c=true then Q true H1 else u σ H1 Q
noncomputable def z9 (t:TT):TT:=fun σ H Q=>t σ H fun c H1=>Q (!c) H1
theorem pM (ha:PT X a tA):PW X (.BoolOp .And [a] pos) tA:=by
  intro wh pins s σ H Q I h
  refine isTrue_and (aE (ha pins s σ H Q I h) fun c s1 e=>?_)
  cases c with
  | true=>exact isTrue_and_nil e
  | false=>exact e
theorem i0 (ha:PT X a tA):PW X (.BoolOp .Or [a] pos) tA:=by
  intro wh pins s σ H Q I h
  refine isTrue_or (aE (ha pins s σ H Q I h) fun c s1 e=>?_)
  cases c with
  | false=>exact isTrue_or_nil e
  | true=>exact e
theorem rY (ha:PT X a tA) (hb:PW X (.BoolOp .And (b::rest) pos) tB'):PW X (.BoolOp .And (a::b::rest) pos) (Ah tA tB'):=by
  intro wh pins s σ H Q I h
  refine isTrue_and (aE (ha pins s σ H _ I h) fun c s1 ⟨H1,I1,q1⟩=>?_)
  cases c with
  | true=>exact hb wh pins s1 σ H1 Q I1 q1
  | false=>exact ⟨H1,I1,q1⟩
theorem jw (ha:PT X a tA) (hb:PW X (.BoolOp .Or (b::rest) pos) tB'):PW X (.BoolOp .Or (a::b::rest) pos) (Am tA tB'):=by
  intro wh pins s σ H Q I h
  refine isTrue_or (aE (ha pins s σ H _ I h) fun c s1 ⟨H1,I1,q1⟩=>?_)
  cases c with
  | true=>exact ⟨H1,I1,q1⟩
  | false=>exact hb wh pins s1 σ H1 Q I1 q1
theorem cW (ha:PT X a tA):PT X (.UnaryOp .Not a pos) (z9 tA):=by
  intro pins s σ H Q I h
  exact isTrue_not (ha pins s σ H (fun c H1=>Q (!c) H1) I h)
noncomputable def y8 (ta tb:TE):TE:=fun σ H Q=>ta σ H fun x H1=>∃ c,x = .bl c/\if c=true then tb σ H1 Q else Q (.bl false) H1
noncomputable def zl (ta:TE):TE:=fun σ H Q=>ta σ H fun x H1=>∃ c,x = .bl c/\Q (.bl (!c)) H1
theorem oB {op} {t:TE} (h:PE X a t):PE X (.BoolOp op [a] pos) t:=fun pins s σ H Q I hw=>BoolOp_one (h pins s σ H Q I hw)
theorem ou (ha:PE X a ta) (hb:PE X (.BoolOp .And (b::rest) pos) tb):PE X (.BoolOp .And (a::b::rest) pos) (y8 ta tb):=by
  intro pins s σ H Q I h
  refine BoolOp_and (aE (ha pins s σ H _ I h) fun v s1 ⟨x,H1,I1,r1,q1⟩=>?_)
  obtain ⟨c,rfl,q1⟩:=q1
  cases r1
  refine wpAny_truthy_bool ?_
  cases c with
  | true=>exact hb pins s1 σ H1 Q I1 q1
  | false=>exact ⟨.bl false,H1,I1,rfl,q1⟩
theorem uv (ha:PE X a ta):PE X (.UnaryOp .Not a pos) (zl ta):=by
  intro pins s σ H Q I h
  refine UnaryOp_ (aE (ha pins s σ H _ I h) fun v s1 ⟨x,H1,I1,r1,q1⟩=>?_)
  obtain ⟨c,rfl,q1⟩:=q1
  cases r1
  exact not_of (wpAny_truthy_bool ⟨.bl (!c),H1,I1,rfl,q1⟩)
end
end L2
namespace L2
open PySem PySem.Spec PyProof.Rows
def aq (K:PySem.W.Frag) (H:Hp) (a:Addr) (xs:List V):Prop :=
  Rd H a (.lst xs) \/
    ∃ (o:Obj) (its:Array Value) (n:Nat),K.lookup a=some o/\o.cls = .type "list"/\o.dict=none/\o.data = .seq its n/\its.size<=sizeLine/\Vals xs its.toList
def jh (K:PySem.W.Frag) (H:Hp) (a:Addr) (xs:List V):Prop :=
  Rd H a (.tup xs) \/
    ∃ (o:Obj) (its:Array Value) (n:Nat),K.lookup a=some o/\o.cls = .type "tuple"/\o.data = .seq its n/\its.size<=sizeLine/\Vals xs its.toList
noncomputable def Af:Value->Option V
  | .none=>some .non
  | .bool b=>some (.bl b)
  | .int i _=>some (.int i)
  | .str x _=>some (.str x)
  | .bytes b _=>some (.byt b)
  | .float b _=>some (.flt b)
  | .ref a=>some (.ref a)
  | .type n=>some (.ty n)
  | _=>none
theorem RelV.abs {x:V} {u:Value} (r:RelV x u):Af u=some x:=by
  cases x with
  | non=>cases r; rfl
  | bl _=>cases r; rfl
  | int _=>obtain ⟨t,rfl⟩:=r; rfl
  | str _=>obtain ⟨t,rfl⟩:=r; rfl
  | byt _=>obtain ⟨t,rfl⟩:=r; rfl
  | flt _=>obtain ⟨t,rfl⟩:=r; rfl
  | ref _=>cases r; rfl
  | ty _=>cases r; rfl
theorem RelV.inj {x y:V} {u:Value} (r:RelV x u) (q:RelV y u):x=y:=Option.some.inj (r.abs.symm.trans q.abs)
theorem Vals.inj:∀ {xs ys:List V} {us:List Value},Vals xs us->Vals ys us->xs=ys
  | _,_,_,.nil,.nil=>rfl
  | _,_,_,.cons r t,.cons r' t'=>by rw [r.inj r',Vals.inj t t']
section
variable {X:Cx} {pins:List (Addr × Obj)} {σ:St} {H:Hp} {s:Shared} {a:Addr} {xs ys:List V}
theorem aq.of {K:PySem.W.Frag} (h:H a=some (.lst xs)):aq K H a xs:=.inl (.inl h)
theorem jh.of {K:PySem.W.Frag} (h:H a=some (.tup xs)):jh K H a xs:=.inl (.inl h)
theorem Inv.list (I:Inv X pins σ H s) (h:aq X.K H a xs):∃ its:List Value,Vals xs its/\PlainL s.heap a its.toArray/\xs.length<=sizeLine:=by
  rcases h with h | ⟨o,its,n,hk,hc,hd,hs,hz,r⟩
  · obtain ⟨z,its,n,r,e⟩:=h.ok I.hok
    exact ⟨its,r,⟨_,n,e,rfl,rfl,rfl⟩,z⟩
  · refine ⟨its.toList,r,⟨o,n,I.kIn a o hk,hc,hd,by simpa using hs⟩,?_⟩
    have e:=r.length
    simp only [Array.length_toList] at e
    lia
theorem Inv.tuple (I:Inv X pins σ H s) (h:jh X.K H a xs):∃ its:List Value,Vals xs its/\IsTup s.heap a its.toArray/\xs.length<=sizeLine:=by
  rcases h with h | ⟨o,its,n,hk,hc,hs,hz,r⟩
  · obtain ⟨z,its,r,p⟩:=h.ok I.hok
    exact ⟨its,r,p,z⟩
  · refine ⟨its.toList,r,⟨o,I.kIn a o hk,hc,n,by simpa using hs⟩,?_⟩
    have e:=r.length
    simp only [Array.length_toList] at e
    lia
theorem Inv.list_inj (I:Inv X pins σ H s) (h:aq X.K H a xs) (h':aq X.K H a ys):xs=ys:=by
  obtain ⟨its,r,⟨o,n,e,_,_,d⟩,_⟩:=I.list h
  obtain ⟨its',r',⟨o',n',e',_,_,d'⟩,_⟩:=I.list h'
  rw [e] at e'; cases e'
  rw [d] at d'
  injection d' with d1 _
  have:its=its':=by simpa using congrArg Array.toList d1
  subst this
  exact r.inj r'
end
noncomputable abbrev Cx.wish (X:Cx) (E:Value->Shared->Prop):Cx:={ X with xe:=E }
noncomputable abbrev Cx.nox (X:Cx):Cx:=X.wish fun _ _=>False
theorem Cx.Ok.wish {X:Cx} (ok:X.Ok) (E:Value->Shared->Prop):(X.wish E).Ok :=
  ⟨ok.mod,ok.kind,ok.glob,ok.blt,ok.above,ok.inj,ok.has,ok.cab,ok.hd,ok.frames,ok.stk,ok.exf,ok.bs,ok.bsz,ok.noex,ok.exfs,ok.funs,ok.frf⟩
theorem Cx.Ok.unwish {X:Cx} {E:Value->Shared->Prop} (ok:(X.wish E).Ok):X.Ok :=
  ⟨ok.mod,ok.kind,ok.glob,ok.blt,ok.above,ok.inj,ok.has,ok.cab,ok.hd,ok.frames,ok.stk,ok.exf,ok.bs,ok.bsz,ok.noex,ok.exfs,ok.funs,ok.frf⟩
section
variable {X:Cx} {pins:List (Addr × Obj)} {σ:St} {H:Hp} {s:Shared} {E:Value->Shared->Prop}
theorem Inv.wish (I:Inv X pins σ H s) (E:Value->Shared->Prop):Inv (X.wish E) pins σ H s:=⟨I.ok.wish E,I.os,I.bare,I.base,I.loc,I.cell,I.free,I.freeC,I.pin,I.hok,I.len⟩
theorem Inv.unwish (I:Inv (X.wish E) pins σ H s):Inv X pins σ H s:=⟨I.ok.unwish,I.os,I.bare,I.base,I.loc,I.cell,I.free,I.freeC,I.pin,I.hok,I.len⟩
theorem SP.unwish {D:Ends} {f:Flow} {s':Shared} (h:SP (X.wish E) pins D f s'):SP X pins D f s':=by
  cases f with
  | next=>obtain ⟨σ',H',I,q⟩:=h; exact ⟨σ',H',I.unwish,q⟩
  | brk=>obtain ⟨σ',H',I,q⟩:=h; exact ⟨σ',H',I.unwish,q⟩
  | cont=>obtain ⟨σ',H',I,q⟩:=h; exact ⟨σ',H',I.unwish,q⟩
  | ret u=>obtain ⟨v,σ',H',I,r,q⟩:=h; exact ⟨v,σ',H',I.unwish,r,q⟩
theorem jC.nox {st:List Stmt} {t:TS} (h:jC X.nox st t):jC X st t:=fun pins s σ H D I hw =>
  wpAny_mono (h pins s σ H D (I.wish _) hw) (fun _ _ q=>q.unwish) fun _ _ z=>False.elim z
end
section
variable {X:Cx} {st:Stmt} {rest:List Stmt} {t u:TS} {e:Expr} {te:TE} {pos:Pos}
noncomputable def zo:TS:=fun D σ H=>D.nx σ H
noncomputable def zU (t u:TS):TS:=fun D σ H=>t { D with nx:=u D } σ H
theorem bh:jC X [] zo:=fun _ _ σ H _ I h=>wpAny_execs_nil ⟨σ,H,I,h⟩
theorem ai (h1:PS X st t) (h2:jC X rest u):jC X (st::rest) (zU t u):=by
  intro pins s σ H D I h
  refine wpAny_execs_cons (aE (h1 pins s σ H { D with nx:=u D } I h) fun f s1 q=>?_)
  cases f with
  | next =>
    obtain ⟨σ',H',I',q⟩:=q
    exact h2 pins s1 σ' H' D I' q
  | ret v=>exact q
  | brk=>exact q
  | cont=>exact q
theorem ak (h1:PS X st t):jC X [st] t:=by
  intro pins s σ H D I h
  refine wpAny_execs_cons (aE (h1 pins s σ H D I h) fun f s1 q=>?_)
  cases f with
  | next=>exact wpAny_execs_nil q
  | ret v=>exact q
  | brk=>exact q
  | cont=>exact q
theorem Inv.quiet {pins:List (Addr × Obj)} {σ:St} {H:Hp} {s:Shared} (I:Inv X pins σ H s):interactive X.env=false:=by simp [interactive,I.ok.kind]
noncomputable def zd (te:TE):TS:=fun D σ H=>te σ H fun _ H1=>D.nx σ H1
theorem aW (he:PE X e te) (hs:swapsWith e none pos.line X.env=pure false:=by rfl):PS X (.Expr e pos) (zd te):=by
  intro pins s σ H D I h
  exact wpAny_Expr_any (aE (he pins s σ H _ I h) fun v s1 ⟨x,H1,I1,r1,q1⟩=>⟨σ,H1,I1,q1⟩) I.quiet hs
noncomputable def zW (te:TE):TS:=fun D σ H=>te σ H D.rt
theorem aA (he:PE X e te):PS X (.Return (some e) pos) (zW te):=by
  intro pins s σ H D I h
  exact wpAny_Return_some (aE (he pins s σ H _ I h) fun v s1 ⟨x,H1,I1,r1,q1⟩=>⟨x,σ,H1,I1,r1,q1⟩)
noncomputable def zZ (c:TT) (t u:TS):TS:=fun D σ H=>c σ H fun b H1=>if b=true then t D σ H1 else u D σ H1
theorem bu {c:Expr} {a b:List Stmt} {tc:TT} (hc:PT X c tc) (ha:jC X a t) (hb:jC X b u):PS X (.If c a b pos) (zZ tc t u):=by
  intro pins s σ H D I h
  refine wpAny_If (aE (hc pins s σ H _ I h) fun d s1 ⟨H1,I1,q1⟩=>?_)
  cases d with
  | true=>exact ha pins s1 σ H1 D I1 q1
  | false=>exact hb pins s1 σ H1 D I1 q1
noncomputable def ym:TS:=fun _ _ _=>False
theorem nR:PS X st ym:=fun _ _ _ _ _ _ h=>h.elim
end
noncomputable abbrev TG:=V->St->Hp->(St->Hp->Prop)->Prop
noncomputable abbrev qT:=List V->St->Hp->(St->Hp->Prop)->Prop
def PG (X:Cx) (target:Expr) (t:TG):Prop :=
  ∀ (pins:List (Addr × Obj)) (s:Shared) (σ:St) (H:Hp) (v:V) (u:Value) (Q:St->Hp->Prop),Inv X pins σ H s->RelV v u->t v σ H Q ->
    wpAny (model X.prog X.w) X.A (assign target X.env u) (fun _ s'=>∃ σ' H',Inv X pins σ' H' s'/\Q σ' H') X.xe s
def wU (X:Cx) (ts:List Expr) (t:qT):Prop :=
  ∀ (pins:List (Addr × Obj)) (s:Shared) (σ:St) (H:Hp) (vs:List V) (us:List Value) (Q:St->Hp->Prop),Inv X pins σ H s->Vals vs us->t vs σ H Q ->
    wpAny (model X.prog X.w) X.A (assignInOrder ((assignEach ts X.env).map (·.2)) us) (fun _ s'=>∃ σ' H',Inv X pins σ' H' s'/\Q σ' H') X.xe s
noncomputable abbrev vF:=V->V->V->Hp->(Hp->Prop)->Prop
def yF (X:Cx) (t:vF):Prop :=
  ∀ (pins:List (Addr × Obj)) (s:Shared) (σ:St) (H:Hp) (o i v:V) (ov iv u:Value) (Q:Hp->Prop),Inv X pins σ H s->RelV o ov->RelV i iv->RelV v u->t o i v H Q ->
    wpAny (model X.prog X.w) X.A (setItem ov iv u) (fun _ s'=>∃ H',Inv X pins σ H' s'/\Q H') X.xe s
noncomputable abbrev w4:=V->V->Hp->VK->Prop
def yN (X:Cx) (op:Operator) (t:w4):Prop :=
  ∀ (pins:List (Addr × Obj)) (s:Shared) (σ:St) (H:Hp) (x y:V) (v u:Value) (Q:VK),Inv X pins σ H s->RelV x v->RelV y u->t x y H Q ->
    wpAny (model X.prog X.w) X.A (inplaceOp op v u) (EP X pins σ Q) X.xe s
section
variable {X:Cx} {pos:Pos}
noncomputable def wM (i:Nat):TG:=fun v σ H Q=>Q (σ.set i (some v)) H
theorem aJ {i:Nat} {x:Str} (hN:X.N.Nodup) (hi:X.N[i]? = some x) (hx:Loc X.env.scope x) (hf:X.fn x=true\/X.env.scope.names.lookup x=some .local:=by first | exact .inl rfl | exact .inr rfl | assumption):PG X (.Name x pos) (wM i):=by
  intro pins s σ H v u Q I r h
  exact wpAny_assign_Name (nI I hN hi hx r (fun s' I'=>⟨_,H,I',h⟩) hf)
noncomputable def Ai:qT:=fun vs σ H Q=>vs=[]/\Q σ H
noncomputable def zq (t:TG) (u:qT):qT:=fun vs σ H Q=>∃ v r,vs=v::r/\t v σ H fun σ' H'=>u r σ' H' Q
theorem o5:wU X [] Ai:=by
  intro pins s σ H vs us Q I r h
  obtain ⟨e,h⟩:=h
  subst e
  cases r
  exact assignInOrder_nil ⟨σ,H,I,h⟩
theorem iB {e:Expr} {es:List Expr} {t:TG} {u:qT} (h1:PG X e t) (h2:wU X es u)
    (hs:(assignEach (e::es) X.env).map (·.2)=assign e X.env::(assignEach es X.env).map (·.2):=by rfl):wU X (e::es) (zq t u):=by
  intro pins s σ H vs us Q I r h
  obtain ⟨v,vr,e1,h⟩:=h
  subst e1
  cases r with
  | cons r rr =>
    rw [hs]
    refine assignInOrder_cons (aE (h1 pins s σ H _ _ _ I r h) fun _ s1 ⟨σ1,H1,I1,q1⟩=>?_)
    exact h2 pins s1 σ1 H1 _ _ Q I1 rr q1
noncomputable def zM (K:PySem.W.Frag) (n:Nat) (t:qT):TG:=fun v σ H Q=>∃ a xs,v = .ref a/\jh K H a xs/\xs.length=n/\t xs σ H Q
theorem rC {es:List Expr} {k:Nat} {t:qT} {n:Nat} (hc:X.calm=true) (h:wU X es t)
    (hn:(assignEach es X.env).length=n:=by rfl) (hst:(assignEach es X.env).findIdx? (·.1)=none:=by rfl):PG X (.Tuple es k pos) (zM X.K n t):=by
  intro pins s σ H v u Q I r hw
  obtain ⟨a,xs,e1,hq,hl,hw⟩:=hw
  subst e1
  cases r
  obtain ⟨its,rv,ht,hz⟩:=I.tuple hq
  refine assign_Tuple_tuple (I.ok.hd hc) ht (by simp [hn,<- hl,rv.length]) hst fun h' hx=>?_
  have I1:Inv X pins σ H { s with heap:=h' }:=I.kept (t':=s.toks) fun b o e=>hx b o (Nat.ne_of_lt (Heap.lt_size e)) e
  exact h pins _ σ H xs _ Q I1 (by simpa using rv) hw
noncomputable def zQ (to ti:TE) (t:vF):TG:=fun v σ H Q=>to σ H fun o H1=>ti σ H1 fun i H2=>t o i v H2 fun H3=>Q σ H3
theorem uA {o i:Expr} {to ti:TE} {t:vF} (ho:PE X o to) (hi:PE X i ti) (hs:yF X t)
    (ha:∀ v,assign (.Subscript o i pos) X.env v=(do
      let ov <- holding [v] (eval o X.env)
      let iv <- holding [v,ov] (eval i X.env)
      standAt pos
      holding [v,ov,iv] (setItem ov iv v)
      release [v,ov,iv] []):=by intro _; rfl):PG X (.Subscript o i pos) (zQ to ti t):=by
  intro pins s σ H v u Q I r h
  rw [ha]
  refine wpAny_bind (wpAny_holding (aE (ho pins s σ H _ I h) fun ov s1 ⟨x,H1,I1,r1,q1⟩=>?_))
  refine wpAny_bind (wpAny_holding (aE (hi pins s1 σ H1 _ I1 q1) fun iv s2 ⟨y,H2,I2,r2,q2⟩=>?_))
  refine wpAny_bind (wpAny_standAt (wpAny_bind (wpAny_holding (aE (hs pins s2 σ H2 x y v ov iv u _ I2 r1 r2 r q2) fun _ s3 ⟨H3,I3,q3⟩=>?_))))
  exact wpAny_release ⟨σ,H3,I3,q3⟩
noncomputable def yP (te:TE) (g:TG):TS:=fun D σ H=>te σ H fun x H1=>g x σ H1 D.nx
theorem uL {tg e:Expr} {te:TE} {g:TG} (he:PE X e te) (hg:PG X tg g) (hs:swapsWithSole [tg] e pos.line X.env=pure false:=by rfl) (hw:swappedStores [tg] e X.env=pure none:=by rfl)
    (h1:(assignEach [tg] X.env).map (·.2)=[assign tg X.env]:=by rfl):PS X (.Assign [tg] e pos) (yP te g):=by
  intro pins s σ H D I h
  refine wpAny_Assign_stores (aE (he pins s σ H _ I h) fun v s1 ⟨x,H1,I1,r1,q1⟩=>?_) hs hw
  rw [h1]
  exact aE (hg pins s1 σ H1 x v _ I1 r1 q1) fun _ s2 q=>q
theorem aB {i:Nat} {x:Str} {e:Expr} {te:TE} {pos':Pos} (hN:X.N.Nodup) (hi:X.N[i]? = some x) (hx:Loc X.env.scope x) (he:PE X e te) (hs:swapsWith e (some (.Name x pos')) pos.line X.env=pure false:=by rfl) (hf:X.fn x=true\/X.env.scope.names.lookup x=some .local:=by first | exact .inl rfl | exact .inr rfl | assumption) :
    PS X (.Assign [.Name x pos'] e pos) (yP te (wM i)):=by
  intro pins s σ H D I h
  refine wpAny_Assign_Name (aE (he pins s σ H _ I h) fun v s1 ⟨y,H1,I1,r1,q1⟩=>?_) hs
  exact nI I1 hN hi hx r1 (fun s2 I2=>⟨_,H1,I2,q1⟩) hf
noncomputable def z0 (i:Nat) (te:TE) (ti:w4):TS:=fun D σ H=>∃ x,σ[i]? = some (some x)/\te σ H fun y H1=>ti x y H1 fun z H2=>D.nx (σ.set i (some z)) H2
theorem oH {i:Nat} {x:Str} {e:Expr} {te:TE} {op:Operator} {ti:w4} {pos':Pos} (hN:X.N.Nodup) (hi:X.N[i]? = some x) (hx:Loc X.env.scope x) (he:PE X e te) (ho:yN X op ti) (hf:X.fn x=true\/X.env.scope.names.lookup x=some .local:=by first | exact .inl rfl | exact .inr rfl | assumption) :
    PS X (.AugAssign (.Name x pos') op e pos) (z0 i te ti):=by
  intro pins s σ H D I h
  obtain ⟨v,e1,h⟩:=h
  obtain ⟨m,hn,hl⟩:=I.loc
  have vis:wL X.env.scope x:=by rcases hx with k | k; exact .inl k; exact .inr (.inl k)
  obtain ⟨u,r,l⟩:=hl i x v hi e1 vis
  refine wpAny_AugAssign_Name ?_
  have go:wpAny (model X.prog X.w) X.A (eval e X.env) (fun w s₂=>wpAny (model X.prog X.w) X.A (inplaceOp op u w) (fun r s₃=>wpAny (model X.prog X.w) X.A (storeName X.env x r) (fun _=>SP X pins D .next) X.xe s₃) X.xe s₂) X.xe s:=by
    refine aE (he pins s σ H _ I h) fun w s1 ⟨y,H1,I1,r1,q1⟩=>?_
    refine aE (ho pins s1 σ H1 v y u w _ I1 r r1 q1) fun z s2 ⟨zv,H2,I2,r2,q2⟩=>?_
    exact nI I2 hN hi hx r2 (fun s3 I3=>⟨_,H2,I3,q2⟩) hf
  rcases l with ⟨hk,hm⟩ | ⟨hk,c,hc,hcell⟩
  · exact wpAny_loadName_local I.ok.kind hk hn hm go
  · rcases hk with hk | hk
    · exact wpAny_loadName_cell I.ok.kind hk hc hcell go
    · rcases hx with k | k
      · have:X.env.scope.names.lookup x=some .free:=hk
        rw [k] at this; cases this
      · have:X.env.scope.names.lookup x=some .free:=hk
        rw [k] at this; cases this
noncomputable def zJ (f:Int->Int->Int):w4:=fun x y H Q=>∃ i j,x = .int i/\y = .int j/\Q (.int (f i j)) H
theorem qN:yN X .Add (zJ fun i j=>i+j):=by
  intro pins s σ H x y v u Q I r1 r2 h
  obtain ⟨i,j,e1,e2,q⟩:=h
  subst e1; subst e2
  obtain ⟨t,rfl⟩:=r1
  obtain ⟨t',rfl⟩:=r2
  exact iadd_int ⟨.int _,H,I.tok _,⟨_,rfl⟩,q⟩
theorem yQ:yN X .Sub (zJ fun i j=>i - j):=by
  intro pins s σ H x y v u Q I r1 r2 h
  obtain ⟨i,j,e1,e2,q⟩:=h
  subst e1; subst e2
  obtain ⟨t,rfl⟩:=r1
  obtain ⟨t',rfl⟩:=r2
  exact isub_int ⟨.int _,H,I.tok _,⟨_,rfl⟩,q⟩
end
section
variable {X:Cx} {pos:Pos}
noncomputable def yX (c:TT) (tb:TS):TS:=fun D σ H=>∃ W:Nat->St->Hp->Prop,(∃ m,W m σ H)/\∀ m σ H,W m σ H ->
  c σ H fun b H1=>if b=true then ∃ N:St->Hp->Prop,(∀ σ' H',N σ' H'->∃ m',m' < m/\W m' σ' H')/\tb { D with nx:=N,ct:=N,bk:=D.nx } σ H1 else D.nx σ H1
theorem qW {c:Expr} {body:List Stmt} {tc:TT} {tb:TS} (hp:PassesOwn (model X.prog X.w) X.A X.env X.xe) (hc:PT X c tc) (hb:jC X body tb):PS X (.While c body [] pos) (yX tc tb):=by
  intro pins s σ H D I h
  obtain ⟨W,⟨m0,w0⟩,turn⟩:=h
  refine wpAny_While (codeAny_whileLoop (fun n s'=>∃ σ' H',Inv X pins σ' H' s'/\W n σ' H') ?_ m0 ⟨σ,H,I,w0⟩)
  rintro n s1 ⟨σ1,H1,I1,w1⟩
  refine wpAny_passesOwn hp (aE (hc pins s1 σ1 H1 _ I1 (turn n σ1 H1 w1)) fun b s2 ⟨H2,I2,q2⟩=>?_)
  cases b with
  | true =>
    obtain ⟨N,hN,q2⟩:=q2
    rw [if_pos rfl]
    refine wpAny_passesOwn hp (aE (hb pins s2 σ1 H2 _ I2 q2) fun f s3 q3=>?_)
    cases f with
    | next =>
      obtain ⟨σ3,H3,I3,n3⟩:=q3
      obtain ⟨m',hm,w3⟩:=hN σ3 H3 n3
      exact ⟨m',hm,σ3,H3,I3,w3⟩
    | cont =>
      obtain ⟨σ3,H3,I3,n3⟩:=q3
      obtain ⟨m',hm,w3⟩:=hN σ3 H3 n3
      exact ⟨m',hm,σ3,H3,I3,w3⟩
    | brk=>exact q3
    | ret v=>exact q3
  | false =>
    rw [if_neg Bool.false_ne_true]
    exact wpAny_execs_nil ⟨σ1,H2,I2,q2⟩
end
structure It where
  go:Nat->Hp->Prop
  yld:Nat->Hp->V->Hp->Prop
  stop:Nat->Hp->Prop
def kj (X:Cx) (pins:List (Addr × Obj)) (H:Hp) (b:Addr):Prop :=
  H b=none/\b≠X.env.locals/\b∉X.fs/\(b∈X.ex\/X.s₀.heap.objs.size<=b)/\(∀ x c,X.env.cells.lookup x=some c->c≠b)/\∀ p∈X.pn++pins,p.1≠b
theorem Inv.fpOk {X:Cx} {pins:List (Addr × Obj)} {σ:St} {H H':Hp} {s:Shared} {b:Addr} (I:Inv X pins σ H s) (hb:s.heap.objs.size<=b) (hn:H' b=none):kj X pins H' b:=by
  refine ⟨hn,Nat.ne_of_gt (Nat.lt_of_lt_of_le I.lt hb),I.nofs hb,.inr (Nat.le_trans I.sz hb),fun x c e z=>?_,fun p hp z=>?_⟩
  · obtain ⟨v,q⟩:=I.cell x c e
    exact absurd (Nat.lt_of_lt_of_le q.lt (by rw [z]; exact hb)) (Nat.lt_irrefl _)
  · exact absurd (Nat.lt_of_lt_of_le (Heap.lt_size (I.pin p hp).1) (by rw [z]; exact hb)) (Nat.lt_irrefl _)
structure Turn (P:Program) (w:World) (K:PySem.W.Frag) (tg:Expr) (J:It) (fp:List Addr) (it:Addr) (tn:Nat->Heap->Prop):Prop where
  mem:it∈fp
  obj:∀ i h,tn i h->∀ b∈fp,∃ o,h.get? b=some o/\∀ v,o.data≠.cell v
  keep:∀ i h h',tn i h->(∀ b∈fp,∀ o,h.get? b=some o->h'.get? b=some o)->tn i h'
  item:∀ (X:Cx),X.prog=P->X.w=w->X.K=K->X.calm=true->∀ (i:Nat) (pins:List (Addr × Obj)) (s:Shared) (σ:St) (H:Hp) (E:Value->Shared->Prop),Inv X pins σ H s->(∀ b∈fp,kj X pins H b)->tn i s.heap->J.go i H ->
    wpAny (model P w) X.A (pyNext (.ref it)) (fun r s1=>∃ u,r=some u /\
      wpAny (model P w) X.A (letOwnedTupleGo tg (.ref it) u) (fun _ s2=>∃ x H',Inv X pins σ H' s2/\RelV x u/\J.yld i H x H'/\tn (i+1) s2.heap/\∀ b∈fp,H' b=none) E s1) E s
  done:∀ (X:Cx),X.prog=P->X.w=w->X.K=K->X.calm=true->∀ (i:Nat) (pins:List (Addr × Obj)) (s:Shared) (σ:St) (H:Hp) (E:Value->Shared->Prop),Inv X pins σ H s->(∀ b∈fp,kj X pins H b)->tn i s.heap->J.stop i H ->
    wpAny (model P w) X.A (pyNext (.ref it)) (fun r s1=>r=none/\Inv X pins σ H s1) E s
  self:∀ (A:Around) (i:Nat) (s:Shared) (Q:Value->Shared->Prop) (E:Value->Shared->Prop),tn i s.heap->Q (.ref it) s->wpAny (model P w) A (pyIter (.ref it)) Q E s
noncomputable abbrev TI:=St->Hp->(It->Hp->Prop)->Prop
def yM (X:Cx) (pins:List (Addr × Obj)) (σ:St) (tg:Expr) (R:It->Hp->Prop) (itv:Value) (s2:Shared):Prop :=
  ∃ (it:Addr) (fp:List Addr) (tn:Nat->Heap->Prop) (J:It) (H':Hp),itv = .ref it/\Inv X pins σ H' s2/\Turn X.prog X.w X.K tg J fp it tn/\tn 0 s2.heap/\(∀ b∈fp,kj X pins H' b)/\R J H'
def PI (X:Cx) (tg iter:Expr) (wi:TI):Prop :=
  ∀ (pins:List (Addr × Obj)) (s:Shared) (σ:St) (H:Hp) (R:It->Hp->Prop),Inv X pins σ H s->wi σ H R ->
    wpAny (model X.prog X.w) X.A (eval iter X.env) (fun v s1=>wpAny (model X.prog X.w) X.A (pyIter v) (yM X pins σ tg R) X.xe s1) X.xe s
theorem tF {M:Model} {A:Around} {E:Value->Shared->Prop} {s:Shared} {tg:Expr} {it:Addr} {u:Value} {o:Obj} {n:String} {vs:Array Value} {Q:Unit->Shared->Prop} (ho:s.heap.get? it=some o) (hc:o.cls = .type n) (hd:o.data = .fields vs)
    (hn:["enumerate","zip","dict_itemiterator","dict_reverseitemiterator","odict_iterator","itertools.zip_longest","itertools.pairwise"].contains n=false) (hQ:Q () s):wpAny M A (letOwnedTupleGo tg (.ref it) u) Q E s:=by
  unfold letOwnedTupleGo
  cases tg<;>first
    | exact wpAny_pure hQ
    | (cases u<;>first
        | exact wpAny_pure hQ
        | (refine wpAny_bind (wpAny_load ho ?_)
           rw [hc,hd]
           show wpAny M A (if (["enumerate","zip","dict_itemiterator","dict_reverseitemiterator","odict_iterator","itertools.zip_longest","itertools.pairwise"].contains n&&vs[0]? == some (rawInt _))=true then _ else _) Q E s
           rw [if_neg (by intro h; rw [hn,Bool.false_and] at h; cases h)]
           exact wpAny_pure hQ))
noncomputable def rW (K:PySem.W.Frag) (a:Addr):It :=
  ⟨fun i H=>∃ xs x,aq K H a xs/\xs[i]? = some x,fun i H x H'=>H'=H/\∀ xs,aq K H a xs->xs[i]? = some x,fun i H=>∃ xs,aq K H a xs/\xs.length<=i⟩
noncomputable def qa (lo:Int) (n:Nat):It:=⟨fun i _=>i < n,fun i H x H'=>H'=H/\x = .int (lo+i),fun i _=>n<=i⟩
theorem uG {P:Program} {w:World} {K:PySem.W.Frag} {tg:Expr} (a it:Addr):Turn P w K tg (rW K a) [it] it (fun i h=>h.IsListIter it a i) where
  mem:=by simp
  obj:=fun i h st b hb=>by
    have e:b=it:=by simpa using hb
    subst e
    obtain ⟨o,e,c,d⟩:=st
    exact ⟨o,e,fun v z=>by rw [d] at z; cases z⟩
  keep:=fun i h h' st k=>st.at fun o e=>k it (by simp) o e
  item:=by
    intro X hP hw hK hc i pins s σ H E I hf st hg
    subst hP hw hK
    obtain ⟨xs,x,hq,hx⟩:=hg
    obtain ⟨its,rv,p,hz⟩:=I.list hq
    obtain ⟨u,hu,ru⟩:=rv.get hx
    obtain ⟨f0,f1,f2,f3,f4,f5⟩:=hf it (by simp)
    refine wpAny_pyNext_list_item st p.isList (x:=u) (by simpa using hu) fun h' st' sb=>?_
    have I1:Inv X pins σ H { s with heap:=h' }:=I.turned (t':=s.toks) (fun b o hb e=>(sb.2 b hb).trans e) f0 f1 f3 f4 f5
    obtain ⟨o,e,c,d⟩:=id st'
    exact ⟨u,rfl,tF (s:={ s with heap:=h' }) e c d (by decide) ⟨x,H,I1,ru,⟨rfl,fun ys hy=>by rw [I.list_inj hy hq]; exact hx⟩,st',fun b hb=>(hf b hb).1⟩⟩
  done:=by
    intro X hP hw hK hc i pins s σ H E I hf st hg
    subst hP hw hK
    obtain ⟨xs,hq,hx⟩:=hg
    obtain ⟨its,rv,p,hz⟩:=I.list hq
    obtain ⟨f0,f1,f2,f3,f4,f5⟩:=hf it (by simp)
    have hl:=rv.length
    exact wpAny_pyNext_list_end (I.ok.hd hc) st p.isList (by simp; lia) fun h' eb=>⟨rfl,I.turned (t':=s.toks) (fun b o hb e=>eb b o hb e) f0 f1 f3 f4 f5⟩
  self:=fun _ _ _ _ _ st h=>wpAny_pyIter_listiter st h
theorem tZ {P:Program} {w:World} {K:PySem.W.Frag} {tg:Expr} (it:Addr) (lo:Int) (n:Nat):Turn P w K tg (qa lo n) [it] it (fun i h=>IsRangeIter h it (lo+(i:Nat)*1) ((n:Int) - (i:Nat)) 1) where
  mem:=by simp
  obj:=fun i h st b hb=>by
    have e:b=it:=by simpa using hb
    subst e
    exact ⟨_,st,fun v z=>by
      have z':Data.fields _=Data.cell v:=z
      cases z'⟩
  keep:=fun i h h' st k=>k it (by simp) _ st
  item:=by
    intro X hP hw hK hc i pins s σ H E I hf st hg
    subst hP hw hK
    obtain ⟨f0,f1,f2,f3,f4,f5⟩:=hf it (by simp)
    have W:=Walks.range (prog:=X.prog) (w:=X.w) (I.ok.hd hc) it lo 1 n
    refine W.item i s _ _ hg st fun v h' tk hv st' kk=>?_
    obtain ⟨t,rfl⟩:=hv
    have I1:Inv X pins σ H { s with heap:=h',toks:=tk }:=I.turned (fun b o hb e=>kk b o (by simpa using hb) e) f0 f1 f3 f4 f5
    refine ⟨_,rfl,tF (s:={ s with heap:=h',toks:=tk }) (n:="range_iterator") st' rfl rfl (by decide) ⟨.int (lo+i),H,I1,⟨t,?_⟩,⟨rfl,rfl⟩,st',fun b hb=>(hf b hb).1⟩⟩
    rw [Int.mul_one]
  done:=by
    intro X hP hw hK hc i pins s σ H E I hf st hg
    subst hP hw hK
    obtain ⟨f0,f1,f2,f3,f4,f5⟩:=hf it (by simp)
    exact wpAny_pyNext_range_end (I.ok.hd hc) st (by have:n<=i:=hg; lia) fun h' eb=>⟨rfl,I.turned (t':=s.toks) (fun b o hb e=>eb b o hb e) f0 f1 f3 f4 f5⟩
  self:=fun _ _ _ _ _ st h=>wpAny_pyIter_rangeiter st h
end L2
namespace L2
open PySem PySem.Spec PyProof.Rows
section
variable {X:Cx} {tg:Expr}
noncomputable def zy (K:PySem.W.Frag) (tl:TE):TI:=fun σ H R=>tl σ H fun x H1=>∃ a,x = .ref a/\(∃ xs,aq K H1 a xs)/\R (rW K a) H1
theorem dk {l:Expr} {tl:TE} (hl:PE X l tl):PI X tg l (zy X.K tl):=by
  intro pins s σ H R I h
  refine aE (hl pins s σ H _ I h) fun v s1 ⟨x,H1,I1,r1,q1⟩=>?_
  obtain ⟨a,e,⟨xs,hq⟩,q⟩:=q1
  subst e
  cases r1
  obtain ⟨its,rv,p,hz⟩:=I1.list hq
  refine wpAny_pyIter_list p.isList ?_
  refine ⟨s1.heap.objs.size,[s1.heap.objs.size],_,_,H1,rfl,I1.kept (t':=s1.toks) fun b o e=>Heap.get?_push_of_some _ e,uG a _,⟨_,Heap.get?_push_size _ rfl,rfl,rfl⟩,fun b hb=>?_,q⟩
  have e:b=s1.heap.objs.size:=by simpa using hb
  subst e
  exact I1.fpOk (Nat.le_refl _) (I1.hok.fresh (Nat.le_refl _))
theorem rF {pins:List (Addr × Obj)} {σ:St} {H:Hp} {s:Shared} {R:It->Hp->Prop} {E:Value->Shared->Prop} {lo hi:Int} {t u v:Tok} {tk:Nat} (I:Inv X pins σ H s) (h1 : -(2 ^ 62)<=lo) (h2:lo < 2 ^ 62) (h3 : -(2 ^ 62)<=hi) (h4:hi < 2 ^ 62)
    (q:R (qa lo (hi - lo).toNat) H):wpAny (model X.prog X.w) X.A (pyIter (.ref s.heap.objs.size)) (yM X pins σ tg R) E { s with heap:=s.heap.push { cls:=.type "range",data:=.fields #[.int lo t,.int hi u,.int 1 v] },toks:=tk }:=by
  refine wpAny_pyIter_range (IsRange.new ..) (small_one h1 h2 h3 h4) ?_
  have I1:Inv X pins σ H { s with heap:=s.heap.push { cls:=.type "range",data:=.fields #[.int lo t,.int hi u,.int 1 v] },toks:=tk }:=I.kept fun b o e=>Heap.get?_push_of_some _ e
  refine ⟨(s.heap.push { cls:=.type "range",data:=.fields #[.int lo t,.int hi u,.int 1 v] }).objs.size,[(s.heap.push { cls:=.type "range",data:=.fields #[.int lo t,.int hi u,.int 1 v] }).objs.size],_,_,H,rfl,
    I1.kept (t':=tk) fun b o e=>Heap.get?_push_of_some _ e,tZ _ lo (hi - lo).toNat,?_,fun b hb=>?_,q⟩
  · have e1:lo+((0:Nat):Int)*1=lo:=by simp
    have e2:(((hi - lo).toNat:Nat):Int) - ((0:Nat):Int)=Builtin.Range.rangeSize lo hi 1:=by rw [rangeSize_one]; split<;>lia
    show IsRangeIter _ _ (lo+((0:Nat):Int)*1) ((((hi - lo).toNat:Nat):Int) - ((0:Nat):Int)) 1
    rw [e1,e2]
    exact Heap.get?_push_size _ rfl
  · have e:b=(s.heap.push { cls:=.type "range",data:=.fields #[.int lo t,.int hi u,.int 1 v] }).objs.size:=by simpa using hb
    subst e
    exact I1.fpOk (Nat.le_refl _) (I1.hok.fresh (Nat.le_refl _))
noncomputable def zA (ta:TA):TI:=fun σ H R=>ta σ H fun vs H1=>∃ j:Int,vs=[.int j]/\-(2 ^ 62)<=j/\j < 2 ^ 62/\R (qa 0 j.toNat) H1
noncomputable def zr (ta:TA):TI:=fun σ H R=>ta σ H fun vs H1=>∃ i j:Int,vs=[.int i,.int j]/\(-(2 ^ 62)<=i/\i < 2 ^ 62/\-(2 ^ 62)<=j/\j < 2 ^ 62)/\R (qa i (j - i).toNat) H1
theorem eg {a:Expr} {ta:TA} {p pos:Pos} (hg:Gl X "range") (hm:X.mg "range" = none) (ha:PA X [a] ta) (hs:starEach [a] X.env=[(false,eval a X.env)]:=by rfl):PI X tg (.Call (.Name "range" p) [a] [] pos) (zA ta):=by
  intro pins s σ H R I h
  refine Call_ (gm I hg hm boot_range (PyProof.Rows.callWith_type1 (aE (ha pos pins s σ H _ I h) fun us s1 ⟨vs,H1,I1,r1,q1⟩=>?_) hs rfl))
  obtain ⟨j,e,q1,q2,q⟩:=q1
  subst e
  cases r1 with
  | cons r rr =>
    cases rr
    obtain ⟨t,rfl⟩:=r
    exact call_range_1 (rF I1 (by lia) (by lia) q1 q2 (by simpa using q))
theorem ve {a b:Expr} {ta:TA} {p pos:Pos} (hg:Gl X "range") (hm:X.mg "range" = none) (ha:PA X [a,b] ta) (hs:starEach [a,b] X.env=[(false,eval a X.env),(false,eval b X.env)]:=by rfl) (hs2:starEach [b] X.env=[(false,eval b X.env)]:=by rfl) :
    PI X tg (.Call (.Name "range" p) [a,b] [] pos) (zr ta):=by
  intro pins s σ H R I h
  refine Call_ (gm I hg hm boot_range (PyProof.Rows.callWith_type1 (aE (ha pos pins s σ H _ I h) fun us s1 ⟨vs,H1,I1,r1,q1⟩=>?_) (by rw [hs,hs2]) (by rw [hs2]; rfl)))
  obtain ⟨i,j,e,⟨q1,q2,q3,q4⟩,q⟩:=q1
  subst e
  cases r1 with
  | cons r rr =>
    cases rr with
    | cons r' rr =>
      cases rr
      obtain ⟨t,rfl⟩:=r
      obtain ⟨t',rfl⟩:=r'
      exact call_range_2 (rF I1 q1 q2 q3 q4 q)
noncomputable def z5 (wi:TI) (g:TG) (tb:TS):TS:=fun D σ H=>wi σ H fun J H1=>∃ W:Nat->Nat->St->Hp->Prop,(∃ m,W 0 m σ H1)/\∀ i m σ H,W i m σ H ->
  (J.stop i H/\D.nx σ H)\/(J.go i H/\∃ N:St->Hp->Prop,(∀ σ' H',N σ' H'->∃ m',m' < m/\W (i+1) m' σ' H')/\∀ x H',J.yld i H x H'->g x σ H' fun σ2 H2=>tb { D with nx:=N,ct:=N,bk:=D.nx } σ2 H2)
noncomputable def lZ (fp:List Addr) (h:Heap):List (Addr × Obj):=fp.filterMap fun b=>(h.get? b).map fun o=>(b,o)
theorem jq {fp:List Addr} {h:Heap} {b:Addr} {o:Obj} (hb:b∈fp) (e:h.get? b=some o):(b,o)∈lZ fp h:=List.mem_filterMap.mpr ⟨b,hb,by rw [e]; rfl⟩
theorem va {fp:List Addr} {h:Heap} {p:Addr × Obj} (hp:p∈lZ fp h):p.1∈fp/\h.get? p.1=some p.2:=by
  obtain ⟨b,hb,e⟩:=List.mem_filterMap.mp hp
  cases q:h.get? b with
  | none=>rw [q] at e; cases e
  | some o =>
    rw [q] at e
    have e':(b,o)=p:=Option.some.inj e
    subst e'
    exact ⟨hb,q⟩
theorem Inv.pinned {pins:List (Addr × Obj)} {σ:St} {H:Hp} {s:Shared} {fp:List Addr} (I:Inv X pins σ H s) (hf:∀ b∈fp,kj X pins H b) (ho:∀ b∈fp,∃ o,s.heap.get? b=some o/\∀ v,o.data≠.cell v):Inv X (pins++lZ fp s.heap) σ H s :=
  I.pins_of fun p hp=>(List.mem_append.mp hp).elim (fun z=>I.pin p (List.mem_append_right _ z)) fun z=>by
    obtain ⟨hb,e⟩:=va z
    obtain ⟨f0,f1,f2,_⟩:=hf p.1 hb
    obtain ⟨o,e',d⟩:=ho p.1 hb
    rw [e] at e'; cases e'
    exact ⟨e,f0,f1,f2,d⟩
theorem Inv.unpinned {pins pl:List (Addr × Obj)} {σ:St} {H:Hp} {s:Shared} (I:Inv X (pins++pl) σ H s):Inv X pins σ H s:=I.pins_of fun p hp=>I.pin p (List.mem_append_right _ (List.mem_append_left _ hp))
theorem cD {iter:Expr} {body:List Stmt} {wi:TI} {g:TG} {tb:TS} {pos:Pos} (hp:PassesOwn (model X.prog X.w) X.A X.env X.xe) (hc:X.calm=true) (hi:PI X tg iter wi) (hg:PG X tg g) (hb:jC X body tb)
    (hs:∀ x,foldedSetIterable iter X.env x=pure x:=by intro _; rfl):PS X (.For tg iter body [] pos) (z5 wi g tb):=by
  intro pins s σ H D I h
  refine wpAny_For (aE (hi pins s σ H _ I h) fun v s1 h1=>aE h1 fun itv s2 h2=>?_) hs
  obtain ⟨it,fp,tn,J,H2,e,I2,T,st2,f2,W,⟨m0,w0⟩,turn⟩:=h2
  subst e
  -- what stays true of the iterator's objects through the loop
  have stat:∀ {H':Hp},(∀ b∈fp,H' b=none)->∀ b∈fp,kj X pins H' b:=fun hn b hb=>⟨hn b hb,(f2 b hb).2⟩
  refine codeAny_forLoop_any (fun n s'=>∃ i σ' H',Inv X pins σ' H' s'/\tn i s'.heap/\(∀ b∈fp,H' b=none)/\W i n σ' H') ?_ m0 ⟨0,σ,H2,I2,st2,fun b hb=>(f2 b hb).1,w0⟩
  rintro n s3 ⟨i,σ3,H3,I3,st3,fr3,w3⟩
  rcases turn i n σ3 H3 w3 with ⟨stop,qn⟩ | ⟨go,N,hN,step⟩
  · refine wpAny_passesOwn hp (aE (T.done X rfl rfl rfl hc i pins s3 σ3 H3 X.xe I3 (stat fr3) st3 stop) fun r s4 ⟨hr,I4⟩=>?_)
    subst hr
    exact wpAny_execs_nil ⟨σ3,H3,I4,qn⟩
  · refine wpAny_passesOwn hp (aE (T.item X rfl rfl rfl hc i pins s3 σ3 H3 X.xe I3 (stat fr3) st3 go) fun r s4 ⟨u,hr,h4⟩=>?_)
    subst hr
    refine wpAny_passesOwn hp (aE h4 fun _ s5 ⟨x,H5,I5,r5,y5,st5,fr5⟩=>?_)
    have I5':=I5.pinned (stat fr5) (T.obj _ _ st5)
    refine wpAny_passesOwn hp (aE (hg _ s5 σ3 H5 x u _ I5' r5 (step x H5 y5)) fun _ s6 ⟨σ6,H6,I6,q6⟩=>?_)
    refine wpAny_passesOwn hp (aE (hb _ s6 σ6 H6 _ I6 q6) fun f s7 q7=>?_)
    have again:∀ {σ7:St} {H7:Hp},Inv X (pins++lZ fp s5.heap) σ7 H7 s7->N σ7 H7->∃ m,m < n/\∃ i σ' H',Inv X pins σ' H' s7/\tn i s7.heap/\(∀ b∈fp,H' b=none)/\W i m σ' H':=fun {σ7 H7} I7 n7=>by
      obtain ⟨m',hm,w7⟩:=hN σ7 H7 n7
      refine ⟨m',hm,i+1,σ7,H7,I7.unpinned,T.keep _ _ _ st5 fun b hb o e=>(I7.pin (b,o) (List.mem_append_right _ (List.mem_append_right _ (jq hb e)))).1,fun b hb=>?_,w7⟩
      obtain ⟨o,e,d⟩:=T.obj _ _ st5 b hb
      exact (I7.pin (b,o) (List.mem_append_right _ (List.mem_append_right _ (jq hb e)))).2.1
    cases f with
    | next=>obtain ⟨σ7,H7,I7,n7⟩:=q7; exact again I7 n7
    | cont=>obtain ⟨σ7,H7,I7,n7⟩:=q7; exact again I7 n7
    | brk=>obtain ⟨σ7,H7,I7,q7⟩:=q7; exact ⟨σ7,H7,I7.unpinned,q7⟩
    | ret v=>obtain ⟨x7,σ7,H7,I7,r7,q7⟩:=q7; exact ⟨x7,σ7,H7,I7.unpinned,r7,q7⟩
end
theorem gG {K:PySem.W.Frag} {a:Addr} {xs:List V} {g:TG} {tb:TS} {D:Ends} {σ:St} {H:Hp} (Pv:Nat->St->Hp->Prop) (h0:Pv 0 σ H) (hl:∀ i σ H,i<=xs.length->Pv i σ H->aq K H a xs)
    (hs:∀ i x σ H,xs[i]? = some x->Pv i σ H->g x σ H fun σ2 H2=>tb { D with nx:=Pv (i+1),ct:=Pv (i+1),bk:=D.nx } σ2 H2) (hd:∀ σ H,Pv xs.length σ H->D.nx σ H) :
    ∃ W:Nat->Nat->St->Hp->Prop,(∃ m,W 0 m σ H)/\∀ i m σ H,W i m σ H ->
      ((rW K a).stop i H/\D.nx σ H)\/((rW K a).go i H/\∃ N:St->Hp->Prop,(∀ σ' H',N σ' H'->∃ m',m' < m/\W (i+1) m' σ' H')/\∀ x H',(rW K a).yld i H x H'->g x σ H' fun σ2 H2=>tb { D with nx:=N,ct:=N,bk:=D.nx } σ2 H2):=by
  refine ⟨fun i m σ H=>m=xs.length - i/\i<=xs.length/\Pv i σ H,⟨xs.length,by simp,Nat.zero_le _,h0⟩,?_⟩
  rintro i m σ H ⟨rfl,hi,p⟩
  have q:=hl i σ H hi p
  by_cases hlt:i < xs.length
  · refine .inr ⟨⟨xs,xs[i],q,by simp [hlt]⟩,Pv (i+1),fun σ' H' p'=>⟨xs.length - (i+1),by lia,rfl,hlt,p'⟩,fun x H' y=>?_⟩
    obtain ⟨e,y⟩:=y
    subst e
    exact hs i x σ _ (y xs q) p
  · have e:i=xs.length:=by lia
    subst e
    exact .inl ⟨⟨xs,q,Nat.le_refl _⟩,hd σ H p⟩
theorem eS {lo:Int} {n:Nat} {g:TG} {tb:TS} {D:Ends} {σ:St} {H:Hp} (Pv:Nat->St->Hp->Prop) (h0:Pv 0 σ H)
    (hs:∀ i σ H,i < n->Pv i σ H->g (.int (lo+i)) σ H fun σ2 H2=>tb { D with nx:=Pv (i+1),ct:=Pv (i+1),bk:=D.nx } σ2 H2) (hd:∀ σ H,Pv n σ H->D.nx σ H) :
    ∃ W:Nat->Nat->St->Hp->Prop,(∃ m,W 0 m σ H)/\∀ i m σ H,W i m σ H ->
      ((qa lo n).stop i H/\D.nx σ H)\/((qa lo n).go i H/\∃ N:St->Hp->Prop,(∀ σ' H',N σ' H'->∃ m',m' < m/\W (i+1) m' σ' H')/\∀ x H',(qa lo n).yld i H x H'->g x σ H' fun σ2 H2=>tb { D with nx:=N,ct:=N,bk:=D.nx } σ2 H2):=by
  refine ⟨fun i m σ H=>m=n - i/\i<=n/\Pv i σ H,⟨n,by simp,Nat.zero_le _,h0⟩,?_⟩
  rintro i m σ H ⟨rfl,hi,p⟩
  by_cases hlt:i < n
  · refine .inr ⟨hlt,Pv (i+1),fun σ' H' p'=>⟨n - (i+1),by lia,rfl,hlt,p'⟩,fun x H' y=>?_⟩
    obtain ⟨e,y⟩:=y
    subst e y
    exact hs i σ _ hlt p
  · have e:i=n:=by lia
    subst e
    exact .inl ⟨Nat.le_refl _,hd σ H p⟩
end L2
namespace L2
open PySem PySem.Spec PyProof.Rows
noncomputable abbrev R2:=V->V->Hp->VK->Prop
def eA (X:Cx) (f:Value->Value->Sem Value) (r:R2):Prop :=
  ∀ (pins:List (Addr × Obj)) (s:Shared) (σ:St) (H:Hp) (x y:V) (v u:Value) (Q:VK),Inv X pins σ H s->RelV x v->RelV y u->r x y H Q ->
    wpAny (model X.prog X.w) X.A (f v u) (EP X pins σ Q) X.xe s
def ye (X:Cx) (f:Value->Sem Value) (r:V->Hp->VK->Prop):Prop :=
  ∀ (pins:List (Addr × Obj)) (s:Shared) (σ:St) (H:Hp) (x:V) (v:Value) (Q:VK),Inv X pins σ H s->RelV x v->r x H Q ->
    wpAny (model X.prog X.w) X.A (f v) (EP X pins σ Q) X.xe s
def eY (X:Cx) (f:Value) (r:List V->Hp->VK->Prop):Prop :=
  ∀ (pins:List (Addr × Obj)) (s:Shared) (σ:St) (H:Hp) (xs:List V) (us:List Value) (Q:VK),Inv X pins σ H s->Vals xs us->r xs H Q ->
    wpAny (model X.prog X.w) X.A (call f us) (EP X pins σ Q) X.xe s
noncomputable def w6 (r:R2) (ta tb:TE):TE:=fun σ H Q=>ta σ H fun x H1=>tb σ H1 fun y H2=>r x y H2 Q
noncomputable def As (r:V->Hp->VK->Prop) (ta:TE):TE:=fun σ H Q=>ta σ H fun x H1=>r x H1 Q
noncomputable def rI (C:Int->Int->Prop) (g:Int->Int->V):R2:=fun x y H Q=>∃ i j,x = .int i/\y = .int j/\C i j/\Q (g i j) H
noncomputable def rV (g:Int->Int->V):R2:=fun x y H Q=>∃ i j,x = .int i/\y = .int j/\Q (g i j) H
noncomputable def rU (g:Int->V):V->Hp->VK->Prop:=fun x H Q=>∃ i,x = .int i/\Q (g i) H
section
variable {X:Cx} {a b c:Expr} {ta tb tc:TE} {pos:Pos}
theorem wx (ha:PE X a ta) (hb:PE X b tb) {pins:List (Addr × Obj)} {s:Shared} {σ:St} {H:Hp} {R:V->V->Hp->Prop} (I:Inv X pins σ H s)
    (h:ta σ H fun x H1=>tb σ H1 fun y H2=>R x y H2) {Q:Value->Shared->Prop} {f:Value->Value->Sem Value}
    (hf:∀ v u s2 x y H2,Inv X pins σ H2 s2->RelV x v->RelV y u->R x y H2->wpAny (model X.prog X.w) X.A (f v u) Q X.xe s2) :
    wpAny (model X.prog X.w) X.A (eval a X.env) (fun v s₁=>wpAny (model X.prog X.w) X.A (eval b X.env) (fun u s₂=>wpAny (model X.prog X.w) X.A (f v u) Q X.xe s₂) X.xe s₁) X.xe s:=by
  refine aE (ha pins s σ H _ I h) fun v s1 ⟨x,H1,I1,r1,q1⟩=>?_
  refine aE (hb pins s1 σ H1 _ I1 q1) fun u s2 ⟨y,H2,I2,r2,q2⟩=>?_
  exact hf v u s2 x y H2 I2 r1 r2 q2
theorem aC {op:Operator} {r:R2} (ho:eA X (binaryOp op) r) (ha:PE X a ta) (hb:PE X b tb):PE X (.BinOp a op b pos) (w6 r ta tb):=by
  intro pins s σ H Q I h
  exact wpAny_BinOp (wx ha hb I h fun v u s2 x y H2 I2 rx ry q=>ho pins s2 σ H2 x y v u Q I2 rx ry q)
theorem qK {op:UnaryOp} {r:V->Hp->VK->Prop} (ho:ye X (unaryOp op) r) (ha:PE X a ta):PE X (.UnaryOp op a pos) (As r ta):=by
  intro pins s σ H Q I h
  exact UnaryOp_ (aE (ha pins s σ H _ I h) fun v s1 ⟨x,H1,I1,r1,q1⟩=>ho pins s1 σ H1 x v Q I1 r1 q1)
theorem wW {f:Value->Value->Sem Value} {C:Int->Int->Prop} {g:Int->Int->Int}
    (rule:∀ (i j:Int) (t u:Tok) (s:Shared) (Q:Value->Shared->Prop) (E:Value->Shared->Prop),C i j->Q (.int (g i j) s.toks) { s with toks:=s.toks+1 }->wpAny (model X.prog X.w) X.A (f (.int i t) (.int j u)) Q E s) :
    eA X f (rI C fun i j=>.int (g i j)):=by
  intro pins s σ H x y v u Q I rx ry h
  obtain ⟨i,j,rfl,rfl,hc,q⟩:=h
  obtain ⟨t,rfl⟩:=rx
  obtain ⟨t',rfl⟩:=ry
  exact rule i j t t' s _ _ hc ⟨.int (g i j),H,I.tok _,⟨_,rfl⟩,q⟩
theorem yE {f:Value->Value->Sem Value} {g:Int->Int->Int}
    (rule:∀ (i j:Int) (t u:Tok) (s:Shared) (Q:Value->Shared->Prop) (E:Value->Shared->Prop),Q (.int (g i j) s.toks) { s with toks:=s.toks+1 }->wpAny (model X.prog X.w) X.A (f (.int i t) (.int j u)) Q E s) :
    eA X f (rV fun i j=>.int (g i j)):=by
  intro pins s σ H x y v u Q I rx ry h
  obtain ⟨i,j,rfl,rfl,q⟩:=h
  obtain ⟨t,rfl⟩:=rx
  obtain ⟨t',rfl⟩:=ry
  exact rule i j t t' s _ _ ⟨.int (g i j),H,I.tok _,⟨_,rfl⟩,q⟩
theorem wz {f:Value->Value->Sem Value} {g:Int->Int->Bool}
    (rule:∀ (i j:Int) (t u:Tok) (s:Shared) (Q:Value->Shared->Prop) (E:Value->Shared->Prop),Q (.bool (g i j)) s->wpAny (model X.prog X.w) X.A (f (.int i t) (.int j u)) Q E s) :
    eA X f (rV fun i j=>.bl (g i j)):=by
  intro pins s σ H x y v u Q I rx ry h
  obtain ⟨i,j,rfl,rfl,q⟩:=h
  obtain ⟨t,rfl⟩:=rx
  obtain ⟨t',rfl⟩:=ry
  exact rule i j t t' s _ _ ⟨.bl (g i j),H,I,rfl,q⟩
def zN (i j:Int):Prop:=0 < j/\j < 1073741824
def vE (i j:Int):Prop:=(-(2 ^ 64) < i/\i < 2 ^ 64)\/(-(2 ^ 64) < j/\j < 2 ^ 64)
theorem vE.ok {i j:Int} (h:vE i j):IntMulOk i j:=by
  rcases h with ⟨h1,h2⟩ | ⟨h1,h2⟩
  · exact .of_left (intBits_le_64 h1 h2)
  · exact .of_right (intBits_le_64 h1 h2)
theorem ft:eA X (binaryOp .Add) (rV fun i j=>.int (i+j)):=yE fun _ _ _ _ _ _ _ q=>add_int q
theorem jV:eA X (binaryOp .Sub) (rV fun i j=>.int (i - j)):=yE fun _ _ _ _ _ _ _ q=>sub_int q
theorem fh:eA X (binaryOp .Mult) (rI vE fun i j=>.int (i*j)):=wW fun _ _ _ _ _ _ _ hc q=>mul_int q hc.ok
theorem Al:eA X (binaryOp .FloorDiv) (rI zN fun i j=>.int (i / j)):=wW fun i j _ _ _ _ _ hc q=>by
  have h1:(0:Int) < j:=hc.1
  have h2:j < 1073741824:=hc.2
  exact floordiv_int (by lia) (by rw [Int.fdiv_eq_ediv_of_nonneg i (by lia)]; exact q) (.inl (PyProof.noPylong_small (by lia)))
theorem dA:eA X (binaryOp .Mod) (rI (fun _ j=>0 < j) fun i j=>.int (i % j)):=wW fun i j _ _ _ _ _ hc q=>by
  have h1:(0:Int) < j:=hc
  exact mod_int' (by lia) (by rw [Int.fmod_eq_emod_of_nonneg i (by lia)]; exact q)
theorem An {f:Value->Sem Value} {g:Int->Int}
    (rule:∀ (i:Int) (t:Tok) (s:Shared) (Q:Value->Shared->Prop) (E:Value->Shared->Prop),Q (.int (g i) s.toks) { s with toks:=s.toks+1 }->wpAny (model X.prog X.w) X.A (f (.int i t)) Q E s) :
    ye X f (rU fun i=>.int (g i)):=by
  intro pins s σ H x v Q I rx h
  obtain ⟨i,rfl,q⟩:=h
  obtain ⟨t,rfl⟩:=rx
  exact rule i t s _ _ ⟨.int (g i),H,I.tok _,⟨_,rfl⟩,q⟩
theorem ox:ye X (unaryOp .USub) (rU fun i=>.int (-i)):=An fun _ _ _ _ _ q=>neg_int q
end
noncomputable def yV:V->V->Bool
  | .non,.non=>true | .non,.int _=>true | .int _,.non=>true | .non,.bl _=>true | .bl _,.non=>true | .non,.str _=>true | .str _,.non=>true
  | .int _,.int _=>true | .bl _,.bl _=>true | .str _,.str _=>true | .byt _,.byt _=>true
  | .int _,.str _=>true | .str _,.int _=>true | .bl _,.str _=>true | .str _,.bl _=>true
  | _,_=>false
noncomputable def Ar:R2:=fun x y H Q=>yV x y=true/\Q (.bl (decide (x=y))) H
noncomputable def Av:R2:=fun x y H Q=>yV x y=true/\Q (.bl (!decide (x=y))) H
theorem pN {i j:Int}:decide (V.int i=V.int j)=(i == j):=by
  rw [Bool.eq_iff_iff]
  simp
theorem um {i j:Bool}:decide (V.bl i=V.bl j)=(i == j):=by
  rw [Bool.eq_iff_iff]
  simp
theorem sJ {i j:Str}:decide (V.str i=V.str j)=(i == j):=by
  rw [Bool.eq_iff_iff]
  simp
theorem sI {i j:Array UInt8}:decide (V.byt i=V.byt j)=(i.toList == j.toList):=by
  rw [Bool.eq_iff_iff]
  cases i
  cases j
  simp
section
variable {X:Cx} {a b c:Expr} {ta tb tc:TE} {pos:Pos}
theorem bq {pins:List (Addr × Obj)} {σ:St} {H:Hp} {s:Shared} {Q:VK} {k k':Bool} (I:Inv X pins σ H s) (q:Q (.bl k) H) (e:k=k'):EP X pins σ Q (.bool k') s:=by
  subst e
  exact ⟨.bl k,H,I,rfl,q⟩
theorem cM:eA X (compareOp .Eq) Ar:=by
  intro pins s σ H x y v u Q I rx ry h
  obtain ⟨hs,q⟩:=h
  cases x with
  | non =>
    cases rx
    cases y with
    | non=>cases ry; exact PySem.EqNone.eq_none_none (bq I q (by simp))
    | bl j=>cases ry; exact PySem.EqNone.eq_none_bool (bq I q (by simp))
    | int j=>obtain ⟨t',rfl⟩:=ry; exact PySem.EqNone.eq_none_int (bq I q (by simp))
    | str j=>obtain ⟨t',rfl⟩:=ry; exact PySem.EqNone.eq_none_str (bq I q (by simp))
    | _=>exact absurd (show false=true from hs) Bool.false_ne_true
  | bl i =>
    cases rx
    cases y with
    | non=>cases ry; exact PySem.EqNone.eq_bool_none (bq I q (by simp))
    | bl j=>cases ry; exact eq_bool (bq I q um)
    | str j=>obtain ⟨t',rfl⟩:=ry; exact PySem.EqMixed.eq_bool_str (bq I q (by simp))
    | _=>exact absurd (show false=true from hs) Bool.false_ne_true
  | int i =>
    obtain ⟨t,rfl⟩:=rx
    cases y with
    | non=>cases ry; exact PySem.EqNone.eq_int_none (bq I q (by simp))
    | int j=>obtain ⟨t',rfl⟩:=ry; exact eq_int (bq I q pN)
    | str j=>obtain ⟨t',rfl⟩:=ry; exact PySem.EqMixed.eq_int_str (bq I q (by simp))
    | _=>exact absurd (show false=true from hs) Bool.false_ne_true
  | str i =>
    obtain ⟨t,rfl⟩:=rx
    cases y with
    | non=>cases ry; exact PySem.EqNone.eq_str_none (bq I q (by simp))
    | bl j=>cases ry; exact PySem.EqMixed.eq_str_bool (bq I q (by simp))
    | int j=>obtain ⟨t',rfl⟩:=ry; exact PySem.EqMixed.eq_str_int (bq I q (by simp))
    | str j=>obtain ⟨t',rfl⟩:=ry; exact eq_str (bq I q sJ)
    | _=>exact absurd (show false=true from hs) Bool.false_ne_true
  | byt i =>
    obtain ⟨t,rfl⟩:=rx
    cases y with
    | byt j=>obtain ⟨t',rfl⟩:=ry; exact PySem.W.eq_bytes (bq I q sI)
    | _=>exact absurd (show false=true from hs) Bool.false_ne_true
  | _=>cases y<;>exact absurd (show false=true from hs) Bool.false_ne_true
theorem oa:eA X (compareOp .NotEq) Av:=by
  intro pins s σ H x y v u Q I rx ry h
  obtain ⟨hs,q⟩:=h
  cases x with
  | non =>
    cases rx
    cases y with
    | non=>cases ry; exact PySem.EqNone.ne_none_none (bq I q (by simp))
    | bl j=>cases ry; exact PySem.EqNone.ne_none_bool (bq I q (by simp))
    | int j=>obtain ⟨t',rfl⟩:=ry; exact PySem.EqNone.ne_none_int (bq I q (by simp))
    | str j=>obtain ⟨t',rfl⟩:=ry; exact PySem.EqNone.ne_none_str (bq I q (by simp))
    | _=>exact absurd (show false=true from hs) Bool.false_ne_true
  | bl i =>
    cases rx
    cases y with
    | non=>cases ry; exact PySem.EqNone.ne_bool_none (bq I q (by simp))
    | bl j=>cases ry; exact ne_bool (bq I q (congrArg not um))
    | str j=>obtain ⟨t',rfl⟩:=ry; exact PySem.EqMixed.ne_bool_str (bq I q (by simp))
    | _=>exact absurd (show false=true from hs) Bool.false_ne_true
  | int i =>
    obtain ⟨t,rfl⟩:=rx
    cases y with
    | non=>cases ry; exact PySem.EqNone.ne_int_none (bq I q (by simp))
    | int j=>obtain ⟨t',rfl⟩:=ry; exact ne_int (bq I q (congrArg not pN))
    | str j=>obtain ⟨t',rfl⟩:=ry; exact PySem.EqMixed.ne_int_str (bq I q (by simp))
    | _=>exact absurd (show false=true from hs) Bool.false_ne_true
  | str i =>
    obtain ⟨t,rfl⟩:=rx
    cases y with
    | non=>cases ry; exact PySem.EqNone.ne_str_none (bq I q (by simp))
    | bl j=>cases ry; exact PySem.EqMixed.ne_str_bool (bq I q (by simp))
    | int j=>obtain ⟨t',rfl⟩:=ry; exact PySem.EqMixed.ne_str_int (bq I q (by simp))
    | str j=>obtain ⟨t',rfl⟩:=ry; exact ne_str (bq I q (congrArg not sJ))
    | _=>exact absurd (show false=true from hs) Bool.false_ne_true
  | byt i =>
    obtain ⟨t,rfl⟩:=rx
    cases y with
    | byt j=>obtain ⟨t',rfl⟩:=ry; exact PySem.W.ne_bytes (bq I q (congrArg not sI))
    | _=>exact absurd (show false=true from hs) Bool.false_ne_true
  | _=>cases y<;>exact absurd (show false=true from hs) Bool.false_ne_true
theorem mL:eA X (compareOp .Lt) (rV fun i j=>.bl (decide (i < j))):=wz fun _ _ _ _ _ _ _ q=>lt_int q
theorem zD:eA X (compareOp .LtE) (rV fun i j=>.bl (decide (i<=j))):=wz fun _ _ _ _ _ _ _ q=>le_int q
theorem wR:eA X (compareOp .Gt) (rV fun i j=>.bl (decide (j < i))):=wz fun _ _ _ _ _ _ _ q=>gt_int q
theorem aL (b:Expr) {op:CmpOp} (h:op≠.In:=by decide) (h2:op≠.NotIn:=by decide):behindInMarks op b=false:=by
  have e1:(op == CmpOp.In)=false:=by cases op<;>first | rfl | exact absurd rfl h
  have e2:(op == CmpOp.NotIn)=false:=by cases op<;>first | rfl | exact absurd rfl h2
  cases b<;>simp [behindInMarks,e1,e2]
theorem gg {op:CmpOp} {r:R2} (ho:eA X (compareOp op) r) (ha:PE X a ta) (hb:PE X b tb) (hm:behindInMarks op b=false):PE X (.Compare a [op] [b] pos) (w6 r ta tb):=by
  intro pins s σ H Q I h
  exact wpAny_Compare1 (wx ha hb I h fun v u s2 x y H2 I2 rx ry q=>ho pins s2 σ H2 x y v u Q I2 rx ry q) hm
noncomputable def wN (t:TE):TT:=fun σ H Q=>t σ H fun x H'=>∃ k,x = .bl k/\Q k H'
theorem aU {op:CmpOp} {r:R2} (ho:eA X (compareOp op) r) (ha:PE X a ta) (hb:PE X b tb) (hm:behindInMarks op b=false):PT X (.Compare a [op] [b] pos) (wN (w6 r ta tb)):=by
  intro pins s σ H Q I h
  refine wpAny_isTrue_Compare1 (aE (ha pins s σ H _ I h) fun v s1 ⟨x,H1,I1,r1,q1⟩=>aE (hb pins s1 σ H1 _ I1 q1) fun u s2 ⟨y,H2,I2,r2,q2⟩ =>
    aE (ho pins s2 σ H2 x y v u _ I2 r1 r2 q2) fun c s3 ⟨z,H3,I3,r3,k,e,q3⟩=>?_) hm
  subst e
  cases r3
  exact wpAny_truthy_bool ⟨H3,I3,q3⟩
theorem kJ:(sizeLine:Nat) < 2 ^ 63:=by rw [sizeLine_eq]; decide
theorem oQ:eA X (binaryOp .Add) (fun x y H Q=>∃ i j,x = .str i/\y = .str j/\i.length+j.length<=sizeLine/\Q (.str (i++j)) H):=by
  intro pins s σ H x y v u Q I rx ry h
  obtain ⟨i,j,rfl,rfl,hz,q⟩:=h
  obtain ⟨t,rfl⟩:=rx
  obtain ⟨t',rfl⟩:=ry
  exact add_str (fun t' tk=>⟨.str (i++j),H,I.tok _,⟨_,rfl⟩,q⟩) hz
theorem vals1 {x:V} {us:List Value} (r:Vals [x] us):∃ u,us=[u]/\RelV x u:=by
  cases r with
  | cons r1 r2=>cases r2; exact ⟨_,rfl,r1⟩
theorem vals2 {x y:V} {us:List Value} (r:Vals [x,y] us):∃ u w',us=[u,w']/\RelV x u/\RelV y w':=by
  cases r with
  | cons r1 r2 =>
    cases r2 with
    | cons r3 r4=>cases r4; exact ⟨_,_,rfl,r1,r3⟩
theorem uZ (hc:X.calm=true):eY X (.builtin "max") (fun xs H Q=>∃ i j,xs=[.int i,.int j]/\Q (.int (if j > i then j else i)) H):=by
  intro pins s σ H xs us Q I r h
  obtain ⟨i,j,rfl,q⟩:=h
  obtain ⟨u,w',rfl,⟨t,rfl⟩,⟨t',rfl⟩⟩:=vals2 r
  refine max_two_ints (I.ok.hd hc) fun h' tk k=>⟨_,H,I.kept k,?_,q⟩
  by_cases hj:j > i
  · rw [if_pos hj,if_pos hj]; exact ⟨_,rfl⟩
  · rw [if_neg hj,if_neg hj]; exact ⟨_,rfl⟩
theorem uT:eY X (.type "int") (fun xs H Q=>(∃ i,xs=[.int i]/\Q (.int i) H)\/∃ k,xs=[.bl k]/\Q (.int (if k then 1 else 0)) H):=by
  intro pins s σ H xs us Q I r h
  rcases h with ⟨i,rfl,q⟩ | ⟨k,rfl,q⟩
  · obtain ⟨u,rfl,t,rfl⟩:=vals1 r
    exact call_int_int ⟨.int i,H,I,⟨_,rfl⟩,q⟩
  · obtain ⟨u,rfl,r1⟩:=vals1 r
    cases r1
    exact call_int_bool ⟨.int (if k then 1 else 0),H,I.tok _,⟨_,rfl⟩,q⟩
end
end L2
namespace L2
open PySem PySem.Spec PyProof.Rows
structure pC (h:Heap) (x dx C:Addr) (mA:Str->Option Value):Prop where
  obj:h.get? x=some (PySem.W.instObj C dx)
  ns:h.Ns1 dx mA
  ne:dx≠x
theorem uD {h:Heap} {dx:Addr} {mA:Str->Option Value} (n:h.Ns1 dx mA):∃ od,h.get? dx=some od/\∀ name,PySem.W.lookIn name od=some (mA name):=by
  obtain ⟨o,es,ep,ho,hd,hk,_,hm⟩:=n
  refine ⟨o,ho,fun name=>?_⟩
  have e:=hm name
  unfold nsFind findBy at e
  rw [<- Array.find?_toList] at e
  unfold PySem.W.lookIn
  rw [hd]
  dsimp only
  split
  · rename_i y q
    rw [q] at e
    exact congrArg some e
  · rename_i q
    rw [q] at e
    have a:es.toList.any (·.refKey)=false:=by
      rw [List.any_eq_false]
      intro y hy
      obtain ⟨z,t,hkey⟩:=hk y (Array.mem_toList_iff.mp hy)
      simp [DictEntry.refKey,hkey]
    have a':¬ es.toList.any (·.refKey)=true:=by rw [a]; exact Bool.false_ne_true
    rw [if_neg a']
    exact congrArg some e
theorem pC.look {h:Heap} {x dx C:Addr} {mA:Str->Option Value} (I:pC h x dx C mA):∃ od,PySem.W.InstAt h x (PySem.W.instObj C dx) C (some od)/\∀ name,PySem.W.lookIn name od=some (mA name) :=
  let ⟨od,ho,hl⟩:=uD I.ns
  ⟨od,⟨I.obj,rfl,rfl,ho⟩,hl⟩
section
variable {prog:Program} {w:World} {A:Around} {E:Value->Shared->Prop} {s:Shared} {K:PySem.W.Frag} {x dx C f:Addr} {mA:Str->Option Value} {name:Str} {v:Value}
theorem vI {pl:Sem Bool} {Q:Value × List Value->Shared->Prop} (X:K.In s.heap) (I:pC s.heap x dx C mA) (hg:PySem.W.plainGet K C name=true)
    (hf:PySem.W.findIn K (.ref C) name=some (some (.ref f))) (ht:PySem.W.isFn K (.ref f)=true) (hv:mA name=none) (h:Q (.ref f,[.ref x]) s) :
    wpAny (model prog w) A (getMethod (.ref x) name pl) Q E s:=by
  obtain ⟨od,J,hl⟩:=I.look
  exact PySem.W.method_fn X J (PySem.W.plainGet_of hg).1 (PySem.W.plainGet_of hg).2 hf (beq_iff_eq.mp ht) (by show (PySem.W.lookIn name od).map (·.isSome)=some false; rw [hl,hv]; rfl) h
theorem xx {ns:List Str} {Q:Unit->Shared->Prop} (X:K.In s.heap) (I:pC s.heap x dx C mA)
    (hs:PySem.W.findIn K (.ref C) "__setattr__" = some (some (.builtin "object.__setattr__"))) (hp:PySem.W.plainOver K C=true) (ht:PySem.W.takerIn K C name=some none) (hh:PySem.W.hasDictIn K C=true)
    (hw:PySem.Within mA ns) (hsz:ns.length<=sizeLine)
    (h:∀ h',pC h' x dx C (fun y=>if y=name then some v else mA y)->Heap.SameBut dx s.heap h'->Q () { s with heap:=h',toks:=s.toks+2 }) :
    wpAny (model prog w) A (setAttr (.ref x) name v) Q E s:=by
  obtain ⟨od,J,hl⟩:=I.look
  refine PySem.W.set_plain X J hs (PySem.W.osa_open (s:={ s with toks:=s.toks+1 }) (r:=none) X J hp ht fun b=>?_)
  obtain ⟨cd,hc,hd'⟩:=PySem.W.any_some hh
  have hx:s.heap.get? x=some ⟨.ref C,some dx,.plain,#[]⟩:=I.obj
  refine wpAny_bind (wpAny_pure (wpAny_bind (wpAny_bind (wpAny_loadPart hx (wpAny_bind (PySem.W.Looks.here (s:={ s with toks:=s.toks+1 }) (PySem.W.looks_clsIn X hc) ?_))))))
  rw [hd']
  refine wpAny_pure (a:=some dx) (wpAny_bind (wpAny_pure (wpAny_bind ?_)))
  refine wpAny_nsSet1 (s:={ s with toks:=s.toks+1 }) I.ns fun h' hn2 hs2=>?_
  obtain ⟨oD,esD,epD,hoD,hdD,hcD⟩:=hn2.count (PySem.Within.cons name v hw)
  refine wpAny_bind (wpAny_lookBehind hoD (by rw [hdD]; exact pastItsLine_dict (Nat.le_trans hcD (by rw [List.length_cons]; lia))) ?_)
  exact wpAny_pure (h _ ⟨(hs2.2 _ (Ne.symm I.ne)).trans I.obj,hn2,I.ne⟩ hs2)
theorem vz {R:Result->Shared->Prop} {vs:List Value} {kw:List (Str × Value)} (X:K.In s.heap) (hm:PySem.W.makesIn K C=true)
    (hi:PySem.W.findIn K (.ref C) "__init__" = some (some (.ref f))) (hf:PySem.W.typeIn K (.ref f)=some (.type "function"))
    (h:codeAny (model prog w) (A.under (.builtin "type.__call__" ⟨.ref C::vs,kw⟩)) (.call (.ref f) ⟨.ref (s.heap.objs.size+1)::vs,kw⟩) (PySem.W.InitBack (s.heap.objs.size+1) R)
      { s with heap:=(s.heap.push PySem.W.emptyDict).push (PySem.W.instObj C s.heap.objs.size) }) :
    codeAny (model prog w) A (.call (.ref C) ⟨vs,kw⟩) R s:=by
  obtain ⟨hh,g,d,t,os⟩:=s
  exact PySem.W.make_core (PySem.W.makes_of X hm) (PySem.W.looks_findIn X hi) (fun self=>PySem.W.bind_fn X self hf) (.inl rfl) h
end
noncomputable def fI (f:Str) (v:V):List (Str × V)->List (Str × V)
  | []=>[(f,v)]
  | (g,x)::r=>if g=f then (g,v)::r else (g,x)::fI f v r
theorem eh (f g:Str) (v:V):∀ fs:List (Str × V),(fI f v fs).lookup g=if g=f then some v else fs.lookup g
  | []=>by
    show List.lookup g [(f,v)]=_
    by_cases h:g=f
    · have hb:(g == f)=true:=beq_iff_eq.mpr h
      simp only [List.lookup,hb,if_pos h]
    · have hb:(g == f)=false:=beq_eq_false_iff_ne.mpr h
      simp only [List.lookup,hb,if_neg h]
  | (k,x)::r=>by
    have ih:=eh f g v r
    rw [show fI f v ((k,x)::r)=(if k=f then (k,v)::r else (k,x)::fI f v r) from rfl]
    by_cases hk:k=f
    · rw [if_pos hk]
      by_cases h:g=k
      · have hb:(g == k)=true:=beq_iff_eq.mpr h
        simp only [List.lookup,hb,if_pos (h.trans hk)]
      · have hb:(g == k)=false:=beq_eq_false_iff_ne.mpr h
        simp only [List.lookup,hb,if_neg (fun e:g=f=>h (e.trans hk.symm))]
    · rw [if_neg hk]
      by_cases h:g=k
      · have hb:(g == k)=true:=beq_iff_eq.mpr h
        simp only [List.lookup,hb,if_neg (fun e:g=f=>hk (h.symm.trans e))]
      · have hb:(g == k)=false:=beq_eq_false_iff_ne.mpr h
        simp only [List.lookup,hb]
        exact ih
theorem mE (f:Str) (v:V):∀ fs:List (Str × V),f∈(fI f v fs).map (·.1)/\∀ g,g∈fs.map (·.1)->g∈(fI f v fs).map (·.1)
  | []=>⟨by simp [fI],fun g h=>by simp at h⟩
  | (k,x)::r=>by
    obtain ⟨i1,i2⟩:=mE f v r
    rw [show fI f v ((k,x)::r)=(if k=f then (k,v)::r else (k,x)::fI f v r) from rfl]
    by_cases hk:k=f
    · rw [if_pos hk]
      subst hk
      exact ⟨by simp,fun g h=>by simpa using h⟩
    · rw [if_neg hk]
      refine ⟨?_,fun g h=>?_⟩
      · rw [List.map_cons]
        exact List.mem_cons_of_mem _ i1
      · rw [List.map_cons] at h |-
        rcases List.mem_cons.mp h with e | e
        · exact List.mem_cons.mpr (.inl e)
        · exact List.mem_cons_of_mem _ (i2 g e)
theorem m5 (f:Str) (v:V):∀ fs:List (Str × V),(fI f v fs).length<=fs.length+1
  | []=>by simp [fI]
  | (k,x)::r=>by
    have ih:=m5 f v r
    rw [show fI f v ((k,x)::r)=(if k=f then (k,v)::r else (k,x)::fI f v r) from rfl]
    by_cases hk:k=f
    · rw [if_pos hk,List.length_cons,List.length_cons]; lia
    · rw [if_neg hk,List.length_cons,List.length_cons]; lia
theorem nX.none_of {o:Option Value} (r:nX none o):o=none:=by
  cases o with
  | none=>rfl
  | some u=>exact (show False from r).elim
section
variable {P:Program} {w:World} {H H':Hp} {h h':Heap} {a C dx:Addr} {fs fs':List (Str × V)}
theorem pR (hok:ff P w H h) (e:H a=some (.ins C dx fs)):∃ mA,pC h a dx C mA/\(∀ f,nX (fs.lookup f) (mA f))/\PySem.Within mA (fs.map (·.1))/\fs.length<=1000/\H dx=some (.own a):=by
  obtain ⟨d,z,ne,ob,mA,n,r,q⟩:=(show dt P w H h a (.ins C dx fs) from hok a _ e)
  exact ⟨mA,⟨ob,n,ne⟩,r,q,z,d⟩
end
structure lJ (K:PySem.W.Frag) (C:Addr):Prop where
  pg:PySem.W.plainGet K C Str.empty=true
  hd:PySem.W.hasDictIn K C=true
  po:PySem.W.plainOver K C=true
  sa:PySem.W.findIn K (.ref C) "__setattr__" = some (some (.builtin "object.__setattr__"))
theorem lJ.get {K:PySem.W.Frag} {C:Addr} (c:lJ K C) (f:Str):PySem.W.plainGet K C f=true:=c.pg
def gq (K:PySem.W.Frag) (C:Addr) (f:Str):Prop:=PySem.W.findIn K (.ref C) f=some none
theorem gq.taker {K:PySem.W.Frag} {C:Addr} {f:Str} (n:gq K C f):PySem.W.takerIn K C f=some none:=by
  unfold PySem.W.takerIn
  rw [show PySem.W.findIn K (.ref C) f=some none from n]
  rfl
structure Meth (K:PySem.W.Frag) (C:Addr) (m:Str) (f:Addr):Prop where
  at_:PySem.W.findIn K (.ref C) m=some (some (.ref f))
  fn:PySem.W.isFn K (.ref f)=true
  kp:PySem.W.keepIn K (.ref f)=true
section
variable {X:Cx} {pins:List (Addr × Obj)} {σ:St} {H:Hp} {s:Shared} {a C dx:Addr} {fs:List (Str × V)} {f:Str} {v:V} {A:Around} {E:Value->Shared->Prop}
theorem oi {m:Str} {g:Addr} {pl:Sem Bool} {Q:Value × List Value->Shared->Prop} (I:Inv X pins σ H s) (e:H a=some (.ins C dx fs)) (c:lJ X.K C) (k:Meth X.K C m g) (l:fs.lookup m=none)
    (h:Q (.ref g,[.ref a]) s):wpAny (model X.prog X.w) A (getMethod (.ref a) m pl) Q E s:=by
  obtain ⟨mA,O,r,_,_,_⟩:=pR I.hok e
  have hn:mA m=none:=nX.none_of (by rw [<- l]; exact r m)
  exact vI I.kIn O (c.get m) k.at_ k.fn hn h
theorem tL {y:V} {u:Value} {Q:Unit->Shared->Prop} (I:Inv X pins σ H s) (e:H a=some (.ins C dx fs)) (c:lJ X.K C) (n:gq X.K C f) (hl:fs.length < 1000) (ry:RelV y u)
    (h:∀ s',Inv X pins σ (upd H a (.ins C dx (fI f y fs))) s'->Q () s'):wpAny (model X.prog X.w) A (setAttr (.ref a) f u) Q E s:=by
  obtain ⟨mA,O,r,wi,_,ho⟩:=pR I.hok e
  have hz:(fs.map (·.1)).length<=sizeLine:=by rw [List.length_map,sizeLine_eq]; lia
  refine xx I.kIn O c.sa c.po n.taker c.hd wi hz fun h' O' sb=>h _ ?_
  have hd:∃ o,h'.get? dx=some o:=let ⟨o,_,_,e',_⟩:=O'.ns; ⟨o,e'⟩
  refine I.write (x:=a) (e:=dx) (by rw [e]; exact True.intro) (.inr ho) (fun b q hb z=>(sb.2 b hb).trans z) hd ?_
  refine ⟨by rw [ar O.ne]; exact ho,?_,O.ne,O'.obj,_,O'.ns,fun g=>?_,fun g hg=>?_⟩
  · have:=m5 f y fs; lia
  · show nX ((fI f y fs).lookup g) (if g=f then some u else mA g)
    rw [eh]
    by_cases q:g=f
    · rw [if_pos q,if_pos q]; exact ry
    · rw [if_neg q,if_neg q]; exact r g
  · by_cases q:g=f
    · rw [q]; exact (mE f y fs).1
    · refine (mE f y fs).2 g (wi g fun z=>hg ?_)
      show (if g=f then some u else mA g)=none
      rw [if_neg q]; exact z
theorem Inv.made (I:Inv X pins σ H s):Inv X pins σ (upd (upd H s.heap.objs.size (.own (s.heap.objs.size+1))) (s.heap.objs.size+1) (.ins C s.heap.objs.size []))
    { s with heap:=(s.heap.push PySem.W.emptyDict).push (PySem.W.instObj C s.heap.objs.size) }:=by
  have e1:(s.heap.push PySem.W.emptyDict).get? s.heap.objs.size=some PySem.W.emptyDict:=Heap.get?_push_size s.heap rfl
  have e2:((s.heap.push PySem.W.emptyDict).push (PySem.W.instObj C s.heap.objs.size)).get? (s.heap.objs.size+1)=some (PySem.W.instObj C s.heap.objs.size):=by
    have:=Heap.get?_push_size (s.heap.push PySem.W.emptyDict) (o:=PySem.W.instObj C s.heap.objs.size) rfl
    rwa [Heap.size_push] at this
  have e3:(s.heap.push PySem.W.emptyDict).Ns s.heap.objs.size (fun _=>none):=⟨PySem.W.emptyDict,#[],_,e1,rfl,(fun e he=>absurd he (by simp)),fun _=>rfl⟩
  have I1:=I.laid (a:=s.heap.objs.size) (o:=.own (s.heap.objs.size+1)) (h':=s.heap.push PySem.W.emptyDict) (t':=s.toks) (fun b u q=>Heap.get?_push_of_some _ q) (Nat.le_refl _) ⟨_,e1⟩
  refine I1.laid (a:=s.heap.objs.size+1) (o:=.ins C s.heap.objs.size []) (t':=s.toks) (fun b u q=>Heap.get?_push_of_some _ q) (Nat.le_of_eq (Heap.size_push _ _)) ?_
  have ne:s.heap.objs.size≠s.heap.objs.size+1:=Nat.ne_of_lt (Nat.lt_succ_self _)
  refine ⟨by rw [ar ne,ag],Nat.zero_le _,ne,e2,fun _=>none,(Heap.Ns1.of_empty e3).at fun o q=>Heap.get?_push_of_some _ q,fun _=>True.intro,fun y hy=>absurd rfl hy⟩
end
noncomputable def Aa (K:PySem.W.Frag) (ta tv:TE) (f:Str):TS:=fun D σ H=>tv σ H fun y H1=>ta σ H1 fun x H2=>∃ a C dx fs,x = .ref a/\H2 a=some (.ins C dx fs)/\lJ K C/\gq K C f/\fs.length < 1000 /\
  D.nx σ (upd H2 a (.ins C dx (fI f y fs)))
section
variable {X:Cx} {o e value:Expr} {f:Str} {pos pos' tpos:Pos} {ta tv:TE}
theorem kG (ha:PE X o ta) (hv:PE X value tv) (hs:swapsWith value (some (.Attribute o f pos')) pos.line X.env=pure false):PS X (.Assign [.Attribute o f pos'] value pos) (Aa X.K ta tv f):=by
  intro pins s σ H D I h
  refine plainObj_wpAny_Assign_Attribute (aE (hv pins s σ H _ I h) fun u s1 ⟨y,H1,I1,ry,q⟩=>aE (ha pins s1 σ H1 _ I1 q) fun ov s2 ⟨x,H2,I2,rx,a,C,dx,fs,ex,ea,c,n,l,q2⟩=>?_) hs
  subst ex
  obtain rfl:ov=Value.ref a:=rx
  exact tL I2 ea c n l ry fun s3 I3=>⟨σ,_,I3,q2⟩
theorem yY {pl:Sem Bool} {m:Str} {apos:Pos} {args:List Expr} {pins:List (Addr × Obj)} {s:Shared} {σ:St} {H:Hp} {Q:Value->Shared->Prop} {te:TE} (he:PE X e te) (I:Inv X pins σ H s)
    (h:te σ H fun x H1=>∃ a C dx fs g,x = .ref a/\H1 a=some (.ins C dx fs)/\lJ X.K C/\Meth X.K C m g/\fs.lookup m=none /\
      ∀ s1,Inv X pins σ H1 s1->wpAny (model X.prog X.w) X.A (callWith pos (.ref g) [.ref a] (backTo pos (starEach args X.env)) (backToKw pos (keywordEach [] X.env))) Q X.xe s1)
    (ht:eval (.Call (.Attribute e m apos) args [] pos) X.env=(do
      let ov <- eval e X.env
      standAt apos.atName
      let (f,first) <- holding [ov] (getMethod ov m pl)
      callWith pos f first (backTo pos (starEach args X.env)) (backToKw pos (keywordEach [] X.env)))) :
    wpAny (model X.prog X.w) X.A (eval (.Call (.Attribute e m apos) args [] pos) X.env) Q X.xe s:=by
  refine PySem.W.methodCall_KW (pl:=pl) (aE (he pins s σ H _ I h) fun u s1 ⟨x,H1,I1,rx,a,C,dx,fs,g,ex,ea,c,k,l,q⟩=>?_) ht
  subst ex
  obtain rfl:u=Value.ref a:=rx
  exact oi I1 ea c k l (q s1 I1)
end
section
variable {X:Cx} {pins:List (Addr × Obj)} {σ:St} {H:Hp} {s:Shared} {A:Around} {E:Value->Shared->Prop} {Q:Value->Shared->Prop} {c:Value} {b:Bool}
inductive iD (K:PySem.W.Frag) (H:Hp):V->Value->Prop where
  | non:iD K H .non (.type "NoneType")
  | bl (x:Bool):iD K H (.bl x) (.type "bool")
  | int (i:Int):iD K H (.int i) (.type "int")
  | str (x:Str):iD K H (.str x) (.type "str")
  | flt (x:UInt64):iD K H (.flt x) (.type "float")
  | lst {a:Addr} {xs:List V} (e:H a=some (.lst xs)):iD K H (.ref a) (.type "list")
  | frz {a:Addr} {o:Obj} {xs:List V} (e:H a=some (.frz o (.lst xs))):iD K H (.ref a) (.type "list")
  | tup {a:Addr} {xs:List V} (e:H a=some (.tup xs)):iD K H (.ref a) (.type "tuple")
  | dK {a:Addr} {kvs:List (Key × V)} (e:H a=some (.dK kvs)):iD K H (.ref a) (.type "dict")
  | dT {a:Addr} {kvs:List (List Key × V)} (e:H a=some (.dT kvs)):iD K H (.ref a) (.type "dict")
  | ins {a C dx:Addr} {fs:List (Str × V)} (e:H a=some (.ins C dx fs)) (cl:lJ K C) (ha:PySem.W.findIn K (.ref C) "__class__" = some (some (.builtin "object.__class__")))
      (hn:PySem.W.specialIn K (.builtin "object.__class__") "__get__" = some (some (.builtin "getset_descriptor.__get__"))) (htk:PySem.W.takesIn K (.builtin "object.__class__")=some true)
      (hm:PySem.W.mroIn K C (.type "object")=some true):iD K H (.ref a) (.ref C)
theorem vc {x:V} {u t:Value} (I:Inv X pins σ H s) (rx:RelV x u) (ty:iD X.K H x t) (e:PySem.W.kitOne X.K t c=some b) (h:∀ tk,Q (.bool b) { s with toks:=tk }) :
    wpAny (model X.prog X.w) A (call (.builtin "isinstance") [u,c]) Q E s:=by
  cases ty with
  | non=>cases (show u=Value.none from rx); exact PySem.W.kia_one PySem.W.kitx_none I.kIn True.intro e (fun z=>nomatch z) h
  | bl y=>cases (show u=Value.bool y from rx); exact PySem.W.kia_one PySem.W.kitx_bool I.kIn True.intro e (fun z=>nomatch z) h
  | int i=>obtain ⟨t,q⟩:=(show ∃ t,u=Value.int i t from rx); cases q; exact PySem.W.kia_one PySem.W.kitx_int I.kIn True.intro e (fun z=>nomatch z) h
  | str y=>obtain ⟨t,q⟩:=(show ∃ t,u=Value.str y t from rx); cases q; exact PySem.W.kia_one PySem.W.kitx_str I.kIn True.intro e (fun z=>nomatch z) h
  | flt y=>obtain ⟨t,q⟩:=(show ∃ t,u=Value.float y t from rx); cases q; exact PySem.W.kia_one PySem.W.kitx_float I.kIn True.intro e (fun z=>nomatch z) h
  | @lst a xs ea =>
    cases (show u=Value.ref a from rx)
    obtain ⟨_,_,n,_,h1⟩:=(show dt X.prog X.w H s.heap a (.lst xs) from I.hok a _ ea)
    exact PySem.W.kia_one PySem.W.kitx_list I.kIn ⟨_,h1,rfl⟩ e (fun z=>nomatch z) h
  | @frz a ob xs ea =>
    cases (show u=Value.ref a from rx)
    obtain ⟨_,_,_,n,_,h1⟩:=(show dt X.prog X.w H s.heap a (.frz ob (.lst xs)) from I.hok a _ ea)
    exact PySem.W.kia_one PySem.W.kitx_list I.kIn ⟨_,h1,rfl⟩ e (fun z=>nomatch z) h
  | @tup a xs ea =>
    cases (show u=Value.ref a from rx)
    obtain ⟨_,_,_,p⟩:=(show dt X.prog X.w H s.heap a (.tup xs) from I.hok a _ ea)
    obtain ⟨o,h1,h2,_⟩:=p
    exact PySem.W.kia_one PySem.W.kitx_tuple I.kIn ⟨o,h1,h2⟩ e (fun z=>nomatch z) h
  | @dK a kvs ea =>
    cases (show u=Value.ref a from rx)
    obtain ⟨_,_,vs,_,p⟩:=(show dt X.prog X.w H s.heap a (.dK kvs) from I.hok a _ ea)
    obtain ⟨o,es,ep,h1,h2,_⟩:=p
    exact PySem.W.kia_one PySem.W.kitx_dict I.kIn ⟨o,h1,h2.1⟩ e (fun z=>nomatch z) h
  | @dT a kvs ea =>
    cases (show u=Value.ref a from rx)
    obtain ⟨_,_,xs,_,o,es,ep,h1,h2,_⟩:=(show dt X.prog X.w H s.heap a (.dT kvs) from I.hok a _ ea)
    exact PySem.W.kia_one PySem.W.kitx_dict I.kIn ⟨o,h1,h2.1⟩ e (fun z=>nomatch z) h
  | @ins a C dx fs ea cl ha hn htk hm =>
    cases (show u=Value.ref a from rx)
    obtain ⟨mA,O,_⟩:=pR I.hok ea
    obtain ⟨od,J,_⟩:=O.look
    exact PySem.W.kia_one (PySem.W.kitx_own (cl.get _) cl.hd ha hn htk hm) I.kIn J e (fun z=>nomatch z) h
end
end L2
namespace L2
open PySem PySem.Spec PyProof.Rows
structure cz (k:Nat) (A:Around):Prop where
  hd:A.handled=none
  dp:A.depth+3*k+5 < recursionLimit
  un:A.units+16*k+200 < cLine
theorem cz.mono {j k:Nat} {A:Around} (r:cz k A) (h:j<=k):cz j A:=⟨r.hd,by have:=r.dp; lia,by have:=r.un; lia⟩
theorem cz.deeper {k:Nat} {A:Around} (r:cz (k+1) A) (env:Env):cz k (A.deeper env) :=
  ⟨r.hd,by have:=r.dp; show A.depth+1+3*k+5 < _; lia,by have:=r.un; show A.units+3+16*k+200 < _; lia⟩
theorem t6 {A:Around} {C:Addr} {us:List Value} {kw:List (Str × Value)}:(A.under (.builtin "type.__call__" ⟨.ref C::us,kw⟩)).depth=A.depth+1:=by
  first | rfl | simp [Around.under,Code.weight,Code.isCreation,Code.isGuard,Code.isCaller,Code.frames,Code.isFrame,guardIds]
theorem tM {A:Around} {C:Addr} {us:List Value} {kw:List (Str × Value)}:(A.under (.builtin "type.__call__" ⟨.ref C::us,kw⟩)).units=A.units+1:=by
  first | rfl | simp [Around.under,Code.cUnits,Code.frames,Code.isFrame]
theorem cz.make {k:Nat} {A:Around} (r:cz (k+1) A) (C:Addr) (us:List Value) (kw:List (Str × Value)):cz k (A.under (.builtin "type.__call__" ⟨.ref C::us,kw⟩)) :=
  ⟨r.hd,by have:=r.dp; rw [t6]; lia,by have:=r.un; rw [tM]; lia⟩
theorem cz.depth {k:Nat} {A:Around} (r:cz k A):A.depth < recursionLimit:=by have:=r.dp; lia
theorem cz.units {k:Nat} {A:Around} (r:cz k A):A.units+64 < cLine:=by have:=r.un; lia
noncomputable def wC:TA:=fun _ H Q=>Q [] H
noncomputable def y9 (ta:TE) (tr:TA):TA:=fun σ H Q=>ta σ H fun x H1=>tr σ H1 fun xs H2=>Q (x::xs) H2
section
variable {X:Cx} {e:Expr} {es:List Expr} {te:TE} {t:TA} {pos:Pos}
theorem ae:PA X [] wC:=fun _ _ _ _ H Q I h=>Calls.spliced_nil ⟨[],H,I,.nil,h⟩
theorem aa (ha:PE X e te) (hr:PA X es t) (hs:starEach (e::es) X.env=(false,eval e X.env)::starEach es X.env:=by rfl):PA X (e::es) (y9 te t):=by
  intro pos pins s σ H Q I h
  rw [hs]
  show wpAny _ _ (spliced ((false,eval e X.env)::backTo pos (starEach es X.env))) _ _ s
  refine Calls.spliced_cons (aE (ha pins s σ H _ I h) fun u s1 ⟨x,H1,I1,r1,q1⟩=>?_)
  exact aE (hr pos pins s1 σ H1 _ I1 q1) fun us s2 ⟨xs,H2,I2,r2,q2⟩=>⟨x::xs,H2,I2,.cons r1 r2,q2⟩
noncomputable def Ad (t:TA):TE:=fun σ H Q=>t σ H fun xs H1=>xs.length<=sizeLine/\∀ p,H1 p=none->Q (.ref p) (upd H1 p (.tup xs))
noncomputable def zX (t:TA):TE:=fun σ H Q=>t σ H fun xs H1=>xs.length<=sizeLine/\∀ p,H1 p=none->Q (.ref p) (upd H1 p (.lst xs))
theorem yK {x1} (h:PA X es t):PE X (.Tuple es x1 pos) (Ad t):=by
  intro pins s σ H Q I hq
  refine wpAny_Tuple_spliced (aE (h pos pins s σ H _ I hq) fun us s1 ⟨xs,H1,I1,r,z,q⟩=>⟨by rw [<- r.length]; exact z,?_⟩)
  have hf:H1 s1.heap.objs.size=none:=I1.hok.fresh (Nat.le_refl _)
  refine ⟨.ref s1.heap.objs.size,upd H1 s1.heap.objs.size (.tup xs),I1.laid (t':=s1.toks) (fun b u e=>Heap.get?_push_of_some _ e) (Nat.le_refl _) ?_,rfl,q _ hf⟩
  exact ⟨z,us,r,⟨_,Heap.get?_push_size _ rfl,rfl,_,rfl⟩⟩
theorem cY (h:PA X es t):PE X (.List es pos) (zX t):=by
  intro pins s σ H Q I hq
  refine wpAny_List_spliced (aE (h pos pins s σ H _ I hq) fun us s1 ⟨xs,H1,I1,r,z,q⟩=>⟨by rw [<- r.length]; exact z,?_⟩)
  have hf:H1 s1.heap.objs.size=none:=I1.hok.fresh (Nat.le_refl _)
  refine ⟨.ref s1.heap.objs.size,upd H1 s1.heap.objs.size (.lst xs),I1.laid (t':=s1.toks) (fun b u e=>Heap.get?_push_of_some _ e) (Nat.le_refl _) ?_,rfl,q _ hf⟩
  exact ⟨z,us,0,r,Heap.get?_push_size _ rfl⟩
end
noncomputable abbrev Sp:=List V->Hp->VK->XK->Prop
noncomputable abbrev kI:=List Env->Hp->Shared->XK->Value->Shared->Prop
structure nv (P:Program) (w:World) (K:PySem.W.Frag) (mg:Str->Option Value) (base:Heap) (A:Around) (outer:List Env) (s:Shared) (H:Hp):Prop where
  frames:A.frames=some outer
  mod:Mod K mg base
  bs:∀ b o,base.get? b=some o->s.heap.get? b=some o/\H b=none
  bsz:base.objs.size<=s.heap.objs.size
  funs:s.heap.FunFrames base outer
  frf:∀ b∈kz outer,H b=none
  hok:ff P w H s.heap
  bare:AllBare s.gens
def CE (outer:List Env) (P:Program) (w:World) (H:Hp) (s:Shared) (Q:VK) (u:Value) (s':Shared):Prop :=
  ∃ v H',s'.os=s.os/\AllBare s'.gens/\Un (kz outer) [] H H' s.heap s'.heap/\ff P w H' s'.heap/\RelV v u/\Q v H'
def CR (CX:kI) (outer:List Env) (P:Program) (w:World) (H:Hp) (s:Shared) (Q:VK) (E:XK) (r:Result) (s':Shared):Prop :=
  match r with
  | .ok (.ret u)=>CE outer P w H s Q u s'
  | .ok _=>False
  | .error e=>CX outer H s E e s'
structure aH (P:Program) (w:World) (K:PySem.W.Frag) (mg:Str->Option Value) (base:Heap) (CX:kI) (k:Nat) (f:Addr) (fd:FuncData) (ps:List Str) (sp:Sp):Prop where
  len:∀ vs H Q E,sp vs H Q E->vs.length=ps.length
  run:∀ (A:Around) (outer:List Env) (s:Shared) (H:Hp) (args:Args) (us:List Value) (vs:List V) (Q:VK) (E:XK),cz k A->nv P w K mg base A outer s H->BindsTo s fd args (ps.zip us)->Vals vs us->sp vs H Q E ->
    codeAny (model P w) A (.call (.ref f) args) (CR CX outer P w H s Q E) s
theorem nv.make {P:Program} {w:World} {K:PySem.W.Frag} {mg:Str->Option Value} {base:Heap} {A:Around} {outer:List Env} {s:Shared} {H:Hp} (e:nv P w K mg base A outer s H) (C:Addr) (us:List Value) (kw:List (Str × Value)) :
    nv P w K mg base (A.under (.builtin "type.__call__" ⟨.ref C::us,kw⟩)) outer s H:=⟨by first | exact e.frames | (simpa [Around.under,Code.envs,Code.isFrame,pushEnvs] using e.frames),e.mod,e.bs,e.bsz,e.funs,e.frf,e.hok,e.bare⟩
section
variable {X:Cx} {pins:List (Addr × Obj)} {σ:St} {H:Hp} {s s':Shared}
theorem Inv.env0 (I:Inv X pins σ H s):nv X.prog X.w X.K X.mg X.base X.A X.stack s H :=
  ⟨I.ok.frames,I.ok.mod,I.bs,Nat.le_trans I.ok.bsz I.sz,I.stack,I.stkFree,I.hok,I.bare⟩
theorem Inv.after {Q:VK} {u:Value} (I:Inv X pins σ H s) (h:CE X.stack X.prog X.w H s Q u s'):EP X pins σ Q u s':=by
  obtain ⟨v,H',os,bare,un,hok,r,q⟩:=h
  obtain ⟨hh,g,d,t,os'⟩:=s'
  obtain rfl:os'=s.os:=os
  exact ⟨v,H',I.call (h':=hh) (g':=g) (d':=d) (t':=t) (ch:=[]) un hok bare (fun b z=>absurd z (by simp)),r,q⟩
end
noncomputable def tH (sp:Sp) (dvs:List V) (E:XK) (t:TA):TE:=fun σ H Q=>t σ H fun vs H1=>sp (vs++dvs) H1 Q E
noncomputable def wY (C:Addr) (m:Str) (sp:Sp) (dvs:List V) (E:XK) (ta:TE) (t:TA):TE:=fun σ H Q=>ta σ H fun x H1=>∃ a dx fs,x = .ref a/\H1 a=some (.ins C dx fs)/\fs.lookup m=none /\
  t σ H1 fun vs H2=>sp (x::(vs++dvs)) H2 Q E
noncomputable def wO (C:Addr) (sp:Sp) (dvs:List V) (E:XK) (t:TA):TE:=fun σ H Q=>t σ H fun vs H1=>∀ x dx,H1 x=none->H1 dx=none->dx≠x ->
  sp (.ref x::(vs++dvs)) (upd (upd H1 dx (.own x)) x (.ins C dx [])) (fun v H2=>v = .non/\Q (.ref x) H2) E
def Binds (K:PySem.W.Frag) (fd:FuncData) (ps:List Str) (ds:List Value):Prop :=
  ∀ (s:Shared) (us:List Value),K.In s.heap->(us++ds).length=ps.length->BindsTo s fd ⟨us,[]⟩ (ps.zip (us++ds))
theorem Binds.all {K:PySem.W.Frag} {fd:FuncData} {ps:List Str} (h:∀ us:List Value,us.length=ps.length->bindArgs fd ⟨us,[]⟩=pure (ps.zip us)):Binds K fd ps []:=fun s us _ hl=>by
  rw [List.append_nil] at hl |-
  exact .of_eq (h us hl)
def Passes (CX:kI) (X:Cx) (E:XK):Prop:=∀ (pins:List (Addr × Obj)) (σ:St) (H:Hp) (s:Shared) (e:Value) (s':Shared),Inv X pins σ H s->CX X.stack H s E e s'->X.xe e s'
section
variable {X:Cx} {CX:kI} {k:Nat} {f C:Addr} {fd:FuncData} {ps:List Str} {sp:Sp} {dvs:List V} {ds:List Value} {E:XK} {x m:Str} {p pos apos:Pos} {e o:Expr} {es:List Expr} {ta:TE} {t:TA}
theorem rq {pins:List (Addr × Obj)} {σ:St} {H:Hp} {s:Shared} {Q:VK} {us:List Value} {vs:List V} (F:aH X.prog X.w X.K X.mg X.base CX k f fd ps sp) (hr:cz k X.A) (hb:Binds X.K fd ps ds) (hd:Vals dvs ds) (hx:Passes CX X E)
    (I:Inv X pins σ H s) (r:Vals vs us) (h:sp (vs++dvs) H Q E):wpAny (model X.prog X.w) X.A (call (.ref f) us) (EP X pins σ Q) X.xe s:=by
  have r2:Vals (vs++dvs) (us++ds):=r.append hd
  have hl:(us++ds).length=ps.length:=by rw [<- r2.length]; exact F.len _ _ _ _ h
  refine wpAny_call (codeAny_mono (F.run X.A X.stack s H ⟨us,[]⟩ (us++ds) (vs++dvs) Q E hr I.env0 (hb s us I.kIn hl) r2 h) fun r s' hq=>?_)
  cases r with
  | error e=>exact hx pins σ H s e s' I hq
  | ok fl =>
    cases fl with
    | ret u=>exact I.after hq
    | next=>exact False.elim hq
    | brk=>exact False.elim hq
    | cont=>exact False.elim hq
theorem xo (F:aH X.prog X.w X.K X.mg X.base CX k f fd ps sp) (hr:cz k X.A) (hg:Gl X x) (hm:X.mg x=some (.ref f)) (hk:PySem.W.keepIn X.K (.ref f)=true) (hb:Binds X.K fd ps ds) (hd:Vals dvs ds) (hx:Passes CX X E)
    (ha:PA X (e::es) t) (hdb:(x == ("__debug__" : Str))=false:=by decide) (he:starEach (e::es) X.env=(false,eval e X.env)::starEach es X.env:=by rfl) (hpl:(backTo pos (starEach es X.env)).any (·.1)=false:=by rfl) :
    PE X (.Call (.Name x p) (e::es) [] pos) (tH sp dvs E t):=by
  intro pins s σ H Q I h
  refine wpAny_Call_Name_kw (pV I hg hm ?_ hdb)
  refine PySem.W.callWith_K (h₀:=X.base) I.ok.mod.kin hk (aE (ha pos pins s σ H _ I h) fun us s1 ⟨vs,H1,I1,r,q⟩=>⟨I1.kIn,?_⟩) he hpl
  exact rq F hr hb hd hx I1 r q
theorem xP {pl:Sem Bool} (he:PE X o ta) (c:lJ X.K C) (hm:Meth X.K C m f) (F:aH X.prog X.w X.K X.mg X.base CX k f fd ps sp) (hr:cz k X.A) (hb:Binds X.K fd ps ds) (hd:Vals dvs ds) (hx:Passes CX X E) (ha:PA X (e::es) t)
    (hst:starEach (e::es) X.env=(false,eval e X.env)::starEach es X.env:=by rfl) (hpl:(backTo pos (starEach es X.env)).any (·.1)=false:=by rfl)
    (ht:eval (.Call (.Attribute o m apos) (e::es) [] pos) X.env=(do
      let ov <- eval o X.env
      standAt apos.atName
      let (f,first) <- holding [ov] (getMethod ov m pl)
      callWith pos f first (backTo pos (starEach (e::es) X.env)) (backToKw pos (keywordEach [] X.env))):=by rfl) :
    PE X (.Call (.Attribute o m apos) (e::es) [] pos) (wY C m sp dvs E ta t):=by
  intro pins s σ H Q I h
  refine PySem.W.methodCall_KW (pl:=pl) (aE (he pins s σ H _ I h) fun u s1 ⟨x,H1,I1,rx,a,dx,fs,ex,ea,l,q⟩=>?_) ht
  subst ex
  obtain rfl:u=Value.ref a:=rx
  refine oi I1 ea c hm l ?_
  refine PySem.W.callWith_K (first:=[.ref a]) (h₀:=X.base) I.ok.mod.kin hm.kp (aE (ha pos pins s1 σ H1 _ I1 q) fun us s2 ⟨vs,H2,I2,r,q2⟩=>⟨I2.kIn,?_⟩) hst hpl
  exact rq (us:=.ref a::us) (vs:=.ref a::vs) F hr hb hd hx I2 (.cons rfl r) q2
structure Mk (K:PySem.W.Frag) (C f:Addr):Prop where
  makes:PySem.W.makesIn K C=true
  init:PySem.W.findIn K (.ref C) "__init__" = some (some (.ref f))
  fn:PySem.W.isFn K (.ref f)=true
  kp:PySem.W.keepIn K (.ref C)=true
theorem wc {pins:List (Addr × Obj)} {σ:St} {H:Hp} {s:Shared} {Q:VK} {us:List Value} {vs:List V} (M:Mk X.K C f) (F:aH X.prog X.w X.K X.mg X.base CX k f fd ps sp) (hr:cz (k+1) X.A) (hb:Binds X.K fd ps ds) (hd:Vals dvs ds)
    (hx:Passes CX X E) (I:Inv X pins σ H s) (r:Vals vs us)
    (h:∀ x dx,H x=none->H dx=none->dx≠x->sp (.ref x::(vs++dvs)) (upd (upd H dx (.own x)) x (.ins C dx [])) (fun v H2=>v = .non/\Q (.ref x) H2) E) :
    wpAny (model X.prog X.w) X.A (call (.ref C) us) (EP X pins σ Q) X.xe s:=by
  have hq:=h (s.heap.objs.size+1) s.heap.objs.size (I.hok.fresh (Nat.le_succ _)) (I.hok.fresh (Nat.le_refl _)) (Nat.ne_of_lt (Nat.lt_succ_self _))
  have I2:=Inv.made (C:=C) I
  have r2:Vals (V.ref (s.heap.objs.size+1)::(vs++dvs)) (Value.ref (s.heap.objs.size+1)::(us++ds)):=.cons rfl (r.append hd)
  have hl:(Value.ref (s.heap.objs.size+1)::us++ds).length=ps.length:=by
    have e:=r2.length
    rw [F.len _ _ _ _ hq] at e
    exact e.symm
  refine wpAny_call (vz (f:=f) I.kIn M.makes M.init (beq_iff_eq.mp M.fn) (codeAny_mono (F.run _ X.stack _ _ ⟨Value.ref (s.heap.objs.size+1)::us,[]⟩ (Value.ref (s.heap.objs.size+1)::(us++ds)) _ _ E (hr.make C us [])
    (I2.env0.make C us []) (hb _ (Value.ref (s.heap.objs.size+1)::us) I2.kIn hl) r2 hq) fun r s' hq'=>?_))
  cases r with
  | error e=>exact hx pins σ _ _ e s' I2 hq'
  | ok fl =>
    cases fl with
    | ret u =>
      obtain ⟨v,H',I3,rv,ev,q3⟩:=I2.after hq'
      subst ev
      exact ⟨rv,⟨V.ref (s.heap.objs.size+1),H',I3,rfl,q3⟩⟩
    | next=>exact False.elim hq'
    | brk=>exact False.elim hq'
    | cont=>exact False.elim hq'
theorem wA (M:Mk X.K C f) (F:aH X.prog X.w X.K X.mg X.base CX k f fd ps sp) (hr:cz (k+1) X.A) (hg:Gl X x) (hm:X.mg x=some (.ref C)) (hb:Binds X.K fd ps ds) (hd:Vals dvs ds) (hx:Passes CX X E)
    (hdb:(x == ("__debug__" : Str))=false:=by decide):PE X (.Call (.Name x p) [] [] pos) (wO C sp dvs E wC):=by
  intro pins s σ H Q I h
  refine wpAny_Call_Name_kw (pV I hg hm ?_ hdb)
  exact PySem.W.callWith_K0 I.kIn M.kp (wc (us:=[]) M F hr hb hd hx I .nil h)
end
section
variable {X:Cx} {CX:kI} {k:Nat} {f C:Addr} {fd:FuncData} {ps ks:List Str} {sp:Sp} {E:XK} {x m:Str} {p pos apos kpos:Pos} {e o:Expr} {es:List Expr} {kws:List Keyword} {te ta:TE} {t tk:TA} {nm:Option Str}
variable {g:List Value->List Value->List Value} {gV:List V->List V->List V}
end
structure az (N P:List Str) (sc:Scope):Prop where
  kind:sc.kind = .function
  co:sc.isCoroutine=false
  gen:sc.isGenerator=false
  nd:N.Nodup
  pre:N.take P.length=P
  par:∀ x∈P,sc.names.lookup x=some .local\/sc.names.lookup x=some .cell
  nofree:∀ y∈sc.names,y.2≠.free
theorem p5 {kindOf:Str->Option NameKind} {x:Str}:∀ {binds:List (Str × Value)} {m:Str->Option Value},(∀ v,(x,v)∉binds)->bindL kindOf binds m x=m x
  | [],_,_=>rfl
  | (n,v)::r,m,h=>by
    unfold bindL
    rw [p5 fun w hw=>h w (List.mem_cons_of_mem _ hw)]
    split
    · have:x≠n:=by rintro rfl; exact h v List.mem_cons_self
      simp [this]
    · rfl
theorem qu {kindOf:Str->Option NameKind} {x:Str}:∀ {binds:List (Str × Value)} {m:Str->Option Value},(∀ v,(x,v)∉binds)->bindC kindOf binds m x=m x
  | [],_,_=>rfl
  | (n,v)::r,m,h=>by
    unfold bindC
    rw [qu fun w hw=>h w (List.mem_cons_of_mem _ hw)]
    split
    · rfl
    · have:x≠n:=by rintro rfl; exact h v List.mem_cons_self
      simp [this]
theorem pZ {kindOf:Str->Option NameKind} {x:Str} {v:Value}:∀ {P:List Str} {vs:List Value} {i:Nat} {m:Str->Option Value},P.Nodup->P[i]? = some x->vs[i]? = some v->kindOf x=some .local ->
    bindL kindOf (P.zip vs) m x=some v
  | [],_,_,_,_,h,_,_=>by simp at h
  | _::_,[],_,_,_,_,h,_=>by simp at h
  | p::P,w::vs,0,m,nd,h1,h2,hk=>by
    simp at h1 h2; subst h1; subst h2
    show bindL kindOf ((p,w)::P.zip vs) m p=_
    unfold bindL
    rw [p5 fun v hv=>(List.nodup_cons.mp nd).1 (List.of_mem_zip hv).1,if_pos hk]
    simp
  | p::P,w::vs,i+1,m,nd,h1,h2,hk=>by
    show bindL kindOf ((p,w)::P.zip vs) m x=_
    unfold bindL
    exact pZ (i:=i) (List.nodup_cons.mp nd).2 (by simpa using h1) (by simpa using h2) hk
theorem pY {kindOf:Str->Option NameKind} {x:Str} {v:Value}:∀ {P:List Str} {vs:List Value} {i:Nat} {m:Str->Option Value},P.Nodup->P[i]? = some x->vs[i]? = some v->kindOf x≠some .local ->
    bindC kindOf (P.zip vs) m x=some v
  | [],_,_,_,_,h,_,_=>by simp at h
  | _::_,[],_,_,_,_,h,_=>by simp at h
  | p::P,w::vs,0,m,nd,h1,h2,hk=>by
    simp at h1 h2; subst h1; subst h2
    show bindC kindOf ((p,w)::P.zip vs) m p=_
    unfold bindC
    rw [qu fun v hv=>(List.nodup_cons.mp nd).1 (List.of_mem_zip hv).1,if_neg hk]
    simp
  | p::P,w::vs,i+1,m,nd,h1,h2,hk=>by
    show bindC kindOf ((p,w)::P.zip vs) m x=_
    unfold bindC
    exact pY (i:=i) (List.nodup_cons.mp nd).2 (by simpa using h1) (by simpa using h2) hk
noncomputable def start (N:List Str) (vs:List V):St:=vs.map some++List.replicate (N.length - vs.length) none
noncomputable def pP (CX:kI) (P:Program) (w:World) (K:PySem.W.Frag) (mg:Str->Option Value) (base:Heap) (N:List Str) (qual:Str) (scope:Scope) (f:Addr) (cd:Value) (A:Around) (outer:List Env) (s:Shared) (H:Hp) (E:XK):Cx where
  prog:=P
  w:=w
  K:=K
  mg:=mg
  base:=base
  A:=A.deeper (envOfC qual scope s.heap.objs.size f cd)
  N:=N
  s₀:=s
  H₀:=H
  env:=envOfC qual scope s.heap.objs.size f cd
  outer:=outer
  stack:=envOfC qual scope s.heap.objs.size f cd::outer
  ex:=[]
  calm:=true
  fn:=fun _=>true
  pn:=[]
  xe:=fun e s'=>wpAny (model P w) (A.deeper (envOfC qual scope s.heap.objs.size f cd)) (leaving (envOfC qual scope s.heap.objs.size f cd) e) (fun _ s''=>CX outer H s E e s'') (fun e' s''=>CX outer H s E e' s'') s'
theorem rg {sc:Scope} {n:Nat} {x:Str} (h:sc.names.lookup x=some .cell):∃ c,(cellsFrom n sc.names []).lookup x=some c:=by
  have q:=PySem.W.cellsFrom_some sc.names n [] (.inl h)
  exact Option.isSome_iff_exists.mp q
theorem uk {CX:kI} {P:Program} {w:World} {K:PySem.W.Frag} {mg:Str->Option Value} {base:Heap} {N ps:List Str} {qual:Str} {scope:Scope} {f:Addr} {cd:Value} {A:Around} {outer:List Env} {s s1:Shared} {H:Hp} {E:XK} {us:List Value} {vs:List V}
    (S:az N ps scope) (hd:A.handled=none) (e0:nv P w K mg base A outer s H) (hl:vs.length=ps.length) (r:Vals vs us)
    (x:InCallC s s.heap.objs.size (bindL (envOfC qual scope s.heap.objs.size f cd).kindOf (ps.zip us) fun _=>none) (cellsFrom (s.heap.objs.size+1) scope.names []) (bindC (envOfC qual scope s.heap.objs.size f cd).kindOf (ps.zip us) fun _=>none) s1) :
    Inv (pP CX P w K mg base N qual scope f cd A outer s H E) [] (start N vs) H s1:=by
  have hpl:ps.length<=N.length:=by have:=congrArg List.length S.pre; rw [List.length_take] at this; lia
  obtain ⟨h1,tk,rfl,hk⟩:=x.done
  have noA:∀ b:Addr,b∉(pP CX P w K mg base N qual scope f cd A outer s H E).ex:=fun b z=>absurd (show b∈([]:List Addr) from z) (by simp)
  refine ⟨⟨e0.mod,S.kind,rfl,rfl,Nat.le_refl _,fun y z c h1 h2=>?_,fun y hy=>?_,fun y c _ h=>?_,fun _=>hd,Around.frames_deeper e0.frames,.inr ⟨rfl,rfl⟩,fun b z=>absurd z (noA b),e0.bs,e0.bsz,fun b _ _=>noA b,fun b z=>absurd z (noA b),e0.funs,e0.frf⟩,
    rfl,e0.bare,Un.kept hk,⟨_,x.toInCall.ns,fun i y v h1 h2 h3=>?_⟩,fun y c h=>⟨_,x.cell y c h⟩,e0.hok.fresh (Nat.le_refl _),fun y c h=>?_,fun p hp=>absurd (show p∈([]:List (Addr × Obj)) from hp) (by simp),e0.hok.kept hk,?_⟩
  · exact name_of_addr x.apart (PySem.mem_of_lookup h1) (PySem.mem_of_lookup h2)
  · have hy:scope.names.lookup y=some .cell\/scope.names.lookup y=some .free:=hy
    rcases hy with hy | hy
    · exact rg hy
    · exact absurd rfl (S.nofree _ (PySem.mem_of_lookup hy))
  · exact Nat.le_of_lt (x.above y c (PySem.mem_of_lookup h))
  · have hi:i < vs.length:=by
      unfold start at h2
      by_cases hi:i < vs.length
      · exact hi
      · rw [List.getElem?_append_right (by simpa using hi)] at h2
        rw [List.getElem?_replicate] at h2
        split at h2<;>cases h2
    have ha:vs[i]? = some v:=by
      unfold start at h2
      rw [List.getElem?_append_left (by simpa using hi),List.getElem?_map] at h2
      cases e:vs[i]? with
      | none=>rw [e] at h2; cases h2
      | some a=>rw [e] at h2; cases h2; rfl
    obtain ⟨u,hu,rv⟩:=r.get ha
    have hp:ps[i]? = some y:=by
      rw [<- S.pre,List.getElem?_take_of_lt (by lia)]; exact h1
    have ndP:ps.Nodup:=by rw [<- S.pre]; exact S.nd.sublist (List.take_sublist _ _)
    refine ⟨u,rv,?_⟩
    rcases S.par y (List.mem_of_getElem? hp) with k | k
    · exact .inl ⟨k,pZ ndP hp hu k⟩
    · obtain ⟨c,e⟩:=rg (n:=s.heap.objs.size+1) k
      refine .inr ⟨.inl k,c,e,?_⟩
      have q:=x.cell y c e
      rw [pY ndP hp hu (by show scope.names.lookup y≠_; rw [k]; decide)] at q
      exact q
  · exact e0.hok.fresh (Nat.le_of_lt (x.above y c (PySem.mem_of_lookup h)))
  · unfold start
    show _=N.length
    rw [List.length_append,List.length_map,List.length_replicate]
    lia
theorem zi {CX:kI} {P:Program} {w:World} {K:PySem.W.Frag} {mg:Str->Option Value} {base:Heap} {k:Nat} {f:Addr} {name qual:Str} {params:Arguments} {body:List Stmt} {scope:Scope} {dV kV doc pm cdv ct oc:Value} {an od:Option Addr}
    {osl:Array (Option Value)} {N ps:List Str} {sp:Sp} (lk:K.lookup f=some ⟨oc,od,.func (PySem.W.fnOf name qual params body scope dV kV doc pm an cdv ct),osl⟩) (hcd:PySem.W.codeIn K cdv qual=true) (S:az N ps scope)
    (len:∀ vs H Q E,sp vs H Q E->vs.length=ps.length)
    (hbody:∀ (A:Around) (outer:List Env) (s:Shared) (H:Hp) (vs:List V) (Q:VK) (E:XK),cz k (A.deeper (envOfC qual scope s.heap.objs.size f cdv))->sp vs H Q E ->
      ∃ t,jC (pP CX P w K mg base N qual scope f cdv A outer s H E) body t/\t { nx:=fun _ H'=>Q .non H',rt:=Q } (start N vs) H) :
    aH P w K mg base CX (k+1) f (PySem.W.fnOf name qual params body scope dV kV doc pm an cdv ct) ps sp:=by
  refine ⟨len,fun A outer s H args us vs Q E hr e0 hb r hsp=>?_⟩
  have hl:=len _ _ _ _ hsp
  have KX:K.In s.heap:=e0.mod.kin.keeps fun b o e=>(e0.bs b o e).1
  have lim:s.heap.NoLimit:=e0.mod.nolimit.keeps fun b o e=>(e0.bs b o e).1
  have hkind:∀ y∈ps.zip us,scope.names.lookup y.1=some .local\/(scope.names.lookup y.1=some .cell/\((cellsFrom (s.heap.objs.size+1) scope.names []).lookup y.1).isSome=true):=fun ⟨n,v⟩ hy=>by
    rcases S.par n (List.of_mem_zip hy).1 with q | q
    · exact .inl q
    · exact .inr ⟨q,PySem.W.cellsFrom_some _ _ _ (.inl q)⟩
  refine codeAny_call_function hr.depth (KX _ _ lk) rfl S.co S.gen rfl (PySem.W.codeRec_of KX hcd) (hb _ _ _ _ ?_)
  refine wpAny_newFunctionEnv_cells S.kind hkind fun env he s1 x=>?_
  subst he
  refine ⟨lim.keeps x.toInCall.keep,codeAny_func ?_⟩
  obtain ⟨t,ht,hq⟩:=hbody A outer s H vs Q E (hr.deeper _) hsp
  have I:Inv (pP CX P w K mg base N qual scope f cdv A outer s H E) [] (start N vs) H s1:=uk S hr.hd e0 hl r x
  refine wpAny_mono (ht [] s1 (start N vs) H _ I hq) (fun fl s' hs=>?_) fun e s' hs=>hs
  have fin:∀ {σ':St} {H':Hp} {v:V} {u:Value},Inv (pP CX P w K mg base N qual scope f cdv A outer s H E) [] σ' H' s'->RelV v u->Q v H'->CE outer P w H s Q u s' :=
    fun {σ' H' v u} J rv q=>⟨v,H',J.os,J.bare,J.base,J.hok,rv,q⟩
  cases fl with
  | ret u =>
    obtain ⟨v,σ',H',J,rv,q⟩:=hs
    exact fin J rv q
  | next =>
    obtain ⟨σ',H',J,q⟩:=hs
    exact fin (v:=V.non) (u:=Value.none) J rfl q
  | brk =>
    obtain ⟨_,_,_,q⟩:=hs
    exact False.elim q
  | cont =>
    obtain ⟨_,_,_,q⟩:=hs
    exact False.elim q
end L2
namespace L2
open PySem PySem.Spec PyProof.Rows
section
variable {X:Cx} {x:Str} {p pos:Pos} {e:Expr} {es:List Expr} {t:TA} {id T:String} {r:List V->Hp->VK->Prop}
noncomputable def zK (r:List V->Hp->VK->Prop) (t:TA):TE:=fun σ H Q=>t σ H fun vs H1=>r vs H1 Q
theorem aD (hc:eY X (.builtin id) r) (hg:Gl X x) (hm:X.mg x=none) (hv:bootBuiltins x=some (.builtin id)) (ha:PA X (e::es) t) (hn:x≠"__name__":=by decide) (hdb:(x == ("__debug__" : Str))=false:=by decide)
    (he:starEach (e::es) X.env=(false,eval e X.env)::starEach es X.env:=by rfl) (hpl:(backTo pos (starEach es X.env)).any (·.1)=false:=by rfl):PE X (.Call (.Name x p) (e::es) [] pos) (zK r t):=by
  intro pins s σ H Q I h
  refine wpAny_Call_Name_kw (gm I hg hm hv ?_ hn hdb)
  exact PyProof.Rows.callWith_builtin1 (aE (ha pos pins s σ H _ I h) fun us s1 ⟨vs,H1,I1,r1,q1⟩=>hc pins s1 σ H1 vs us Q I1 r1 q1) he hpl
theorem j6 (hc:eY X (.type T) r) (hg:Gl X x) (hm:X.mg x=none) (hv:bootBuiltins x=some (.type T)) (ha:PA X (e::es) t) (hn:x≠"__name__":=by decide) (hdb:(x == ("__debug__" : Str))=false:=by decide)
    (he:starEach (e::es) X.env=(false,eval e X.env)::starEach es X.env:=by rfl) (hpl:(backTo pos (starEach es X.env)).any (·.1)=false:=by rfl):PE X (.Call (.Name x p) (e::es) [] pos) (zK r t):=by
  intro pins s σ H Q I h
  refine wpAny_Call_Name_kw (gm I hg hm hv ?_ hn hdb)
  exact PyProof.Rows.callWith_type1 (aE (ha pos pins s σ H _ I h) fun us s1 ⟨vs,H1,I1,r1,q1⟩=>hc pins s1 σ H1 vs us Q I1 r1 q1) he hpl
end
end L2
namespace HT
open PySem PyProof.Rows
section
open PySem.SeqAt
open PySem.AutoSeq1 (wpAny_loadPart')
open PySem.MeetsSeq PySem.MeetsSeq2 PySem.MeetsSeq3
end
section
variable {prog:Program} {w:World} {A:Around} {E:Value->Shared->Prop} {s:Shared}
noncomputable def sIx (n d:Nat):Option Int->Nat
  | none=>d
  | some v=>if v < 0 then (v+(n:Int)).toNat else min v.toNat n
theorem sIx_none (n d:Nat):sIx n d none=d:=rfl
theorem sIx_nat (n d k:Nat):sIx n d (some (k:Int))=min k n:=by
  show (if (k:Int) < 0 then ((k:Int)+(n:Int)).toNat else min (k:Int).toNat n)=min k n
  rw [if_neg (by lia),Int.toNat_natCast]
end
end HT
namespace L2
open PySem PySem.Spec PyProof.Rows
noncomputable abbrev TO:=St->Hp->(Option Int->Hp->Prop)->Prop
def PO (X:Cx) (e:Option Expr) (t:TO):Prop :=
  ∀ (pins:List (Addr × Obj)) (s:Shared) (σ:St) (H:Hp) (Q:Option Int->Hp->Prop),Inv X pins σ H s->t σ H Q ->
    wpAny (model X.prog X.w) X.A (evalPart e X.env) (fun u s'=>∃ o H',Inv X pins σ H' s'/\IsPart u o/\Q o H') X.xe s
noncomputable def xl:TO:=fun _ H Q=>Q none H
noncomputable def zC (t:TE):TO:=fun σ H Q=>t σ H fun x H1=>∃ i,x = .int i/\Q (some i) H1
theorem intsAre_of {ns:List Int}:∀ {us:List Value},Vals (ns.map V.int) us->IntsAre us ns:=by
  induction ns with
  | nil=>intro us r; rw [List.map_nil] at r; cases r; exact .nil
  | cons n ns ih =>
    intro us r
    rw [List.map_cons] at r
    cases r with
    | cons r1 r2 =>
      obtain ⟨t,e⟩:=r1
      subst e
      exact .cons n t (ih r2)
section
variable {X:Cx} {e:Expr} {te:TE} {lo hi:Option Expr} {tl th:TO} {pos p2:Pos}
theorem kA:PO X none xl:=by
  intro pins s σ H Q I h
  rw [evalPart_none]
  exact wpAny_pure ⟨none,H,I,.none,h⟩
theorem kE (h:PE X e te):PO X (some e) (zC te):=by
  intro pins s σ H Q I hw
  rw [evalPart_some]
  refine aE (h pins s σ H _ I hw) fun u s1 ⟨x,H1,I1,r1,q1⟩=>?_
  obtain ⟨i,rfl,q⟩:=q1
  obtain ⟨t,rfl⟩:=r1
  exact ⟨some i,H1,I1,.int i t,q⟩
def wX (X:Cx) (r:V->Option Int->Option Int->Hp->VK->Prop):Prop :=
  ∀ (pins:List (Addr × Obj)) (s:Shared) (σ:St) (H:Hp) (x:V) (v vl vu:Value) (lo hi:Option Int) (sl:Addr) (Q:VK),Inv X pins σ H s->RelV x v->s.heap.IsSliceOf sl vl vu .none->IsPart vl lo->IsPart vu hi->r x lo hi H Q ->
    ∃ T id,typeLookup (.type T) "__getitem__" = pure (some (.builtin id))/\s.TypeIs v T/\wpAny (model X.prog X.w) X.A (getItem v (.ref sl)) (EP X pins σ Q) X.xe s
noncomputable def Aq (r:V->Option Int->Option Int->Hp->VK->Prop) (te:TE) (tl th:TO):TE:=fun σ H Q=>te σ H fun x H1=>tl σ H1 fun l H2=>th σ H2 fun u H3=>r x l u H3 Q
theorem jE {r:V->Option Int->Option Int->Hp->VK->Prop} (hr:wX X r) (he:PE X e te) (hl:PO X lo tl) (hu:PO X hi th):PE X (.Subscript e (.Slice lo hi none p2) pos) (Aq r te tl th):=by
  intro pins s σ H Q I h
  refine Subscript_ (aE (he pins s σ H _ I h) fun v s1 ⟨x,H1,I1,r1,q1⟩=>?_)
  refine wpAny_Slice (aE (hl pins s1 σ H1 _ I1 q1) fun vl s2 ⟨l,H2,I2,pl,q2⟩=>aE (hu pins s2 σ H2 _ I2 q2) fun vu s3 ⟨u,H3,I3,pu,q3⟩=>?_)
  rw [evalPart_none]
  refine wpAny_pure ?_
  have I4:Inv X pins σ H3 { s3 with heap:=s3.heap.push { cls:=.type "slice",data:=.fields #[vl,vu,.none] } }:=I3.kept (t':=s3.toks) fun b ob q=>Heap.get?_push_of_some _ q
  obtain ⟨T,id,hT,ht,hg⟩:=hr pins { s3 with heap:=s3.heap.push { cls:=.type "slice",data:=.fields #[vl,vu,.none] } } σ H3 x v vl vu l u s3.heap.objs.size Q I4 r1 (Heap.IsSliceOf.new ..) pl pu q3
  show wpAny (model X.prog X.w) X.A (subscriptTail e (.Slice lo hi none p2) v (.ref s3.heap.objs.size)) (EP X pins σ Q) X.xe { s3 with heap:=s3.heap.push { cls:=.type "slice",data:=.fields #[vl,vu,.none] } }
  exact tail_any (ops:=[.ref s3.heap.objs.size,v]) ht hT hg (by with_unfolding_all rfl)
noncomputable def fU (xs:List V) (lo hi:Option Int):List V:=(xs.drop (HT.sIx xs.length 0 lo)).take (HT.sIx xs.length xs.length hi - HT.sIx xs.length 0 lo)
theorem sF (xs:List V) (lo hi:Option Int):(fU xs lo hi).length<=xs.length:=by
  unfold fU
  rw [List.length_take,List.length_drop]
  lia
end
end L2
namespace L2
open PySem PySem.Spec PyProof.Rows
noncomputable def mD (n:Nat) (i:Int):Option Nat:=if 0<=i then (if i < n then some i.toNat else none) else if -(n:Int)<=i then some (i+n).toNat else none
noncomputable def iU {α:Type} (xs:List α) (i:Int):Option α:=(mD xs.length i).bind fun j=>xs[j]?
theorem sX {n:Nat} {i:Int} {j:Nat} (h:mD n i=some j):seqIndex? i n=some j/\j < n/\-(n:Int)<=i/\i < n:=by
  unfold mD at h
  by_cases h0:0<=i
  · rw [if_pos h0] at h
    by_cases h1:i < n
    · rw [if_pos h1] at h
      have e:i.toNat=j:=Option.some.inj h
      exact ⟨by rw [seqIndex_of h0 h1,e],by lia,by lia,h1⟩
    · rw [if_neg h1] at h; cases h
  · rw [if_neg h0] at h
    by_cases h1 : -(n:Int)<=i
    · rw [if_pos h1] at h
      have e:(i+n).toNat=j:=Option.some.inj h
      exact ⟨by rw [seqIndex_neg (by lia) h1,e],by lia,h1,by lia⟩
    · rw [if_neg h1] at h; cases h
theorem pA {α:Type} {xs:List α} {i:Int} {v:α} (h:iU xs i=some v):∃ j,seqIndex? i xs.length=some j/\xs[j]? = some v/\j < xs.length/\-(xs.length:Int)<=i/\i < xs.length:=by
  unfold iU at h
  cases e:mD xs.length i with
  | none=>rw [e] at h; cases h
  | some j =>
    rw [e] at h
    obtain ⟨h1,h2,h3,h4⟩:=sX e
    exact ⟨j,h1,h,h2,h3,h4⟩
theorem ky {α:Type} {xs:List α} {j:Nat} {v:α} (h:xs[j]? = some v):iU xs (j:Int)=some v:=by
  have hj:j < xs.length:=(List.getElem?_eq_some_iff.mp h).1
  have e:mD xs.length (j:Int)=some j:=by
    unfold mD
    rw [if_pos (by lia),if_pos (by lia)]; simp
  unfold iU; rw [e]; exact h
theorem n5 {α:Type} (xs:List α) (v:α):iU (xs++[v]) (-1)=some v:=by
  have hl:(xs++[v]).length=xs.length+1:=by simp
  have e:mD (xs++[v]).length (-1)=some xs.length:=by
    unfold mD
    rw [hl,if_neg (by decide),if_pos (by lia)]
    congr 1
    lia
  unfold iU
  rw [e]
  show (xs++[v])[xs.length]? = some v
  simp
def xN (b:Expr):Prop:=∀ o i,subscripted b false o i=operate [o,i] (getItem o i)
def sO (X:Cx) (r:R2):Prop :=
  ∀ (value slice:Expr) (pins:List (Addr × Obj)) (s:Shared) (σ:St) (H:Hp) (x y:V) (v u:Value) (Q:VK),Inv X pins σ H s->RelV x v->RelV y u->r x y H Q ->
    subscripted slice false v u=operate [v,u] (getItem v u)->wpAny (model X.prog X.w) X.A (subscriptTail value slice v u) (EP X pins σ Q) X.xe s
def yu (X:Cx) (id:String) (r:V->List V->Hp->VK->Prop):Prop :=
  ∀ (pins:List (Addr × Obj)) (s:Shared) (σ:St) (H:Hp) (x:V) (xs:List V) (v:Value) (us:List Value) (Q:VK),Inv X pins σ H s->RelV x v->Vals xs us->r x xs H Q ->
    wpAny (model X.prog X.w) X.A (call (.builtin id) (v::us)) (EP X pins σ Q) X.xe s
section
variable {X:Cx} {a b:Expr} {ta tb:TE} {pos:Pos}
theorem bX {r:R2} (hr:sO X r) (ha:PE X a ta) (hb:PE X b tb) (hs:xN b):PE X (.Subscript a b pos) (w6 r ta tb):=by
  intro pins s σ H Q I h
  exact Subscript_ (wx ha hb I h fun v u s2 x y H2 I2 rx ry q=>hr a b pins s2 σ H2 x y v u Q I2 rx ry q (hs _ _))
noncomputable def yg (K:PySem.W.Frag):R2:=fun x y H Q=>∃ p xs i v,x = .ref p/\y = .int i/\aq K H p xs/\iU xs i=some v/\Q v H
noncomputable def yq (K:PySem.W.Frag):R2:=fun x y H Q=>∃ p xs i v,x = .ref p/\y = .int i/\jh K H p xs/\iU xs i=some v/\Q v H
noncomputable def zS:R2:=fun x y H Q=>∃ z i c,x = .str z/\y = .int i/\z.length<=sizeLine/\iU z.cps.toList i=some c/\Q (.str ⟨#[c]⟩) H
theorem bJ:sO X (yg X.K):=by
  intro value slice pins s σ H x y v u Q I rx ry h hs
  obtain ⟨p,xs,i,z,rfl,rfl,hq,he,q⟩:=h
  cases rx
  obtain ⟨t,rfl⟩:=ry
  obtain ⟨its,r,pl,hz⟩:=I.list hq
  obtain ⟨j,h1,h2,h3,h4,h5⟩:=pA he
  obtain ⟨w,ew,rw'⟩:=r.get h2
  have hl:=r.length
  have hn:=kJ
  have fin:EP X pins σ Q w s:=⟨z,H,I,rw',q⟩
  by_cases h0:0<=i
  · have hj:i.toNat=j:=by
      rw [seqIndex_of h0 h5] at h1
      exact Option.some.inj h1
    exact item_listR pl.isList h0 (by lia) (by rw [hj]; simpa using ew) fin hs
  · have hj:(i+(its.toArray.size:Int)).toNat=j:=by
      rw [seqIndex_neg (by lia) h4] at h1
      rw [List.size_toArray,<- hl]
      exact Option.some.inj h1
    exact subscriptTail_builtinR (x:=w) pl.isList.typeIs slot_list_getitem.lookup
      (wpAny_getItem_list_neg (Q:=fun r s'=>r=w/\EP X pins σ Q r s') pl.isList (by lia) (by rw [List.size_toArray]<;>lia) (by lia) (by rw [hj]; simpa using ew) ⟨rfl,fin⟩) hs
theorem yD:sO X (yq X.K):=by
  intro value slice pins s σ H x y v u Q I rx ry h hs
  obtain ⟨p,xs,i,z,rfl,rfl,hq,he,q⟩:=h
  cases rx
  obtain ⟨t,rfl⟩:=ry
  obtain ⟨its,r,pl,hz⟩:=I.tuple hq
  obtain ⟨j,h1,h2,h3,h4,h5⟩:=pA he
  obtain ⟨w,ew,rw'⟩:=r.get h2
  have hl:=r.length
  have hn:=kJ
  have fin:EP X pins σ Q w s:=⟨z,H,I,rw',q⟩
  exact subscriptTail_builtinR (x:=w) pl.typeIs slot_tuple_getitem.lookup
    (getItem_tuple (j:=j) (Q:=fun r s'=>r=w/\EP X pins σ Q r s') pl (by lia) (by lia) (by rw [List.size_toArray,<- hl]; exact h1) (by simpa using ew) ⟨rfl,fin⟩) hs
theorem oW:sO X zS:=by
  intro value slice pins s σ H x y v u Q I rx ry h hs
  obtain ⟨z,i,c,rfl,rfl,hz,he,q⟩:=h
  obtain ⟨t,rfl⟩:=rx
  obtain ⟨t',rfl⟩:=ry
  obtain ⟨j,h1,h2,h3,h4,h5⟩:=pA he
  have hl:z.cps.toList.length=z.length:=by simp [Str.length]
  rw [hl] at h1 h4 h5
  have hn:=kJ
  exact tail_any (typeIs_str s z t) slot_str_getitem.lookup (getItem_str (c:=c) (by
    have e1:decide (i < -(2 ^ 63:Int))=false:=decide_eq_false (by lia)
    have e2:decide (i ≥ 2 ^ 63)=false:=decide_eq_false (by lia)
    rw [e1,e2,Bool.or_false]) (by rw [h1]; simpa using h2) ⟨.str ⟨#[c]⟩,H,I.tok _,⟨_,rfl⟩,q⟩) hs
theorem tV (its:List Value) (n j:Nat) (u:Value):Obj.mapSeq (·.setIfInBounds j u) { cls:=.type "list",data:=.seq its.toArray n }={ cls:=.type "list",data:=.seq (its.set j u).toArray n }:=by
  simp [Obj.mapSeq]
theorem Inv.lst {pins:List (Addr × Obj)} {σ:St} {H:Hp} {s:Shared} {p:Addr} {xs:List V} (I:Inv X pins σ H s) (h:H p=some (.lst xs)) :
    ∃ (its:List Value) (n:Nat),Vals xs its/\s.heap.get? p=some { cls:=.type "list",data:=.seq its.toArray n }/\xs.length<=sizeLine:=by
  obtain ⟨z,its,n,r,e⟩:=I.hok p _ h
  exact ⟨its,n,r,e,z⟩
theorem Inv.lstUpd {pins:List (Addr × Obj)} {σ:St} {H:Hp} {s:Shared} {p:Addr} {xs ys:List V} {its its':List Value} {n n':Nat} {f:Obj->Obj} (I:Inv X pins σ H s) (h:H p=some (.lst xs))
    (ho:s.heap.get? p=some { cls:=.type "list",data:=.seq its.toArray n }) (hf:f { cls:=.type "list",data:=.seq its.toArray n }={ cls:=.type "list",data:=.seq its'.toArray n' }) (r:Vals ys its') (hz:ys.length<=sizeLine) (t:Nat) :
    Inv X pins σ (upd H p (.lst ys)) { s with heap:=s.heap.update p f,toks:=t }:=by
  have e:(s.heap.update p f).get? p=some { cls:=.type "list",data:=.seq its'.toArray n' }:=by
    rw [Heap.get?_update_self f ho (by rw [hf]<;>rfl),hf]
  refine I.write (x:=p) (e:=p) (by rw [h]; trivial) (.inl rfl) (fun b u hb q=>(Heap.get?_update_other _ _ (Ne.symm hb)).trans q) ⟨_,e⟩ ?_
  exact ⟨hz,its',n',r,e⟩
noncomputable def zB:V->V->V->Hp->(Hp->Prop)->Prop:=fun o i v H Q=>∃ p xs k j,o = .ref p/\i = .int k/\H p=some (.lst xs)/\mD xs.length k=some j/\Q (upd H p (.lst (xs.set j v)))
theorem set_list:yF X zB:=by
  intro pins s σ H o i v ov iv u Q I ro ri rv h
  obtain ⟨p,xs,k,j,rfl,rfl,hp,hj,q⟩:=h
  cases ro
  obtain ⟨t,rfl⟩:=ri
  obtain ⟨its,n,r,ho,hz⟩:=I.lst hp
  obtain ⟨h1,h2,h3,h4⟩:=sX hj
  have hl:=r.length
  have hn:=kJ
  have I':Inv X pins σ (upd H p (.lst (xs.set j v))) { s with heap:=s.heap.update p (Obj.mapSeq (·.setIfInBounds j u)) } :=
    I.lstUpd hp ho (tV its n j u) (r.set rv j) (by rw [List.length_set]; exact hz) s.toks
  by_cases h0:0<=k
  · have hk:k.toNat=j:=by
      rw [seqIndex_of h0 h4] at h1
      exact Option.some.inj h1
    exact PySem.W.ki_setAt ho h0 (by lia) (by rw [List.size_toArray,<- hl]; exact h4) (by rw [hk]; exact ⟨_,I',q⟩)
  · have hk:(k+(its.toArray.size:Int)).toNat=j:=by
      rw [seqIndex_neg (by lia) h3] at h1
      rw [List.size_toArray,<- hl]
      exact Option.some.inj h1
    exact PySem.W.ki_setBack ho (by lia) (by rw [List.size_toArray,<- hl]; exact h3) (by lia) (by rw [hk]; exact ⟨_,I',q⟩)
theorem se (lo hi:Option Int) (n:Nat):(sliceBounds lo hi none n).1=((HT.sIx n 0 lo:Nat):Int)/\(sliceBounds lo hi none n).2.1=((HT.sIx n n hi:Nat):Int)/\(sliceBounds lo hi none n).2.2=1:=by
  refine ⟨?_,?_,rfl⟩
  · cases lo with
    | none=>simp [sliceBounds,HT.sIx]
    | some i =>
      simp only [sliceBounds,HT.sIx,Option.getD_none,show (1:Int) > 0 by decide,if_true]
      by_cases h:i < 0
      · simp only [h,if_true]<;>lia
      · simp only [h,if_false]<;>lia
  · cases hi with
    | none=>simp [sliceBounds,HT.sIx]
    | some i =>
      simp only [sliceBounds,HT.sIx,Option.getD_none,show (1:Int) > 0 by decide,if_true]
      by_cases h:i < 0
      · simp only [h,if_true]<;>lia
      · simp only [h,if_false]<;>lia
theorem qE (its:List Value) (lo hi:Option Int):slicePick its.toArray lo hi none=((its.drop (HT.sIx its.length 0 lo)).take (HT.sIx its.length its.length hi - HT.sIx its.length 0 lo)).toArray:=by
  obtain ⟨h1,h2,h3⟩:=se lo hi its.toArray.size
  unfold slicePick
  rw [h1,h2,h3]
  simp only [sliceRange_one,pick_run,List.size_toArray]<;>rfl
noncomputable def yx (K:PySem.W.Frag):V->Option Int->Option Int->Hp->VK->Prop:=fun x lo hi H Q=>∃ a xs,x = .ref a/\aq K H a xs/\∀ p,H p=none->Q (.ref p) (upd H p (.lst (fU xs lo hi)))
theorem mK:wX X (yx X.K):=by
  intro pins s σ H x v vl vu lo hi sl Q I rx hs pl pu h
  obtain ⟨a,xs,rfl,hx,q⟩:=h
  cases rx
  obtain ⟨its,r,ht,hz⟩:=I.list hx
  have hlen:=r.length
  refine ⟨"list",_,slot_list_getitem.lookup,ht.isList.typeIs,?_⟩
  refine wpAny_getItem_list_slice ht.isList hs pl pu .none (by simp) ?_ (by rw [List.size_toArray]<;>lia)
  rw [qE,<- hlen]
  refine ⟨.ref s.heap.objs.size,_,I.laid (t':=s.toks) (o:=.lst (fU xs lo hi)) (fun b ob q=>Heap.get?_push_of_some _ q) (Nat.le_refl _) ?_,rfl,q _ (I.hok.fresh (Nat.le_refl _))⟩
  exact ⟨Nat.le_trans (sF xs lo hi) hz,_,0,(r.drop (HT.sIx xs.length 0 lo)).take (HT.sIx xs.length xs.length hi - HT.sIx xs.length 0 lo),Heap.get?_push_size _ rfl⟩
noncomputable def jo:V->Bool
  | .non=>true
  | .bl _=>true
  | .int _=>true
  | .str _=>true
  | _=>false
noncomputable def nk:V->V->Bool
  | .non,.non=>true
  | .bl a,.bl b=>a == b
  | .bl a,.int b=>(if a then 1 else 0) == b
  | .int a,.bl b=>a == (if b then 1 else 0)
  | .int a,.int b=>a == b
  | .str a,.str b=>a == b
  | _,_=>false
theorem vd {A:Around} {s:Shared} {y x:V} {u v:Value} (ry:RelV y u) (rx:RelV x v) (fy:jo y=true) (fx:jo x=true):SeqAt.EqAt A s u v (nk y x):=by
  cases y with
  | non =>
    cases ry
    cases x with
    | non=>cases rx; exact SeqAt.EqAt.same _
    | bl b=>cases rx; exact SeqAt.EqAt.none_bool b
    | int b=>obtain ⟨t,rfl⟩:=rx; exact SeqAt.EqAt.none_int b t
    | str b=>obtain ⟨t,rfl⟩:=rx; exact SeqAt.EqAt.none_str b t
    | _=>exact absurd (show false=true from fx) Bool.false_ne_true
  | bl a =>
    cases ry
    cases x with
    | non=>cases rx; exact SeqAt.EqAt.bool_none a
    | bl b=>cases rx; exact SeqAt.EqAt.bool_bool a b
    | int b=>obtain ⟨t,rfl⟩:=rx; exact SeqAt.EqAt.bool_int a b t
    | str b=>obtain ⟨t,rfl⟩:=rx; exact SeqAt.EqAt.bool_str a b t
    | _=>exact absurd (show false=true from fx) Bool.false_ne_true
  | int a =>
    obtain ⟨t',rfl⟩:=ry
    cases x with
    | non=>cases rx; exact SeqAt.EqAt.int_none a t'
    | bl b=>cases rx; exact SeqAt.EqAt.int_bool a t' b
    | int b=>obtain ⟨t,rfl⟩:=rx; exact SeqAt.EqAt.int_int a t' b t
    | str b=>obtain ⟨t,rfl⟩:=rx; exact SeqAt.EqAt.int_str a t' b t
    | _=>exact absurd (show false=true from fx) Bool.false_ne_true
  | str a =>
    obtain ⟨t',rfl⟩:=ry
    cases x with
    | non=>cases rx; exact SeqAt.EqAt.str_none a t'
    | bl b=>cases rx; exact SeqAt.EqAt.str_bool a t' b
    | int b=>obtain ⟨t,rfl⟩:=rx; exact SeqAt.EqAt.str_int a t' b t
    | str b=>obtain ⟨t,rfl⟩:=rx; exact SeqAt.EqAt.str_str a t' b t
    | _=>exact absurd (show false=true from fx) Bool.false_ne_true
  | _=>exact absurd (show false=true from fy) Bool.false_ne_true
theorem aR:eY X (.builtin "len") (fun xs H Q=>∃ p ys,xs=[.ref p]/\(aq X.K H p ys\/jh X.K H p ys)/\Q (.int ys.length) H):=by
  intro pins s σ H xs us Q I r h
  obtain ⟨p,ys,rfl,hq,q⟩:=h
  obtain ⟨u,rfl,rx⟩:=vals1 r
  cases rx
  have hn:=kJ
  rcases hq with hq | hq
  · obtain ⟨its,r',pl,hz⟩:=I.list hq
    have hlen:=r'.length
    exact Calls.call_len_list pl.isList (by simp only [List.size_toArray]<;>lia) ⟨.int ys.length,H,I.tok _,⟨s.toks+1,by rw [List.size_toArray,hlen]⟩,q⟩
  · obtain ⟨its,r',pl,hz⟩:=I.tuple hq
    have hlen:=r'.length
    exact len_tuple pl (by simp only [List.size_toArray]<;>lia) ⟨.int ys.length,H,I.tok _,⟨s.toks+1,by rw [List.size_toArray,hlen]⟩,q⟩
theorem hG:eY X (.builtin "len") (fun xs H Q=>∃ z,xs=[.str z]/\z.length<=sizeLine/\Q (.int z.length) H):=by
  intro pins s σ H xs us Q I r h
  obtain ⟨z,rfl,hz,q⟩:=h
  obtain ⟨u,rfl,t,rfl⟩:=vals1 r
  have hn:=kJ
  exact len_str (by lia) ⟨.int z.length,H,I.tok _,⟨_,rfl⟩,q⟩
theorem ml:eY X (.type "list") (fun xs H Q=>∃ p ys,xs=[.ref p]/\(aq X.K H p ys\/jh X.K H p ys)/\∀ l,H l=none->Q (.ref l) (upd H l (.lst ys))):=by
  intro pins s σ H xs us Q I r h
  obtain ⟨p,ys,rfl,hq,q⟩:=h
  obtain ⟨u,rfl,rx⟩:=vals1 r
  cases rx
  have fin:∀ (its:List Value),Vals ys its->ys.length<=sizeLine->∀ (h':Heap) (c':Nat),(∀ b o',s.heap.get? b=some o'->h'.get? b=some o') ->
      h'.get? s.heap.objs.size=some { cls:=.type "list",dict:=none,data:=.seq its.toArray c',slots:=#[] }->EP X pins σ Q (.ref s.heap.objs.size) { s with heap:=h' }:=fun its r' hz h' c' kp e =>
    ⟨.ref s.heap.objs.size,_,I.laid (t':=s.toks) kp (Nat.le_refl _) (show dt X.prog X.w _ h' _ (.lst ys) from ⟨hz,its,c',r',e⟩),rfl,q _ (I.hok.fresh (Nat.le_refl _))⟩
  rcases hq with hq | hq
  · obtain ⟨its,r',pl,hz⟩:=I.list hq
    have hlen:=r'.length
    obtain ⟨o,ho,hc,n,hd⟩:=pl.isList
    exact call_list_seq p (.inl rfl) ho hc hd (fun h' c' kp e=>fin its r' hz h' c' kp e) (by simp only [List.size_toArray]<;>lia)
  · obtain ⟨its,r',pl,hz⟩:=I.tuple hq
    have hlen:=r'.length
    obtain ⟨o,ho,hc,n,hd⟩:=pl
    exact call_list_seq p (.inr rfl) ho hc hd (fun h' c' kp e=>fin its r' hz h' c' kp e) (by simp only [List.size_toArray]<;>lia)
def yy (K:PySem.W.Frag) (T:String) (x:V) (H:Hp):Prop:=match x with
  | .str _=>T = "str"
  | .int _=>T = "int"
  | .ref p=>(T = "list"/\∃ xs,aq K H p xs)\/(T = "tuple"/\∃ o,K.lookup p=some o/\o.cls = .type "tuple"/\o.dict=none) \/
      (T = "dict"/\((∃ kvs,H p=some (.dK kvs))\/∃ kvs,H p=some (.dT kvs)))\/(T = "set"/\∃ S n,H p=some (.set S n))
  | _=>False
theorem vj {pins:List (Addr × Obj)} {σ:St} {H:Hp} {s:Shared} {T:String} {x:V} {v:Value} (I:Inv X pins σ H s) (r:RelV x v) (ty:yy X.K T x H) :
    s.TypeIs v T/\∀ a,v = .ref a->∃ ob,s.heap.get? a=some ob/\ob.dict=none:=by
  cases x with
  | str z =>
    obtain ⟨t,rfl⟩:=r
    cases (show T = "str" from ty)
    exact ⟨typeIs_str s z t,fun _ e=>nomatch e⟩
  | int i =>
    obtain ⟨t,rfl⟩:=r
    cases (show T = "int" from ty)
    exact ⟨typeIs_int s i t,fun _ e=>nomatch e⟩
  | ref p =>
    cases r
    rcases ty with ⟨rfl,xs,hq⟩ | ⟨rfl,o,hk,hc,hd⟩ | ⟨rfl,hk⟩ | ⟨rfl,S,n,hk⟩
    · obtain ⟨its,_,pl,_⟩:=I.list hq
      refine ⟨pl.isList.typeIs,fun a e=>?_⟩
      cases e
      obtain ⟨o,n,e,c,hd,_⟩:=pl
      exact ⟨o,e,hd⟩
    · refine ⟨⟨o,I.kIn p o hk,hc⟩,fun a e=>?_⟩
      cases e
      exact ⟨o,I.kIn _ o hk,hd⟩
    · have z:∃ o,s.heap.get? p=some o/\o.ExactDict:=by
        rcases hk with ⟨kvs,hk⟩ | ⟨kvs,hk⟩
        · obtain ⟨_,_,_,_,o,_,_,e,ex,_⟩:=I.hok p _ hk
          exact ⟨o,e,ex⟩
        · obtain ⟨_,_,_,_,o,_,_,e,ex,_⟩:=I.hok p _ hk
          exact ⟨o,e,ex⟩
      obtain ⟨o,e,ex⟩:=z
      refine ⟨⟨o,e,ex.1⟩,fun a e2=>?_⟩
      cases e2
      exact ⟨o,e,ex.2.1⟩
    · obtain ⟨o,_,_,_,e,ex,_⟩:=I.hok p _ hk
      refine ⟨⟨o,e,ex.1⟩,fun a e2=>?_⟩
      cases e2
      exact ⟨o,e,ex.2.1⟩
  | _=>exact False.elim ty
noncomputable def Ac (K:PySem.W.Frag) (T:String) (r:V->List V->Hp->VK->Prop) (to:TE):TE:=fun σ H Q=>to σ H fun x H1=>yy K T x H1/\r x [] H1 Q
noncomputable def zG (K:PySem.W.Frag) (T:String) (r:V->List V->Hp->VK->Prop) (to:TE) (t:TA):TE:=fun σ H Q=>to σ H fun x H1=>yy K T x H1/\t σ H1 fun xs H2=>r x xs H2 Q
variable {o e:Expr} {es:List Expr} {to:TE} {t:TA} {name:Str} {apos cpos:Pos} {T id:String} {r:V->List V->Hp->VK->Prop}
theorem uK (pa:PlainAttrs T) (slot:Slot T name id) (hty:typeOf (.builtin id)=pure (.type "method_descriptor")) (hm:yu X id r) (ho:PE X o to)
    (hbase:attributeBase o name X.env (eval o X.env)=eval o X.env:=by rfl) (hline:(apos.endLine == cpos.line)=true:=by rfl):PE X (.Call (.Attribute o name apos) [] [] cpos) (Ac X.K T r to):=by
  intro pins s σ H Q I h
  refine wpAny_Call_method0_late hbase hline (aE (ho pins s σ H _ I h) fun v s1 ⟨x,H1,I1,r1,ty,q1⟩=>?_)
  obtain ⟨h1,h2⟩:=vj I1 r1 ty
  exact ⟨T,id,pa,slot,hty,h1,h2,Calls.callWith_builtin rfl (PySem.evalArgs_none (hm pins s1 σ H1 x [] v [] Q I1 r1 .nil q1))⟩
theorem cL (pa:PlainAttrs T) (slot:Slot T name id) (hty:typeOf (.builtin id)=pure (.type "method_descriptor")) (hm:yu X id r) (ho:PE X o to) (ha:PA X (e::es) t)
    (hbase:attributeBase o name X.env (eval o X.env)=eval o X.env:=by rfl)
    (hfew:((backTo cpos (starEach (e::es) X.env)).all (fun x=>!x.1)&&(backToKw cpos (keywordEach [] X.env)).all (fun x=>x.1.isSome)
      && decide ((e::es).length+([]:List Keyword).length+(if ([]:List Keyword).isEmpty then 0 else 1) < 30))=true:=by rfl)
    (hline:(apos.endLine == cpos.line)=true:=by rfl) (hs:starEach (e::es) X.env=(false,eval e X.env)::starEach es X.env:=by rfl) (hplain:(backTo cpos (starEach es X.env)).any (·.1)=false:=by rfl) :
    PE X (.Call (.Attribute o name apos) (e::es) [] cpos) (zG X.K T r to t):=by
  intro pins s σ H Q I h
  refine wpAny_Call_method_late hbase hfew hline rfl (aE (ho pins s σ H _ I h) fun v s1 ⟨x,H1,I1,r1,ty,q1⟩=>?_)
  obtain ⟨h1,h2⟩:=vj I1 r1 ty
  refine ⟨T,id,pa,slot,hty,h1,h2,?_⟩
  have hA:=ha cpos pins s1 σ H1 _ I1 q1
  rw [hs] at hA |-
  refine Calls.callWith_builtin (by show (false || (backTo cpos (starEach es X.env)).any (·.1))=false; rw [hplain]<;>rfl) (Calls.evalArgs_plain ?_)
  exact aE hA fun us s2 ⟨vs,H2,I2,r2,q2⟩=>hm pins s2 σ H2 x vs v us Q I2 r1 r2 q2
end
end L2
namespace L2
open PySem PySem.Spec PyProof.Rows
def sL (X:Cx) (id:String) (r:V->List V->Hp->VK->Prop):Prop :=
  ∀ (pins:List (Addr × Obj)) (s:Shared) (σ:St) (H:Hp) (x:V) (xs:List V) (v:Value) (us:List Value) (Q:VK),Inv X pins σ H s->RelV x v->Vals xs us->r x xs H Q ->
    wpAny (model X.prog X.w) X.A (call (.builtin id) (v::us)) (EP X pins σ Q) X.xe s
theorem Vals.one:∀ {x:V} {us:List Value},Vals [x] us->∃ u,us=[u]/\RelV x u
  | _,_,.cons r .nil=>⟨_,rfl,r⟩
theorem Vals.zero:∀ {us:List Value},Vals [] us->us=[]
  | _,.nil=>rfl
theorem Vals.dropLast {xs:List V} {us:List Value} (h:Vals xs us):Vals xs.dropLast us.dropLast:=by
  induction h with
  | nil=>exact .nil
  | cons r t ih =>
    cases t with
    | nil=>exact .nil
    | cons q t'=>exact .cons r ih
theorem Vals.rep {xs:List V} {us:List Value} (h:Vals xs us):∀ k:Nat,Vals (List.replicate k xs).flatten (List.replicate k us).flatten
  | 0=>.nil
  | k+1=>by
    rw [List.replicate_succ,List.replicate_succ,List.flatten_cons,List.flatten_cons]
    exact Vals.append h (Vals.rep h k)
theorem ue {α:Type} (l:List α):l.eraseIdx (l.length - 1)=l.dropLast:=by
  induction l with
  | nil=>rfl
  | cons a r ih =>
    cases r with
    | nil=>rfl
    | cons b r =>
      have e:(a::b::r).length - 1=((b::r).length - 1)+1:=by
        have h1:(a::b::r).length=r.length+2:=rfl
        have h2:(b::r).length=r.length+1:=rfl
        lia
      rw [e,List.eraseIdx_cons_succ,ih]
      all_goals rfl
theorem foldl_rep (its:List Value):∀ (k:Nat) (acc:List Value),
    List.foldl (fun x1 x2=>x1++x2) acc.toArray (List.replicate k its.toArray)=(acc++(List.replicate k its).flatten).toArray
  | 0,acc=>by simp
  | k+1,acc=>by
    have e:acc.toArray++its.toArray=(acc++its).toArray:=by simp
    have e2:(acc++its)++(List.replicate k its).flatten=acc++(List.replicate (k+1) its).flatten:=by
      rw [List.replicate_succ,List.flatten_cons,List.append_assoc]
    rw [<- e2,<- foldl_rep its k (acc++its),<- e,List.replicate_succ,List.foldl_cons]
section
variable {X:Cx} {pins:List (Addr × Obj)} {σ:St} {H:Hp} {s:Shared} {l b:Addr} {xs ys zs:List V}
theorem Inv.lset {its its':List Value} {n:Nat} {f:Array Value->Array Value} {t':Nat} (I:Inv X pins σ H s) (hH:H l=some (.lst xs))
    (e:s.heap.get? l=some { cls:=.type "list",data:=.seq its.toArray n }) (hf:f its.toArray=its'.toArray) (hv:Vals ys its') (hz:ys.length<=sizeLine) :
    Inv X pins σ (upd H l (.lst ys)) { s with heap:=s.heap.update l (Obj.mapSeq f),toks:=t' }:=by
  have q:=PySem.IsL.update e f
  rw [hf] at q
  refine I.write (x:=l) (e:=l) (by rw [hH]; exact trivial) (.inl rfl) (fun b' u hb hu=>(Heap.get?_update_other s.heap (Obj.mapSeq f) (Ne.symm hb)).trans hu) ⟨_,q⟩ ?_
  exact ⟨hz,its',_,hv,q⟩
theorem Inv.lnew {its:List Value} {t':Nat} (I:Inv X pins σ H s) (hv:Vals ys its) (hz:ys.length<=sizeLine) :
    Inv X pins σ (upd H s.heap.objs.size (.lst ys)) { s with heap:=s.heap.push { cls:=.type "list",data:=.seq its.toArray },toks:=t' } :=
  I.laid (fun _ _ q=>Heap.get?_push_of_some _ q) (Nat.le_refl _) ⟨hz,its,0,hv,Heap.get?_push_size _ rfl⟩
theorem Inv.fresh (I:Inv X pins σ H s):H s.heap.objs.size=none:=I.hok.fresh (Nat.le_refl _)
theorem Inv.lstM (I:Inv X pins σ H s) (hH:H l=some (.lst xs)):xs.length<=sizeLine/\∃ (its:List Value) (n:Nat),Vals xs its/\xs.length=its.length/\s.heap.get? l=some { cls:=.type "list",data:=.seq its.toArray n }:=by
  obtain ⟨z,its,n,r,e⟩:=I.hok l _ hH
  exact ⟨z,its,n,r,r.length,e⟩
theorem rL {n:Nat} (h:n<=sizeLine):Builtin.List.listTooLong n=false:=by
  unfold Builtin.List.listTooLong
  exact decide_eq_false (by lia)
end
section
variable {X:Cx}
noncomputable def xb:V->List V->Hp->VK->Prop:=fun x vs H Q=>∃ l xs y,x = .ref l/\vs=[y]/\H l=some (.lst xs)/\xs.length < sizeLine/\Q .non (upd H l (.lst (xs++[y])))
theorem bt:sL X "list.append" xb:=by
  intro pins s σ H x vs v us Q I rx rv h
  obtain ⟨l,xs,y,rfl,rfl,hH,hz,q⟩:=h
  cases rx
  obtain ⟨u,rfl,ru⟩:=rv.one
  obtain ⟨z,its,n,r,hl,e⟩:=I.lstM hH
  refine call_meets F.slot_list_append ⟨_,e,rfl⟩ F.entry_list_append (F.args_list_append_2 _ _) (PySem.list_append l its.toArray n u (by rw [List.size_toArray]; lia)) ⟨e,?_⟩
  refine ⟨.non,_,I.lset (its':=its++[u]) hH e (by simp) (r.append (.cons ru .nil)) ?_,rfl,q⟩
  rw [List.length_append,List.length_singleton]
  lia
noncomputable def xE:V->List V->Hp->VK->Prop:=fun x vs H Q=>∃ l b xs zs,x = .ref l/\vs=[.ref b]/\H l=some (.lst xs)/\H b=some (.lst zs)/\xs.length+zs.length<=sizeLine/\Q .non (upd H l (.lst (xs++zs)))
theorem uO:sL X "list.extend" xE:=by
  intro pins s σ H x vs v us Q I rx rv h
  obtain ⟨l,b,xs,zs,rfl,rfl,hH,hB,hz,q⟩:=h
  cases rx
  obtain ⟨u,rfl,ru⟩:=rv.one
  cases ru
  obtain ⟨z,its,n,r,hl,e⟩:=I.lstM hH
  obtain ⟨z2,its2,n2,r2,hl2,e2⟩:=I.lstM hB
  have hsz:its.toArray.size+its2.toArray.size<=sizeLine:=by rw [List.size_toArray,List.size_toArray]; lia
  have hlong:¬ (!its.toArray.isEmpty&&Builtin.List.listTooLong (its.toArray.size+its2.toArray.size))=true:=by
    rw [rL hsz,Bool.and_false]
    exact Bool.false_ne_true
  refine call_meets F.slot_list_extend ⟨_,e,rfl⟩ F.entry_list_extend (F.args_list_extend_2 _ _)
    (AutoSeq1.list_extend_list_list_0 l its.toArray n b its2.toArray n2 hlong (by rw [List.size_toArray]; lia) (by lia)) ⟨e,e2,?_⟩
  refine ⟨.non,_,I.lset (its':=its++its2) hH e (by simp) (r.append r2) ?_,rfl,q⟩
  rw [List.length_append]
  lia
noncomputable def zR:V->List V->Hp->VK->Prop:=fun x vs H Q=>∃ l xs y,x = .ref l/\vs=[]/\H l=some (.lst xs)/\xs[xs.length - 1]? = some y/\Q y (upd H l (.lst xs.dropLast))
theorem vb:sL X "list.pop" zR:=by
  intro pins s σ H x vs v us Q I rx rv h
  obtain ⟨l,xs,y,rfl,rfl,hH,hy,q⟩:=h
  cases rx
  have hus:=rv.zero
  subst hus
  obtain ⟨z,its,n,r,hl,e⟩:=I.lstM hH
  obtain ⟨u,hu,ru⟩:=r.get hy
  have hy':its.toArray[its.toArray.size - 1]? = some u:=by
    show its.toArray[its.length - 1]? = some u
    rw [<- Array.getElem?_toList,<- hl]
    exact hu
  refine call_meets F.slot_list_pop ⟨_,e,rfl⟩ F.entry_list_pop (F.args_list_pop_1 _) (MeetsSeq.list_pop_last l its.toArray n u hy' (by rw [List.size_toArray]; lia)) ⟨e,?_⟩
  refine ⟨y,_,I.lset (its':=its.dropLast) hH e ?_ r.dropLast ?_,ru,q⟩
  · show its.toArray.eraseIdxIfInBounds (its.toArray.size - 1)=its.dropLast.toArray
    rw [List.size_toArray,List.eraseIdxIfInBounds_toArray,ue]
  · rw [List.length_dropLast]
    lia
noncomputable def Ae:R2:=fun x y H Q=>∃ l b xs zs,x = .ref l/\y = .ref b/\H l=some (.lst xs)/\H b=some (.lst zs)/\xs.length+zs.length<=sizeLine/\∀ p,H p=none->Q (.ref p) (upd H p (.lst (xs++zs)))
theorem ya:eA X (binaryOp .Add) Ae:=by
  intro pins s σ H x y v u Q I rx ry h
  obtain ⟨l,b,xs,zs,rfl,rfl,hH,hB,hz,q⟩:=h
  cases rx
  cases ry
  obtain ⟨z,its,n,r,hl,e⟩:=I.lstM hH
  obtain ⟨z2,its2,n2,r2,hl2,e2⟩:=I.lstM hB
  refine PySem.P.add_list e e2 ?_ (by rw [List.size_toArray,List.size_toArray]; lia)
  have ea:its.toArray++its2.toArray=(its++its2).toArray:=by simp
  rw [ea]
  exact ⟨.ref _,_,I.lnew (t':=s.toks) (r.append r2) (by rw [List.length_append]; lia),rfl,q _ I.fresh⟩
noncomputable def Ak:R2:=fun x y H Q=>∃ l k xs,x = .ref l/\y = .int k/\H l=some (.lst xs)/\-(2 ^ 63)<=k/\k < 2 ^ 63/\xs.length*k.toNat<=sizeLine /\
  ∀ p,H p=none->Q (.ref p) (upd H p (.lst (List.replicate k.toNat xs).flatten))
theorem len_rep {α:Type} (xs:List α) (k:Nat):(List.replicate k xs).flatten.length=k*xs.length:=by
  induction k with
  | zero=>simp
  | succ k ih=>rw [List.replicate_succ,List.flatten_cons,List.length_append,ih,Nat.succ_mul,Nat.add_comm]
theorem yI:eA X (binaryOp .Mult) Ak:=by
  intro pins s σ H x y v u Q I rx ry h
  obtain ⟨l,k,xs,rfl,rfl,hH,h1,h2,hz,q⟩:=h
  cases rx
  obtain ⟨t,rfl⟩:=ry
  obtain ⟨z,its,n,r,hl,e⟩:=I.lstM hH
  have hlen:its.toArray.size*k.toNat<=sizeLine:=by rw [List.size_toArray,<- hl]; exact hz
  have hcap:¬ its.toArray.size*k.toNat > (2 ^ 63 - 1) / 8:=by
    have:(sizeLine:Nat)<=(2 ^ 63 - 1) / 8:=by decide
    lia
  have hfit:¬ (!Builtin.List.listFitsIndex k)=true:=by
    rw [fitsIndex_both h1 h2]
    exact Bool.false_ne_true
  have hlong:¬ Builtin.List.listTooLong (its.toArray.size*k.toNat)=true:=by
    rw [rL hlen]
    exact Bool.false_ne_true
  have hnew:List.foldl (fun x1 x2=>x1++x2) #[] (List.replicate (if its.toArray.isEmpty=true then 0 else k.toNat) its.toArray)=(List.replicate k.toNat its).flatten.toArray:=by
    have f0:∀ m:Nat,List.foldl (fun x1 x2=>x1++x2) #[] (List.replicate m its.toArray)=(List.replicate m its).flatten.toArray:=fun m=>by
      have:=foldl_rep its m []
      rw [List.nil_append] at this
      exact this
    rw [f0]
    cases its with
    | nil=>simp
    | cons a r'=>rw [if_neg (by simp)]
  refine wpAny_binaryOp_repeat_ref (T:="list") (U:="int") (by decide) ⟨_,e,rfl⟩ (fun s'=>typeIs_int s' k t) noFill_list_mul F.fills_int_mul F.slot_int_rmul repeat_list F.slot_int_index.lookup
    (call_meets F.slot_int_rmul (typeIs_int s k t) F.entry_int_rmul (F.args_int_rmul_2 _ _) (int___rmul___int_list k t l its.toArray n)
      ⟨e,rfl,⟨_,e,rfl⟩,call_meets F.slot_list_mul ⟨_,e,rfl⟩ F.entry_list_mul (F.args_list_mul_2 _ _) (AutoListH.list___mul___list_int_3 l its.toArray n k t hfit hcap hlong) ⟨e,?_⟩⟩)
  rw [hnew]
  exact ⟨.ref _,_,I.lnew (t':=s.toks) (r.rep k.toNat) (by rw [len_rep,Nat.mul_comm]; exact hz),rfl,q _ I.fresh⟩
end
section
variable {prog:Program} {w:World} {A:Around} {E:Value->Shared->Prop} {s:Shared}
set_option maxRecDepth 100000 in
end
section
variable {X:Cx}
end
end L2
namespace Att
open PySem PySem.W PySem.Calls PyProof.Rows
theorem oG {P:Params} {h:Heap}:∀ (ns:List Int) (vs:List Value),WellAll P h vs (ns.map WData.int)->IntsAre vs ns:=by
  intro ns
  induction ns with
  | nil =>
    intro vs w
    rw [List.map_nil] at w
    cases w
    exact .nil
  | cons n ns ih =>
    intro vs w
    rw [List.map_cons] at w
    cases w with
    | cons a b =>
      cases a
      exact .cons _ _ (ih _ b)
theorem uF {l:OpenLaw} {n:Nat} (hn:l.most=some n) {P:Params} {h:Heap} {args:List WData} {vals:List Value}
    (hpre:l.row.toRowW.claim.pre args=true) (hwl:WellAll P h vals args) :
    ∃ a vs ns,vals=[Value.ref a]/\args=[WData.list (ns.map WData.int)]/\h.get? a=some { cls:=.type "list",data:=.seq vs.toArray }/\IntsAre vs ns/\ns.length<=n:=by
  have hsh:WShape.hasAll [] args [.list .int]=true:=(pre_splitW hpre).1
  have hc:l.pre.holds [] { args:=args }=true:=(pre_splitW hpre).2
  obtain ⟨d,r,rfl,h1,h2⟩:=hasAllW_cons hsh
  obtain rfl:=hasAllW_nil h2
  obtain ⟨xs,rfl,h3⟩:=hasW_list h1
  obtain ⟨ns,rfl⟩:=items_int h3
  have hlen:ns.length<=n:=by
    unfold OpenLaw.pre at hc
    have h4:(WTm.not (.lt (.lit (.int (n:Int))) (.len (.arg 0)))).holds [] { args:=[.list (ns.map .int)] }=true:=by
      have h4:=(holds_andW hc).1
      rw [hn] at h4
      exact h4
    have h5:=condW_of h4 (w_not (w_lt w_lit (w_len_list (w_arg rfl))))
    rw [List.length_map] at h5
    refine Nat.le_of_not_lt fun q=>?_
    have q':(n:Int) < ((ns.length:Nat):Int):=by lia
    first
      | (rw [decide_eq_true q'] at h5; exact absurd h5 (by decide))
      | (simp at h5; lia)
  cases hwl with
  | cons w1 w2 =>
    cases w2
    cases w1 with
    | list ho hall=>exact ⟨_,_,ns,rfl,rfl,ho,oG ns _ hall,hlen⟩
theorem vf (l:OpenLaw) (args:List WData):l.row.toRowW.claim.post args (.bool true) args=true :=
  postW_of (r:=l.row.toRowW) (X:=(true == true))
    (show WShape.has [] (.bool true) .bool=true by first | rfl | decide | simp [WShape.has,WShape.arms,WShape.armsAll])
    (show (WTm.eq .res (.lit (.bool true))).value [] { args:=args,res:=some (.bool true),after:=args }=some (.bool (true == true)) from w_eq_bool (w_res rfl) w_lit) rfl
theorem attach_call {l:OpenLaw} {n:Nat} {q:Program} {loose:List Str} {XP:(Str->Option Value)->Heap->Prop} {YP:World->Heap->Prop} {d:DefRec}
    (hn:l.most=some n) (hdf:d.params.defaults=[])
    (call:∀ (w:World) (s₀ s₁:Shared) (mg mb:Str->Option Value) (fa:Addr) (o:Obj) (pm cd doc:Value) (a:Addr) (vs:List Value) (ns:List Int),
      Ground q loose [] XP w s₀ mg mb s₁.heap->YP w s₁.heap ->
      s₁.heap.get? fa=some o->o.data = .func (docDef d.name d.params d.body d.scope pm cd doc)->s₁.heap.CodeRec cd d.name->mg d.name=some (.ref fa) ->
      s₁.heap.get? a=some { cls:=.type "list",data:=.seq vs.toArray }->IntsAre vs ns->ns.length<=n->s₁.gens = #[] ->
      codeAny (model l.prog w) callerA (.call (.ref fa) ⟨[.ref a],[]⟩) (fun r s'=>r = .ok (.ret (.bool true))/\OldK s₁.heap s'.heap/\s'.os=s₁.os/\AllBare s'.gens) s₁) :
    WalkO q loose XP YP l.row.toRowW d [] (fun f vs=>PySem.call f vs):=by
  intro w s₀ s₁ mg mb G Y fa o pm cd doc dV kV ho hd hcd hD hmg hg args vals as hpre hlay hrd hwl hlo
  obtain rfl:dV = .none:=Dflts.none hD hdf
  obtain rfl:kV = .none:=Dflts.noKw hD
  obtain ⟨a,vs,ns,rfl,rfl,hobj,hints,hlen⟩:=uF hn hpre hwl
  refine enter_call (codeAny_mono (call w s₀ s₁ mg mb fa o pm cd doc a vs ns G Y ho (fd_plain hd) hcd hmg hobj hints hlen hg) fun r s' hq=>?_)
  obtain ⟨rfl,h2,h3,h4⟩:=hq
  exact ⟨.inl ⟨.bool true,.bool true,[],rfl,fun _=>rfl,.bool true,vf l _,fun _=>⟨List.Pairwise.nil,fun _ hm=>(nomatch hm)⟩⟩,h2,h3,h4⟩
section
variable {prog:Program} {w:World} {A:Around} {E:Value->Shared->Prop} {s:Shared} {K:Frag}
noncomputable def ledger (h:Heap) (L d:Addr):List (Addr × Obj):=(List.range h.objs.size).filterMap fun a=>if a=L\/a=d then none else (h.get? a).map fun o=>(a,o)
end
end Att
namespace L2
open PySem PySem.Spec PyProof.Rows
theorem qm:∀ {vs:List Value} {ns:List Int},IntsAre vs ns->Vals (ns.map V.int) vs
  | _,_,.nil=>.nil
  | _,_,.cons n t h=>.cons ⟨t,rfl⟩ (qm h)
def ua (H:Hp):Prop:=∀ b,H b=none\/∃ o xs,H b=some (.frz o (.lst xs))
theorem vD {P:Program} {w:World} {K:PySem.W.Frag} {mg mb:Str->Option Value} {CX:kI} {k:Nat} {fa a:Addr} {fd:FuncData} {x:Str} {sp:Sp} {s₁:Shared} {vs:List Value} {ns:List Int}
    (KX:K.In s₁.heap) (hns:s₁.heap.Ns mainGlobals mg) (hb:s₁.heap.Ns builtinsNs mb) (hbb:∀ x:Str,x≠"__name__"->mb x=bootBuiltins x) (hlim:s₁.heap.NoLimit) (hg:s₁.gens = #[])
    (ha:s₁.heap.get? a=some { cls:=.type "list",data:=.seq vs.toArray }) (hi:IntsAre vs ns) (hl:ns.length<=sizeLine) (hr:cz k callerA)
    (F:∀ base:Heap,K.In base->base.Ns mainGlobals mg->aH P w K mg base CX k fa fd [x] sp) (hbind:∀ (s:Shared) (u:Value),BindsTo s fd ⟨[u],[]⟩ [(x,u)])
    (hsp:∀ H:Hp,ua H->aq K H a (ns.map V.int)->sp [.ref a] H (fun v _=>v = .bl true) fun _ _ _=>False)
    (hCX:∀ H e s',CX [] H s₁ (fun _ _ _=>False) e s'->False) :
    codeAny (model P w) callerA (.call (.ref fa) ⟨[.ref a],[]⟩) (fun r s'=>r = .ok (.ret (.bool true))/\OldK s₁.heap s'.heap/\s'.os=s₁.os/\AllBare s'.gens) s₁:=by
  have rv:=qm hi
  have lenV:=hi.length
  -- from an abstract heap in which nothing but the script may be tracked
  have core:∀ H:Hp,ua H->aq K H a (ns.map V.int)->ff P w H s₁.heap->(∀ b,H b≠none->b=a)->(H a≠none->K.lookup a=none) ->
      codeAny (model P w) callerA (.call (.ref fa) ⟨[.ref a],[]⟩) (fun r s'=>r = .ok (.ret (.bool true))/\OldK s₁.heap s'.heap/\s'.os=s₁.os/\AllBare s'.gens) s₁:=by
    intro H hO hS hok hA hK
    have base_of:∀ {b:Addr} {o:Obj},s₁.heap.get? b=some o->H b=none->(kU s₁.heap H).get? b=some o:=fun e n=>vH e n
    have noA:∀ {b:Addr} {o:Obj} {es:Array DictEntry} {ep:Nat},s₁.heap.get? b=some o->o.data = .dict es ep->H b=none:=fun {b o es ep} e d=>by
      cases q:H b with
      | none=>rfl
      | some u =>
        have e':b=a:=hA b (by rw [q]; simp)
        subst e'
        rw [ha] at e; cases e
        have d':Data.seq vs.toArray _=Data.dict es ep:=d
        cases d'
    have nsK:∀ {b:Addr} {m:Str->Option Value},s₁.heap.Ns b m->(kU s₁.heap H).Ns b m:=fun {b m} ⟨o,es,ep,e,d,r⟩=>⟨o,es,ep,base_of e (noA e d),d,r⟩
    have hKb:K.In (kU s₁.heap H):=fun b o e=>base_of (KX b o e) (by
      cases q:H b with
      | none=>rfl
      | some u =>
        have e':b=a:=hA b (by rw [q]; simp)
        subst e'
        rw [hK (by rw [q]; simp)] at e; cases e)
    have hM:Mod K mg (kU s₁.heap H):=⟨hKb,nsK hns,⟨mb,nsK hb,hbb⟩,let ⟨mc,h1,h2⟩:=hlim; ⟨mc,nsK h1,h2⟩⟩
    have e0:nv P w K mg (kU s₁.heap H) callerA [] s₁ H:=⟨rfl,hM,fun b o e=>xK e,Nat.le_of_eq (uo _ _),trivial,fun b hb=>absurd (show b∈([]:List Addr) from hb) (by simp),hok,.of_eq hg⟩
    refine codeAny_mono ((F _ hKb (nsK hns)).run callerA [] s₁ H ⟨[.ref a],[]⟩ [.ref a] [.ref a] _ _ hr e0 (hbind s₁ (.ref a)) (.cons rfl .nil) (hsp H hO hS)) fun r s' h=>?_
    cases r with
    | error e=>exact (hCX H e s' h).elim
    | ok fl =>
      cases fl with
      | next=>exact False.elim h
      | brk=>exact False.elim h
      | cont=>exact False.elim h
      | ret u =>
        obtain ⟨v,H',os,bare,un,hok',r',q⟩:=h
        have q':v = .bl true:=q
        subst q'
        obtain rfl:u=Value.bool true:=r'
        refine ⟨rfl,OldK.of_keep fun b o e=>?_,os,bare⟩
        cases q:H b with
        | none=>exact un.keep b o e q (by intro z; exact absurd (show b∈([]:List Addr) from z) (by simp)) (by simp)
        | some u =>
          rcases hO b with z | ⟨ob,xs,z⟩
          · rw [q] at z; cases z
          · have z2:=un.frzs b ob _ z
            obtain ⟨e1,_⟩:=hok b _ z
            obtain ⟨e2,_⟩:=hok' b _ z2
            rw [e] at e1; cases e1
            exact e2
  cases hk:K.lookup a with
  | some o =>
    -- the script is one of the module's own objects
    have e:=KX a o hk
    rw [ha] at e
    cases e
    refine core (fun _=>none) (fun _=>.inl rfl) (.inr ⟨_,vs.toArray,_,hk,rfl,rfl,rfl,by rw [List.size_toArray,lenV]; exact hl,by simpa using rv⟩) (fun b u z=>by have z':(none:Option HO)=some u:=z; cases z') (fun b z=>absurd rfl z) fun z=>absurd rfl z
  | none =>
    refine core (fun b=>if b=a then some (.frz { cls:=.type "list",data:=.seq vs.toArray } (.lst (ns.map V.int))) else none) (fun b=>?_) (.inl (.inr ⟨{ cls:=.type "list",data:=.seq vs.toArray },if_pos rfl⟩)) (fun b u z=>?_) (fun b z=>?_) fun _=>hk
    · by_cases hb:b=a
      · exact .inr ⟨_,_,if_pos hb⟩
      · exact .inl (if_neg hb)
    · by_cases hb:b=a
      · have z':=(if_pos hb).symm.trans z
        cases z'
        subst hb
        exact ⟨ha,by rw [List.length_map]; exact hl,vs,_,rv,ha⟩
      · have z':=(if_neg hb).symm.trans z
        cases z'
    · by_cases hb:b=a
      · exact hb
      · exact absurd (if_neg hb) z
end L2
namespace L2
open PySem PySem.Spec PyProof.Rows
noncomputable abbrev AA {K:PySem.W.Frag} {h:Heap} (_:K.In h):PySem.W.Frag:=K
theorem walk_of {l:W.OpenLaw} {n k:Nat} {q:Program} {loose:List Str} {XP:(Str->Option Value)->Heap->Prop} {YP:World->Heap->Prop} {d:DefRec} {K:Params->W.Frag} {CX:World->kI} {sp:World->Sp} {x:Str}
    (hn:l.most=some n) (hn2:n<=sizeLine) (hdf:d.params.defaults=[]) (hr:cz k callerA)
    (hY:∀ (w:World) (h:Heap),YP w h->(K w.params).In h)
    (F:∀ (w:World) (mg:Str->Option Value) (fa:Addr) (h:Heap),(K w.params).In h->h.Ns mainGlobals mg->mg d.name=some (.ref fa) ->
      ∃ fd:FuncData,(∀ (s:Shared) (u:Value),BindsTo s fd ⟨[u],[]⟩ [(x,u)]) /\
        ∀ base:Heap,(K w.params).In base->base.Ns mainGlobals mg->aH l.prog w (K w.params) mg base (CX w) k fa fd [x] (sp w))
    (hsp:∀ (w:World) (H:Hp) (a:Addr) (ns:List Int),ns.length<=n->ua H->aq (K w.params) H a (ns.map V.int)->sp w [.ref a] H (fun v _=>v = .bl true) fun _ _ _=>False)
    (hCX:∀ (w:World) (H:Hp) (s:Shared) (e:Value) (s':Shared),CX w [] H s (fun _ _ _=>False) e s'->False) :
    W.WalkO q loose XP YP l.row.toRowW d [] (fun f vs=>PySem.call f vs):=by
  refine Att.attach_call hn hdf fun w s₀ s₁ mg mb fa o pm cd doc a vs ns G Y ho hd hcd hmg hobj hints hlen hg=>?_
  have KX:=hY w _ Y
  obtain ⟨fd,hb,hF⟩:=F w mg fa _ KX G.T.g hmg
  exact vD KX G.T.g G.T.b G.T.builtins G.T.nolimit hg hobj hints (Nat.le_trans hlen hn2) hr hF hb (fun H hO hS=>hsp w H a ns hlen hO hS) fun H e s'=>hCX w H s₁ e s'
end L2
namespace L2
open PySem PySem.Spec PyProof.Rows
noncomputable def inClass (s:Stmt) (j:Nat):Stmt:=match s with
  | .ClassDef _ _ _ body _ _ _ _ _ _ _=>body.getD j (.Pass ⟨0,0,0,0⟩)
  | _=>.Pass ⟨0,0,0,0⟩
noncomputable def aw (s:Stmt):Arguments:=match s with
  | .FunctionDef _ a _ _ _ _ _ _ _ _=>a
  | _=>{ posonlyargs:=[],args:=[],vararg:=none,kwonlyargs:=[],kw_defaults:=[],kwarg:=none,defaults:=[] }
noncomputable def av (s:Stmt):List Stmt:=match s with
  | .FunctionDef _ _ b _ _ _ _ _ _ _=>b
  | _=>[]
noncomputable def aj (s:Stmt):Scope:=match s with
  | .FunctionDef _ _ _ _ _ _ sc _ _ _=>sc
  | _=>{ kind:=.function,names:=[],isGenerator:=false,isCoroutine:=false }
noncomputable abbrev bM:kI:=fun _ _ _ _ _ _=>False
noncomputable abbrev E0:XK:=fun _ _ _=>False
structure bO (K:W.Frag) (x qual:Str) (st:Stmt) (f:Addr) (fd:FuncData):Prop where
  ex:∃ (oc:Value) (od:Option Addr) (kV doc pm:Value) (an:Option Addr) (cdv ct:Value) (osl:Array (Option Value)),
    fd=W.fnOf x qual (aw st) (av st) (aj st) .none kV doc pm an cdv ct/\K.lookup f=some ⟨oc,od,.func fd,osl⟩/\W.codeIn K cdv qual=true
  kp:W.keepIn K (.ref f)=true
section
variable {P:Program} {w:World} {K:W.Frag} {mg:Str->Option Value} {base:Heap}
theorem bO.ok {x qual:Str} {st:Stmt} {f:Addr} {fd:FuncData} {N ps:List Str} {k:Nat} {sp:Sp} (F:bO K x qual st f fd) (S:az N ps (aj st)) (len:∀ vs H Q E,sp vs H Q E->vs.length=ps.length)
    (hbody:∀ (cdv:Value) (A:Around) (outer:List Env) (s:Shared) (H:Hp) (vs:List V) (Q:VK) (E:XK),cz k (A.deeper (envOfC qual (aj st) s.heap.objs.size f cdv))->sp vs H Q E ->
      ∃ t,jC (pP bM P w K mg base N qual (aj st) f cdv A outer s H E).nox (av st) t/\t { nx:=fun _ H'=>Q .non H',rt:=Q } (start N vs) H):aH P w K mg base bM (k+1) f fd ps sp:=by
  obtain ⟨oc,od,kV,doc,pm,an,cdv,ct,osl,rfl,lk,hcd⟩:=F.ex
  refine zi lk hcd S len fun A outer s H vs Q E hr hsp=>?_
  obtain ⟨t,h,q⟩:=hbody cdv A outer s H vs Q E hr hsp
  exact ⟨t,h.nox,q⟩
theorem bO.binds {x qual:Str} {st:Stmt} {f:Addr} {fd:FuncData} {ps:List Str} (F:bO K x qual st f fd)
    (h:∀ (kV doc pm:Value) (an:Option Addr) (cdv ct:Value) (us:List Value),us.length=ps.length->bindArgs (W.fnOf x qual (aw st) (av st) (aj st) .none kV doc pm an cdv ct) ⟨us,[]⟩=pure (ps.zip us)):Binds K fd ps []:=by
  obtain ⟨oc,od,kV,doc,pm,an,cdv,ct,osl,rfl,lk,hcd⟩:=F.ex
  exact .all (h kV doc pm an cdv ct)
theorem aF {x qual:Str} {st:Stmt} {f:Addr} {oc:Value} {od an:Option Addr} {osl:Array (Option Value)} {kV doc pm cdv ct:Value} (l:K.lookup f=some ⟨oc,od,.func (W.fnOf x qual (aw st) (av st) (aj st) .none kV doc pm an cdv ct),osl⟩)
    (c:W.codeIn K cdv qual=true) (k:W.keepIn K (.ref f)=true):bO K x qual st f (W.fnOf x qual (aw st) (av st) (aj st) .none kV doc pm an cdv ct):=⟨⟨oc,od,kV,doc,pm,an,cdv,ct,osl,rfl,l,c⟩,k⟩
end
theorem zp {A:Around} {k:Nat} (hr:cz k A):A.units+1 < cLine:=Nat.lt_of_le_of_lt (Nat.add_le_add_left (by decide:1<=64) _) hr.units
section
variable {X:Cx}
theorem pv (i:Nat) {x:Str} {pos:Pos} (hN:X.N[i]? = some x:=by rfl) (hv:wL X.env.scope x:=by first | exact Or.inl rfl | exact Or.inr (Or.inl rfl) | exact Or.inr (Or.inr rfl)) (hd:(x == ("__debug__" : Str))=false:=by decide)
    (hcd:(x == ("__classdict__" : Str))=false:=by decide):PE X (.Name x pos) (yb i):=yG hN hv hd hcd
end
theorem cp {A B:Prop} (h:B):if false=true then A else B:=by
  rw [if_neg Bool.false_ne_true]
  exact h
theorem eK {A B:Prop} (h:A):if true=true then A else B:=by
  rw [if_pos rfl]
  exact h
theorem pE {c A B:Prop} [Decidable c] (h1:c->A) (h2:¬ c->B):if c then A else B:=by
  by_cases h:c
  · rw [if_pos h]
    exact h1 h
  · rw [if_neg h]
    exact h2 h
theorem oM {c A B:Prop} [Decidable c] (hc:c) (h:B):if (!decide c)=true then A else B:=by
  rw [decide_eq_true hc]
  exact cp h
def ao (H H':Hp):Prop:=∀ b o,H b=some o->H' b=some o
theorem ao.refl (H:Hp):ao H H:=fun _ _ h=>h
theorem ao.trans {H H1 H2:Hp} (a:ao H H1) (b:ao H1 H2):ao H H2:=fun c o h=>b c o (a c o h)
theorem ao.free {H H':Hp} (e:ao H H') {l:Addr} (h:H' l=Option.none):H l=Option.none:=by
  cases q:H l with
  | none=>rfl
  | some o =>
    rw [e l o q] at h
    cases h
theorem ao.seq {K:W.Frag} {H H':Hp} {a:Addr} {xs:List V} (e:ao H H') (h:aq K H a xs):aq K H' a xs:=by
  rcases h with (h | ⟨o,h⟩) | h
  · exact .inl (.inl (e _ _ h))
  · exact .inl (.inr ⟨o,e _ _ h⟩)
  · exact .inr h
end L2
set_option Elab.async false
set_option linter.all false
set_option maxRecDepth 100000
set_option maxHeartbeats 4000000
namespace L2
open PySem PySem.Spec PyProof.Rows
section
variable {X:Cx}
def zu (i j:Int):Prop:=0 < j/\j.natAbs.log2 < 9000
theorem jD:eA X (binaryOp .FloorDiv) (rI zu fun i j=>.int (i / j)):=wW fun i j _ _ _ _ _ hc q=>by
  have h1:(0:Int) < j:=hc.1
  exact floordiv_int (by lia) (by rw [Int.fdiv_eq_ediv_of_nonneg i (by lia)]; exact q) (.inl (PyProof.noPylong_of_log2 hc.2))
theorem vC (hc:X.calm=true):eY X (.builtin "sum") (fun xs H Q=>∃ (p:Addr) (ns:List Int),xs=[.ref p]/\aq X.K H p (ns.map V.int)/\Q (.int ns.sum) H):=by
  intro pins s σ H xs us Q I r h
  obtain ⟨p,ns,rfl,hl,q⟩:=h
  obtain ⟨u,rfl,ru⟩:=vals1 r
  cases ru
  obtain ⟨its,r',pl,hz⟩:=I.list hl
  have hi:IntsAre its ns:=intsAre_of r'
  have hall:AllInts its.toArray:=hi.allInts
  obtain ⟨ys,e⟩:=hall.items
  have hl':s.heap.IsList p (intItems ys):=by rw [<- e]; exact pl.isList
  refine sum_intListG (I.ok.hd hc) hl' fun h' tk t' hk=>?_
  have e2:preSum (numAt ys) ys.size=ns.sum:=by
    have e3:numsOf (intItems ys).toList=ns:=by rw [<- e]; exact hi.numsOf
    rw [preSum_eq,List.take_of_length_le (by simp),<- e3,nums_intItems]
  rw [e2]
  exact ⟨.int ns.sum,H,I.kept hk,⟨_,rfl⟩,q⟩
theorem fF:eY X (.builtin "isinstance") (fun xs H Q=>∃ x c cv t b,xs=[x,c]/\(∀ u,RelV c u->u=cv)/\iD X.K H x t/\W.kitOne X.K t cv=some b/\Q (.bl b) H):=by
  intro pins s σ H xs us Q I r h
  obtain ⟨x,c,cv,t,b,rfl,hcv,ty,e,q⟩:=h
  obtain ⟨u,w',rfl,r1,r2⟩:=vals2 r
  rw [hcv w' r2]
  exact vc I r1 ty e fun tk=>⟨.bl b,H,I.tok _,rfl,q⟩
theorem mH {n:String}:∀ u,RelV (.ty n) u->u=Value.type n:=fun _ h=>h
noncomputable def lN (x:Str):It:=⟨fun i _=>i < x.cps.size,fun i H v H'=>H'=H/\∃ c,x.cps[i]? = some c/\v = .str ⟨#[c]⟩,fun i _=>i=x.cps.size⟩
theorem qY {P:Program} {w:World} {K:W.Frag} {tg:Expr} (it:Addr) (ty:String) (x:Str) (t:Tok)
    (W:∀ A:Around,A.handled=none->Walks P w A it [it] [it] x.cps.size (SignAt x) (fun i h=>h.IsStrIter it ty x t i))
    (hty:["enumerate","zip","dict_itemiterator","dict_reverseitemiterator","odict_iterator","itertools.zip_longest","itertools.pairwise"].contains ty=false)
    (hself:∀ (A:Around) (i:Nat) (s:Shared) (Q:Value->Shared->Prop) (E:Value->Shared->Prop),s.heap.IsStrIter it ty x t i->Q (.ref it) s->wpAny (model P w) A (pyIter (.ref it)) Q E s) :
    Turn P w K tg (lN x) [it] it (fun i h=>h.IsStrIter it ty x t i) where
  mem:=by simp
  obj:=fun i h st b hb=>by
    have e:b=it:=by simpa using hb
    subst e
    obtain ⟨o,e,c,d⟩:=st
    exact ⟨o,e,fun v z=>by rw [d] at z; cases z⟩
  keep:=fun i h h' st k=>by
    obtain ⟨o,e,c,d⟩:=st
    exact ⟨o,k it (by simp) o e,c,d⟩
  item:=by
    intro X hP hw hK hc i pins s σ H E I hf st hg
    subst hP hw hK
    obtain ⟨f0,f1,f2,f3,f4,f5⟩:=hf it (by simp)
    refine (W X.A (I.ok.hd hc)).item i s _ _ hg st fun v h' tk hv st' kk=>?_
    obtain ⟨c,u,ec,rfl⟩:=hv
    have I1:Inv X pins σ H { s with heap:=h',toks:=tk }:=I.turned (fun b o hb e=>kk b o (by simpa using hb) e) f0 f1 f3 f4 f5
    obtain ⟨o,e,cl,d⟩:=id st'
    exact ⟨_,rfl,tF (s:={ s with heap:=h',toks:=tk }) e cl d hty ⟨.str ⟨#[c]⟩,H,I1,⟨_,rfl⟩,⟨rfl,c,ec,rfl⟩,st',fun b hb=>(hf b hb).1⟩⟩
  done:=by
    intro X hP hw hK hc i pins s σ H E I hf st hg
    subst hP hw hK
    obtain ⟨f0,f1,f2,f3,f4,f5⟩:=hf it (by simp)
    have hi:i=x.cps.size:=hg
    subst hi
    exact (W X.A (I.ok.hd hc)).done s _ _ st fun h' tk kk=>⟨rfl,I.turned (fun b o hb e=>kk b o (by simpa using hb) e) f0 f1 f3 f4 f5⟩
  self:=hself
noncomputable def zV (tl:TE):TI:=fun σ H R=>tl σ H fun v H1=>∃ x,v = .str x/\R (lN x) H1
theorem r6 {tg l:Expr} {tl:TE} (hl:PE X l tl):PI X tg l (zV tl):=by
  intro pins s σ H R I h
  refine aE (hl pins s σ H _ I h) fun v s1 ⟨y,H1,I1,r1,q1⟩=>?_
  obtain ⟨x,e,q⟩:=q1
  subst e
  obtain ⟨t,rfl⟩:=r1
  have fin:∀ (o:Obj) (ty:String),(s1.heap.push o).IsStrIter s1.heap.objs.size ty x t 0->Turn X.prog X.w X.K tg (lN x) [s1.heap.objs.size] s1.heap.objs.size (fun i h=>h.IsStrIter s1.heap.objs.size ty x t i) ->
      yM X pins σ tg R (.ref s1.heap.objs.size) { s1 with heap:=s1.heap.push o }:=fun o ty st T=>by
    refine ⟨s1.heap.objs.size,[s1.heap.objs.size],_,_,H1,rfl,I1.kept (t':=s1.toks) fun b o e=>Heap.get?_push_of_some _ e,T,st,fun b hb=>?_,q⟩
    have e:b=s1.heap.objs.size:=by simpa using hb
    subst e
    exact I1.fpOk (Nat.le_refl _) (I1.hok.fresh (Nat.le_refl _))
  cases ha:x.cps.all (· < 128)
  · exact wpAny_pyIter_wide ha (fin _ "str_iterator" ⟨_,Heap.get?_push_size _ rfl,rfl,rfl⟩ (qY _ _ x t (fun A' hA=>Walks.strWide hA _ x t) (by decide) fun _ _ _ _ _ st h=>wpAny_pyIter_striter_wide st h))
  · exact wpAny_pyIter_ascii ha (fin _ "str_ascii_iterator" ⟨_,Heap.get?_push_size _ rfl,rfl,rfl⟩ (qY _ _ x t (fun A' hA=>Walks.strAscii hA _ x t) (by decide) fun _ _ _ _ _ st h=>wpAny_pyIter_striter_ascii st h))
theorem o9 {x:Str} {g:TG} {tb:TS} {D:Ends} {σ:St} {H:Hp} (Pv:Nat->St->Hp->Prop) (h0:Pv 0 σ H)
    (hs:∀ i c σ H,x.cps[i]? = some c->Pv i σ H->g (.str ⟨#[c]⟩) σ H fun σ2 H2=>tb { D with nx:=Pv (i+1),ct:=Pv (i+1),bk:=D.nx } σ2 H2) (hd:∀ σ H,Pv x.cps.size σ H->D.nx σ H) :
    ∃ W:Nat->Nat->St->Hp->Prop,(∃ m,W 0 m σ H)/\∀ i m σ H,W i m σ H ->
      ((lN x).stop i H/\D.nx σ H)\/((lN x).go i H/\∃ N:St->Hp->Prop,(∀ σ' H',N σ' H'->∃ m',m' < m/\W (i+1) m' σ' H')/\∀ v H',(lN x).yld i H v H'->g v σ H' fun σ2 H2=>tb { D with nx:=N,ct:=N,bk:=D.nx } σ2 H2):=by
  refine ⟨fun i m σ H=>m=x.cps.size - i/\i<=x.cps.size/\Pv i σ H,⟨x.cps.size,by simp,Nat.zero_le _,h0⟩,?_⟩
  rintro i m σ H ⟨rfl,hi,p⟩
  by_cases hlt:i < x.cps.size
  · refine .inr ⟨hlt,Pv (i+1),fun σ' H' p'=>⟨x.cps.size - (i+1),by lia,rfl,hlt,p'⟩,fun v H' y=>?_⟩
    obtain ⟨e,c,ec,ev⟩:=y
    subst e ev
    exact hs i c σ _ ec p
  · have e:i=x.cps.size:=by lia
    subst e
    exact .inl ⟨rfl,hd σ H p⟩
noncomputable def zY:V->Option Int->Option Int->Hp->VK->Prop:=fun v lo hi H Q=>∃ x,v = .str x/\x.length<=sizeLine/\Q (.str (Txt.slice x lo hi)) H
theorem yC:wX X zY:=by
  intro pins s σ H v vv vl vu lo hi sl Q I rx hs pl pu h
  obtain ⟨x,rfl,hz,q⟩:=h
  obtain ⟨t,rfl⟩:=rx
  refine ⟨"str",_,F.slot_str_getitem.lookup,typeIs_str _ _ _,?_⟩
  have fin:∀ (l u:Option (Int × Tok)),s.heap.IsSlice sl l u none->l.map (·.1)=lo->u.map (·.1)=hi->wpAny (model X.prog X.w) X.A (getItem (.str x t) (.ref sl)) (EP X pins σ Q) X.xe s:=fun l u hsl el eu=>by
    refine wpAny_getItem_str_slice (l:=l) (u:=u) (st:=none) hsl rfl ?_
    subst el eu
    exact post_val_or_str ⟨Nat.le_trans (Txt.slice_le x _ _) hz,fun t' k=>⟨.str (Txt.slice x (l.map (·.1)) (u.map (·.1))),H,I.tok _,⟨t',rfl⟩,q⟩⟩
  cases pl with
  | none =>
    cases pu with
    | none=>exact fin none none hs rfl rfl
    | int j uj=>exact fin none (some (j,uj)) hs rfl rfl
  | int i ui =>
    cases pu with
    | none=>exact fin (some (i,ui)) none hs rfl rfl
    | int j uj=>exact fin (some (i,ui)) (some (j,uj)) hs rfl rfl
noncomputable def zm:R2:=fun x y H Q=>∃ z n,x = .str z/\y = .int n/\MulOk z n/\Q (.str (Txt.mul z n)) H
theorem og:eA X (binaryOp .Mult) zm:=by
  intro pins s σ H x y v u Q I rx ry h
  obtain ⟨z,n,rfl,rfl,hok,q⟩:=h
  obtain ⟨t,rfl⟩:=rx
  obtain ⟨t',rfl⟩:=ry
  exact SB.mul hok fun t' k=>⟨.str (Txt.mul z n),H,I.tok _,⟨_,rfl⟩,q⟩
theorem tP {ys:List Str}:∀ {us:List Value},Vals (ys.map V.str) us->StrsAre us ys:=by
  induction ys with
  | nil=>intro us r; rw [List.map_nil] at r; cases r; exact .nil
  | cons n ns ih =>
    intro us r
    rw [List.map_cons] at r
    cases r with
    | cons h t =>
      obtain ⟨tk,rfl⟩:=h
      exact .cons n tk (ih t)
noncomputable def rJoin (K:W.Frag):V->List V->Hp->VK->Prop:=fun x vs H Q=>∃ sep p ys,x = .str sep/\vs=[.ref p]/\aq K H p (ys.map V.str)/\(ys.map (·.length)).sum+ys.length*sep.length<=16777216/\Q (.str (Txt.join sep ys)) H
theorem pH:sL X "str.join" (rJoin X.K):=by
  intro pins s σ H x xs v us Q I rx rs h
  obtain ⟨sep,p,ys,rfl,rfl,hl,hok,q⟩:=h
  obtain ⟨t,rfl⟩:=rx
  obtain ⟨u,rfl,ru⟩:=vals1 rs
  cases ru
  obtain ⟨its,r',pl,hz⟩:=I.list hl
  exact join_list pl.isList (tP r') hok fun t' k=>⟨.str (Txt.join sep ys),H,I.tok _,⟨_,rfl⟩,q⟩
end
theorem qz {α β:Type} {l:List α} {f:α->β->Sem (ForInStep β)} (g:β->α->β) (c:β) (h:∀ x∈l,∀ c,f x c=pure (.yield (g c x))) :
    forIn l c f=pure (l.foldl g c):=by
  induction l generalizing c with
  | nil=>rfl
  | cons x l ih =>
    rw [List.forIn_cons,h x List.mem_cons_self,pure_bind]
    exact ih _ fun y hy=>h y (List.mem_cons_of_mem _ hy)
noncomputable def qO (cells:List (Str × Addr)) (names:List (Str × NameKind)) (acc:List (Str × Addr)):List (Str × Addr) :=
  names.foldl (fun cs y=>if y.2 == .free then (y.1,(cells.lookup y.1).getD 0)::cs else cs) acc
theorem tT {scope:Scope} {env:Env} (h:∀ y∈scope.names,y.2 = .free->∃ c,env.cells.lookup y.1=some c):closureFor scope env=pure (qO env.cells scope.names []):=by
  simp only [closureFor]
  rw [qz (fun cs y=>if y.2 == .free then (y.1,(env.cells.lookup y.1).getD 0)::cs else cs) [] fun x hx c=>?_]
  · rfl
  · obtain ⟨n,k⟩:=x
    by_cases hk:k = .free
    · subst hk
      obtain ⟨a,ea⟩:=h (n,.free) hx rfl
      have ea':env.cells.lookup n=some a:=ea
      simp only [beq_self_eq_true,if_true,cellOf,ea',pure_bind,Option.getD_some]
    · have hb:(k == NameKind.free)=false:=by simpa using hk
      simp only [hb,Bool.false_eq_true,if_false]
theorem lookup_mem {α:Type}:∀ {l:List (Str × α)} {x:Str} {c:α},l.lookup x=some c->(x,c)∈l
  | [],_,_,h=>by simp at h
  | (y,d)::r,x,c,h=>by
    rw [List.lookup_cons] at h
    cases hx:x == y with
    | true =>
      rw [hx] at h
      have e:x=y:=by simpa using hx
      subst e
      cases h
      exact List.mem_cons_self
    | false =>
      rw [hx] at h
      exact List.mem_cons_of_mem _ (lookup_mem h)
theorem mem_lookup {α:Type}:∀ {l:List (Str × α)} {x:Str} {c:α},(x,c)∈l->∃ d,l.lookup x=some d
  | [],_,_,h=>by cases h
  | (y,d)::r,x,c,h=>by
    rw [List.lookup_cons]
    cases hx:x == y with
    | true=>exact ⟨d,rfl⟩
    | false =>
      rcases List.mem_cons.mp h with e | h
      · cases e; simp at hx
      · exact mem_lookup h
theorem nY {cells:List (Str × Addr)}:∀ {names:List (Str × NameKind)} {acc:List (Str × Addr)} {p:Str × Addr},p∈qO cells names acc↔p∈acc\/((p.1,NameKind.free)∈names/\p.2=(cells.lookup p.1).getD 0)
  | [],acc,p=>by simp [qO]
  | (n,k)::r,acc,p=>by
    show p∈qO cells r (if k == .free then (n,(cells.lookup n).getD 0)::acc else acc)↔_
    rw [nY (names:=r)]
    by_cases hk:k = .free
    · subst hk
      simp only [beq_self_eq_true,if_true,List.mem_cons]
      constructor
      · rintro ((rfl | h) | h)
        · exact .inr ⟨.inl rfl,rfl⟩
        · exact .inl h
        · exact .inr ⟨.inr h.1,h.2⟩
      · rintro (h | ⟨h | h,e⟩)
        · exact .inl (.inr h)
        · obtain ⟨a,b⟩:=p
          cases h
          exact .inl (.inl (by rw [show b=_ from e]))
        · exact .inr ⟨h,e⟩
    · have hb:(k == NameKind.free)=false:=by simpa using hk
      simp only [hb,Bool.false_eq_true,if_false,List.mem_cons]
      constructor
      · rintro (h | h)
        · exact .inl h
        · exact .inr ⟨.inr h.1,h.2⟩
      · rintro (h | ⟨h | h,e⟩)
        · exact .inl h
        · cases h; exact absurd rfl hk
        · exact .inr ⟨h,e⟩
theorem ke {scope:Scope} {env:Env} {x:Str} {k:NameKind} (h:(relabel scope env).names.lookup x=some k):∃ k',(x,k')∈scope.names/\(k'=k\/(k' = .free/\k = .cell)):=by
  have m:=lookup_mem h
  unfold relabel at m
  obtain ⟨⟨n,k'⟩,hm,e⟩:=List.mem_map.mp m
  dsimp only at e
  split at e
  · rename_i hc
    rw [Bool.and_eq_true,Bool.and_eq_true] at hc
    have e1:n=x:=congrArg Prod.fst e
    have e2:NameKind.cell=k:=congrArg Prod.snd e
    subst e1 e2
    exact ⟨k',hm,.inr ⟨by simpa using hc.1.1,rfl⟩⟩
  · have e1:n=x:=congrArg Prod.fst e
    have e2:k'=k:=congrArg Prod.snd e
    subst e1 e2
    exact ⟨k',hm,.inl rfl⟩
noncomputable def dM (X:Cx) (scope:Scope) (N:List Str) (cl:List (Str × Addr)) (C:Addr) (s:Shared) (H:Hp) (fp:List Addr) (xe:Value->Shared->Prop):Cx :=
  { X with N:=N,s₀:=s,H₀:=H,env:=compEnvC scope cl C X.env,outer:=X.stack,stack:=X.stack,ex:=fp,fn:=fun _=>false,pn:=[],xe:=xe }
inductive jd (X:Cx) (scope:Scope):List Str->List (Option Nat)->Prop where
  | nil:jd X scope [] []
  | own {x:Str} {N:List Str} {ix:List (Option Nat)} (r:jd X scope N ix):jd X scope (x::N) (none::ix)
  | cap {x:Str} {j:Nat} {N:List Str} {ix:List (Option Nat)} (h1:X.N[j]? = some x) (h2:X.env.kindOf x=some .cell) (h3:(relabel scope X.env).names.lookup x=some .cell) (r:jd X scope N ix):jd X scope (x::N) (some j::ix)
noncomputable def iz (ix:List (Option Nat)) (σ:St):St:=ix.map fun o=>match o with
  | none=>none
  | some j=>(σ[j]?).getD none
theorem jd.get {X:Cx} {scope:Scope} {σ:St}:∀ {N:List Str} {ix:List (Option Nat)},jd X scope N ix->∀ (i:Nat) (x:Str) (v:V),N[i]? = some x->(iz ix σ)[i]? = some (some v) ->
    ∃ j:Nat,X.N[j]? = some x/\σ[j]? = some (some v)/\X.env.kindOf x=some .cell/\(relabel scope X.env).names.lookup x=some .cell
  | _,_,.nil,i,x,v,h,_=>by simp at h
  | _,_,.own r,0,x,v,_,h=>by simp [iz] at h
  | _,_,.own r,i+1,x,v,h1,h2=>r.get i x v (by simpa using h1) (by simpa [iz] using h2)
  | _,_,.cap (j:=j) e1 e2 e3 r,0,x,v,h1,h2=>by
    simp at h1
    subst h1
    refine ⟨j,e1,?_,e2,e3⟩
    simp only [iz,List.map_cons,List.getElem?_cons_zero,Option.some.injEq] at h2
    cases q:σ[j]? with
    | none=>rw [q] at h2; cases h2
    | some o=>rw [q] at h2; simp only [Option.getD_some] at h2; rw [h2]
  | _,_,.cap e1 e2 e3 r,i+1,x,v,h1,h2=>r.get i x v (by simpa using h1) (by simpa [iz] using h2)
theorem jd.length {X:Cx} {scope:Scope} {N:List Str} {ix:List (Option Nat)} (h:jd X scope N ix):ix.length=N.length:=by
  induction h with
  | nil=>rfl
  | own _ ih=>simp [ih]
  | cap _ _ _ _ ih=>simp [ih]
def Ext (a b:St):Prop:=b.length=a.length/\∀ (i:Nat) v,a[i]? = some (some v)->b[i]? = some (some v)
theorem Ext.set {a:St} {i:Nat} {v:V} (h:a[i]? = some none):Ext a (a.set i (some v)):=by
  refine ⟨by simp,fun j w e=>?_⟩
  by_cases hj:j=i
  · subst hj; rw [h] at e; cases e
  · rw [List.getElem?_set_ne (Ne.symm hj)]; exact e
def vm (X:Cx) (ifs:List Expr) (t:TT):Prop :=
  ∀ (pins:List (Addr × Obj)) (s:Shared) (σ:St) (H:Hp) (Q:Bool->Hp->Prop),Inv X pins σ H s->t σ H Q ->
    wpAny (model X.prog X.w) X.A (forIn ifs true fun c r=>if r=true then do let ok <- isTrue c X.env (eval c X.env); pure (ForInStep.yield ok) else pure (ForInStep.yield r)) (TP X pins σ Q) X.xe s
noncomputable def wV:TT:=fun _ H Q=>Q true H
theorem gN {X:Cx}:vm X [] wV:=fun pins s σ H Q I h=>wpAny_tests_nil ⟨H,I,h⟩
theorem tq {X:Cx} {c:Expr} {t:TT} (h:PT X c t):vm X [c] t:=fun pins s σ H Q I q=>wpAny_tests_one (h pins s σ H Q I q)
def qH (J:It) (g:TG) (tt:TT) (te:TE) (σ0:St) (D:Addr) (Q:VK) (H1:Hp):Prop:=∃ W:Nat->Nat->List V->Hp->Prop,(∃ m,W 0 m [] (upd H1 D (.lst [])))/\∀ i m ys H,W i m ys H ->
  (J.stop i H/\Q (.ref D) H)\/(J.go i H/\∀ x H',J.yld i H x H'->g x σ0 H' fun σ2 H2=>Ext σ0 σ2/\tt σ2 H2 fun b H3 =>
    if b=true then te σ2 H3 fun v H4=>H4 D=some (.lst ys)/\ys.length < sizeLine/\∃ m',m' < m/\W (i+1) m' (ys++[v]) (upd H4 D (.lst (ys++[v]))) else ∃ m',m' < m/\W (i+1) m' ys H3)
noncomputable def uc (wi:TI) (g:TG) (tt:TT) (te:TE) (ix:List (Option Nat)):TE:=fun σ H Q=>wi σ H fun J H1=>∀ D,H1 D=none->qH J g tt te (iz ix σ) D Q H1
section
variable {prog:Program} {w:World} {A:Around} {R:Result->Shared->Prop} {s:Shared}
theorem uM {elt target iter:Expr} {ifs:List Expr} {scope:Scope} {pos:Pos} {it acc:Value} {env:Env} (I:Nat->Shared->Prop)
    (turn:∀ n s,I n s->wpAny (model prog w) A (pyNext it) (fun r s₁=>match r with
      | none=>R (.ok .next) s₁
      | some v=>wpAny (model prog w) A (letOwnedTupleGo target it v) (fun _ s₁'=>wpAny (model prog w) A (assign target env v) (fun _ s₂ =>
          wpAny (model prog w) A (forIn ifs true fun c r=>if r=true then do let ok <- isTrue c env (eval c env); pure (ForInStep.yield ok) else pure (ForInStep.yield r)) (fun ok s₃ =>
            if ok=true then wpAny (model prog w) A (eval elt env) (fun x s₄ =>
              wpAny (model prog w) A (call (.builtin "list.append") [acc,x]) (fun _ s₅=>∃ m,m < n/\I m s₅) (notedBy (model prog w) A env fun e s'=>R (.error e) s') s₄) (notedBy (model prog w) A env fun e s'=>R (.error e) s') s₃
            else ∃ m,m < n/\I m s₃) (notedBy (model prog w) A env fun e s'=>R (.error e) s') s₂) (notedBy (model prog w) A env fun e s'=>R (.error e) s') s₁') (notedBy (model prog w) A env fun e s'=>R (.error e) s') s₁) (notedBy (model prog w) A env fun e s'=>R (.error e) s') s)
    (n:Nat) (h:I n s):codeAny (model prog w) A (.compLoop (.ListComp elt [⟨target,iter,ifs,0⟩] scope pos) 0 it acc env) R s:=by
  refine codeAny_loop rfl I (fun n s hI=>?_) n h
  show wpAny _ A ((compTurn (.ListComp elt [⟨target,iter,ifs,0⟩] scope pos) 0 it acc env).onRaise (fun x=>do noteFrame x env; theTreesLotGoes x)) _ _ s
  refine wpAny_noted ?_
  rw [compTurn_list]
  refine wpAny_bind (wpAny_standAt (wpAny_bind (wpAny_mono (turn n s hI) (fun r s₁ h₁=>?_) fun _ _ h'=>h')))
  cases r with
  | none=>exact wpAny_pure h₁
  | some v =>
    refine wpAny_bind (wpAny_mono h₁ (fun _ s₁' h₁'=>?_) fun _ _ h'=>h')
    refine wpAny_bind (wpAny_mono h₁' (fun _ s₂ h₂=>wpAny_bind (wpAny_mono h₂ (fun ok s₃ h₃=>?_) fun _ _ h'=>h')) fun _ _ h'=>h')
    cases ok with
    | false=>exact wpAny_pure ⟨rfl,h₃⟩
    | true =>
      exact wpAny_bind (wpAny_bind (wpAny_mono h₃ (fun x s₄ h₄=>wpAny_bind (wpAny_mono h₄ (fun _ s₅ h₅=>wpAny_pure (wpAny_pure ⟨rfl,h₅⟩)) fun _ _ h'=>h')) fun _ _ h'=>h'))
end
section
variable {X:Cx}
noncomputable def sf (sc:Scope):Bool:=sc.names.all fun y=>y.2 != .cell
noncomputable def freeOk (sc:Scope) (env:Env):Bool:=sc.names.all fun y=>y.2 != .free || env.kindOf y.1 == some .cell
noncomputable def namesOk (sc:Scope):Bool:=sc.names.all fun y=>y.2 != .local || sc.names.lookup y.1 == some .local
structure lC (X:Cx) (pins:List (Addr × Obj)) (σ:St) (H:Hp) (C:Addr) (s:Shared):Prop where
  inv:Inv X pins σ H s
  ns:∃ m,s.heap.Ns C m
  free:H C=none
  loc:C≠X.env.locals
  young:X.s₀.heap.objs.size<=C
  cell:∀ x c,X.env.cells.lookup x=some c->c≠C
  pin:∀ p∈X.pn++pins,p.1≠C
theorem lC.gone {pins:List (Addr × Obj)} {σ:St} {H:Hp} {C:Addr} {s:Shared} (B:lC X pins σ H C s) {h':Heap} (hs:Heap.SameBut C s.heap h'):Inv X pins σ H { s with heap:=h' } :=
  B.inv.turned (t':=s.toks) (it:=C) (fun b o hb e=>hs.extBut b o hb e) B.free B.loc (.inr B.young) B.cell B.pin
theorem qd {elt tg iter:Expr} {ifs:List Expr} {scope:Scope} {pos pos':Pos} {N:List Str} {ix:List (Option Nat)} {wi:TI} {g:TG} {tt:TT} {te:TE} {use:Option (Value->Sem Unit)} {Qv:Value->Shared->Prop}
    (hc:X.calm=true) (hi:PI X tg iter wi) (hk:scope.kind = .function) (hcell0:sf scope=true) (hfree0:freeOk scope X.env=true) (hnames0:namesOk scope=true) (caps:jd X scope N ix)
    (hg:∀ cl C s H fp xe,PG (dM X scope N cl C s H fp xe) tg g) (ht:∀ cl C s H fp xe,vm (dM X scope N cl C s H fp xe) ifs tt) (he:∀ cl C s H fp xe,PE (dM X scope N cl C s H fp xe) elt te)
    (hs:∀ x,foldedSetIterable iter X.env x=pure x)
    {pins:List (Addr × Obj)} {s:Shared} {σ:St} {H:Hp} {Q:VK} (I:Inv X pins σ H s) (h:uc wi g tt te ix σ H Q)
    (fin:∀ (C D:Addr) (H6:Hp) (s6:Shared),lC X pins σ H6 C s6->Q (.ref D) H6->compPost (model X.prog X.w) X.A X.xe use Qv (.ref D) C (.ok .next) s6) :
    wpAny (model X.prog X.w) X.A (comprehension (.ListComp elt [⟨tg,iter,ifs,0⟩] scope pos) scope X.env pos' (newList []) false (eval iter X.env) use) Qv X.xe s:=by
  have hcell:∀ y∈scope.names,y.2≠.cell:=fun y hy e=>by
    have:=List.all_eq_true.mp hcell0 y hy
    rw [e] at this; exact absurd this (by decide)
  have hfree:∀ y∈scope.names,y.2 = .free->X.env.kindOf y.1=some .cell:=fun y hy e=>by
    have:=List.all_eq_true.mp hfree0 y hy
    rw [e] at this; simpa using this
  have hnames:∀ y∈scope.names,y.2 = .local->scope.names.lookup y.1=some .local:=fun y hy e=>by
    have:=List.all_eq_true.mp hnames0 y hy
    rw [e] at this; simpa using this
  have hcl:∀ y∈scope.names,y.2 = .free->∃ c,X.env.cells.lookup y.1=some c:=fun y hy e=>I.ok.has y.1 (.inl (hfree y hy e))
  refine wpAny_comprehension_free (use:=use) rfl hs (tT hcl) hk hnames ?_
  generalize ecl:qO X.env.cells scope.names []=cl
  -- the cells of the block are the def's
  have cl1:∀ x c,cl.lookup x=some c->X.env.cells.lookup x=some c:=fun x c e=>by
    have m:=lookup_mem e
    rw [<- ecl] at m
    rcases nY.mp m with z | ⟨z,z'⟩
    · cases z
    · obtain ⟨a,ea⟩:=hcl _ z rfl
      have ea':X.env.cells.lookup x=some a:=ea
      have z2:c=(X.env.cells.lookup x).getD 0:=z'
      rw [ea',Option.getD_some] at z2
      rw [ea',z2]
  have cl2:∀ x,(x,NameKind.free)∈scope.names->∃ c,cl.lookup x=some c:=fun x hx=>by
    have m:(x,(X.env.cells.lookup x).getD 0)∈cl:=by rw [<- ecl]; exact nY.mpr (.inr ⟨hx,rfl⟩)
    exact mem_lookup m
  refine aE (hi pins s σ H _ I h) fun v s1 h1=>aE h1 fun itv s2 h2=>?_
  obtain ⟨it,fp,tn,J,H2,e,I2,T,st2,f2,body⟩:=h2
  subst e
  refine wpAny_newObj_type (wpAny_newFunctionEnv hcell (by intro y hy; simp at hy) (fun h₁ hns₁ hsb₁=>?_) hk)
  dsimp only at hns₁ hsb₁ |-
  have hD:H2 s2.heap.objs.size=none:=I2.hok.fresh (Nat.le_refl _)
  obtain ⟨W,⟨m0,w0⟩,turn⟩:=body _ hD
  have I3:Inv X pins σ (upd H2 s2.heap.objs.size (.lst [])) { s2 with heap:=s2.heap.push { cls:=.type "list",dict:=none,data:=.seq ([]:List Value).toArray } } :=
    I2.laid (t':=s2.toks) (fun b o e=>Heap.get?_push_of_some _ e) (Nat.le_refl _) ⟨Nat.zero_le _,[],0,.nil,Heap.get?_push_size _ rfl⟩
  generalize hs3:({ s2 with heap:=s2.heap.push { cls:=.type "list",dict:=none,data:=.seq ([]:List Value).toArray } }:Shared)=s3 at I3
  have es3:s2.heap.push { cls:=.type "list",dict:=none,data:=.seq ([]:List Value).toArray }=s3.heap:=by rw [<- hs3]
  rw [es3] at hns₁ hsb₁ |-
  generalize hD':s2.heap.objs.size=D at *
  generalize hH3:upd H2 D (.lst [])=H3 at *
  have szC:s3.heap.objs.size=D+1:=by rw [<- es3,Heap.size_push,hD']
  -- what was,is
  have old:∀ b o,s3.heap.get? b=some o->h₁.get? b=some o:=fun b o e=>hsb₁.extBut b o (Nat.ne_of_lt (Heap.lt_size e)) (Heap.get?_push_of_some _ e)
  have fpl:∀ b∈fp,b < D:=fun b hb=>by
    obtain ⟨o,e,_⟩:=T.obj 0 _ st2 b hb
    rw [<- hD']; exact Heap.lt_size e
  have fpD:∀ b∈fp,H3 b=none:=fun b hb=>by
    rw [<- hH3,ar (Nat.ne_of_lt (fpl b hb))]; exact (f2 b hb).1
  have fstk:∀ b∈fp,b∉kz X.stack:=fun b hb z=>by
    obtain ⟨_,f1,f3,_⟩:=f2 b hb
    rcases List.mem_cons.mp (I2.stkSub b z) with e | e
    · exact f1 e
    · exact f3 e
  let E':Value->Shared->Prop:=notedBy (model X.prog X.w) X.A (compEnvC scope cl s3.heap.objs.size X.env) fun e s'=>compPost (model X.prog X.w) X.A X.xe use Qv (.ref D) s3.heap.objs.size (.error e) s'
  have ok':(dM X scope N cl s3.heap.objs.size s3 H3 fp E').Ok:=by
    refine { mod:=I.ok.mod,kind:=?_,glob:=I.ok.glob,blt:=I.ok.blt,above:=Nat.le_refl _,inj:=?_,has:=?_,cab:=?_,hd:=I.ok.hd,frames:=I.ok.frames,stk:=.inl rfl,exf:=?_,bs:=I3.bs,bsz:=?_,noex:=?_,exfs:=fstk,funs:=I3.stack,frf:=I3.stkFree }
    · show (relabel scope X.env).kind = .function
      exact hk
    · exact fun x y c e1 e2=>I.ok.inj x y c (cl1 x c e1) (cl1 y c e2)
    · intro x hx
      have hx':(relabel scope X.env).names.lookup x=some .cell\/(relabel scope X.env).names.lookup x=some .free:=hx
      have:(x,NameKind.free)∈scope.names:=by
        rcases hx' with e | e
        · obtain ⟨k',hm,z | ⟨z,_⟩⟩:=ke e
          · subst z; exact absurd rfl (hcell _ hm)
          · subst z; exact hm
        · obtain ⟨k',hm,z | ⟨z,z'⟩⟩:=ke e
          · subst z; exact hm
          · cases z'
      exact cl2 x this
    · intro x c z; cases z
    · intro b hb
      refine ⟨fun z=>?_,fun x c e=>(f2 b hb).2.2.2.2.1 x c (cl1 x c e)⟩
      have lt:=fpl b hb
      have z':b=s3.heap.objs.size:=z
      rw [z',szC] at lt
      exact absurd lt (Nat.not_lt.mpr (Nat.le_succ D))
    · exact Nat.le_trans I3.ok.bsz I3.sz
    · intro b o e hb
      rcases (f2 b hb).2.2.2.1 with z | z
      · exact I.ok.noex b o e z
      · exact absurd (Nat.lt_of_lt_of_le (Heap.lt_size e) (Nat.le_trans I.ok.bsz z)) (Nat.lt_irrefl _)
  have I4:∀ tk,Inv (dM X scope N cl s3.heap.objs.size s3 H3 fp E') [] (iz ix σ) H3 { s3 with heap:=h₁,toks:=tk }:=fun tk=>by
    refine ⟨ok',rfl,I3.bare,Un.kept old,⟨_,hns₁,fun i x v e1 e2 e3=>?_⟩,fun x c e=>?_,?_,fun x c e=>I3.freeC x c (cl1 x c e),fun p hp=>(by cases hp),I3.hok.kept old,?_⟩
    · obtain ⟨j,j1,j2,j3,j4⟩:=caps.get i x v e1 e2
      obtain ⟨m,hn,hl⟩:=I3.loc
      obtain ⟨u,r,l⟩:=hl j x v j1 j2 (.inr (.inl j3))
      refine ⟨u,r,.inr ⟨.inl j4,?_⟩⟩
      rcases l with ⟨l,_⟩ | ⟨_,c,ec,hcell⟩
      · have l':X.env.kindOf x=some .local:=l
        rw [j3] at l'; cases l'
      · obtain ⟨k',hm,z | ⟨z,_⟩⟩:=ke j4
        · subst z; exact absurd rfl (‹∀ y∈scope.names,y.2≠.cell› _ hm)
        · subst z
          obtain ⟨c',ec'⟩:=cl2 x hm
          have:=cl1 x c' ec'
          rw [ec] at this; cases this
          obtain ⟨o,ho,hd⟩:=hcell
          exact ⟨c,ec',o,old _ _ ho,hd⟩
    · obtain ⟨v,o,ho,hd⟩:=I3.cell x c (cl1 x c e)
      exact ⟨v,o,old _ _ ho,hd⟩
    · exact I3.hok.fresh (Nat.le_refl _)
    · show (iz ix σ).length=N.length
      rw [<- caps.length]; simp [iz]
  have st4:tn 0 h₁:=T.keep 0 _ _ st2 fun b hb o e=>old b o (by rw [<- es3]; exact Heap.get?_push_of_some _ e)
  -- the block's end
  have fin6:∀ (s6:Shared) (H6:Hp),Inv (dM X scope N cl s3.heap.objs.size s3 H3 fp E') [] (iz ix σ) H6 s6->Q (.ref D) H6 ->
      compPost (model X.prog X.w) X.A X.xe use Qv (.ref D) s3.heap.objs.size (.ok .next) s6:=fun s6 H6 I6 q=>by
    obtain ⟨m,hn,_⟩:=I6.loc
    refine fin s3.heap.objs.size D H6 s6 ⟨I3.call' (s':=s6) (ch:=fp) I6.os I6.base I6.hok I6.bare ?_,⟨m,hn⟩,I6.free,?_,I3.sz,?_,?_⟩ q
    · intro b hb
      obtain ⟨_,f1,_,f3,f4,f5⟩:=f2 b hb
      exact ⟨f3,f1,f4,f5⟩
    · exact Nat.ne_of_gt I3.lt
    · intro x c e z
      obtain ⟨v,o,ho,_⟩:=I3.cell x c e
      exact absurd (Heap.lt_size ho) (by rw [z]; exact Nat.lt_irrefl _)
    · intro p hp z
      exact absurd (Heap.lt_size (I3.pin p hp).1) (by rw [z]; exact Nat.lt_irrefl _)
  -- the loop
  have loop:∀ s4:Shared,s4={ s3 with heap:=h₁,toks:=s2.toks+([]:List (Str × Value)).length } ->
      codeAny (model X.prog X.w) X.A (.compLoop (.ListComp elt [⟨tg,iter,ifs,0⟩] scope pos) 0 (.ref it) (.ref D) (compEnvC scope cl s3.heap.objs.size X.env)) (compPost (model X.prog X.w) X.A X.xe use Qv (.ref D) s3.heap.objs.size) s4:=by
    rintro s4 rfl
    refine uM (fun n s'=>∃ i ys H',Inv (dM X scope N cl s3.heap.objs.size s3 H3 fp E') [] (iz ix σ) H' s'/\tn i s'.heap/\(∀ b∈fp,H' b=none)/\W i n ys H') ?_ m0 ⟨0,[],H3,I4 _,st4,fpD,w0⟩
    rintro n s5 ⟨i,ys,H5,I5,st5,fr5,w5⟩
    have stat:∀ {H':Hp},(∀ b∈fp,H' b=none)->∀ b∈fp,kj (dM X scope N cl s3.heap.objs.size s3 H3 fp E') [] H' b:=fun hn b hb=>by
      refine ⟨hn b hb,fun z=>?_,fstk b hb,.inl hb,fun x c e=>(f2 b hb).2.2.2.2.1 x c (cl1 x c e),fun p hp=>(by cases hp)⟩
      have lt:=fpl b hb
      have z':b=s3.heap.objs.size:=z
      rw [z',szC] at lt
      exact absurd lt (Nat.not_lt.mpr (Nat.le_succ D))
    rcases turn i n ys H5 w5 with ⟨stop,q⟩ | ⟨go,step⟩
    · refine aE (T.done (dM X scope N cl s3.heap.objs.size s3 H3 fp E') rfl rfl rfl hc i [] s5 _ H5 E' I5 (stat fr5) st5 stop) fun r s6 ⟨hr,I6⟩=>?_
      subst hr
      exact fin6 s6 H5 I6 q
    · refine aE (T.item (dM X scope N cl s3.heap.objs.size s3 H3 fp E') rfl rfl rfl hc i [] s5 _ H5 E' I5 (stat fr5) st5 go) fun r s6 ⟨u,hr,h6⟩=>?_
      subst hr
      refine aE h6 fun _ s7 ⟨x,H7,I7,r7,y7,st7,fr7⟩=>?_
      have I7':=I7.pinned (stat fr7) (T.obj _ _ st7)
      refine aE (hg cl s3.heap.objs.size s3 H3 fp E' _ s7 _ H7 x u _ I7' r7 (step x H7 y7)) fun _ s8 ⟨σ8,H8,I8,ext,q8⟩=>?_
      have again:∀ {σ9:St} {H9:Hp} {s9:Shared} {m':Nat} {zs:List V},Ext (iz ix σ) σ9->Inv (dM X scope N cl s3.heap.objs.size s3 H3 fp E') ([]++lZ fp s7.heap) σ9 H9 s9->m' < n->W (i+1) m' zs H9 ->
          ∃ m,m < n/\∃ i ys H',Inv (dM X scope N cl s3.heap.objs.size s3 H3 fp E') [] (iz ix σ) H' s9/\tn i s9.heap/\(∀ b∈fp,H' b=none)/\W i m ys H':=fun {σ9 H9 s9 m' zs} ex I9 hm w9=>by
        refine ⟨m',hm,i+1,zs,H9,(I9.unpinned).weak ex.1.symm ex.2,T.keep _ _ _ st7 fun b hb o e=>(I9.pin (b,o) (List.mem_append_right _ (List.mem_append_right _ (jq hb e)))).1,fun b hb=>?_,w9⟩
        obtain ⟨o,e,d⟩:=T.obj _ _ st7 b hb
        exact (I9.pin (b,o) (List.mem_append_right _ (List.mem_append_right _ (jq hb e)))).2.1
      refine aE (ht cl s3.heap.objs.size s3 H3 fp E' _ s8 σ8 H8 _ I8 q8) fun ok s9 ⟨H9,I9,q9⟩=>?_
      cases ok with
      | false =>
        obtain ⟨m',hm,w9⟩:=q9
        exact again ext I9 hm w9
      | true =>
        refine aE (he cl s3.heap.objs.size s3 H3 fp E' _ s9 σ8 H9 _ I9 q9) fun u10 s10 ⟨v10,H10,I10,r10,hDl,hlt,m',hm,w10⟩=>?_
        refine aE (bt (X:=dM X scope N cl s3.heap.objs.size s3 H3 fp E') _ s10 σ8 H10 (.ref D) [v10] (.ref D) [u10] (fun _ H'=>H'=upd H10 D (.lst (ys++[v10]))) I10 rfl (.cons r10 .nil) ⟨D,ys,v10,rfl,rfl,hDl,hlt,rfl⟩) fun _ s11 ⟨_,H11,I11,_,e11⟩=>?_
        subst e11
        exact again ext I11 hm w10
  exact codeAny_compStart_list (loop _ (by rw [<- hs3])) (T.self _ 0 _ _ _ st4 (loop _ (by rw [<- hs3])))
theorem gP {elt tg iter:Expr} {ifs:List Expr} {scope:Scope} {pos:Pos} {N:List Str} {ix:List (Option Nat)} {wi:TI} {g:TG} {tt:TT} {te:TE}
    (hc:X.calm=true) (hi:PI X tg iter wi) (hk:scope.kind = .function) (hcell0:sf scope=true) (hfree0:freeOk scope X.env=true) (hnames0:namesOk scope=true) (caps:jd X scope N ix)
    (hg:∀ cl C s H fp xe,PG (dM X scope N cl C s H fp xe) tg g) (ht:∀ cl C s H fp xe,vm (dM X scope N cl C s H fp xe) ifs tt) (he:∀ cl C s H fp xe,PE (dM X scope N cl C s H fp xe) elt te)
    (hs:∀ x,foldedSetIterable iter X.env x=pure x:=by intro _; rfl) :
    PE X (.ListComp elt [⟨tg,iter,ifs,0⟩] scope pos) (uc wi g tt te ix):=by
  intro pins s σ H Q I h
  rw [eval_ListComp]
  refine qd (use:=none) hc hi hk hcell0 hfree0 hnames0 caps hg ht he hs I h fun C D H6 s6 B q=>?_
  obtain ⟨m,hn⟩:=B.ns
  exact ⟨m,hn,fun h' hsb=>⟨.ref D,H6,B.gone hsb,rfl,q⟩⟩
noncomputable def y0 (i:Nat) (te:TE):TS:=fun D σ H=>te σ H fun x H1=>D.nx (σ.set i (some x)) H1
theorem oq {i:Nat} {y:Str} {py:Pos} {spos:Pos} {elt tg iter:Expr} {ifs:List Expr} {scope:Scope} {pos:Pos} {N:List Str} {ix:List (Option Nat)} {wi:TI} {g:TG} {tt:TT} {te:TE}
    (hN:X.N.Nodup) (hi':X.N[i]? = some y) (hx:Loc X.env.scope y) (hsw:swapsWith (.ListComp elt [⟨tg,iter,ifs,0⟩] scope pos) (some (.Name y py)) spos.line X.env=pure true)
    (hc:X.calm=true) (hi:PI X tg iter wi) (hk:scope.kind = .function) (hcell0:sf scope=true) (hfree0:freeOk scope X.env=true) (hnames0:namesOk scope=true) (caps:jd X scope N ix)
    (hg:∀ cl C s H fp xe,PG (dM X scope N cl C s H fp xe) tg g) (ht:∀ cl C s H fp xe,vm (dM X scope N cl C s H fp xe) ifs tt) (he:∀ cl C s H fp xe,PE (dM X scope N cl C s H fp xe) elt te)
    (hs:∀ x,foldedSetIterable iter X.env x=pure x:=by intro _; rfl) (hf:X.fn y=true\/X.env.scope.names.lookup y=some .local:=by first | exact .inl rfl | exact .inr rfl | assumption) :
    PS X (.Assign [.Name y py] (.ListComp elt [⟨tg,iter,ifs,0⟩] scope pos) spos) (y0 i (uc wi g tt te ix)):=by
  intro pins s σ H D I h
  rw [exec_Assign_Name_used _ _ _ _ hsw]
  refine wpAny_bind (wpAny_standAt (wpAny_bind ?_))
  show wpAny _ X.A (do let _ <- comprehension (.ListComp elt [⟨tg,iter,ifs,0⟩] scope pos) scope X.env _ (newList []) false (eval iter X.env) (some (assign (.Name y py) X.env))) _ _ s
  refine wpAny_bind (wpAny_mono (qd (use:=some (assign (.Name y py) X.env)) (Qv:=fun _ s'=>SP X pins D .next s') hc hi hk hcell0 hfree0 hnames0 caps hg ht he hs I h fun C a H6 s6 B q=>?_) (fun _ s' hq=>wpAny_pure (wpAny_pure hq)) fun _ _ e=>e)
  obtain ⟨m,hn⟩:=B.ns
  show wpAny _ X.A (assign (.Name y py) X.env (.ref a)) _ _ s6
  refine wpAny_assign_Name (pW B.inv hN hi' hx (v:=.ref a) rfl (fun s7 I7 ⟨z,hz,hz'⟩=>?_) hf)
  have hzC:C≠z:=by
    rcases hz' with e | e
    · rw [e]; exact B.loc
    · exact fun w=>B.cell y z e w.symm
  refine ⟨m,hn.sameBut hz hzC,fun h' hsb=>?_⟩
  have B7:lC X pins (σ.set i (some (.ref a))) H6 C s7:=⟨I7,⟨m,hn.sameBut hz hzC⟩,B.free,B.loc,B.young,B.cell,B.pin⟩
  exact ⟨_,H6,B7.gone hsb,q⟩
theorem u4 {K:W.Frag} {a:Addr} {xs:List V} {g:TG} {tt:TT} {te:TE} {σ0:St} {H:Hp} {D:Addr} {Q:VK} (f:V->V) (hz:xs.length<=sizeLine) (hx:aq K H a xs) (hD:H D=none)
    (hs:∀ (i:Nat) (x:V) (H':Hp) (R:VK) (R0:Hp->Prop),xs[i]? = some x->(∀ b,b≠D->H' b=H b)->R (f x) H'->g x σ0 H' fun σ2 H2=>Ext σ0 σ2/\tt σ2 H2 fun b H3=>if b=true then te σ2 H3 R else R0 H3)
    (hq:Q (.ref D) (upd H D (.lst (xs.map f)))) :
    qH (rW K a) g tt te σ0 D Q H:=by
  have stays:∀ ys:List V,aq K (upd H D (.lst ys)) a xs:=fun ys=>by
    have sm:ao H (upd H D (.lst ys)):=fun b u q=>by rw [ar (ay q hD)]; exact q
    exact sm.seq hx
  refine ⟨fun i m ys H'=>m=xs.length - i/\i<=xs.length/\ys=(xs.take i).map f/\H'=upd H D (.lst ys),⟨xs.length,by simp,Nat.zero_le _,by simp,rfl⟩,?_⟩
  rintro i m ys H' ⟨rfl,hi,rfl,rfl⟩
  by_cases hlt:i < xs.length
  · refine .inr ⟨⟨xs,xs[i],stays _,by simp [hlt]⟩,fun x H'' y=>?_⟩
    obtain ⟨e,y⟩:=y
    subst e
    have ex:=y xs (stays _)
    refine hs i x _ _ _ ex (fun b hb=>ar hb) ⟨ag,by simp; lia,xs.length - (i+1),by lia,rfl,hlt,?_,?_⟩
    · rw [List.take_add_one,ex,List.map_append]; rfl
    · rw [mM]
  · have e:i=xs.length:=by lia
    subst e
    refine .inl ⟨⟨xs,stays _,Nat.le_refl _⟩,?_⟩
    rw [List.take_length]
    exact hq
end
end L2
set_option Elab.async false
set_option linter.all false
set_option maxRecDepth 100000
set_option maxHeartbeats 4000000
namespace L2
open PySem PySem.Spec PyProof.Rows
section
variable {P:Program} {w:World} {H:Hp} {h h':Heap} {a:Addr} {o:HO}
end
def Tr (h:Heap) (e T:Addr) (cls:Value):Prop:=∃ oe vs oT ts a0,h.get? e=some oe/\oe.cls=cls/\vs[0]? = some a0/\oe.data = .fields vs/\vs[1]? = some (.ref T)/\T≠e/\h.get? T=some oT/\oT.data = .fields ts/\ts[3]? = some Value.none
section
variable {M:Model} {A:Around} {E:Value->Shared->Prop} {s:Shared} {Q:Unit->Shared->Prop} {base:Heap} {env:Env} {outer l:List Env} {L e T:Addr} {cls:Value}
end
section
variable {X:Cx} {pins:List (Addr × Obj)} {σ:St} {H:Hp} {s:Shared} {h':Heap} {ch:List Addr}
structure tS (X:Cx) (pins:List (Addr × Obj)) (H:Hp) (b:Addr):Prop where
  new:X.s₀.heap.get? b=none
  free:H b=none
  loc:b≠X.env.locals
  cell:∀ x c,X.env.cells.lookup x=some c->c≠b
  pin:∀ p∈X.pn++pins,p.1≠b
end
noncomputable def yT (P:Program) (w:World):kI:=fun outer H s E e s'=>∃ (ea T:Addr) (cls:Value) (H':Hp),e = .ref ea/\s.heap.get? ea=none/\s.heap.get? T=none/\H' ea=none/\H' T=none/\Tr s'.heap ea T cls /\
  s'.os=s.os/\AllBare s'.gens/\Un (kz outer) [] H H' s.heap s'.heap/\ff P w H' s'.heap/\E cls none H'
theorem qG {P:Program} {w:World} {X:Cx}:Passes (yT P w) X E0:=fun _ _ _ _ _ _ _ ⟨_,_,_,_,_,_,_,_,_,_,_,_,_,_,q⟩=>q.elim
section
variable {P:Program} {w:World} {K:W.Frag} {mg:Str->Option Value} {base:Heap} {N:List Str} {qual:Str} {scope:Scope} {f:Addr} {cd:Value} {A:Around} {outer:List Env} {s:Shared} {H:Hp} {E:XK}
end
section
variable {P:Program} {w:World} {K:W.Frag} {mg:Str->Option Value} {base:Heap}
theorem aH.up {CX:kI} {k:Nat} {f:Addr} {fd:FuncData} {ps:List Str} {sp:Sp} (F:aH P w K mg base bM k f fd ps sp):aH P w K mg base CX k f fd ps sp :=
  ⟨F.len,fun A outer s H args us vs Q E hr he hb hv hs=>codeAny_mono (F.run A outer s H args us vs Q E hr he hb hv hs) fun r s' q=>by
    cases r with
    | error e=>exact False.elim q
    | ok fl=>cases fl<;>exact q⟩
end
section
variable {X:Cx} {pins:List (Addr × Obj)} {σ:St} {H:Hp} {s:Shared} {e:Addr}
end
end L2
set_option Elab.async false
set_option linter.all false
set_option maxRecDepth 100000
set_option maxHeartbeats 4000000
namespace L2
open PySem PySem.Spec PyProof.Rows
structure Def (P:Program) (w:World) (K:W.Frag) (mg:Str->Option Value) (base:Heap) (x:Str) (ps:List Str) (k:Nat) (sp:Sp) (f:Addr) (fd:FuncData):Prop where
  ok:aH P w K mg base (yT P w) k f fd ps sp
  b:Binds K fd ps []
  kp:W.keepIn K (.ref f)=true
  m:mg x=some (.ref f)
section
variable {X:Cx} {f:Addr} {fd:FuncData} {ps:List Str} {sp:Sp} {x:Str} {p pos:Pos} {e:Expr} {es:List Expr} {t:TA} {j k:Nat}
theorem aS (D:Def X.prog X.w X.K X.mg X.base x ps j sp f fd) (hr:cz k X.A) (ha:PA X (e::es) t) (hjk:j<=k:=by decide) (hg:Gl X x:=by rfl)
    (hdb:(x == ("__debug__" : Str))=false:=by decide) (he:starEach (e::es) X.env=(false,eval e X.env)::starEach es X.env:=by rfl) (hpl:(backTo pos (starEach es X.env)).any (·.1)=false:=by rfl) :
    PE X (.Call (.Name x p) (e::es) [] pos) (tH sp [] E0 t):=xo D.ok (hr.mono hjk) hg D.m D.kp D.b .nil qG ha hdb he hpl
end
theorem d6:bootBuiltins "isinstance" = some (.builtin "isinstance"):=by decide +kernel
theorem uy:bootBuiltins "int" = some (.type "int"):=by decide +kernel
theorem xw:bootBuiltins "bool" = some (.type "bool"):=by decide +kernel
theorem iH:bootBuiltins "list" = some (.type "list"):=by decide +kernel
theorem uS:bootBuiltins "str" = some (.type "str"):=by decide +kernel
theorem yj:bootBuiltins "max" = some (.builtin "max"):=by decide +kernel
theorem yc:bootBuiltins "sum" = some (.builtin "sum"):=by decide +kernel
theorem cj:bootBuiltins "len" = some (.builtin "len"):=by decide +kernel
theorem ao.upd {H H':Hp} (h:ao H H') {p:Addr} (n:H p=none) (o:HO):ao H (L2.upd H' p o):=fun b u q=>by
  rw [ar (ay q n)]; exact h b u q
theorem ao.new {H H':Hp} (h:ao H H') {p:Addr} (n:H' p=none) (o:HO):ao H (L2.upd H' p o):=h.trans fun b u q=>by
  rw [ar (ay q n)]; exact q
theorem sz {n:Nat} (h:n<=1000000):n<=sizeLine:=Nat.le_trans h (by decide)
theorem iy {n:Nat} (h:n<=1000000):n < sizeLine:=Nat.lt_of_le_of_lt h (by decide)
theorem sH {K:W.Frag}:W.kitOne K (.type "int") (.type "int")=some true:=by rfl
theorem lL {K:W.Frag}:W.kitOne K (.type "list") (.type "list")=some true:=by rfl
theorem nq {K:W.Frag}:W.kitOne K (.type "str") (.type "str")=some true:=by rfl
theorem r9 {K:W.Frag}:W.kitOne K (.type "int") (.type "bool")=some false:=by rfl
theorem gb {ns:List Int} {i:Int} (h0:0<=i) (h1:i < (ns.length:Int)):iU (ns.map V.int) i=some (.int (ns.getD i.toNat 0)):=by
  have hk:i.toNat < ns.length:=by lia
  have ek:i=((i.toNat:Nat):Int):=by lia
  have q:iU (ns.map V.int) ((i.toNat:Nat):Int)=some (.int (ns.getD i.toNat 0)):=ky (by rw [List.getElem?_map,List.getD_eq_getElem?_getD,List.getElem?_eq_getElem hk]<;>rfl)
  rw [<- ek] at q
  exact q
end L2
namespace L2
open PySem PySem.Spec PyProof.Rows
theorem qh {σ:St} {H:Hp} {F:Bool->Hp->Prop} (h:F true H):wV σ H F:=h
theorem qS {X:Cx} {K:W.Frag} (h:X.K=K):sO X (yg K):=h▸bJ
theorem pm {j:Int} (h:0 < j):0 < j:=h
noncomputable def gK (ns:List Int) (lo hi:Option Int):List Int:=(ns.drop (HT.sIx ns.length 0 lo)).take (HT.sIx ns.length ns.length hi - HT.sIx ns.length 0 lo)
theorem lh (ns:List Int) (lo hi:Option Int):fU (ns.map V.int) lo hi=(gK ns lo hi).map V.int:=by
  unfold fU gK
  rw [List.length_map,List.map_take,List.map_drop]
theorem jx {ns:List Int} {i:Nat} {x:V} (h:(ns.map V.int)[i]? = some x):∃ c,x = .int c:=by
  rw [List.getElem?_map] at h
  cases e:ns[i]? with
  | none=>rw [e] at h; cases h
  | some c=>rw [e] at h; cases h; exact ⟨c,rfl⟩
end L2
namespace L2
open PySem PySem.Spec PyProof.Rows
noncomputable def z8 (t u:TS):TS:=fun D σ H=>∃ P:St->Hp->Prop,t { D with nx:=P } σ H/\∀ σ' H',P σ' H'->u D σ' H'
theorem tj {X:Cx} {st:Stmt} {rest:List Stmt} {t u:TS} (h1:PS X st t) (h2:jC X rest u):jC X (st::rest) (z8 t u):=by
  intro pins s σ H D I h
  obtain ⟨P,ha,hb⟩:=h
  refine wpAny_execs_cons (aE (h1 pins s σ H { D with nx:=P } I ha) fun f s1 q=>?_)
  cases f with
  | next =>
    obtain ⟨σ',H',I',q⟩:=q
    exact h2 pins s1 σ' H' D I' (hb σ' H' q)
  | ret v=>exact q
  | brk=>exact q
  | cont=>exact q
theorem mv {b b':Bool} {A B:Prop} (e:b=b') (h:if b'=true then A else B):if b=true then A else B:=by rw [e]; exact h
theorem eO {c A B:Prop} [Decidable c] (hc:c) (h:A):if decide c=true then A else B:=by rw [decide_eq_true hc]; exact eK h
theorem eJ {c A B:Prop} [Decidable c] (hc:¬ c) (h:B):if decide c=true then A else B:=by rw [decide_eq_false hc]; exact cp h
theorem sV {n:Nat} {i:Int} (h0:0<=i) (h1:i < n):mD n i=some i.toNat:=by unfold mD; rw [if_pos h0,if_pos h1]
noncomputable def sgn (c:Nat):V:=.str ⟨#[c]⟩
theorem uQ:(Str.ofString "(")=⟨#[40]⟩:=by decide +kernel
theorem Au:(Str.ofString ")")=⟨#[41]⟩:=by decide +kernel
theorem tW:V.str (Str.ofString "(")=sgn 40:=by rw [uQ]; rfl
theorem tU:V.str (Str.ofString ")")=sgn 41:=by rw [Au]; rfl
theorem sR {c d:Nat} (h:sgn c=sgn d):c=d:=by
  unfold sgn at h
  injection h with h
  injection h with h
  have h2:=congrArg Array.toList h
  simpa using h2
theorem oh (c:Nat):decide (V.str ⟨#[c]⟩=V.str (Str.ofString "("))=decide (c=40):=by
  rw [tW]
  show decide (sgn c=sgn 40)=_
  by_cases h:c=40
  · subst h; rw [decide_eq_true rfl,decide_eq_true rfl]
  · rw [decide_eq_false h,decide_eq_false fun z=>h (sR z)]
theorem qJ (c:Nat):decide (V.str ⟨#[c]⟩=V.str (Str.ofString ")"))=decide (c=41):=by
  rw [tU]
  show decide (sgn c=sgn 41)=_
  by_cases h:c=41
  · subst h; rw [decide_eq_true rfl,decide_eq_true rfl]
  · rw [decide_eq_false h,decide_eq_false fun z=>h (sR z)]
theorem qR {x:Str} {i c:Nat} (h:x.cps[i]? = some c):x.cps.toList.drop i=c::x.cps.toList.drop (i+1):=by
  have h':x.cps.toList[i]? = some c:=by simpa using h
  obtain ⟨hi,e⟩:=List.getElem?_eq_some_iff.mp h'
  rw [List.drop_eq_getElem_cons hi,e]
theorem qQ (x:Str):x.cps.toList.drop x.cps.size=[]:=List.drop_eq_nil_of_le (by simp)
theorem xC (x:Str):x.cps.toList.length=x.length:=by simp [Str.length]
theorem pX (sep:Str) (hs:sep.cps = #[]):∀ (ys:List Str) (acc:Array Nat),(ys.foldl (fun acc p=>acc++sep.cps++p.cps) acc).toList=acc.toList++(ys.map (·.cps.toList)).flatten
  | [],acc=>by simp
  | y::r,acc=>by
    rw [List.foldl_cons,pX sep hs r]
    simp [hs]
theorem lA (sep:Str) (hs:sep.cps = #[]) (ys:List Str):(Txt.join sep ys).cps.toList=(ys.map (·.cps.toList)).flatten:=by
  unfold Txt.join Builtin.Str.glued
  show ((ys.drop 1).foldl (fun acc p=>acc++sep.cps++p.cps) (ys.headD Str.empty).cps).toList=_
  rw [pX sep hs]
  cases ys with
  | nil=>rfl
  | cons y r=>simp
theorem mr:(Str.ofString "").cps = #[]:=by decide +kernel
noncomputable def sW (c:Nat):Str:=⟨#[c]⟩
theorem xO (l:List Nat):l.map sgn=(l.map sW).map V.str:=by rw [List.map_map]; rfl
theorem qV:∀ l:List Nat,((l.map sW).map (·.cps.toList)).flatten=l
  | []=>rfl
  | c::r=>by rw [List.map_cons,List.map_cons,List.flatten_cons,qV r]; rfl
theorem rz (l:List Nat):(Txt.join (Str.ofString "") (l.map sW)).cps.toList=l:=by rw [lA _ mr,qV]
theorem tw:∀ l:List Nat,((l.map sW).map (·.length)).sum=l.length
  | []=>rfl
  | c::r=>by
    rw [List.map_cons,List.map_cons,List.sum_cons,tw r,List.length_cons]
    show 1+r.length=r.length+1
    lia
theorem so {x:Str} {l:List Nat} (h:x.cps.toList=l):x.length=l.length:=by rw [<- xC,h]
theorem tY (x y:Str):(x++y).length=x.length+y.length:=by
  show (x.cps++y.cps).size=_
  rw [Array.size_append]; rfl
theorem sv (ns:List Int) (lo hi:Option Int):(gK ns lo hi).length<=ns.length:=by
  unfold gK; rw [List.length_take,List.length_drop]; lia
theorem uN (ns:List Int) {t:Int} (h:0<=t):gK ns (some t) none=ns.drop t.toNat:=by
  unfold gK
  have e1:HT.sIx ns.length 0 (some t)=min t.toNat ns.length:=by
    show (if t < 0 then _ else _)=_
    rw [if_neg (by lia)]
  rw [e1,HT.sIx_none]
  by_cases hl:t.toNat<=ns.length
  · rw [Nat.min_eq_left hl]; exact List.take_of_length_le (by simp)
  · rw [Nat.min_eq_right (by lia),List.drop_eq_nil_of_le (Nat.le_refl _),List.drop_eq_nil_of_le (by lia)]; simp
end L2
namespace Ck
noncomputable def wI:Nat->List Int
  | 0=>[1]
  | k+1=>wI k++[((List.range (k+1)).map fun j=>(wI k).getD j 0*(wI k).getD (k - j) 0).sum]
noncomputable def sh (k:Nat):Int:=(wI k).getD k 0
end Ck
namespace Ck
noncomputable def r:Nat->Nat->Int
  | 0,_=>1
  | _+1,0=>0
  | u+1,d+1=>if d < u then 0 else r u (d+1)+r (u+1) d
noncomputable def row (n u:Nat):List Int:=(List.range (n+1 - u)).map fun i=>r u (u+i)
noncomputable def pw (a:Int):Nat->Int
  | 0=>1
  | k+1=>pw a k*a
end Ck
namespace Ck
noncomputable def clo:Nat->List Nat->Bool
  | k,[]=>k == 0
  | k,c::t=>if c=40 then clo (k+1) t else if c=41 then (match k with | 0=>false | k+1=>clo k t) else false
theorem dU (k:Nat) (t:List Nat):clo k (40::t)=clo (k+1) t:=by
  conv=>lhs; unfold clo
  rw [if_pos rfl]
theorem cF (k:Nat) (t:List Nat):clo (k+1) (41::t)=clo k t:=by
  conv=>lhs; unfold clo
  rw [if_neg (by decide),if_pos rfl]
theorem dw (t:List Nat):clo 0 (41::t)=false:=by
  unfold clo
  rw [if_neg (by decide),if_pos rfl]
theorem cR {k c:Nat} {t:List Nat} (h1:¬ c=40) (h2:¬ c=41):clo k (c::t)=false:=by
  unfold clo
  rw [if_neg h1,if_neg h2]
theorem iG (k:Nat):clo k []=(k == 0):=by unfold clo; rfl
inductive Good:Nat->Nat->List Nat->Prop
  | nil:Good 0 0 []
  | up {u d:Nat} {t:List Nat} (h:Good u d t) (le:u+1<=d):Good (u+1) d (40::t)
  | down {u d:Nat} {t:List Nat} (h:Good u d t) (le:u<=d):Good u (d+1) (41::t)
theorem Good.length {u d:Nat} {t:List Nat} (h:Good u d t):t.length=u+d:=by
  induction h with
  | nil=>rfl
  | up _ _ ih=>rw [List.length_cons,ih]; lia
  | down _ _ ih=>rw [List.length_cons,ih]; lia
theorem kl:∀ (t:List Nat) (k:Nat),clo k t=true->∃ u,Good u (u+k) t
  | [],k,h=>by
    have e:k=0:=by simpa [clo] using h
    subst e
    exact ⟨0,.nil⟩
  | c::t,k,h=>by
    unfold clo at h
    by_cases h1:c=40
    · rw [if_pos h1] at h
      obtain ⟨u,g⟩:=kl t (k+1) h
      subst h1
      refine ⟨u+1,?_⟩
      rw [show u+1+k=u+(k+1) by lia]
      exact .up g (by lia)
    · rw [if_neg h1] at h
      by_cases h2:c=41
      · rw [if_pos h2] at h
        cases k with
        | zero=>cases h
        | succ k =>
          obtain ⟨u,g⟩:=kl t k h
          subst h2
          exact ⟨u,Good.down g (Nat.le_add_right u k)⟩
      · rw [if_neg h2] at h; cases h
noncomputable def zH (u d:Nat):Int:=match u with
  | 0=>0
  | u+1=>r u d
noncomputable def lt:List Nat->List Nat->Bool
  | c::s,e::t=>if c=e then lt s t else c == 40
  | _,_=>false
noncomputable def txt:Nat->Nat->Nat->Int->List Nat
  | 0,_,_,_=>[]
  | n+1,u,d,k=>if k < zH u d then 40::txt n (u - 1) d k else 41::txt n u (d - 1) (k - zH u d)
end Ck
set_option Elab.async false
set_option linter.all false
set_option maxRecDepth 100000
set_option maxHeartbeats 4000000
namespace Ck
open PySem
theorem bU (x:Str):x.cps.toList.length=x.length:=by simp [Str.length]
noncomputable def ix (n d:Nat):Option Int->Nat
  | none=>d
  | some v=>if v < 0 then (v+(n:Int)).toNat else min v.toNat n
theorem oR (l:List Nat):∀ (k a:Nat),((List.range k).map fun j=>a+j).filterMap (fun j=>l[j]?)=(l.drop a).take k
  | 0,a=>by simp
  | k+1,a=>by
    rw [List.range_succ,List.map_append,List.filterMap_append,oR l k a,List.take_add_one]
    congr 1
    rw [List.getElem?_drop]
    cases h:l[a+k]?<;>simp [h]
theorem lM (lo hi:Option Int) (n:Nat):Builtin.Str.strSliceIndices lo hi 1 n=(List.range (ix n n hi - ix n 0 lo)).map fun j=>ix n 0 lo+j:=by
  have key:∀ (a b:Nat),sliceRange (a:Int) (b:Int) 1=(List.range (b - a)).map fun j=>a+j:=by
    intro a b
    unfold sliceRange
    simp only [show (1:Int) > 0 by decide,if_true,Int.ediv_one]
    have e:(if (a:Int) < (b:Int) then (b:Int) - (a:Int)+1 - 1 else 0).toNat=b - a:=by split<;>lia
    rw [e]
    refine List.map_congr_left fun j _=>?_
    lia
  unfold Builtin.Str.strSliceIndices
  have elo:(match lo with | none=>(0:Int) | some i=>max 0 (min (if i < 0 then i+(n:Int) else i) (n:Int)))=((ix n 0 lo:Nat):Int):=by
    cases lo with
    | none=>rfl
    | some i =>
      show max 0 (min (if i < 0 then i+(n:Int) else i) (n:Int))=(((if i < 0 then (i+(n:Int)).toNat else min i.toNat n):Nat):Int)
      split<;>lia
  have ehi:(match hi with | none=>(n:Int) | some i=>max 0 (min (if i < 0 then i+(n:Int) else i) (n:Int)))=((ix n n hi:Nat):Int):=by
    cases hi with
    | none=>rfl
    | some i =>
      show max 0 (min (if i < 0 then i+(n:Int) else i) (n:Int))=(((if i < 0 then (i+(n:Int)).toNat else min i.toNat n):Nat):Int)
      split<;>lia
  rw [<- key,<- elo,<- ehi]
  cases lo<;>cases hi<;>simp<;>rfl
theorem sC (x:Str) (lo hi:Option Int):(Txt.slice x lo hi).cps.toList=(x.cps.toList.drop (ix x.length 0 lo)).take (ix x.length x.length hi - ix x.length 0 lo):=by
  have e:((Builtin.Str.strSliceIndices lo hi 1 x.length).filterMap (x.cps[·]?))=(x.cps.toList.drop (ix x.length 0 lo)).take (ix x.length x.length hi - ix x.length 0 lo):=by
    rw [lM,<- oR]
    congr 1
    funext j
    simp
  unfold Txt.slice
  split
  · rename_i h
    have hl:(Builtin.Str.strSliceIndices lo hi 1 x.length).length=x.length:=by simpa using h
    rw [lM,List.length_map,List.length_range] at hl
    have h1:ix x.length x.length hi<=x.length:=by
      cases hi with
      | none=>exact Nat.le_refl _
      | some v=>show (if v < 0 then (v+(x.length:Int)).toNat else min v.toNat x.length)<=x.length; split<;>lia
    have h2:x.length=0\/ix x.length 0 lo=0:=by lia
    have h3:ix x.length x.length hi - ix x.length 0 lo=x.length:=hl
    rw [h3]
    rcases h2 with h2 | h2
    · have:x.cps.toList=[]:=List.eq_nil_of_length_eq_zero (by rw [bU]; exact h2)
      rw [this]; simp
    · rw [h2,List.drop_zero,List.take_of_length_le (by rw [bU]; exact Nat.le_refl _)]
  · show ((Builtin.Str.strSliceIndices lo hi 1 x.length).filterMap (x.cps[·]?)).toArray.toList=_
    rw [<- e]
theorem vJ {x:Str} {p:Int} (h0:0<=p):(Txt.slice x none (some p)).cps.toList=x.cps.toList.take p.toNat:=by
  rw [sC]
  have e:ix x.length x.length (some p)=min p.toNat x.length:=by show (if p < 0 then _ else _)=_; rw [if_neg (by lia)]
  rw [e]
  show (x.cps.toList.drop 0).take (min p.toNat x.length - 0)=_
  rw [List.drop_zero,Nat.sub_zero]
  by_cases h:p.toNat<=x.length
  · rw [Nat.min_eq_left h]
  · rw [Nat.min_eq_right (by lia),List.take_of_length_le (by rw [bU]; exact Nat.le_refl _),List.take_of_length_le (by rw [bU]; lia)]
theorem ql (x y:Str):(x++y).cps.toList=x.cps.toList++y.cps.toList:=by
  show (x.cps++y.cps).toList=_
  simp
theorem nu (x:Str) (c:Nat):∀ (m i:Nat) (st:Array Nat × Nat),st.2<=i->st.1.size<=i->i+m<=x.length+1 ->
    (forIn (List.range' i m) st (StrLaws.occBody x ⟨#[c]⟩ x.length (x.length+1))).run.fst.size=st.1.size+((x.cps.toList.drop i).take m).count c
  | 0,i,st,_,_,_=>by
    show st.1.size=_
    simp
  | m+1,i,st,h1,h2,h3=>by
    rw [List.range'_succ,List.forIn_cons]
    unfold StrLaws.occBody
    have hone:=StrLaws.subAt_one x c i
    have step:(x.cps.toList.drop i).take (m+1)=(match x.cps.toList[i]? with | some a=>[a] | none=>[])++(x.cps.toList.drop (i+1)).take m:=by
      cases hx:x.cps.toList[i]? with
      | none =>
        have:=List.getElem?_eq_none_iff.mp hx
        rw [List.drop_eq_nil_of_le this,List.drop_eq_nil_of_le (by lia)]; simp
      | some a =>
        obtain ⟨hlt,e⟩:=List.getElem?_eq_some_iff.mp hx
        rw [List.drop_eq_getElem_cons hlt,e]; rfl
    by_cases hc:x.cps.toList[i]? = some c
    · have hs:=hone.mpr hc
      rw [if_pos ⟨⟨⟨by lia,h1⟩,hs.1⟩,hs.2⟩]
      show (forIn (List.range' (i+1) m) (st.1.push i,i+1) (StrLaws.occBody x ⟨#[c]⟩ x.length (x.length+1))).run.fst.size=_
      rw [nu x c m (i+1) _ (Nat.le_refl _) (by simp; lia) (by lia),step,hc]
      simp
      lia
    · rw [if_neg fun h=>hc (hone.mp ⟨h.1.2,h.2⟩)]
      show (forIn (List.range' (i+1) m) (st.1,st.2) (StrLaws.occBody x ⟨#[c]⟩ x.length (x.length+1))).run.fst.size=_
      rw [nu x c m (i+1) (st.1,st.2) (Nat.le_succ_of_le h1) (Nat.le_succ_of_le h2) (by lia),step]
      cases hx:x.cps.toList[i]? with
      | none=>simp
      | some a =>
        rw [hx] at hc
        have hne:a≠c:=fun e=>hc (by rw [e])
        simp [List.count_cons,hne]
theorem uz (x:Str) (c:Nat):Txt.count x ⟨#[c]⟩=((x.cps.toList.count c:Nat):Int):=by
  unfold Txt.count
  rw [StrLaws.occ_eq,Array.length_toList,Nat.sub_zero,nu x c _ 0 _ (Nat.le_refl _) (by simp) (by lia)]
  rw [List.drop_zero,List.take_of_length_le (by rw [bU]; lia)]
  simp
theorem qq (c:Nat) (n:Int):(Txt.mul ⟨#[c]⟩ n).cps.toList=List.replicate n.toNat c:=by
  have fold:∀ (k:Nat) (acc:Array Nat),((List.replicate k (#[c]:Array Nat)).foldl (·++·) acc).toList=acc.toList++List.replicate k c:=by
    intro k
    induction k with
    | zero=>intro acc; simp
    | succ k ih=>intro acc; rw [List.replicate_succ,List.foldl_cons,ih,List.replicate_succ]; simp
  unfold Txt.mul
  split
  · rename_i h
    rw [show n.toNat=0 by lia]; rfl
  · split
    · rename_i h1 h2
      have:n=1:=by
        rw [Bool.or_eq_true] at h2
        rcases h2 with z | z
        · simpa using z
        · exact absurd z (by show ¬ ((1 == 0)=true); decide)
      subst this; rfl
    · show ((List.replicate n.toNat (#[c]:Array Nat)).foldl (·++·) #[]).toList=_
      rw [fold]; rfl
end Ck
set_option Elab.async false
set_option linter.all false
set_option maxRecDepth 100000
set_option maxHeartbeats 4000000
namespace Ck
open PySem L2
end Ck
namespace L2
open PySem
theorem uE (ns:List Int):gK ns (some 1) none=ns.drop 1:=by
  unfold gK
  have e1:HT.sIx ns.length 0 (some 1)=min 1 ns.length:=HT.sIx_nat _ _ 1
  rw [e1,HT.sIx_none]
  cases ns with
  | nil=>rfl
  | cons a r =>
    have e2:min 1 (a::r).length=1:=by simp
    rw [e2]
    exact List.take_of_length_le (by simp)
theorem xk (k:Nat) (v:V):(List.replicate k [v]).flatten=List.replicate k v:=by
  induction k with
  | zero=>rfl
  | succ k ih=>rw [List.replicate_succ,List.flatten_cons,ih,List.replicate_succ]; rfl
end L2
namespace Ck
open PySem L2
end Ck
namespace L2
open PySem PySem.Spec PyProof.Rows
noncomputable def yH:V->List V->Hp->VK->Prop:=fun x vs H Q=>∃ z y,x = .str z/\vs=[.str y]/\Q (.int (Txt.count z y)) H
theorem vy {X:Cx}:sL X "str.count" yH:=by
  intro pins s σ H x xs v us Q I rx rs h
  obtain ⟨z,y,rfl,rfl,q⟩:=h
  obtain ⟨t,rfl⟩:=rx
  obtain ⟨u,rfl,t',rfl⟩:=vals1 rs
  exact SC.count ⟨.int (Txt.count z y),H,I.tok _,⟨_,rfl⟩,q⟩
theorem mO {x:Str} {i:Int} {c:Nat} (h0:0<=i) (h:x.cps.toList[i.toNat]? = some c):iU x.cps.toList i=some c:=by
  have q:=ky (xs:=x.cps.toList) (j:=i.toNat) h
  rw [show ((i.toNat:Nat):Int)=i by lia] at q
  exact q
theorem pk {x y:Str} (h:x.cps.toList=y.cps.toList):x=y:=by
  obtain ⟨a⟩:=x
  obtain ⟨b⟩:=y
  have:a=b:=by
    have h':a.toList=b.toList:=h
    rw [<- Array.toArray_toList (xs:=a),h',Array.toArray_toList]
  rw [this]
end L2
namespace Ck
open PySem L2
structure p7 (n:Nat) (l:List Nat) (i u h:Nat):Prop where
  len:l.length=i
  bal:2*u=i+h
  le:u<=n
  clo:∀ t,Ck.clo 0 (l++t)=Ck.clo h t
theorem p7.up {n:Nat} {l:List Nat} {i u h:Nat} (b:p7 n l i u h) (hu:u < n):p7 n (l++[40]) (i+1) (u+1) (h+1) :=
  ⟨by rw [List.length_append,b.len]; rfl,by have:=b.bal; lia,hu,fun t=>by rw [List.append_assoc,b.clo]; exact dU h t⟩
theorem p7.down {n:Nat} {l:List Nat} {i u h:Nat} (b:p7 n l i u (h+1)):p7 n (l++[41]) (i+1) u h :=
  ⟨by rw [List.length_append,b.len]; rfl,by have:=b.bal; lia,b.le,fun t=>by rw [List.append_assoc,b.clo]; exact cF h t⟩
theorem ot {n:Nat} {c:List Nat} (g:Good n n c):∀ i,i<=c.length->∃ h u',p7 n (c.take i) i ((c.take i).count 40) h/\Good u' (u'+h) (c.drop i)/\(c.take i).count 40+u'=n
  | 0,_=>⟨0,n,⟨rfl,rfl,by simp,fun t=>rfl⟩,g,by simp⟩
  | i+1,hi=>by
    obtain ⟨h,u',b,gd,e⟩:=ot g i (by lia)
    have hlt:i < c.length:=by lia
    rw [List.drop_eq_getElem_cons hlt] at gd
    have et:c.take (i+1)=c.take i++[c[i]]:=by rw [List.take_add_one,List.getElem?_eq_getElem hlt]; rfl
    generalize hc:c[i]=x at gd et
    generalize hd:u'+h=d at gd
    rw [et]
    cases gd with
    | @up v d t g' le =>
      refine ⟨h+1,v,?_,?_,?_⟩
      · have:=b.up (by lia)
        rw [List.count_append,show List.count 40 [40]=1 by rfl]
        exact this
      · rw [show v+(h+1)=d by lia]; exact g'
      · rw [List.count_append,show List.count 40 [40]=1 by rfl]; lia
    | @down v d' t g' le =>
      obtain ⟨h',rfl⟩:∃ h',h=h'+1:=⟨h - 1,by lia⟩
      refine ⟨h',u',?_,?_,?_⟩
      · have:=b.down
        rw [List.count_append,show List.count 40 [41]=0 by rfl]
        exact this
      · rw [show u'+h'=d' by lia]; exact g'
      · rw [List.count_append,show List.count 40 [41]=0 by rfl]; lia
end Ck
set_option Elab.async false
set_option linter.all false
set_option maxRecDepth 100000
set_option maxHeartbeats 4000000
namespace L2
open PySem PySem.Spec PyProof.Rows
section
variable {X:Cx} {tg:Expr}
end
noncomputable def ng:List V->List V->Bool
  | [],[]=>true
  | x::xs,y::ys=>nk x y&&ng xs ys
  | _,_=>false
theorem pS:∀ {xs ys:List V},xs.length≠ys.length->ng xs ys=false
  | [],[],h=>absurd rfl h
  | [],_::_,_=>rfl
  | _::_,[],_=>rfl
  | x::xs,y::ys,h=>by
    rw [ng,pS (xs:=xs) (ys:=ys) (by simpa using h),Bool.and_false]
theorem pU:∀ {xs ys:List V},xs.length=ys.length->(List.range xs.length).all (fun j=>nk (xs.getD j .non) (ys.getD j .non))=ng xs ys
  | [],[],_=>rfl
  | x::xs,y::ys,h=>by
    rw [ng,<- pU (xs:=xs) (ys:=ys) (by simpa using h),List.length_cons,List.range_succ_eq_map,List.all_cons,List.all_map]
    rfl
noncomputable def yW (K:W.Frag) (neg:Bool):R2:=fun x y H Q=>∃ a b xs ys,x = .ref a/\y = .ref b/\aq K H a xs/\aq K H b ys/\xs.all jo=true/\ys.all jo=true/\Q (.bl (if neg then !ng xs ys else ng xs ys)) H
section
variable {X:Cx}
theorem items_eqAt {A:Around} {s:Shared} {xs ys:List V} {us vs:List Value} (r:Vals xs us) (r':Vals ys vs) (fx:xs.all jo=true) (fy:ys.all jo=true) :
    ∀ j (h1:j < us.toArray.size) (h2:j < vs.toArray.size),SeqAt.EqAt A s us.toArray[j] vs.toArray[j] (nk (xs.getD j .non) (ys.getD j .non)):=fun j h1 h2=>by
  have l1:=r.length
  have l2:=r'.length
  have h1':j < us.length:=by simpa using h1
  have h2':j < vs.length:=by simpa using h2
  obtain ⟨u,eu,ru⟩:=r.get (List.getElem?_eq_getElem (show j < xs.length by lia))
  obtain ⟨v,ev,rv⟩:=r'.get (List.getElem?_eq_getElem (show j < ys.length by lia))
  have e1:us.toArray[j]=u:=by
    rw [List.getElem?_eq_getElem h1'] at eu
    simpa using eu
  have e2:vs.toArray[j]=v:=by
    rw [List.getElem?_eq_getElem h2'] at ev
    simpa using ev
  rw [e1,e2]
  have g1:xs.getD j .non=xs[j]'(by lia):=by rw [List.getD_eq_getElem?_getD,List.getElem?_eq_getElem (show j < xs.length by lia)]; rfl
  have g2:ys.getD j .non=ys[j]'(by lia):=by rw [List.getD_eq_getElem?_getD,List.getElem?_eq_getElem (show j < ys.length by lia)]; rfl
  rw [g1,g2]
  exact vd ru rv (List.all_eq_true.mp fx _ (List.getElem_mem _)) (List.all_eq_true.mp fy _ (List.getElem_mem _))
theorem uf (hu:X.A.units < cLine):eA X (compareOp .Eq) (yW X.K false):=by
  intro pins s σ H x y v u Q I rx ry h
  obtain ⟨a,b,xs,ys,rfl,rfl,ha,hb,fx,fy,q⟩:=h
  cases rx
  cases ry
  obtain ⟨us,r,pl,hz⟩:=I.list ha
  obtain ⟨vs,r',pl',hz'⟩:=I.list hb
  have l1:=r.length
  have l2:=r'.length
  by_cases hl:xs.length=ys.length
  · refine SeqAt.eq_listAt (e:=fun j=>nk (xs.getD j .non) (ys.getD j .non)) pl.isList pl'.isList (by simp; lia) hu (items_eqAt r r' fx fy) ⟨.bl _,H,I,rfl,?_⟩
    rw [show us.toArray.size=xs.length by simp; lia,pU hl]
    exact q
  · refine SeqAt.eq_list_lengthsAt pl.isList pl'.isList (by simp; lia) hu ⟨.bl false,H,I,rfl,?_⟩
    rw [<- pS hl]
    exact q
theorem tR (hu:X.A.units < cLine):eA X (compareOp .NotEq) (yW X.K true):=by
  intro pins s σ H x y v u Q I rx ry h
  obtain ⟨a,b,xs,ys,rfl,rfl,ha,hb,fx,fy,q⟩:=h
  cases rx
  cases ry
  obtain ⟨us,r,pl,hz⟩:=I.list ha
  obtain ⟨vs,r',pl',hz'⟩:=I.list hb
  have l1:=r.length
  have l2:=r'.length
  by_cases hl:xs.length=ys.length
  · refine SeqAt.RcNeAt.lists (e:=fun j=>nk (xs.getD j .non) (ys.getD j .non)) pl.isList pl'.isList (by simp; lia) hu (items_eqAt r r' fx fy) _ _ _ _ ⟨.bl _,H,I,rfl,?_⟩
    rw [show us.toArray.size=xs.length by simp; lia,pU hl]
    exact q
  · refine SeqAt.RcNeAt.lists_lengths pl.isList pl'.isList (by simp; lia) hu _ _ _ _ ⟨.bl true,H,I,rfl,?_⟩
    have z:=pS hl
    rw [z] at q
    exact q
end
end L2
set_option Elab.async false
set_option linter.all false
set_option maxRecDepth 100000
set_option maxHeartbeats 4000000
namespace L2
open PySem PySem.Spec PyProof.Rows PySem.W Builtin Builtin.ObjectAttr Builtin.Getset_descriptor
section
variable {K:Frag} {e C:Addr} {M:Model} {h:Heap} {prog:Program} {w:World} {A:Around} {E:Value->Shared->Prop} {s:Shared}
end
section
variable {K:Frag} {e C:Addr} {M:Model} {h:Heap} {prog:Program} {w:World} {A:Around} {E:Value->Shared->Prop} {s:Shared}
end
section
variable {X:Cx}
theorem zI {A:Around} {k:Nat} (hr:cz k A):A.units < cLine:=Nat.lt_of_succ_lt (zp hr)
end
theorem tK {x:Str} {n:Int} (hx:x.length=1) (h0:0<=n) (h1:n<=100):MulOk x n:=by
  refine ⟨?_,fun h2 _=>?_,fun h2 _=>?_⟩
  · simp; lia
  · rw [hx]
    have:(1:Int)<=(2 ^ 63 - 1) / n:=by
      refine Int.le_ediv_of_mul_le (by lia) ?_
      lia
    lia
  · rw [hx,Nat.one_mul]
    exact decide_eq_false (Nat.not_lt.mpr (sz (by lia)))
theorem qX {n:Int} (h0:0<=n) (h1:n<=100):MulOk (Str.ofString ")") n:=tK (by decide +kernel) h0 h1
end L2
namespace Ck
open PySem L2
end Ck
set_option Elab.async false
set_option linter.all false
set_option maxRecDepth 100000
set_option maxHeartbeats 4000000
namespace L2
open PySem PySem.Spec PyProof.Rows
structure bH (P:Program) (w:World) (K:W.Frag) (mg:Str->Option Value) (base:Heap) (ps:List Str) (k:Nat) (sp:Sp) (f:Addr) (fd:FuncData):Prop where
  ok:aH P w K mg base (yT P w) k f fd ps sp
  b:Binds K fd ps []
section
variable {X:Cx} {C f:Addr} {fd:FuncData} {ps:List Str} {sp:Sp} {m:Str} {apos pos:Pos} {o e:Expr} {es:List Expr} {ta:TE} {t:TA} {j k:Nat}
theorem jY {pl:Sem Bool} (ho:PE X o ta) (c:lJ X.K C) (hm:Meth X.K C m f) (D:bH X.prog X.w X.K X.mg X.base ps j sp f fd) (hr:cz k X.A) (ha:PA X (e::es) t) (hjk:j<=k:=by decide)
    (hst:starEach (e::es) X.env=(false,eval e X.env)::starEach es X.env:=by rfl) (hpl:(backTo pos (starEach es X.env)).any (·.1)=false:=by rfl)
    (ht:eval (.Call (.Attribute o m apos) (e::es) [] pos) X.env=(do
      let ov <- eval o X.env
      standAt apos.atName
      let (f,first) <- holding [ov] (getMethod ov m pl)
      callWith pos f first (backTo pos (starEach (e::es) X.env)) (backToKw pos (keywordEach [] X.env))):=by rfl) :
    PE X (.Call (.Attribute o m apos) (e::es) [] pos) (wY C m sp [] E0 ta t):=xP ho c hm D.ok (hr.mono hjk) D.b .nil qG ha hst hpl ht
end
structure nQ (K:W.Frag) (C:Addr) (m:Str) (f:Addr):Prop where
  hg:W.specialIn K (.ref C) "__getattribute__" = some (some (.builtin "type.__getattribute__"))
  rd:W.readsIn K C (.type "type")=true
  at_:W.findCls K (.ref C) (.type "type") m=some (.val (.ref f))
  kp:W.keepIn K (.ref f)=true
section
variable {X:Cx} {C f:Addr} {fd:FuncData} {ps:List Str} {sp:Sp} {x m:Str} {p apos pos:Pos} {e:Expr} {es:List Expr} {t:TA} {j k:Nat}
theorem pG {pl:Sem Bool} (hm:X.mg x=some (.ref C)) (M:nQ X.K C m f) (D:bH X.prog X.w X.K X.mg X.base ps j sp f fd) (hr:cz k X.A) (ha:PA X (e::es) t) (hjk:j<=k:=by decide) (hg:Gl X x:=by rfl)
    (hdb:(x == ("__debug__" : Str))=false:=by decide) (hst:starEach (e::es) X.env=(false,eval e X.env)::starEach es X.env:=by rfl) (hpl:(backTo pos (starEach es X.env)).any (·.1)=false:=by rfl)
    (ht:eval (.Call (.Attribute (.Name x p) m apos) (e::es) [] pos) X.env=(do
      let ov <- eval (.Name x p) X.env
      standAt apos.atName
      let (f,first) <- holding [ov] (getMethod ov m pl)
      callWith pos f first (backTo pos (starEach (e::es) X.env)) (backToKw pos (keywordEach [] X.env))):=by rfl) :
    PE X (.Call (.Attribute (.Name x p) m apos) (e::es) [] pos) (tH sp [] E0 t):=by
  intro pins s σ H Q I h
  refine W.methodCall_KW (pl:=pl) (pV I hg hm ?_ hdb) ht
  refine W.method_cls I.kIn M.hg (W.cls_value I.kIn M.rd M.at_ rfl ?_)
  have I1:Inv X pins σ H { s with toks:=s.toks+1 }:=I.tok _
  refine W.callWith_K (first:=[]) (h₀:=X.base) I.ok.mod.kin M.kp (aE (ha pos pins _ σ H _ I1 h) fun us s2 ⟨vs,H2,I2,r,q2⟩=>⟨I2.kIn,?_⟩) hst hpl
  exact rq D.ok (hr.mono hjk) D.b .nil qG I2 r q2
end
section
variable {X:Cx} {C f:Addr} {fd:FuncData} {ps:List Str} {sp:Sp} {x:Str} {p pos:Pos} {j k:Nat}
theorem mz (M:Mk X.K C f) (hm:X.mg x=some (.ref C)) (D:bH X.prog X.w X.K X.mg X.base ps j sp f fd) (hr:cz k X.A) (hjk:j+1<=k:=by decide) (hg:Gl X x:=by rfl) (hdb:(x == ("__debug__" : Str))=false:=by decide) :
    PE X (.Call (.Name x p) [] [] pos) (wO C sp [] E0 wC):=wA M D.ok (hr.mono hjk) hg hm D.b .nil qG hdb
end
end L2
namespace L2
open PySem
noncomputable def below (N:Nat) (sp:Nat->Sp):Sp:=fun vs H Q E=>∃ m,m < N/\sp m vs H Q E
end L2
set_option Elab.async false
set_option linter.all false
set_option maxRecDepth 100000
set_option maxHeartbeats 4000000
namespace L2
open PySem PySem.Spec PyProof.Rows
inductive dI (K:W.Frag) (H:Hp):Nat->V->V->Bool->Prop
  | flat {n:Nat} {x y:V} (fx:jo x=true) (fy:jo y=true):dI K H n x y (nk x y)
  | same {n:Nat} {a:Addr}:dI K H n (.ref a) (.ref a) true
  | lst {n:Nat} {a b:Addr} {xs ys:List V} {e:Nat->Bool} (ne:a≠b) (ha:aq K H a xs) (hb:aq K H b ys) (hl:xs.length=ys.length)
      (hi:∀ j x y,xs[j]? = some x->ys[j]? = some y->dI K H n x y (e j)):dI K H (n+1) (.ref a) (.ref b) ((List.range xs.length).all e)
  | lstN {n:Nat} {a b:Addr} {xs ys:List V} (ne:a≠b) (ha:aq K H a xs) (hb:aq K H b ys) (hl:xs.length≠ys.length):dI K H (n+1) (.ref a) (.ref b) false
  | tup {n:Nat} {a b:Addr} {xs ys:List V} {e:Nat->Bool} (ne:a≠b) (ha:jh K H a xs) (hb:jh K H b ys)
      (hi:∀ j x y,xs[j]? = some x->ys[j]? = some y->dI K H n x y (e j)):dI K H (n+1) (.ref a) (.ref b) ((List.range (min xs.length ys.length)).all e&&xs.length == ys.length)
theorem dI.lstT {K:W.Frag} {H:Hp} {n:Nat} {a b:Addr} {xs ys:List V} (ne:a≠b) (ha:aq K H a xs) (hb:aq K H b ys) (hl:xs.length=ys.length) (hi:∀ (j:Nat) (x y:V),xs[j]? = some x->ys[j]? = some y->dI K H n x y true):dI K H (n+1) (.ref a) (.ref b) true:=by
  have h:=dI.lst (e:=fun _=>true) ne ha hb hl hi
  have e (k:Nat):(List.range k).all (fun _=>true)=true:=List.all_eq_true.mpr fun _ _=>rfl
  rw [e] at h
  exact h
section
variable {X:Cx} {pins:List (Addr × Obj)} {σ:St} {H:Hp} {s:Shared}
theorem iT {xs:List V} {us:List Value} (r:Vals xs us) {j:Nat} (h:j < us.toArray.size):∃ x,xs[j]? = some x/\RelV x us.toArray[j]:=by
  have h':j < us.length:=by simpa using h
  have hx:j < xs.length:=by rw [r.length]; exact h'
  obtain ⟨u,eu,ru⟩:=r.get (List.getElem?_eq_getElem hx)
  rw [List.getElem?_eq_getElem h'] at eu
  exact ⟨_,List.getElem?_eq_getElem hx,by
    have:us.toArray[j]=u:=by simpa using eu
    rw [this]; exact ru⟩
theorem dI.at_ {n:Nat} {x y:V} {b:Bool} (d:dI X.K H n x y b):∀ {A:Around} {u v:Value},A.units+n < cLine->Inv X pins σ H s->RelV x u->RelV y v->SeqAt.EqAt A s u v b:=by
  induction d with
  | flat fx fy=>intro A u v _ I ru rv; exact vd ru rv fx fy
  | same =>
    intro A u v _ I ru rv
    cases (show u=Value.ref _ from ru)
    cases (show v=Value.ref _ from rv)
    exact SeqAt.EqAt.same _
  | @lst n a b xs ys e ne ha hb hl hi ih =>
    intro A u v hu I ru rv
    cases (show u=Value.ref _ from ru)
    cases (show v=Value.ref _ from rv)
    obtain ⟨us,r,pl,_⟩:=I.list ha
    obtain ⟨vs,r',pl',_⟩:=I.list hb
    have l1:=r.length
    have l2:=r'.length
    have z:=SeqAt.RcAt.lists (A:=A) (e:=e) pl.isList pl'.isList (by simp; lia) (by lia) fun j h1 h2=>by
      obtain ⟨x,ex,rx⟩:=iT r h1
      obtain ⟨y,ey,ry⟩:=iT r' h2
      exact ih j x y ex ey (A:=A.in1) (by show A.units+1+n < cLine; lia) I rx ry
    rw [show us.toArray.size=xs.length by simp; lia] at z
    exact .of_refs ne z
  | @lstN n a b xs ys ne ha hb hl =>
    intro A u v hu I ru rv
    cases (show u=Value.ref _ from ru)
    cases (show v=Value.ref _ from rv)
    obtain ⟨us,r,pl,_⟩:=I.list ha
    obtain ⟨vs,r',pl',_⟩:=I.list hb
    have l1:=r.length
    have l2:=r'.length
    exact .of_refs ne (SeqAt.RcAt.lists_lengths pl.isList pl'.isList (by simp; lia) (by lia))
  | @tup n a b xs ys e ne ha hb hi ih =>
    intro A u v hu I ru rv
    cases (show u=Value.ref _ from ru)
    cases (show v=Value.ref _ from rv)
    obtain ⟨us,r,pl,_⟩:=I.tuple ha
    obtain ⟨vs,r',pl',_⟩:=I.tuple hb
    have l1:=r.length
    have l2:=r'.length
    have z:=SeqAt.RcAt.tuples (A:=A) (e:=e) pl pl' (by lia) fun j h1 h2=>by
      obtain ⟨x,ex,rx⟩:=iT r h1
      obtain ⟨y,ey,ry⟩:=iT r' h2
      exact ih j x y ex ey (A:=A.in1) (by show A.units+1+n < cLine; lia) I rx ry
    rw [show us.toArray.size=xs.length by simp; lia,show vs.toArray.size=ys.length by simp; lia] at z
    exact .of_refs ne z
noncomputable def zT (K:W.Frag) (neg:Bool):R2:=fun x y H Q=>∃ n b,n<=100/\dI K H n x y b/\(∃ a c,x = .ref a/\y = .ref c/\a≠c)/\Q (.bl (if neg then !b else b)) H
theorem x8 (hu:X.A.units+100 < cLine):eA X (compareOp .Eq) (zT X.K false):=by
  intro pins s σ H x y u v Q I ru rv h
  obtain ⟨n,b,hn,d,⟨a,c,rfl,rfl,hne⟩,q⟩:=h
  cases (show u=Value.ref _ from ru)
  cases (show v=Value.ref _ from rv)
  cases d with
  | flat fx _=>cases fx
  | same=>exact absurd rfl hne
  | @lst n _ _ xs ys e ne ha hb hl hi =>
    obtain ⟨us,r,pl,_⟩:=I.list ha
    obtain ⟨vs,r',pl',_⟩:=I.list hb
    have l1:=r.length
    have l2:=r'.length
    refine SeqAt.eq_listAt (e:=e) pl.isList pl'.isList (by simp; lia) (by lia) (fun j h1 h2=>?_) ⟨.bl _,H,I,rfl,?_⟩
    · obtain ⟨x,ex,rx⟩:=iT r h1
      obtain ⟨y,ey,ry⟩:=iT r' h2
      exact (hi j x y ex ey).at_ (A:=X.A.in1) (by show X.A.units+1+n < cLine; lia) I rx ry
    · rw [show us.toArray.size=xs.length by simp; lia]; exact q
  | @lstN n _ _ xs ys ne ha hb hl =>
    obtain ⟨us,r,pl,_⟩:=I.list ha
    obtain ⟨vs,r',pl',_⟩:=I.list hb
    have l1:=r.length
    have l2:=r'.length
    exact SeqAt.eq_list_lengthsAt pl.isList pl'.isList (by simp; lia) (by lia) ⟨.bl false,H,I,rfl,q⟩
  | @tup n _ _ xs ys e ne ha hb hi =>
    obtain ⟨us,r,pl,_⟩:=I.tuple ha
    obtain ⟨vs,r',pl',_⟩:=I.tuple hb
    have l1:=r.length
    have l2:=r'.length
    refine SeqAt.eq_tupleAt (e:=e) pl pl' (by lia) (fun j h1 h2=>?_) ⟨.bl _,H,I,rfl,?_⟩
    · obtain ⟨x,ex,rx⟩:=iT r h1
      obtain ⟨y,ey,ry⟩:=iT r' h2
      exact (hi j x y ex ey).at_ (A:=X.A.in1) (by show X.A.units+1+n < cLine; lia) I rx ry
    · rw [show us.toArray.size=xs.length by simp; lia,show vs.toArray.size=ys.length by simp; lia]; exact q
theorem qL {A:Around} {k:Nat} (hr:cz k A):A.units+100 < cLine:=Nat.lt_of_le_of_lt (by lia) hr.un
end
end L2
set_option Elab.async false
set_option linter.all false
set_option maxRecDepth 100000
set_option maxHeartbeats 4000000
namespace L2
open PySem PySem.Spec PyProof.Rows
section
variable {X:Cx}
end
section
variable {X:Cx} {pins:List (Addr × Obj)} {σ:St} {H:Hp} {s:Shared} {h':Heap}
theorem Inv.trackO {e:Addr} {o':HO} (I:Inv X pins σ H s) (o:tS X pins H e) (new:dt X.prog X.w (upd H e o') s.heap e o'):Inv X pins σ (upd H e o') s:=by
  have ne:∀ b u,H b=some u->b≠e:=fun b u q z=>by rw [z,o.free] at q; cases q
  refine ⟨I.ok,I.os,I.bare,⟨I.base.keep,I.base.slot,fun b ob q n hx=>?_,I.base.there,fun b xs q=>?_,fun b ob u q=>?_,fun b ps q=>?_⟩,I.loc,I.cell,?_,fun x c q=>?_,fun p hp=>?_,fun b u q=>?_,I.len⟩
  · rw [ar (fun z=>by rw [z,o.new] at q; cases q)]; exact I.base.free b ob q n hx
  · have:=I.base.tups b xs q
    rw [ar (ne _ _ this)]; exact this
  · have:=I.base.frzs b ob u q
    rw [ar (ne _ _ this)]; exact this
  · obtain ⟨m,z⟩:=I.base.tbls b ps q
    exact ⟨m,by rw [ar (ne _ _ z)]; exact z⟩
  · rw [ar (Ne.symm o.loc)]; exact I.free
  · rw [ar (o.cell x c q)]; exact I.freeC x c q
  · obtain ⟨z,n,r⟩:=I.pin p hp
    exact ⟨z,by rw [ar (o.pin p hp)]; exact n,r⟩
  · by_cases z:b=e
    · subst z; rw [ag] at q; cases q; exact new
    · rw [ar z] at q
      exact (I.hok b u q).stay (fun _ _ _ x=>x) (fun c x=>by rw [ar (ne _ _ x)]; exact x) fun c xs x=>by rw [ar (ne _ _ x)]; exact x
theorem Inv.turned2 {t':Nat} {e it:Addr} (I:Inv X pins σ H s) (k:∀ b o,b≠e->b≠it->s.heap.get? b=some o->h'.get? b=some o) (he:∃ o,h'.get? e=some o) (hi:∃ o,h'.get? it=some o) (f1:kj X pins H e) (f2:kj X pins H it) :
    Inv X pins σ H { s with heap:=h',toks:=t' }:=by
  have nit:∀ b u,H b=some u->b≠e/\b≠it:=fun b u q=>⟨fun z=>(by rw [z,f1.1] at q; cases q),fun z=>(by rw [z,f2.1] at q; cases q)⟩
  have sp:∀ b,b∉[e,it]->b≠e/\b≠it:=fun b hb=>⟨fun z=>hb (by simp [z]),fun z=>hb (by simp [z])⟩
  refine I.step (g':=s.gens) (d':=s.drawn) (ch:=[e,it]) (fun b hb=>?_) (fun b o _ _ hc q _=>k b o (sp b hc).1 (sp b hc).2 q) (fun b o _ _ hc q _=>⟨o.slots,k b o (sp b hc).1 (sp b hc).2 q⟩) (fun _ _ _ _ n=>n)
    (fun b o hc q=>⟨o,k b o (sp b hc).1 (sp b hc).2 q⟩) (fun _ _ q=>q) (fun _ _ _ q=>q) (fun b ps q=>⟨#[],by rw [q]; simp⟩) (fun m hm=>?_) (fun b u q=>?_) I.bare
  · rcases List.mem_cons.mp hb with z | z
    · rw [z]; exact ⟨f1.2.2.2.1,f1.2.1,f1.2.2.2.2.1,f1.2.2.2.2.2⟩
    · rw [show b=it by simpa using z]; exact ⟨f2.2.2.2.1,f2.2.1,f2.2.2.2.2.1,f2.2.2.2.2.2⟩
  · obtain ⟨o,es,ep,ho,r⟩:=hm
    exact ⟨o,es,ep,k _ o (Ne.symm f1.2.1) (Ne.symm f2.2.1) ho,r⟩
  · refine (I.hok b u q).stay (fun c v hc q'=>?_) (fun _ q=>q) fun _ _ q=>q
    have:c≠e/\c≠it:=by
      rcases hc with z | z
      · rw [z]; exact nit b u q
      · exact nit c _ z
    exact k c v this.1 this.2 q'
end
noncomputable def vn (K:W.Frag) (l:Addr):It :=
  ⟨fun i H=>∃ xs x,aq K H l xs/\xs[i]? = some x,fun i H v H'=>∃ T x,H T=none/\(∀ xs,aq K H l xs->xs[i]? = some x)/\v = .ref T/\H'=upd H T (.tup [.int i,x]),fun i H=>∃ xs,aq K H l xs/\xs.length<=i⟩
theorem vg {P:Program} {w:World} {K:W.Frag} {elts:List Expr} {k0:Nat} {tp:Pos} (e it l:Addr) (hei:e≠it) :
    Turn P w K (.Tuple elts k0 tp) (vn K l) [e,it] e (fun i h=>(∃ old,IsEnum h e it i old)/\h.IsListIter it l i) where
  mem:=by simp
  obj:=fun i h st b hb=>by
    obtain ⟨⟨old,he⟩,o,ho,c,d⟩:=st
    rcases List.mem_cons.mp hb with z | z
    · rw [z]
      exact ⟨_,he,fun v z=>by
        have z':Data.fields _=Data.cell v:=z
        cases z'⟩
    · rw [show b=it by simpa using z]
      exact ⟨o,ho,fun v z=>by rw [d] at z; cases z⟩
  keep:=fun i h h' st k=>⟨let ⟨old,he⟩:=st.1; ⟨old,k e (by simp) _ he⟩,st.2.at fun o q=>k it (by simp) o q⟩
  item:=by
    intro X hP hw hK hc i pins s σ H E I hf st hg
    subst hP hw hK
    obtain ⟨xs,x,hq,hx⟩:=hg
    obtain ⟨its,rv,p,hz⟩:=I.list hq
    obtain ⟨u,hu,ru⟩:=rv.get hx
    obtain ⟨⟨old,he⟩,hit⟩:=st
    have fe:=hf e (by simp)
    have fi:=hf it (by simp)
    refine wpAny_pyNext_enum_item he hit p.isList (x:=u) (by simpa using hu) hei fun h1 ho hit1 hT hsz hk=>?_
    refine ⟨_,rfl,wpAny_letOwnedTupleGo_enum ho fun h2 he2 sb=>?_⟩
    have nT:s.heap.get? s.heap.objs.size=none:=Heap.get?_none_of_le (Nat.le_refl _)
    have elt:e < s.heap.objs.size:=Heap.lt_size he
    have ilt:it < s.heap.objs.size:=by obtain ⟨_,q,_⟩:=hit; exact Heap.lt_size q
    have hit2:h2.IsListIter it l (i+1):=hit1.at fun o q=>(sb.2 it (Ne.symm hei)).trans q
    have k2:∀ b o,b≠e->b≠it->s.heap.get? b=some o->h2.get? b=some o:=fun b o b1 b2 q=>(sb.2 b b1).trans (hk b o b1 b2 q)
    have I2:Inv X pins σ H { s with heap:=h2,toks:=s.toks+1 }:=I.turned2 k2 ⟨_,he2⟩ (by obtain ⟨o,q,_⟩:=hit2; exact ⟨o,q⟩) fe fi
    have oT:tS X pins H s.heap.objs.size:=by
      have fT:kj X pins H s.heap.objs.size:=I.fpOk (Nat.le_refl _) (I.hok.fresh (Nat.le_refl _))
      exact ⟨Heap.get?_none_of_le I.sz,fT.1,fT.2.1,fT.2.2.2.2.1,fT.2.2.2.2.2⟩
    have hT2:h2.get? s.heap.objs.size=some { cls:=.type "tuple",data:=.seq #[.int i s.toks,u] }:=(sb.2 _ (Nat.ne_of_gt elt)).trans hT
    have I3:=I2.trackO (o':=.tup [.int i,x]) oT ⟨sz (n:=2) (by decide),[.int i s.toks,u],.cons ⟨_,rfl⟩ (.cons ru .nil),_,hT2,rfl,_,rfl⟩
    refine ⟨.ref s.heap.objs.size,_,I3,rfl,⟨_,x,oT.free,fun ys hy=>by rw [I.list_inj hy hq]; exact hx,rfl,rfl⟩,⟨⟨_,by simpa using he2⟩,hit2⟩,fun b hb=>?_⟩
    rcases List.mem_cons.mp hb with z | z
    · rw [z,ar (Nat.ne_of_lt elt)]; exact fe.1
    · rw [show b=it by simpa using z,ar (Nat.ne_of_lt ilt)]; exact fi.1
  done:=by
    intro X hP hw hK hc i pins s σ H E I hf st hg
    subst hP hw hK
    obtain ⟨xs,hq,hx⟩:=hg
    obtain ⟨its,rv,p,hz⟩:=I.list hq
    obtain ⟨⟨old,he⟩,hit⟩:=st
    have hl:=rv.length
    obtain ⟨f0,f1,f2,f3,f4,f5⟩:=hf it (by simp)
    refine wpAny_pyNext_enum_end (I.ok.hd hc) he hit p.isList (Array.getElem?_eq_none (by simp; lia)) fun h2 eb=>⟨rfl,?_⟩
    exact I.turned (t':=s.toks) (fun b o hb q=>eb b o hb q) f0 f1 f3 f4 f5
  self:=fun _ _ _ _ _ st h=>by
    obtain ⟨⟨old,he⟩,_⟩:=st
    exact wpAny_pyIter_enum he h
noncomputable def zc (K:W.Frag) (ta:TA):TI:=fun σ H R=>ta σ H fun vs H1=>∃ l,vs=[.ref l]/\(∃ xs,aq K H1 l xs)/\R (vn K l) H1
section
variable {X:Cx}
theorem xB {elts:List Expr} {k0:Nat} {tp:Pos} {a:Expr} {ta:TA} {p pos:Pos} (hg:Gl X "enumerate") (hm:X.mg "enumerate" = none) (ha:PA X [a] ta) (hs:starEach [a] X.env=[(false,eval a X.env)]:=by rfl) :
    PI X (.Tuple elts k0 tp) (.Call (.Name "enumerate" p) [a] [] pos) (zc X.K ta):=by
  intro pins s σ H R I h
  refine Call_ (gm I hg hm boot_enumerate (PyProof.Rows.callWith_type1 (aE (ha pos pins s σ H _ I h) fun us s1 ⟨vs,H1,I1,r1,q1⟩=>?_) hs rfl))
  obtain ⟨l,rfl,⟨xs,hq⟩,q⟩:=q1
  obtain ⟨u,rfl,ru⟩:=vals1 r1
  cases ru
  obtain ⟨its,rv,pl,hz⟩:=I1.list hq
  refine call_enumerate_list pl.isList fun h2 he hit hsz hk=>?_
  have I2:Inv X pins σ H1 { s1 with heap:=h2 }:=I1.kept (t':=s1.toks) hk
  refine wpAny_pyIter_enum he ⟨_,[s1.heap.objs.size+1,s1.heap.objs.size],_,_,H1,rfl,I2,vg _ s1.heap.objs.size l (Nat.succ_ne_self _),⟨⟨_,he⟩,hit⟩,fun b hb=>?_,q⟩
  rcases List.mem_cons.mp hb with z | z
  · rw [z]; exact I1.fpOk (Nat.le_succ _) (I1.hok.fresh (Nat.le_succ _))
  · rw [show b=s1.heap.objs.size by simpa using z]; exact I1.fpOk (Nat.le_refl _) (I1.hok.fresh (Nat.le_refl _))
theorem vS {K:W.Frag} {l:Addr} {xs:List V} {g:TG} {tb:TS} {D:Ends} {σ:St} {H:Hp} (Pv:Nat->St->Hp->Prop) (h0:Pv 0 σ H) (hl:∀ i σ H,i<=xs.length->Pv i σ H->aq K H l xs)
    (hs:∀ i x σ H T,xs[i]? = some x->Pv i σ H->H T=none->g (.ref T) σ (upd H T (.tup [.int i,x])) fun σ2 H2=>tb { D with nx:=Pv (i+1),ct:=Pv (i+1),bk:=D.nx } σ2 H2) (hd:∀ σ H,Pv xs.length σ H->D.nx σ H) :
    ∃ W:Nat->Nat->St->Hp->Prop,(∃ m,W 0 m σ H)/\∀ i m σ H,W i m σ H ->
      ((vn K l).stop i H/\D.nx σ H)\/((vn K l).go i H/\∃ N:St->Hp->Prop,(∀ σ' H',N σ' H'->∃ m',m' < m/\W (i+1) m' σ' H')/\∀ x H',(vn K l).yld i H x H'->g x σ H' fun σ2 H2=>tb { D with nx:=N,ct:=N,bk:=D.nx } σ2 H2):=by
  refine ⟨fun i m σ H=>m=xs.length - i/\i<=xs.length/\Pv i σ H,⟨xs.length,by simp,Nat.zero_le _,h0⟩,?_⟩
  rintro i m σ H ⟨rfl,hi,p⟩
  have q:=hl i σ H hi p
  by_cases hlt:i < xs.length
  · refine .inr ⟨⟨xs,_,q,List.getElem?_eq_getElem hlt⟩,Pv (i+1),fun σ' H' p'=>⟨xs.length - (i+1),by lia,rfl,hlt,p'⟩,fun v H' y=>?_⟩
    obtain ⟨T,x,nT,hx,rfl,rfl⟩:=y
    exact hs i x σ H T (hx xs q) p nT
  · have e:i=xs.length:=by lia
    subst e
    exact .inl ⟨⟨xs,q,Nat.le_refl _⟩,hd σ H p⟩
end
end L2
set_option Elab.async false
set_option linter.all false
set_option maxRecDepth 100000
set_option maxHeartbeats 4000000
namespace Ck
open PySem L2
inductive Tree where
  | int (i:Int)
  | lst (l:List Tree)
  | tup (l:List Tree)
mutual
noncomputable def Rep (H:Hp):Tree->V->Prop
  | .int i,v=>v = .int i
  | .lst ts,v=>∃ a xs,v = .ref a/\H a=some (.lst xs)/\ts.length<=1000000/\jU H ts xs
  | .tup ts,v=>∃ a xs,v = .ref a/\H a=some (.tup xs)/\ts.length<=1000000/\jU H ts xs
noncomputable def jU (H:Hp):List Tree->List V->Prop
  | [],xs=>xs=[]
  | t::ts,xs=>∃ v vs,xs=v::vs/\Rep H t v/\jU H ts vs
end
mutual
noncomputable def dep:Tree->Nat
  | .int _=>0
  | .lst ts=>wm ts+1
  | .tup ts=>wm ts+1
noncomputable def wm:List Tree->Nat
  | []=>0
  | t::ts=>max (dep t) (wm ts)
end
mutual
theorem Rep.same {H H':Hp} (s:ao H H'):∀ (t:Tree) {v:V},Rep H t v->Rep H' t v
  | .int i,v,h=>by unfold Rep at h |-; exact h
  | .lst ts,v,h=>by
    unfold Rep at h |-
    obtain ⟨a,xs,e,ha,hl,r⟩:=h
    exact ⟨a,xs,e,s _ _ ha,hl,jU.same s ts r⟩
  | .tup ts,v,h=>by
    unfold Rep at h |-
    obtain ⟨a,xs,e,ha,hl,r⟩:=h
    exact ⟨a,xs,e,s _ _ ha,hl,jU.same s ts r⟩
theorem jU.same {H H':Hp} (s:ao H H'):∀ (ts:List Tree) {xs:List V},jU H ts xs->jU H' ts xs
  | [],xs,h=>by unfold jU at h |-; exact h
  | t::ts,xs,h=>by
    unfold jU at h |-
    obtain ⟨v,vs,e,r,rs⟩:=h
    exact ⟨v,vs,e,Rep.same s t r,jU.same s ts rs⟩
end
noncomputable abbrev Pair:=Int × Int
def dZ (H:Hp) (xs:List V) (ps:List Pair):Prop:=Paired (fun (v:V) (p:Pair)=>∃ t,v = .ref t/\H t=some (.tup [.int p.1,.int p.2])) xs ps
theorem dZ.same {H H':Hp} {xs:List V} {ps:List Pair} (h:dZ H xs ps) (s:ao H H'):dZ H' xs ps:=Paired.mapP h fun v p ⟨t,e,q⟩=>⟨t,e,s _ _ q⟩
theorem dZ.length {H:Hp} {xs:List V} {ps:List Pair} (h:dZ H xs ps):xs.length=ps.length:=Paired.length h
theorem dZ.get {H:Hp}:∀ {xs:List V} {ps:List Pair},dZ H xs ps->∀ {i:Nat} {x:V},xs[i]? = some x->∃ p t,ps[i]? = some p/\x = .ref t/\H t=some (.tup [.int p.1,.int p.2])
  | _,_,.nil,i,x,e=>by cases e
  | _,_,.cons r t,0,x,e=>by
    obtain ⟨a,e1,e2⟩:=r
    rw [List.getElem?_cons_zero] at e
    cases e
    exact ⟨_,a,rfl,e1,e2⟩
  | _,_,.cons r t,i+1,x,e=>by
    obtain ⟨p,a,h1,h2,h3⟩:=dZ.get t (i:=i) (by simpa using e)
    exact ⟨p,a,by simpa using h1,h2,h3⟩
theorem dZ.snoc {H:Hp}:∀ {xs:List V} {ps:List Pair} {t:Addr} {p:Pair},dZ H xs ps->H t=some (.tup [.int p.1,.int p.2])->dZ H (xs++[.ref t]) (ps++[p])
  | _,_,t,p,.nil,h=>.cons ⟨t,rfl,h⟩ .nil
  | _,_,t,p,.cons r s,h=>.cons r (dZ.snoc s h)
theorem dZ.updL {H:Hp} {xs:List V} {ps:List Pair} {a:Addr} {l:List V} (h:dZ H xs ps) (ha:H a=some (.lst l)) (o:HO):dZ (upd H a o) xs ps :=
  Paired.mapP h fun v p ⟨t,e,q⟩=>⟨t,e,(ar (zh q ha (by intro z; cases z))).trans q⟩
theorem dZ.updN {H:Hp} {xs:List V} {ps:List Pair} {a:Addr} (h:dZ H xs ps) (ha:H a=none) (o:HO):dZ (upd H a o) xs ps :=
  Paired.mapP h fun v p ⟨t,e,q⟩=>⟨t,e,(ar (ay q ha)).trans q⟩
def mY (H:Hp) (a:Addr) (ps:List Pair):Prop:=∃ xs,H a=some (.lst xs)/\dZ H xs ps
theorem mY.same {H H':Hp} {a:Addr} {ps:List Pair} (h:mY H a ps) (s:ao H H'):mY H' a ps:=let ⟨xs,e,r⟩:=h; ⟨xs,s _ _ e,r.same s⟩
theorem mY.len {H:Hp} {a:Addr} {ps:List Pair} (h:mY H a ps):∃ xs,H a=some (.lst xs)/\xs.length=ps.length/\dZ H xs ps:=let ⟨xs,e,r⟩:=h; ⟨xs,e,r.length,r⟩
end Ck
namespace L2
open PySem
end L2
set_option Elab.async false
set_option linter.all false
set_option maxRecDepth 100000
set_option maxHeartbeats 4000000
namespace Ck
open PySem L2
theorem zF (xs:List V) (k:Nat):fU xs (some (k:Int)) none=xs.drop k:=by
  unfold fU
  rw [HT.sIx_nat,HT.sIx_none]
  rw [List.take_of_length_le (by rw [List.length_drop]; lia)]
  by_cases h:k<=xs.length
  · rw [show min k xs.length=k by lia]
  · rw [List.drop_eq_nil_of_le (show xs.length<=k by lia),List.drop_eq_nil_of_le (by lia)]
theorem xV (xs:List V) (k:Nat):fU xs none (some (k:Int))=xs.take k:=by
  unfold fU
  rw [HT.sIx_nat,HT.sIx_none,List.drop_zero,Nat.sub_zero]
  by_cases h:k<=xs.length
  · rw [show min k xs.length=k by lia]
  · rw [List.take_of_length_le (by lia),List.take_of_length_le (by lia)]
theorem zf {c A B:Prop} [Decidable c] (hc:¬ c) (h:A):if (!decide c)=true then A else B:=by
  rw [decide_eq_false hc]
  exact eK h
end Ck
set_option Elab.async false
set_option linter.all false
set_option maxRecDepth 100000
set_option maxHeartbeats 4000000
namespace L2
open PySem PySem.Spec PyProof.Rows PySem.SeqAt
section
variable {X:Cx}
noncomputable def yA (K:W.Frag):V->List V->Hp->VK->Prop:=fun x vs H Q=>∃ (l:Addr) (ns:List Int) (k:Int),x = .ref l/\vs=[.int k]/\aq K H l (ns.map V.int)/\k∈ns/\Q (.int (ns.idxOf k:Nat)) H
theorem vO:sL X "list.index" (yA X.K):=by
  intro pins s σ H x vs v us Q I rx rv h
  obtain ⟨l,ns,k,rfl,rfl,hl,hk,q⟩:=h
  cases rx
  obtain ⟨u,rfl,t,rfl⟩:=rv.one
  obtain ⟨its,r,pl,hz⟩:=I.list hl
  have hi:IntsAre its ns:=intsAre_of r
  obtain ⟨⟨cls,dd,data,sl⟩,ho,hc,n,hd⟩:=id pl.isList
  simp only at hc hd
  subst hc hd
  have hlen:=hi.length
  have hj:ns.idxOf k < ns.length:=List.idxOf_lt_length_iff.mpr hk
  have hb:its.length<=sizeLine:=by first | exact hz | (rw [hlen]; simpa using hz)
  have hb2:sizeLine < 2 ^ 63 - 1:=by decide
  refine call_meets PySem.F.slot_list_index ⟨_,ho,rfl⟩ PySem.F.entry_list_index (PySem.F.args_list_index_2 _ _)
    (list_indexAt l its.toArray n dd sl (.int k t) (isInt k) (ns.idxOf k) (by simpa [hlen] using hj) (by lia) ?_ ?_) ⟨ho,fun y hy=>(eq_isInt k t hi y (by simpa using hy)).at _ _,?_⟩
  · show isInt k its[ns.idxOf k]=true
    rw [isInt_at k hi _ (by lia) hj]
    simpa using List.getElem_idxOf hj
  · intro j hjs hlt
    show isInt k its[j]=false
    rw [isInt_at k hi j (by simpa using hjs) (by lia)]
    exact ne_of_lt_idxOf hlt _
  · exact ⟨.int _,H,I.tok _,⟨_,rfl⟩,q⟩
theorem fV {K:W.Frag} {a:Addr} {xs:List V} {g:TG} {tt:TT} {te:TE} {σ0:St} {H:Hp} {D:Addr} {Q:VK} (Pv:Nat->List V->Hp->Prop) (hz:xs.length<=sizeLine)
    (h0:Pv 0 [] (upd H D (.lst []))) (hl:∀ i ys H',i<=xs.length->Pv i ys H'->aq K H' a xs/\ys.length<=i)
    (hs:∀ (i:Nat) (x:V) (ys:List V) (H':Hp) (R:VK) (R0:Hp->Prop),xs[i]? = some x->Pv i ys H'->(∀ v H3,H3 D=some (.lst ys)->Pv (i+1) (ys++[v]) (upd H3 D (.lst (ys++[v])))->R v H3)->(∀ H3,Pv (i+1) ys H3->R0 H3) ->
      g x σ0 H' fun σ2 H2=>Ext σ0 σ2/\tt σ2 H2 fun b H3=>if b=true then te σ2 H3 R else R0 H3)
    (hq:∀ ys H',Pv xs.length ys H'->Q (.ref D) H') :
    qH (rW K a) g tt te σ0 D Q H:=by
  refine ⟨fun i m ys H'=>m=xs.length - i/\i<=xs.length/\Pv i ys H',⟨xs.length,by simp,Nat.zero_le _,h0⟩,?_⟩
  rintro i m ys H' ⟨rfl,hi,p⟩
  obtain ⟨sq,ly⟩:=hl i ys H' hi p
  by_cases hlt:i < xs.length
  · refine .inr ⟨⟨xs,xs[i],sq,by simp [hlt]⟩,fun x H'' y=>?_⟩
    obtain ⟨e,y⟩:=y
    subst e
    have ex:=y xs sq
    refine hs i x ys _ _ _ ex p (fun v H3 hD p'=>⟨hD,by lia,xs.length - (i+1),by lia,rfl,hlt,p'⟩) fun H3 p'=>⟨xs.length - (i+1),by lia,rfl,hlt,p'⟩
  · have e:i=xs.length:=by lia
    subst e
    exact .inl ⟨⟨xs,sq,Nat.le_refl _⟩,hq ys H' p⟩
end
end L2
namespace Ck
open PySem L2
end Ck
namespace Ck
open PySem L2
structure j9 (fs:List (Str × V)) (w:Str) (l:Int):Prop where
  word:fs.lookup ("word" : Str)=some (.str w)
  least:fs.lookup ("least" : Str)=some (.int l)
  no:∀ m:Str,m≠("word" : Str)->m≠("least" : Str)->fs.lookup m=none
theorem pI (w:Str) (l:Int):j9 (fI ("least" : Str) (.int l) (fI ("word" : Str) (.str w) [])) w l :=
  ⟨by rw [eh,if_neg (by decide),eh,if_pos rfl],by rw [eh,if_pos rfl],fun m a b=>by rw [eh,if_neg b,eh,if_neg a]; rfl⟩
noncomputable def up (d:Int) (p:Pair):Pair:=(p.1+d,p.2+d)
theorem dZ.app {H:Hp}:∀ {xs ys:List V} {ps qs:List Pair},dZ H xs ps->dZ H ys qs->dZ H (xs++ys) (ps++qs)
  | _,_,_,_,.nil,h=>h
  | _,_,_,_,.cons r t,h=>.cons r (dZ.app t h)
end Ck
namespace Ck
open PySem L2
theorem mm (ns:List Int):(ns.map V.int).all jo=true:=by
  rw [List.all_eq_true]
  intro x hx
  obtain ⟨n,_,rfl⟩:=List.mem_map.mp hx
  rfl
end Ck
namespace Ck
open PySem L2
end Ck
set_option Elab.async false
set_option linter.all false
set_option maxRecDepth 100000
set_option maxHeartbeats 4000000
namespace Ck
open PySem L2
inductive St:List Int->Int->Prop
  | nil:St [] 0
  | snoc {rs:List Int} {a n:Int}:St rs a->a<=n->n<=(rs.length:Int)->St (rs++[n]) n
end Ck
set_option Elab.async false
set_option linter.all false
set_option maxRecDepth 100000
set_option maxHeartbeats 4000000
namespace Ck
open PySem L2
theorem clo_app:∀ (a:List Nat) (j k:Nat) (b:List Nat),clo j a=true->clo (k+j) (a++b)=clo k b
  | [],j,k,b,h=>by
    rw [iG] at h
    have:j=0:=by simpa using h
    subst this
    rfl
  | c::a,j,k,b,h=>by
    by_cases h1:c=40
    · subst h1
      rw [dU] at h
      rw [List.cons_append,dU]
      exact clo_app a (j+1) k b h
    · by_cases h2:c=41
      · subst h2
        cases j with
        | zero=>rw [dw] at h; cases h
        | succ j =>
          rw [cF] at h
          rw [List.cons_append]
          show clo (k+j+1) (41::_)=_
          rw [cF]
          exact clo_app a j k b h
      · rw [cR h1 h2] at h; cases h
theorem wu {a b:List Nat} (ha:clo 0 a=true) (hb:clo 0 b=true):clo 0 (40::(a++41::b))=true:=by
  rw [dU,clo_app a 0 1 _ ha,cF]
  exact hb
theorem pT:∀ (t:List Nat) (d:Nat),clo (d+1) t=true->∃ a b,t=a++41::b/\clo d a=true/\clo 0 b=true
  | [],d,h=>by rw [iG] at h; cases h
  | c::t,d,h=>by
    by_cases h1:c=40
    · subst h1
      rw [dU] at h
      obtain ⟨a,b,e,ha,hb⟩:=pT t (d+1) h
      exact ⟨40::a,b,by rw [e]; rfl,by rw [dU]; exact ha,hb⟩
    · by_cases h2:c=41
      · subst h2
        rw [cF] at h
        cases d with
        | zero=>exact ⟨[],t,rfl,by rw [iG]; rfl,h⟩
        | succ d =>
          obtain ⟨a,b,e,ha,hb⟩:=pT t d h
          exact ⟨41::a,b,by rw [e]; rfl,by rw [cF]; exact ha,hb⟩
      · rw [cR h1 h2] at h; cases h
theorem uH {t:List Nat} (h:clo 0 t=true) (hne:t≠[]):∃ a b,t=40::(a++41::b)/\clo 0 a=true/\clo 0 b=true:=by
  cases t with
  | nil=>exact absurd rfl hne
  | cons c t =>
    by_cases h1:c=40
    · subst h1
      rw [dU] at h
      obtain ⟨a,b,e,ha,hb⟩:=pT t 0 h
      exact ⟨a,b,by rw [e],ha,hb⟩
    · by_cases h2:c=41
      · subst h2; rw [dw] at h; cases h
      · rw [cR h1 h2] at h; cases h
theorem vt {a:List Nat} {p d:Nat} (hp:p < a.length) (h:clo d (a.drop p)=true):(a[p]=40/\clo (d+1) (a.drop (p+1))=true)\/(a[p]=41/\∃ e,d=e+1/\clo e (a.drop (p+1))=true):=by
  rw [List.drop_eq_getElem_cons hp] at h
  by_cases h1:a[p]=40
  · rw [h1,dU] at h; exact .inl ⟨h1,h⟩
  · by_cases h2:a[p]=41
    · rw [h2] at h
      cases d with
      | zero=>rw [dw] at h; cases h
      | succ d=>rw [cF] at h; exact .inr ⟨h2,d,rfl,h⟩
    · rw [cR h1 h2] at h; cases h
theorem jH {t:List Nat} (h:clo 0 t=true):t.length=2*t.count 40:=by
  obtain ⟨u,g⟩:=kl t 0 h
  have l:=g.length
  have c:t.count 40=u:=by
    obtain ⟨h',u',bg,_,e⟩:=ot (n:=u) (by simpa using g) t.length (Nat.le_refl _)
    have gd:Good u' (u'+h') (t.drop t.length):=by assumption
    rw [List.drop_length] at gd
    have:=gd.length
    rw [List.take_length] at e
    simp at this
    lia
  lia
end Ck
namespace Ck
open PySem L2
theorem zk (c:Nat):(if decide (V.str ⟨#[c]⟩=V.str (Str.ofString ")"))=true then (1:Int) else 0)=if c=41 then 1 else 0:=by
  rw [qJ]
  by_cases h:c=41<;>simp [h]
end Ck
set_option Elab.async false
set_option linter.all false
set_option maxRecDepth 100000
set_option maxHeartbeats 4000000
namespace L2
open PySem PySem.Spec PyProof.Rows
theorem gQ:bootBuiltins "sorted" = some (.builtin "sorted"):=by decide +kernel
theorem oy:∀ {us:List Value} {ns:List Int},IntsAre us ns->Vals (ns.map V.int) us
  | _,_,.nil=>.nil
  | _,_,.cons n t h=>.cons ⟨t,rfl⟩ (oy h)
section
variable {X:Cx}
theorem nh:eY X (.builtin "sorted") (fun xs H Q=>∃ (p:Addr) (ns:List Int),xs=[.ref p]/\aq X.K H p (ns.map V.int)/\ns.length < 64/\∀ (q:Addr) (ms:List Int),H q=none->ms.Perm ns->ms.Pairwise (·<=·)->Q (.ref q) (upd H q (.lst (ms.map V.int)))):=by
  intro pins s σ H xs us Q I r h
  obtain ⟨p,ns,rfl,hl,h64,q⟩:=h
  obtain ⟨u,rfl,ru⟩:=vals1 r
  cases ru
  obtain ⟨its,r',pl,hz⟩:=I.list hl
  have hi:IntsAre its ns:=intsAre_of r'
  refine sorted_ints pl.isList hi (by rw [hi.length]; exact h64) fun out ms ho hp hs=>?_
  obtain ⟨e,he⟩:=sortedAll_at s.heap its out
  have lm:(ms.map V.int).length<=sizeLine:=by rw [List.length_map,hp.length_eq]; exact sz (by lia)
  exact ⟨.ref _,_,I.laid (t':=s.toks) (o:=.lst (ms.map V.int)) (fun b u e=>sortedAll_old e) (Nat.le_succ _) ⟨lm,out.toList,e,oy ho,by simpa [seqObj] using he⟩,rfl,q _ ms (I.hok.fresh (Nat.le_succ _)) hp hs⟩
end
end L2
namespace Ck
open PySem L2
end Ck
set_option Elab.async false
set_option linter.all false
set_option maxRecDepth 100000
set_option maxHeartbeats 4000000
namespace L2
open PySem PySem.Spec PyProof.Rows PySem.W
noncomputable def pw {α:Type} (n:Nat) (lt:Nat->Nat->Bool):KasT α->(α->Prop)->Prop
  | .ret a,Q=>Q a
  | .ask i j k,Q=>i < n/\j < n/\pw n lt (k (lt i j)) Q
theorem jB {α β:Type} {n:Nat} {lt:Nat->Nat->Bool} {f:α->KasT β} {Q:β->Prop}:∀ {t:KasT α},pw n lt t (fun a=>pw n lt (f a) Q)->pw n lt (t.bind f) Q
  | .ret _,h=>h
  | .ask _ _ _,h=>⟨h.1,h.2.1,jB h.2.2⟩
theorem iC {α:Type} {n:Nat} {lt:Nat->Nat->Bool} {Q Q':α->Prop} (m:∀ a,Q a->Q' a):∀ {t:KasT α},pw n lt t Q->pw n lt t Q'
  | .ret a,h=>m a h
  | .ask _ _ _,h=>⟨h.1,h.2.1,iC m h.2.2⟩
theorem wZ {α:Type} {n:Nat} {lt:Nat->Nat->Bool} {Q:α->Prop} {s:Shared} {cmp:Nat->Nat->(Bool->Shared->Prop)->Shared->Prop}
    (hc:∀ (i j:Nat) (C:Bool->Shared->Prop),i < n->j < n->C (lt i j) s->cmp i j C s):∀ {t:KasT α},pw n lt t Q->t.kasWp cmp (fun a s'=>s'=s/\Q a) s
  | .ret _,h=>⟨rfl,h⟩
  | .ask i j k,h=>hc i j (fun b s'=>(k b).kasWp cmp (fun a s'=>s'=s/\Q a) s') h.1 h.2.1 (wZ hc h.2.2)
structure lB (lt:Nat->Nat->Bool):Prop where
  asym:∀ a b,lt a b=true->lt b a=false
  ntr:∀ a b c,lt b a=false->lt c b=false->lt c a=false
noncomputable abbrev gA (p:Array Nat) (k:Nat):Nat:=p.getD k 0
def eR (n:Nat) (p:Array Nat):Prop:=p.toList.Perm (List.range n)
theorem eR.size {n:Nat} {p:Array Nat} (h:eR n p):p.size=n:=by
  have:=h.length_eq
  rw [List.length_range] at this
  simpa using this
theorem eR.lt {n:Nat} {p:Array Nat} (h:eR n p) (hn:0 < n) (k:Nat):gA p k < n:=by
  unfold gA
  by_cases hk:k < p.size
  · have e:p.getD k 0=p[k]:=by simp [hk]
    rw [e]
    exact List.mem_range.mp (h.mem_iff.mp (Array.getElem_mem_toList hk))
  · have e:p.getD k 0=0:=by simp [hk]
    rw [e]; exact hn
theorem me {p:Array Nat} {i j:Nat} (hj:j<=p.size) (k:Nat):gA (kas_rev p i j) k=if i<=k/\k < j then gA p (i+j - 1 - k) else gA p k:=by
  unfold gA kas_rev
  rw [Array.getD_eq_getD_getElem?,getElem?_mirror_all hj k]
  split
  · rw [<- Array.getD_eq_getD_getElem?]
  · rw [<- Array.getD_eq_getD_getElem?]
theorem yv {p:Array Nat} {src d:Nat} (hs:src < p.size) (hd:d<=src) (k:Nat):gA (bubble p src d) k=if k=src - d then gA p src else if src - d < k/\k<=src then gA p (k - 1) else gA p k:=by
  unfold gA
  rw [Array.getD_eq_getD_getElem?,getElem?_bubble hs d hd k]
  split
  · simp [hs]
  · split
    · rw [<- Array.getD_eq_getD_getElem?]
    · rw [<- Array.getD_eq_getD_getElem?]
theorem eR.rev {n:Nat} {p:Array Nat} (h:eR n p) (i j:Nat):eR n (kas_rev p i j):=(Array.perm_iff_toList_perm.mp (mirror_perm p i j _)).trans h
theorem eR.bub {n:Nat} {p:Array Nat} (h:eR n p) (i j:Nat):eR n (bubble p i j):=(Array.perm_iff_toList_perm.mp (bubble_perm p i j)).trans h
section
variable {n:Nat} {lt:Nat->Nat->Bool} (O:lB lt)
def jg (lt:Nat->Nat->Bool) (p:Array Nat) (k:Nat):Prop:=∀ i j,i<=j->j < k->lt (gA p j) (gA p i)=false
def kK (lt:Nat->Nat->Bool) (p:Array Nat) (k:Nat):Prop:=∀ i j,i<=j->j < k->lt (gA p i) (gA p j)=false
def oo (lt:Nat->Nat->Bool) (a b:Nat):Prop:=lt a b=false/\lt b a=false
include O
theorem lB.irr (a:Nat):lt a a=false:=by
  cases h:lt a a with
  | false=>rfl
  | true=>exact h.symm.trans (O.asym a a h)
theorem lB.alk (a:Nat):oo lt a a:=⟨O.irr a,O.irr a⟩
theorem lB.alkT {a b c:Nat} (x:oo lt a b) (y:oo lt b c):oo lt a c:=⟨O.ntr c b a y.1 x.1,O.ntr a b c x.2 y.2⟩
theorem lB.up {a b c:Nat} (x:lt a b=true) (y:lt c b=false):lt a c=true:=by
  cases h:lt a c with
  | true=>rfl
  | false=>exact (x.symm.trans (O.ntr b c a y h)).symm▸rfl
theorem jg.one (p:Array Nat):jg lt p 1:=fun i j h1 h2=>by
  have e:i=j:=by lia
  subst e
  exact O.irr _
theorem kK.one (p:Array Nat):kK lt p 1:=fun i j h1 h2=>by
  have e:i=j:=by lia
  subst e
  exact O.irr _
theorem jg.snoc {p:Array Nat} {m:Nat} (h1:1<=m) (h:jg lt p m) (c:lt (gA p m) (gA p (m - 1))=false):jg lt p (m+1):=fun i j ij jm=>by
  by_cases hj:j < m
  · exact h i j ij hj
  · have e:j=m:=by lia
    subst e
    by_cases hi:i=j
    · subst hi; exact O.irr _
    · exact O.ntr _ _ _ (h i (j - 1) (by lia) (by lia)) c
theorem kK.snoc {p:Array Nat} {m:Nat} (h1:1<=m) (h:kK lt p m) (c:lt (gA p (m - 1)) (gA p m)=false):kK lt p (m+1):=fun i j ij jm=>by
  by_cases hj:j < m
  · exact h i j ij hj
  · have e:j=m:=by lia
    subst e
    by_cases hi:i=j
    · subst hi; exact O.irr _
    · exact O.ntr _ _ _ c (h i (j - 1) (by lia) (by lia))
theorem kK.alk {p p':Array Nat} {m:Nat} (h:kK lt p m) (e:∀ k,k < m->oo lt (gA p' k) (gA p k)):kK lt p' m:=fun i j ij jm =>
  O.ntr _ _ _ (e j jm).2 (O.ntr _ _ _ (h i j ij jm) (e i (by lia)).1)
theorem rB {p:Array Nat} (hp:eR n p) {N:Nat} (hN:N<=n):∀ (f m:Nat),1<=m->m+f=N->jg lt p m->pw n lt (kas_asc p f m) (fun r=>m<=r/\r<=N/\jg lt p r/\(r < N->lt (gA p r) (gA p (r - 1))=true))
  | 0,m,h1,h2,h=>⟨Nat.le_refl _,by lia,h,fun z=>absurd z (by lia)⟩
  | f+1,m,h1,h2,h=>by
    refine ⟨hp.lt (by lia) _,hp.lt (by lia) _,?_⟩
    show pw n lt (if lt (gA p m) (gA p (m - 1))=true then _ else _) _
    cases c:lt (gA p m) (gA p (m - 1)) with
    | true =>
      rw [if_pos rfl]
      exact ⟨Nat.le_refl _,by lia,h,fun _=>c⟩
    | false =>
      rw [if_neg (by decide)]
      exact iC (fun r hr=>⟨by lia,hr.2⟩) (rB hp hN f (m+1) (by lia) (by lia) (h.snoc O h1 c))
theorem mJ {N:Nat} (hN:N<=n):∀ (f:Nat) (p:Array Nat) (m q:Nat),eR n p->q+1<=m->m+f=N->kK lt p m->(∀ i,m - 1 - q<=i->i < m->oo lt (gA p i) (gA p (m - 1))) ->
    pw n lt (kas_desc f p m q) (fun r=>eR n r.1/\r.2.2+1<=r.2.1/\r.2.1<=N/\kK lt r.1 r.2.1/\∀ i,r.2.1 - 1 - r.2.2<=i->i < r.2.1->oo lt (gA r.1 i) (gA r.1 (r.2.1 - 1)))
  | 0,p,m,q,hp,hq,h2,h,al=>⟨hp,hq,by show m<=N; lia,h,al⟩
  | f+1,p,m,q,hp,hq,h2,h,al=>by
    have hs:=hp.size
    refine ⟨hp.lt (by lia) _,hp.lt (by lia) _,?_⟩
    show pw n lt (if lt (gA p m) (gA p (m - 1))=true then _ else _) _
    cases c:lt (gA p m) (gA p (m - 1)) with
    | true =>
      rw [if_pos rfl]
      by_cases q0:q > 0
      · rw [if_pos q0]
        have e:∀ k,gA (kas_rev p (m - (q+1)) m) k=if m - (q+1)<=k/\k < m then gA p (m - (q+1)+m - 1 - k) else gA p k:=fun k=>me (by lia) k
        have ek:∀ k,k < m->oo lt (gA (kas_rev p (m - (q+1)) m) k) (gA p k):=fun k hk=>by
          rw [e k]
          split
          · have z1:=al (m - (q+1)+m - 1 - k) (by lia) (by lia)
            have z2:=al k (by lia) hk
            exact O.alkT z1 ⟨z2.2,z2.1⟩
          · exact O.alk _
        have em:gA (kas_rev p (m - (q+1)) m) m=gA p m:=by rw [e m,if_neg (by lia)]
        refine mJ hN f _ (m+1) 0 (hp.rev _ _) (by lia) (by lia) ((h.alk O ek).snoc O (by lia) ?_) (fun i i1 i2=>?_)
        · rw [em]
          have:=(ek (m - 1) (by lia)).1
          exact O.ntr _ _ _ (O.asym _ _ c) this
        · have:i=m:=by lia
          subst this
          exact O.alk _
      · rw [if_neg q0]
        refine mJ hN f p (m+1) 0 hp (by lia) (by lia) (h.snoc O (by lia) (O.asym _ _ c)) (fun i i1 i2=>?_)
        have:i=m:=by lia
        subst this
        exact O.alk _
    | false =>
      rw [if_neg (by decide)]
      refine ⟨hp.lt (by lia) _,hp.lt (by lia) _,?_⟩
      show pw n lt (if lt (gA p (m - 1)) (gA p m)=true then _ else _) _
      cases d:lt (gA p (m - 1)) (gA p m) with
      | true =>
        rw [if_pos rfl]
        exact ⟨hp,hq,by show m<=N; lia,h,al⟩
      | false =>
        rw [if_neg (by decide)]
        refine mJ hN f p (m+1) (q+1) hp (by lia) (by lia) (h.snoc O (by lia) d) (fun i i1 i2=>?_)
        by_cases hi:i < m
        · exact O.alkT (al i (by lia) hi) ⟨d,c⟩
        · have:i=m:=by lia
          subst this
          exact O.alk _
def xZ (n:Nat) (lt:Nat->Nat->Bool) (N:Nat) (r:Nat × Array Nat):Prop:=eR n r.2/\jg lt r.2 r.1/\1<=r.1/\r.1<=N
theorem rh {N:Nat} (hN:N<=n) {p:Array Nat} {m:Nat} (hp:eR n p) (h1:1<=m) (hm:m<=N) (h:kK lt p m):pw n lt (kas_tail3 m N p) (xZ n lt N):=by
  have hs:=hp.size
  have e:∀ k,k < m->gA (kas_rev p 0 m) k=gA p (m - 1 - k):=fun k hk=>by
    rw [me (by lia),if_pos (by lia),Nat.zero_add]
  refine jB (iC (fun r hr=>?_) (rB O (hp.rev 0 m) hN (N - m) m h1 (by lia) (fun i j ij jm=>?_)))
  · exact ⟨hp.rev 0 m,hr.2.2.1,by show 1<=r; lia,hr.2.1⟩
  · rw [e i (by lia),e j jm]
    exact h _ _ (by lia) (by lia)
theorem ni {N:Nat} (hN:N<=n) {p:Array Nat} {m:Nat} (hp:eR n p) (h1:1<=m) (hm:m+1<=N) (h:kK lt p m) (c:lt (gA p m) (gA p (m - 1))=true):pw n lt (kas_descPart m N p) (xZ n lt N):=by
  refine jB (iC (fun r hr=>?_) (mJ O hN (N - (m+1)) p (m+1) 0 hp (by lia) (by lia) (h.snoc O h1 (O.asym _ _ c)) (fun i i1 i2=>?_)))
  · obtain ⟨p',m',q'⟩:=r
    obtain ⟨ok,hq,hl,fa,al⟩:=hr
    have hs:=ok.size
    dsimp only at hs hq hl fa al |-
    by_cases q0:q' > 0
    · rw [if_pos q0]
      refine rh O hN (ok.rev _ _) (by lia) hl (fa.alk O fun k hk=>?_)
      rw [me (by lia)]
      split
      · have z1:=al (m' - (q'+1)+m' - 1 - k) (by lia) (by lia)
        have z2:=al k (by lia) hk
        exact O.alkT z1 ⟨z2.2,z2.1⟩
      · exact O.alk _
    · rw [if_neg q0]
      exact rh O hN ok (by lia) hl fa
  · have:i=m:=by lia
    subst this
    exact O.alk _
theorem vR {N:Nat} (hN:N<=n) (hN1:1<=N) {p:Array Nat} (hp:eR n p):pw n lt (kas_count N p) (xZ n lt N):=by
  have hs:=hp.size
  refine jB (iC (fun m hm=>?_) (rB O hp hN (N - 1) 1 (Nat.le_refl _) (by lia) (jg.one O p)))
  obtain ⟨m1,mN,ri,st⟩:=hm
  by_cases e:m=N
  · subst e
    rw [if_pos (by simp)]
    exact ⟨hp,ri,m1,Nat.le_refl _⟩
  · rw [if_neg (by simpa using e)]
    have c:=st (by lia)
    by_cases m2:m > 1
    · rw [if_pos m2]
      refine ⟨hp.lt (by lia) _,hp.lt (by lia) _,?_⟩
      show pw n lt (if lt (gA p 0) (gA p (m - 1))=true then _ else _) _
      cases d:lt (gA p 0) (gA p (m - 1)) with
      | true =>
        rw [if_pos rfl]
        exact ⟨hp,ri,m1,mN⟩
      | false =>
        rw [if_neg (by decide)]
        have al:∀ i,i < m->oo lt (gA p i) (gA p 0):=fun i hi=>⟨ri 0 i (by lia) hi,O.ntr _ _ _ (ri i (m - 1) (by lia) (by lia)) d⟩
        have e:∀ k,k < m->gA (kas_rev p 0 m) k=gA p (m - 1 - k):=fun k hk=>by
          rw [me (by lia),if_pos (by lia),Nat.zero_add]
        refine ni O hN (hp.rev _ _) m1 (by lia) (fun i j ij jm=>?_) ?_
        · rw [e i (by lia),e j jm]
          have z1:=al (m - 1 - i) (by lia)
          have z2:=al (m - 1 - j) (by lia)
          exact (O.alkT z1 ⟨z2.2,z2.1⟩).1
        · rw [me (by lia),if_neg (by lia),e (m - 1) (by lia),show m - 1 - (m - 1)=0 by lia]
          exact O.up c d
    · rw [if_neg m2]
      have em:m=1:=by lia
      subst em
      exact ni O hN hp (Nat.le_refl _) (by lia) (kK.one O p) c
theorem nZ {p:Array Nat} (hp:eR n p) {k:Nat} (hk:k < n) (h:jg lt p k):∀ (f l r:Nat),l<=r->r<=k->r - l<=f->(∀ i,i < l->lt (gA p k) (gA p i)=false)->(∀ i,r<=i->i < k->lt (gA p k) (gA p i)=true) ->
    pw n lt (kas_place p k f l r) (fun l'=>l'<=k/\(∀ i,i < l'->lt (gA p k) (gA p i)=false)/\∀ i,l'<=i->i < k->lt (gA p k) (gA p i)=true)
  | 0,l,r,h1,h2,h3,a,b=>⟨by lia,a,fun i i1 i2=>b i (by lia) i2⟩
  | f+1,l,r,h1,h2,h3,a,b=>by
    show pw n lt (if l ≥ r then _ else _) _
    by_cases e:l ≥ r
    · rw [if_pos e]
      exact ⟨by lia,a,fun i i1 i2=>b i (by lia) i2⟩
    · rw [if_neg e]
      refine ⟨hp.lt (by lia) _,hp.lt (by lia) _,?_⟩
      show pw n lt (if lt (gA p k) (gA p ((l+r) / 2))=true then _ else _) _
      cases c:lt (gA p k) (gA p ((l+r) / 2)) with
      | true =>
        rw [if_pos rfl]
        exact nZ hp hk h f l ((l+r) / 2) (by lia) (by lia) (by lia) a fun i i1 i2=>O.up c (h _ i i1 i2)
      | false =>
        rw [if_neg (by decide)]
        exact nZ hp hk h f ((l+r) / 2+1) r (by lia) h2 (by lia) (fun i hi=>O.ntr _ _ _ (h i ((l+r) / 2) (by lia) (by lia)) c) b
theorem uR:∀ (f:Nat) (p:Array Nat) (k:Nat),eR n p->k+f=n->jg lt p k->pw n lt (kas_bin f p k) (fun p'=>eR n p'/\jg lt p' n)
  | 0,p,k,hp,hk,h=>by
    have:k=n:=by lia
    subst this
    exact ⟨hp,h⟩
  | f+1,p,k,hp,hk,h=>by
    have hs:=hp.size
    refine jB (iC (fun l hl=>?_) (nZ O hp (by lia) h k 0 k (by lia) (Nat.le_refl _) (by lia) (fun i hi=>absurd hi (by lia)) (fun i i1 i2=>absurd i1 (by lia))))
    obtain ⟨lk,lo,hi⟩:=hl
    refine uR f _ (k+1) (hp.bub _ _) (by lia) (fun i j ij jk=>?_)
    have e:=fun x=>yv (p:=p) (src:=k) (d:=k - l) (by lia) (by lia) x
    rw [e i,e j,show k - (k - l)=l by lia]
    by_cases j1:j=l
    · subst j1
      rw [if_pos rfl]
      by_cases i1:i=j
      · rw [if_pos i1]; exact O.irr _
      · rw [if_neg i1,if_neg (by lia)]
        exact lo i (by lia)
    · rw [if_neg j1]
      by_cases j2:l < j/\j<=k
      · rw [if_pos j2]
        by_cases i1:i=l
        · rw [if_pos i1]
          exact O.asym _ _ (hi (j - 1) (by lia) (by lia))
        · rw [if_neg i1]
          by_cases i2:l < i/\i<=k
          · rw [if_pos i2]
            exact h _ _ (by lia) (by lia)
          · rw [if_neg i2]
            exact h _ _ (by lia) (by lia)
      · rw [if_neg j2,if_neg (by lia),if_neg (by lia)]
        exact h _ _ ij (by lia)
theorem xJ (h2:1<=n):pw n lt (kas_sort n) (fun p=>eR n p/\jg lt p n):=by
  refine jB (iC (fun r hr=>?_) (vR O (Nat.le_refl n) h2 (p:=List.toArray (List.range n)) (by unfold eR; simp)))
  obtain ⟨m,p⟩:=r
  obtain ⟨ok,ri,m1,mn⟩:=hr
  dsimp only at ok ri m1 mn |-
  by_cases e:m < n
  · rw [if_pos e,Nat.max_eq_left m1]
    exact uR O (n - m) p m ok (by lia) ri
  · rw [if_neg e]
    have:m=n:=by lia
    subst this
    exact ⟨ok,ri⟩
end
end L2
set_option Elab.async false
set_option linter.all false
set_option maxRecDepth 100000
set_option maxHeartbeats 4000000
namespace L2
open PySem PySem.Spec PyProof.Rows PySem.W Ck
section
variable {prog:Program} {w:World} {A:Around} {E:Value->Shared->Prop} {s:Shared}
def tN (prog:Program) (w:World) (A:Around) (vs:List Value) (lt:Nat->Nat->Bool) (s1:Shared):Prop :=
  ∀ (Q:SortKind->Shared->Prop),(∀ κ,(∀ (i j:Nat) (C:Bool->Shared->Prop),i < vs.length->j < vs.length->C (lt i j) s1->kas_ask prog w A κ vs i j C s1)->Q κ s1)->wpAny (model prog w) A (keyKind' vs.toArray) Q (fun _ _=>False) s1
noncomputable def iP (vs:List Value) (p:Array Nat):List Value:=p.toList.map fun i=>vs.getD i Value.none
theorem uq (vs:List Value):iP vs (List.toArray (List.range vs.length))=vs:=by
  unfold iP
  refine List.ext_getElem (by simp) fun i h1 h2=>?_
  simp [h2]
theorem xU (vs:List Value):(vs.toArray.zip vs.toArray).map (·.2)=vs.toArray:=by
  refine Array.ext (by simp) fun i h1 h2=>?_
  simp
theorem wy {a:Addr} {vs:List Value} {n:Nat} {P:PySem.Fin->Shared->Prop} {lt:Nat->Nat->Bool} (O:lB lt) (ho:s.heap.get? a=some (seqObj "list" vs.toArray n)) (h64:vs.length < 64)
    (hk:∀ h6:Heap,(∀ b o,b≠a->s.heap.get? b=some o->h6.get? b=some o)->2<=vs.length->tN prog w A vs lt { s with heap:=h6 })
    (fin:∀ p:Array Nat,eR vs.length p->jg lt p vs.length->P (.done (.ret .none)) { s with heap:=sortedHeap s.heap a vs (iP vs p).toArray }):wpAny (model prog w) A (Builtin.«list.sort» ⟨[.ref a],[]⟩) P E s:=by
  have ha:a < s.heap.objs.size:=Heap.lt_size ho
  have hz:vs.length<=sizeLine:=by rw [sizeLine_eq]; lia
  obtain ⟨e1,ho1⟩:∃ e,(s.heap.update a (Obj.mapSeq fun _=>(#[]:Array Value))).get? a=some (seqObj "list" #[] e):=⟨_,get?_update_seq ho _⟩
  have keep:∀ b o,(s.heap.update a (Obj.mapSeq fun _=>(#[]:Array Value))).get? b=some o->(((s.heap.update a (Obj.mapSeq fun _=>(#[]:Array Value))).push (seqObj "tuple" vs.toArray 0)).push (seqObj "list" #[] 0)).get? b=some o:=fun b o e=>Heap.get?_push_of_some _ (Heap.get?_push_of_some _ e)
  have old:∀ b o,b≠a->s.heap.get? b=some o->(((s.heap.update a (Obj.mapSeq fun _=>(#[]:Array Value))).push (seqObj "tuple" vs.toArray 0)).push (seqObj "list" #[] 0)).get? b=some o:=fun b o hb e=>keep b o (by rw [Heap.get?_update_ne _ _ _ _ hb]; exact e)
  have ho6:=keep _ _ ho1
  rw [list_sort_plain]
  refine wpAny_bind (listItems_at ho rfl (wpAny_bind (listUpdate_at ho rfl (wpAny_bind (seqEpoch_at ho1 rfl (wpAny_bind (wpAny_newTuple (wpAny_bind (wpAny_newList (wpAny_holding ?_) (Nat.zero_le _))) hz)))) (by rw [List.size_toArray]; exact hz) (Nat.zero_le _))))
  show wpAny (model prog w) A _ P E { s with heap:=((s.heap.update a (Obj.mapSeq fun _=>(#[]:Array Value))).push (seqObj "tuple" vs.toArray 0)).push (seqObj "list" #[] 0) }
  dsimp only
  by_cases h2:vs.toArray.size < 2
  · rw [if_pos h2,if_pos h2]
    refine wpAny_bind (wpAny_pure ?_)
    rw [StateT.run_pure]
    refine wpAny_bind (wpAny_pure ?_)
    dsimp only
    have ez:(arrOf (SortSt.mk' general' (vs.toArray.zip vs.toArray) #[] 7 none)).map (·.2)=vs.toArray:=xU vs
    rw [ez]
    refine wpAny_bind (seqEpoch_at ho6 rfl (wpAny_bind (listUpdate_at ho6 rfl ?_ (Nat.zero_le _) (by rw [List.size_toArray]; lia))))
    simp only [bne_self_eq_false,Bool.false_eq_true,if_false]
    have f:=fin (List.toArray (List.range vs.length)) (by unfold eR; simp) (fun i j ij jl=>by
      rw [List.size_toArray] at h2
      have e:i=j:=by lia
      subst e
      exact O.irr _)
    rw [uq] at f
    exact wpAny_pure f
  · rw [if_neg h2,if_neg h2]
    rw [List.size_toArray] at h2
    refine wpAny_bind (wpAny_mono (hk _ old (by lia) _ fun κ ask=>?_) (fun _ _ q=>q) fun _ _ x=>x.elim)
    refine wpAny_bind (wpAny_mono (kat_run (ks:=vs) (Q:=fun st' s'=>∃ p:Array Nat,p.size=vs.length/\arrOf st'=p.map (kas_item (vs.toArray.zip vs.toArray))/\failedOf st'=none/\s'=_/\eR vs.length p/\jg lt p vs.length) rfl (by lia) h64
      (fun p' st' s' a1 a2 a3 a4=>⟨p',a1,a2,a3,a4⟩) (wZ ask (xJ O (by lia)))) ?_ fun _ _ e=>e)
    rintro ⟨⟨⟩,st'⟩ s' ⟨p,hp,har,hf,rfl,ok,ri⟩
    dsimp only
    rw [kat_snds rfl har]
    refine wpAny_bind (seqEpoch_at ho6 rfl (wpAny_bind (listUpdate_at ho6 rfl ?_ (Nat.zero_le _) (by rw [List.size_toArray,List.length_map,Array.length_toList,hp]; lia))))
    rw [hf]
    simp only [bne_self_eq_false,Bool.false_eq_true,if_false]
    exact wpAny_pure (fin p ok ri)
theorem oJ {l:Addr} {vs:List Value} {Q:Value->Shared->Prop} {lt:Nat->Nat->Bool} (O:lB lt) (hl:s.heap.IsList l vs.toArray) (h64:vs.length < 64)
    (hk:∀ h6:Heap,(∀ b o,s.heap.get? b=some o->h6.get? b=some o)->2<=vs.length->tN prog w A.in1.in1 vs lt { s with heap:=h6 })
    (fin:∀ p:Array Nat,eR vs.length p->jg lt p vs.length->Q (.ref (s.heap.objs.size+1)) { s with heap:=sortedAll s.heap vs (iP vs p).toArray }):wpAny (model prog w) A (call (.builtin "sorted") [.ref l]) Q E s:=by
  have hz:vs.length<=sizeLine:=by rw [sizeLine_eq]; lia
  have hsz:((s.heap.push (seqObj "list" #[] 0)).update s.heap.objs.size (Obj.mapSeq (·++vs.toArray))).objs.size=s.heap.objs.size+1:=by rw [Heap.size_update,size_push']
  have hoL:(((s.heap.push (seqObj "list" #[] 0)).update s.heap.objs.size (Obj.mapSeq (·++vs.toArray))).push (seqObj "list" vs.toArray 0)).get? (s.heap.objs.size+1)=some (seqObj "list" vs.toArray 0):=by rw [<- hsz]; exact Heap.get?_push_size _ rfl
  have keep:∀ b o,s.heap.get? b=some o->(((s.heap.push (seqObj "list" #[] 0)).update s.heap.objs.size (Obj.mapSeq (·++vs.toArray))).push (seqObj "list" vs.toArray 0)).get? b=some o:=fun b o q=>by
    have hlt:b < s.heap.objs.size:=Heap.lt_size q
    refine Heap.get?_push_of_some _ ?_
    rw [Heap.get?_update_ne _ _ _ _ (Nat.ne_of_lt hlt)]
    exact Heap.get?_push_of_some _ q
  refine Calls.call_function_entry kind_sorted plain_sorted entry_sorted (args_sorted1 _) ?_
  unfold Builtin.«sorted»
  refine wpAny_bind (m:=checkCount "sorted" 1 1 _) (wpAny_pure (wpAny_bind (collect_list hl (wpAny_bind (wpAny_newList ?_ hz)) hz)))
  show wpAny _ _ _ _ _ { s with heap:=((s.heap.push (seqObj "list" #[] 0)).update s.heap.objs.size (Obj.mapSeq (·++vs.toArray))).push (seqObj "list" vs.toArray 0) }
  rw [hsz]
  refine wpAny_bind (wpAny_holding (wpAny_call_entry slot_list_sort ⟨_,hoL,rfl⟩ entry_list_sort (wy (s:={ s with heap:=((s.heap.push (seqObj "list" #[] 0)).update s.heap.objs.size (Obj.mapSeq (·++vs.toArray))).push (seqObj "list" vs.toArray 0) }) O hoL h64 (fun h6 old=>hk h6 fun b o q=>old b o (Nat.ne_of_lt (Nat.lt_succ_of_lt (Heap.lt_size q))) (keep b o q)) fun p ok ri=>⟨_,rfl,?_⟩) (args_list_sort _)))
  exact wpAny_pure ⟨_,rfl,fin p ok ri⟩
noncomputable def qU (p q:Pair):Bool:=decide (p.1 < q.1) || (decide (p.1=q.1)&&decide (p.2 < q.2))
def e9 (p q:Pair):Prop:=p.1 < q.1\/(p.1=q.1/\p.2<=q.2)
theorem oN {p q:Pair}:qU q p=false↔e9 p q:=by
  unfold qU e9
  simp only [Bool.or_eq_false_iff,Bool.and_eq_false_iff,decide_eq_false_iff_not]
  lia
theorem xq {p q:Pair}:qU p q=true↔¬ e9 q p:=by
  rw [<- oN]
  simp
theorem Ag (ps:List Pair):lB fun i j=>qU (ps.getD i (0,0)) (ps.getD j (0,0)) where
  asym a b h:=by
    rw [xq] at h
    rw [oN]
    unfold e9 at h |-
    lia
  ntr a b c h1 h2:=by
    rw [oN] at h1 h2 |-
    unfold e9 at h1 h2 |-
    lia
def lQ (h:Heap) (vs:List Value) (ps:List Pair):Prop:=Paired (fun (v:Value) (p:Pair)=>∃ a t u,v = .ref a/\IsTup h a #[.int p.1 t,.int p.2 u]) vs ps
theorem lQ.get {h:Heap}:∀ {vs:List Value} {ps:List Pair},lQ h vs ps->∀ {i:Nat},i < vs.length->∃ a t u,vs.getD i Value.none = .ref a/\IsTup h a #[.int (ps.getD i (0,0)).1 t,.int (ps.getD i (0,0)).2 u]
  | _,_,.nil,i,e=>absurd e (by simp)
  | _,_,.cons r t,0,e=>r
  | _,_,.cons r t,i+1,e=>by
    have:=lQ.get t (i:=i) (by simpa using e)
    simpa using this
theorem lQ.tups {h:Heap}:∀ {vs:List Value} {ps:List Pair},lQ h vs ps->∃ fs:List Value,KatTups h vs fs/\fs.length=vs.length/\∀ v∈fs,∃ i t,v = .int i t
  | _,_,.nil=>⟨[],.nil,rfl,fun v hv=>by cases hv⟩
  | _,_,.cons (b:=p) r t=>by
    obtain ⟨fs,k,l,al⟩:=lQ.tups t
    obtain ⟨a,t',u,rfl,o,ho,hc,n,hd⟩:=r
    refine ⟨.int p.1 t'::fs,.cons ho hc hd rfl k,by simp [l],fun v hv=>?_⟩
    rcases List.mem_cons.mp hv with rfl | hv
    · exact ⟨_,_,rfl⟩
    · exact al v hv
theorem zg {vs:List Value} {ps:List Pair} {s1:Shared} (r:lQ s1.heap vs ps) (h2:2<=vs.length):tN prog w A vs (fun i j=>qU (ps.getD i (0,0)) (ps.getD j (0,0))) s1:=by
  intro Q q
  obtain ⟨fs,k,l,al⟩:=r.tups
  refine kat_kind (T:=.type "int") k (by lia) (fun v hv=>?_) (by decide) (q _ fun i j C hi hj hc=>?_)
  · obtain ⟨i,t,rfl⟩:=al v hv
    exact Looks.of_pure rfl
  · obtain ⟨a,t,u,e1,o1,g1,c1,n1,d1⟩:=r.get hi
    obtain ⟨b,t',u',e2,o2,g2,c2,n2,d2⟩:=r.get hj
    unfold kas_ask
    rw [e1,e2]
    have hc:C (qU (ps.getD i (0,0)) (ps.getD j (0,0))) s1:=hc
    generalize ps.getD i (0,0)=p at hc d1
    generalize ps.getD j (0,0)=q' at hc d2
    obtain ⟨x1,y1⟩:=p
    obtain ⟨x2,y2⟩:=q'
    unfold qU at hc
    dsimp only at hc d1 d2
    refine kat_lt g1 d1 g2 d2 (kat_cons (wpAny_eqBool_int ?_))
    by_cases ex:x1=x2
    · subst ex
      rw [show (x1 == x1)=true from by simp]
      refine kat_yes (kat_cons (wpAny_eqBool_int ?_))
      by_cases ey:y1=y2
      · subst ey
        rw [show (y1 == y1)=true from by simp]
        refine kat_yes (kat_nil ?_)
        have e:(decide (x1 < x1) || decide (x1=x1)&&decide (y1 < y1))=false:=by simp
        rw [e] at hc
        exact hc
      · rw [show (y1 == y2)=false from by simpa using ey]
        refine kat_no (kat_one _ _ (wpAny_lt_int ?_))
        have e:(decide (x1 < x1) || decide (x1=x1)&&decide (y1 < y2))=decide (y1 < y2):=by simp
        rw [e] at hc
        exact hc
    · rw [show (x1 == x2)=false from by simpa using ex]
      refine kat_no (oneLt_int ?_)
      have e:(decide (x1 < x2) || decide (x1=x2)&&decide (y1 < y2))=decide (x1 < x2):=by simp [ex]
      rw [e] at hc
      exact hc
end
section
variable {X:Cx}
theorem uu {pins:List (Addr × Obj)} {σ:St} {H:Hp} {s:Shared} (I:Inv X pins σ H s):∀ {us:List V} {ps:List Pair} {vs:List Value},dZ H us ps->Vals us vs->lQ s.heap vs ps
  | _,_,_,.nil,.nil=>.nil
  | _,_,_,.cons r t,.cons rv tv=>by
    obtain ⟨a,rfl,ha⟩:=r
    cases rv
    obtain ⟨its,r',tu,_⟩:=I.tuple (jh.of ha)
    refine .cons ⟨a,?_⟩ (uu I t tv)
    cases r' with
    | cons x1 r2 =>
      cases r2 with
      | cons x2 r3 =>
        cases r3
        obtain ⟨t1,rfl⟩:=x1
        obtain ⟨t2,rfl⟩:=x2
        exact ⟨t1,t2,rfl,tu⟩
theorem lQ.mono {h h':Heap} (k:∀ b o,h.get? b=some o->h'.get? b=some o):∀ {vs:List Value} {ps:List Pair},lQ h vs ps->lQ h' vs ps
  | _,_,.nil=>.nil
  | _,_,.cons r t=>by
    obtain ⟨a,t1,t2,e,o,ho,hc,n,hd⟩:=r
    exact .cons ⟨a,t1,t2,e,o,k _ _ ho,hc,n,hd⟩ (lQ.mono k t)
theorem gU {α β:Type} {R:α->β->Prop} {as:List α} {bs:List β} (h:Paired R as bs) (da:α) (db:β):∀ is:List Nat,(∀ i∈is,i < as.length)->Paired R (is.map fun i=>as.getD i da) (is.map fun i=>bs.getD i db)
  | [],_=>.nil
  | i::is,hi=>by
    refine .cons ?_ (gU h da db is fun j hj=>hi j (List.mem_cons_of_mem _ hj))
    have hl:=hi i (List.mem_cons_self ..)
    have go:∀ {as:List α} {bs:List β},Paired R as bs->∀ i,i < as.length->R (as.getD i da) (bs.getD i db):=by
      intro as bs h
      induction h with
      | nil=>intro i hi; simp at hi
      | cons r t ih =>
        intro i hi
        cases i with
        | zero=>simpa using r
        | succ i=>simpa using ih i (by simpa using hi)
    exact go h i hl
theorem lY {α:Type} (d:α) (l:List α) {is:List Nat} (h:is.Perm (List.range l.length)):(is.map fun i=>l.getD i d).Perm l:=by
  refine (h.map _).trans ?_
  have e:(List.range l.length).map (fun i=>l.getD i d)=l:=List.ext_getElem (by simp) fun i h1 h2=>by simp [h2]
  rw [e]
theorem qZ:eY X (.builtin "sorted") (fun xs H Q=>∃ (p:Addr) (ps:List Pair),xs=[.ref p]/\mY H p ps/\ps.length < 64/\∀ (q:Addr) (qs:List Pair) (H':Hp),ao H H'->H q=none->mY H' q qs->qs.Perm ps->qs.Pairwise e9->Q (.ref q) H'):=by
  intro pins s σ H xs us Q I r h
  obtain ⟨p,ps,rfl,⟨ws,hl,pr⟩,h64,q⟩:=h
  obtain ⟨u,rfl,ru⟩:=vals1 r
  cases ru
  obtain ⟨its,r',pl,hz⟩:=I.list (aq.of hl)
  have lw:=pr.length
  have li:ws.length=its.length:=r'.length
  have pv:=uu I pr r'
  refine oJ (Ag ps) pl.isList (by lia) (fun h6 old h2=>zg (s1:={ s with heap:=h6 }) (pv.mono old) h2) fun g ok ri=>?_
  obtain ⟨e,he⟩:=sortedAll_at s.heap its (iP its g).toArray
  have hb:∀ i∈g.toList,i < its.length:=fun i hi=>List.mem_range.mp (ok.mem_iff.mp hi)
  have lg:g.toList.length=its.length:=by rw [ok.length_eq,List.length_range]
  have hz2:(g.toList.map fun i=>ws.getD i V.non).length<=sizeLine:=by rw [List.length_map,lg]; exact sz (by lia)
  have vs2:Vals (g.toList.map fun i=>ws.getD i V.non) (iP its g):=gU r' V.non Value.none g.toList (fun i hi=>by rw [li]; exact hb i hi)
  have pr2:dZ H (g.toList.map fun i=>ws.getD i V.non) (g.toList.map fun i=>ps.getD i (0,0)):=gU pr V.non (0,0) g.toList (fun i hi=>by rw [li]; exact hb i hi)
  have fr:H (s.heap.objs.size+1)=none:=I.hok.fresh (Nat.le_succ _)
  refine ⟨.ref _,_,I.laid (t':=s.toks) (o:=.lst (g.toList.map fun i=>ws.getD i V.non)) (fun b u e=>sortedAll_old e) (Nat.le_succ _) ⟨hz2,iP its g,e,vs2,by simpa [seqObj] using he⟩,rfl,?_⟩
  refine q _ _ _ (ao.new (ao.refl H) fr _) fr ⟨_,ag,pr2.updN fr _⟩ (lY (0,0) ps (by rw [<- lw,li]; exact ok)) ?_
  rw [List.pairwise_map]
  have gs:g.size=its.length:=by rw [<- lg]; simp
  refine List.pairwise_iff_getElem.mpr fun i j hi hj hij=>?_
  have:=ri i j (by lia) (by rw [<- gs]; simpa using hj)
  rw [oN] at this
  unfold gA at this
  simpa [show i < g.size by simpa using hi,show j < g.size by simpa using hj] using this
end
end L2
set_option Elab.async false
set_option linter.all false
set_option maxRecDepth 100000
set_option maxHeartbeats 4000000
namespace L2
open PySem PySem.Spec PyProof.Rows PySem.W
section
variable {prog:Program} {w:World} {A:Around} {E:Value->Shared->Prop} {s:Shared} {R:Result->Shared->Prop} {d:Value} {it:Addr} {fp wr:List Addr} {n:Nat} {P:Nat->Value->Prop} {St:Nat->Heap->Prop}
end
section
variable {X:Cx} {e:Expr} {es:List Expr} {kws:List Keyword} {p pos:Pos} {t tk:TA} {x:Str} {id:String} {ks:List Str} {r:List V->List V->Hp->VK->Prop}
end
end L2
set_option Elab.async false
set_option linter.all false
set_option maxRecDepth 100000
set_option maxHeartbeats 4000000
namespace L2
open PySem PySem.Spec PyProof.Rows
section
variable {X:Cx}
end
end L2
namespace Ck
open PySem L2
def Cut (n:Nat) (p:Pair):Prop:=0<=p.1/\p.1+1 < p.2/\p.2<=(n:Int)+1/\¬ (p.1=0/\p.2=(n:Int)+1)
structure zE (n:Nat) (ps:List Pair):Prop where
  cut:∀ p∈ps,Cut n p
  ris:ps.Pairwise e9
  len:ps.length<=n
theorem v3 {p q:Pair} (h:e9 p q) (h':e9 q p):p=q:=by
  unfold e9 at h h'
  exact Prod.ext (by lia) (by lia)
theorem vx {ps qs:List Pair} (hp:ps.Pairwise e9) (hq:qs.Pairwise e9) (h:ps.Perm qs):ps=qs :=
  List.Perm.eq_of_pairwise (le:=e9) (fun _ _ _ _ h1 h2=>v3 h1 h2) hp hq h
noncomputable def zj (i j:Nat):List Pair:=(if i=0 then [] else [(0,(i:Int)+1)])++(if j=0 then [] else [((i:Int)+1,(i:Int)+(j:Int)+2)])
noncomputable def za (i j:Nat) (ps qs:List Pair):List Pair:=ps++zj i j++qs.map (up ((i:Int)+1))
section
variable {i j:Nat} {ps qs:List Pair} (hp:zE i ps) (hq:zE j qs)
include hp hq
variable {cs:List Pair} (hc:cs.Perm (za i j ps qs)) (hs:cs.Pairwise e9)
include hc hs
end
theorem Aw {a b:Int} (h:a≠b):¬ V.int a=V.int b:=fun z=>h (by injection z)
end Ck
set_option Elab.async false
set_option linter.all false
set_option maxRecDepth 100000
set_option maxHeartbeats 4000000
namespace Ck
open PySem L2
end Ck
set_option Elab.async false
set_option linter.all false
set_option maxRecDepth 100000
set_option maxHeartbeats 4000000
namespace Ck
open PySem L2
end Ck
namespace Ck
open PySem L2
noncomputable def steps (ws:List Int):List Int:=(List.range (ws.length - 1)).map fun (i:Nat)=>(ws.getD (i+1) 0 - ws.getD i 0) % ((ws.length:Int)+1)
end Ck
set_option Elab.async false
set_option linter.all false
set_option maxRecDepth 100000
set_option maxHeartbeats 4000000
namespace L2
open PySem PySem.W
end L2
namespace Ck
open PySem L2
theorem ne_int {a b:Int} (h:a≠b):¬ V.int a=V.int b:=fun z=>h (by injection z)
end Ck
namespace Ck
end Ck
set_option Elab.async false
set_option linter.all false
set_option maxRecDepth 100000
set_option maxHeartbeats 4000000
namespace Ck
open PySem L2
end Ck
namespace Ck
open PySem L2
theorem pN (a b:Int):decide (V.int a=V.int b)=decide (a=b):=by
  by_cases h:a=b
  · rw [decide_eq_true h,decide_eq_true (by rw [h])]
  · rw [decide_eq_false h,decide_eq_false (ne_int h)]
end Ck
namespace Ck
theorem qc {row:List Int} (nd:row.Nodup) {i j:Nat} {x:Int} (hi:row[i]? = some x) (hj:row[j]? = some x):i=j :=
  (List.getElem?_inj (List.getElem?_eq_some_iff.mp hi).1 nd).mp (hi.trans hj.symm)
end Ck
namespace Ck
open PySem L2
end Ck
set_option Elab.async false
set_option linter.all false
set_option maxRecDepth 100000
set_option maxHeartbeats 4000000
namespace L2
open PySem PySem.Spec PyProof.Rows
theorem rX:∀ {xs:List V} {us:List Value},us.length=xs.length->(∀ (j:Nat) v,us[j]? = some v->∃ x,xs[j]? = some x/\RelV x v)->Vals xs us
  | [],us,hl,_=>by
    have:us=[]:=List.eq_nil_of_length_eq_zero hl
    subst this
    exact .nil
  | x::xs,[],hl,_=>by simp at hl
  | x::xs,u::us,hl,k=>by
    obtain ⟨y,e1,r⟩:=k 0 u rfl
    have:x=y:=by simpa using e1
    subst this
    exact .cons r (rX (by simpa using hl) fun j w e=>by
      obtain ⟨y,f1,f2⟩:=k (j+1) w (by simpa using e)
      exact ⟨y,by simpa using f1,f2⟩)
noncomputable def iL (i:Int) (n:Nat):List V:=((List.range n).map fun (k:Nat)=>i+(k:Int)).map V.int
section
variable {X:Cx}
theorem list_range {pins:List (Addr × Obj)} {σ:St} {H:Hp} {s:Shared} {Q:VK} {lo hi:Int} {t u v:Tok} {tk:Nat} (hc:X.calm=true) (I:Inv X pins σ H s) (h1 : -(2 ^ 62)<=lo) (h2:lo < 2 ^ 62) (h3 : -(2 ^ 62)<=hi) (h4:hi < 2 ^ 62) (hz:(hi - lo).toNat<=1000000)
    (q:∀ l,H l=none->Q (.ref l) (upd H l (.lst (iL lo (hi - lo).toNat)))):wpAny (model X.prog X.w) X.A (call (.type "list") [.ref s.heap.objs.size]) (EP X pins σ Q) X.xe { s with heap:=s.heap.push { cls:=.type "range",data:=.fields #[.int lo t,.int hi u,.int 1 v] },toks:=tk }:=by
  have I1:Inv X pins σ H { s with heap:=s.heap.push { cls:=.type "range",data:=.fields #[.int lo t,.int hi u,.int 1 v] },toks:=tk }:=I.kept fun b o e=>Heap.get?_push_of_some _ e
  refine call_list_range (n:=(hi - lo).toNat) (I.ok.hd hc) (IsRange.new ..) (small_one h1 h2 h3 h4) (by rw [rangeSize_one]; split<;>lia) (by lia) fun h' tk' acc' c' hk he hacc=>?_
  have hl:acc'.toList.length=(iL lo (hi - lo).toNat).length:=by unfold iL; simpa using hacc.1
  refine ⟨.ref _,_,I1.laid (t':=tk') (o:=.lst (iL lo (hi - lo).toNat)) hk (Nat.le_refl _) ⟨?_,acc'.toList,c',rX hl fun j w e=>?_,he⟩,rfl,q _ (I1.hok.fresh (Nat.le_refl _))⟩
  · unfold iL
    rw [List.length_map,List.length_map,List.length_range]
    exact sz (by lia)
  · obtain ⟨t',e2⟩:=hacc.2 j w (by simpa using e)
    have hj:j < (hi - lo).toNat:=by
      have:=(List.getElem?_eq_some_iff.mp e).1
      rw [hl] at this
      unfold iL at this
      simpa using this
    refine ⟨.int (lo+(j:Int)),?_,t',by rw [e2,Int.mul_one]⟩
    unfold iL
    rw [List.getElem?_map,List.getElem?_map,List.getElem?_range hj]
    rfl
noncomputable def zP (ta:TA):TE:=fun σ H Q=>ta σ H fun vs H1=>∃ j:Int,vs=[.int j]/\-(2 ^ 62)<=j/\j < 2 ^ 62/\j.toNat<=1000000/\∀ l,H1 l=none->Q (.ref l) (upd H1 l (.lst (iL 0 j.toNat)))
theorem yh {a:Expr} {ta:TA} {p p2 pos pos2:Pos} (hc:X.calm=true) (hgl:Gl X "list") (hml:X.mg "list" = none) (hg:Gl X "range") (hm:X.mg "range" = none) (ha:PA X [a] ta) (hs:starEach [a] X.env=[(false,eval a X.env)]:=by rfl)
    (he:starEach [.Call (.Name "range" p) [a] [] pos] X.env=[(false,eval (.Call (.Name "range" p) [a] [] pos) X.env)]:=by rfl) :
    PE X (.Call (.Name "list" p2) [.Call (.Name "range" p) [a] [] pos] [] pos2) (zP ta):=by
  intro pins s σ H Q I h
  refine wpAny_Call_Name_kw (gm I hgl hml iH ?_ (by decide) (by decide))
  refine PyProof.Rows.callWith_type1 ?_ he rfl
  rw [he]
  show wpAny _ _ (spliced ((false,eval (.Call (.Name "range" p) [a] [] pos) X.env)::backTo pos2 [])) _ _ s
  refine Calls.spliced_cons (Call_ (gm I hg hm boot_range (PyProof.Rows.callWith_type1 (aE (ha pos pins s σ H _ I h) fun us s1 ⟨vs,H1,I1,r1,q1⟩=>?_) hs rfl)))
  obtain ⟨j,e,b1,b2,b3,q⟩:=q1
  subst e
  cases r1 with
  | cons r rr =>
    cases rr
    obtain ⟨t,rfl⟩:=r
    exact call_range_1 (Calls.spliced_nil (list_range hc I1 (by lia) (by lia) b1 b2 (by simpa using b3) (by simpa using q)))
end
end L2
namespace L2
open PySem PySem.Spec PyProof.Rows
end L2
namespace L2
open PySem PySem.Spec PyProof.Rows
theorem qF {X:Cx} {K:W.Frag} (hK:X.K=K):eY X (.builtin "len") (fun xs H Q=>∃ a ys,xs=[.ref a]/\(aq K H a ys\/jh K H a ys)/\Q (.int ys.length) H):=by
  subst hK
  exact aR
end L2
set_option Elab.async false
set_option linter.all false
set_option maxRecDepth 100000
set_option maxHeartbeats 4000000
namespace Ck
open PySem L2
noncomputable def d8 (n:Nat):List Int:=(List.range n).map fun (k:Nat)=>(k:Int)
theorem nW (n:Nat):d8 (n+1)=d8 n++[(n:Int)]:=by unfold d8; rw [List.range_succ,List.map_append]; rfl
theorem gO (n:Nat):(d8 n).length=n:=by unfold d8; simp
theorem gS {n:Nat} {m:Int}:m∈d8 n↔0<=m/\m < (n:Int):=by
  unfold d8
  rw [List.mem_map]
  constructor
  · rintro ⟨k,hk,rfl⟩
    have:=List.mem_range.mp hk
    lia
  · intro h
    exact ⟨m.toNat,List.mem_range.mpr (by lia),by lia⟩
theorem oA (n:Nat):(d8 n).Pairwise (· < ·):=by
  unfold d8
  rw [List.pairwise_map]
  exact List.pairwise_lt_range.imp fun h=>by lia
theorem xv {n k:Nat} (h:k < n):(d8 n)[k]? = some (k:Int):=by
  unfold d8
  rw [List.getElem?_map,List.getElem?_range h]
  rfl
noncomputable def eG (ns:List Int):Bool:=ns.isPerm (d8 ns.length)
theorem du (ns:List Int):eG ns=true↔ns.Perm (d8 ns.length):=List.isPerm_iff
theorem rS {ns ms:List Int} (hp:ms.Perm ns) (hs:ms.Pairwise (·<=·)):eG ns=decide (ms=d8 ns.length):=by
  rw [Bool.eq_iff_iff,du,decide_eq_true_iff]
  constructor
  · intro h
    exact List.Perm.eq_of_pairwise (le:=(·<=·)) (fun a b _ _ h1 h2=>Int.le_antisymm h1 h2) hs ((oA _).imp Int.le_of_lt) (hp.trans h)
  · intro h
    rw [<- h]
    exact hp.symm
noncomputable def lD (row:List Int) (k:Nat):Bool:=(List.range k).any fun i=>(List.range row.length).any fun j=>decide (k < j)&&(decide (row.getD k 0 < row.getD j 0)&&decide (row.getD j 0 < row.getD i 0))
theorem nB (row:List Int) (k:Nat):lD row k=true↔∃ i j:Nat,i < k/\k < j/\j < row.length/\row.getD k 0 < row.getD j 0/\row.getD j 0 < row.getD i 0:=by
  unfold lD
  rw [List.any_eq_true]
  constructor
  · rintro ⟨i,hi,h⟩
    rw [List.any_eq_true] at h
    obtain ⟨j,hj,h⟩:=h
    rw [Bool.and_eq_true,Bool.and_eq_true] at h
    exact ⟨i,j,List.mem_range.mp hi,of_decide_eq_true h.1,List.mem_range.mp hj,of_decide_eq_true h.2.1,of_decide_eq_true h.2.2⟩
  · rintro ⟨i,j,h1,h2,h3,h4,h5⟩
    refine ⟨i,List.mem_range.mpr h1,?_⟩
    rw [List.any_eq_true]
    refine ⟨j,List.mem_range.mpr h3,?_⟩
    rw [Bool.and_eq_true,Bool.and_eq_true]
    exact ⟨decide_eq_true h2,decide_eq_true h4,decide_eq_true h5⟩
noncomputable def nE (row:List Int):Bool:=(List.range row.length).all fun k=>!lD row k
noncomputable def g9 (row:List Int):Bool:=eG row&&nE row
theorem tI {row:List Int} {k:Nat} (hk:k < row.length) (h:lD row k=true):nE row=false:=by
  cases e:nE row with
  | false=>rfl
  | true =>
    have:=List.all_eq_true.mp e k (List.mem_range.mpr hk)
    rw [h] at this
    cases this
theorem qv {row:List Int} (h:∀ k,k < row.length->lD row k=false):nE row=true:=by
  unfold nE
  rw [List.all_eq_true]
  intro k hk
  rw [h k (List.mem_range.mp hk)]
  rfl
noncomputable def stk (row:List Int) (k p:Nat):List Int:=(d8 p).filter fun m=>!decide (m∈row.take k)
theorem pF {row:List Int} {k p:Nat} {m:Int}:m∈stk row k p↔(0<=m/\m < (p:Int))/\m∉row.take k:=by
  unfold stk
  rw [List.mem_filter,gS]
  simp
theorem yR (row:List Int) (k p:Nat):(stk row k p).Pairwise (· < ·):=(oA p).filter _
theorem vw {row:List Int} {k p:Nat} (h:(p:Int)∉row.take k):stk row k (p+1)=stk row k p++[(p:Int)]:=by
  unfold stk
  rw [nW,List.filter_append]
  simp [h]
theorem v5 {row:List Int} {k p:Nat} {x:Int} (hx:row[k]? = some x):stk row (k+1) p=(stk row k p).filter fun m=>!decide (m=x):=by
  unfold stk
  rw [List.filter_filter]
  refine List.filter_congr fun m _=>?_
  rw [List.take_add_one,hx]
  by_cases h1:m=x<;>by_cases h2:m∈row.take k<;>simp [h1,h2]
theorem sD {l0:List Int} {x:Int} (h:(l0++[x]).Pairwise (· < ·)):(l0++[x]).filter (fun m=>!decide (m=x))=l0:=by
  rw [List.filter_append]
  have e1:l0.filter (fun m=>!decide (m=x))=l0:=by
    rw [List.filter_eq_self]
    intro m hm
    have:=(List.pairwise_append.mp h).2.2 m hm x (by simp)
    simp
    lia
  rw [e1]
  simp
structure Off (row:List Int) (k p:Nat):Prop where
  below:∀ x∈row.take k,x < (p:Int)
  from_:p=0\/∃ x∈row.take k,(p:Int)=x+1
  fine:∀ j,j < k->lD row j=false
theorem Off.start (row:List Int):Off row 0 0:=⟨fun x hx=>by simp at hx,.inl rfl,fun j hj=>absurd hj (Nat.not_lt_zero _)⟩
theorem jW {row:List Int} {k:Nat} {y:Int} (h:y∈row.take k):∃ i,i < k/\row[i]? = some y:=by
  obtain ⟨i,hi,e⟩:=List.getElem_of_mem h
  rw [List.length_take] at hi
  refine ⟨i,by lia,?_⟩
  rw [List.getElem_take] at e
  rw [List.getElem?_eq_getElem (show i < row.length by lia),e]
theorem kq {row:List Int} {k:Nat} {y:Int} (h:row[k]? = some y):row.getD k 0=y:=by rw [List.getD_eq_getElem?_getD,h]; rfl
theorem Off.step {row:List Int} {k p p':Nat} {x:Int} (o:Off row k p) (hp:row.Perm (d8 row.length)) (hx:row[k]? = some x) (hp':(p':Int)=if (p:Int)<=x then x+1 else (p:Int)) :
    ∃ l0 t,stk row k p'=l0++[t]/\(t=x->l0=stk row (k+1) p'/\Off row (k+1) p')/\(t≠x->lD row k=true):=by
  have nd:row.Nodup:=hp.nodup_iff.mpr ((oA _).imp fun h=>Int.ne_of_lt h)
  have rng:∀ y∈row,0<=y/\y < (row.length:Int):=fun y hy=>gS.mp (hp.mem_iff.mp hy)
  have hk:k < row.length:=(List.getElem?_eq_some_iff.mp hx).1
  have xr:=rng x (List.mem_of_getElem? hx)
  have xn:x∉row.take k:=fun h=>by
    obtain ⟨i,hi,e⟩:=jW h
    have:=qc nd e hx
    lia
  have xp:x < (p':Int):=by rw [hp']; split<;>lia
  have pp:(p:Int)<=p':=by rw [hp']; split<;>lia
  have xs:x∈stk row k p':=pF.mpr ⟨⟨xr.1,xp⟩,xn⟩
  have hne:stk row k p'≠[]:=fun z=>by rw [z] at xs; cases xs
  have el:stk row k p'=(stk row k p').dropLast++[(stk row k p').getLast hne]:=(List.dropLast_concat_getLast hne).symm
  have pw:=yR row k p'
  generalize (stk row k p').dropLast=l0 at el
  generalize (stk row k p').getLast hne=t at el
  refine ⟨l0,t,el,fun e=>?_,fun e=>?_⟩
  · subst e
    have top:∀ m∈stk row k p',m<=t:=fun m hm=>by
      rw [el] at hm pw
      rcases List.mem_append.mp hm with z | z
      · have:=(List.pairwise_append.mp pw).2.2 m z t (by simp)
        lia
      · have:m=t:=by simpa using z
        lia
    refine ⟨?_,fun y hy=>?_,?_,fun j hj=>?_⟩
    · rw [v5 hx,el,sD (by rw [<- el]; exact pw)]
    · rw [List.take_add_one,hx] at hy
      rcases List.mem_append.mp hy with z | z
      · have:=o.below y z
        lia
      · have:y=t:=by simpa using z
        lia
    · have hm:t∈row.take (k+1):=by rw [List.take_add_one,hx]; simp
      by_cases c:(p:Int)<=t
      · rw [if_pos c] at hp'
        exact .inr ⟨t,hm,hp'⟩
      · rw [if_neg c] at hp'
        rcases o.from_ with z | ⟨y,hy,z⟩
        · lia
        · exact .inr ⟨y,by rw [List.take_add_one]; exact List.mem_append_left _ hy,by lia⟩
    · by_cases c:j=k
      · subst c
        cases hb:lD row j with
        | false=>rfl
        | true =>
          obtain ⟨i,m,h1,h2,h3,h4,h5⟩:=(nB row j).mp hb
          rw [kq hx] at h4
          have em:row[m]? = some (row.getD m 0):=by rw [List.getD_eq_getElem?_getD,List.getElem?_eq_getElem h3]; rfl
          have ei:row[i]? = some (row.getD i 0):=by rw [List.getD_eq_getElem?_getD,List.getElem?_eq_getElem (show i < row.length by lia)]; rfl
          have mi:row.getD i 0∈row.take j:=List.mem_of_getElem? (i:=i) (by rw [List.getElem?_take_of_lt h1]; exact ei)
          have b1:=o.below _ mi
          have b2:=rng _ (List.mem_of_getElem? em)
          have nm:row.getD m 0∉row.take j:=fun h=>by
            obtain ⟨i',hi',e'⟩:=jW h
            have:=qc nd e' em
            lia
          have:=top _ (pF.mpr ⟨⟨b2.1,by lia⟩,nm⟩)
          lia
      · exact o.fine j (by lia)
  · have ht:t∈stk row k p':=by rw [el]; simp
    obtain ⟨⟨t0,t1⟩,tn⟩:=pF.mp ht
    have xt:x < t:=by
      rw [el] at xs pw
      rcases List.mem_append.mp xs with z | z
      · exact (List.pairwise_append.mp pw).2.2 x z t (by simp)
      · have:x=t:=by simpa using z
        exact absurd this.symm e
    have c:¬ (p:Int)<=x:=fun c=>by rw [if_pos c] at hp'; lia
    rw [if_neg c] at hp'
    rcases o.from_ with z | ⟨y,hy,z⟩
    · lia
    · obtain ⟨i,hi,ei⟩:=jW hy
      have yr:=rng y (List.mem_of_getElem? ei)
      have ty:t≠y:=fun w=>tn (by rw [w]; exact hy)
      have tr:t∈row:=hp.mem_iff.mpr (gS.mpr ⟨t0,by lia⟩)
      obtain ⟨j,hj,ej⟩:=List.getElem_of_mem tr
      have ej':row[j]? = some t:=by rw [List.getElem?_eq_getElem hj,ej]
      have jk:k < j:=by
        by_cases h:j < k
        · exact absurd (List.mem_of_getElem? (i:=j) (by rw [List.getElem?_take_of_lt h]; exact ej')) tn
        · by_cases h2:j=k
          · subst h2
            rw [hx] at ej'
            exact absurd (Option.some.inj ej').symm e
          · lia
      exact (nB row k).mpr ⟨i,j,hi,jk,hj,by rw [kq hx,kq ej']; exact xt,by rw [kq ej',kq ei]; lia⟩
end Ck
namespace Ck
open PySem L2
theorem nO:∀ as bs:List Int,ng (as.map V.int) (bs.map V.int)=decide (as=bs)
  | [],[]=>rfl
  | [],b::bs=>rfl
  | a::as,[]=>rfl
  | a::as,b::bs=>by
    rw [List.map_cons,List.map_cons]
    show (nk (.int a) (.int b)&&ng (as.map V.int) (bs.map V.int))=_
    rw [nO as bs]
    have e:nk (.int a) (.int b)=decide (a=b):=by
      show (a == b)=_
      by_cases h:a=b
      · subst h; simp
      · simp [h]
    rw [e]
    by_cases h1:a=b<;>by_cases h2:as=bs<;>simp [h1,h2]
theorem qb (n:Nat):iL 0 n=(d8 n).map V.int:=by
  unfold iL d8
  refine congrArg (List.map V.int) (List.map_congr_left fun k _=>?_)
  show (0:Int)+(k:Int)=(k:Int)
  lia
end Ck
set_option Elab.async false
set_option linter.all false
set_option maxRecDepth 100000
set_option maxHeartbeats 4000000
namespace Ck
open PySem L2
noncomputable def Az (n:Nat):List Int:=(List.range n).map fun (k:Nat)=>1+(k:Int)
end Ck
namespace Ck
end Ck
namespace Ck
end Ck
set_option Elab.async false
set_option linter.all false
set_option maxRecDepth 100000
set_option maxHeartbeats 4000000
namespace L2
open PySem PySem.Spec PyProof.Rows PySem.SeqAt
section
variable {X:Cx}
theorem vU {K:W.Frag} (hK:X.K=K):wX X (yx K):=by
  subst hK
  exact mK
end
end L2
namespace Ck
open PySem L2
end Ck
namespace L2
open PySem
end L2
namespace Ck
open PySem L2
end Ck
set_option Elab.async false
set_option linter.all false
set_option maxRecDepth 100000
set_option maxHeartbeats 4000000
namespace L2
open PySem PySem.Spec PyProof.Rows
section
variable {X:Cx}
end
end L2
namespace Ck
open PySem L2
end Ck
namespace L2
open PySem PySem.Spec PyProof.Rows PyProof
end L2
set_option Elab.async false
set_option linter.all false
set_option maxRecDepth 100000
set_option maxHeartbeats 4000000
namespace Ck
open PySem L2
inductive Bt where
  | leaf
  | node (l r:Bt)
noncomputable def Bt.size:Bt->Nat
  | .leaf=>0
  | .node l r=>l.size+r.size+1
noncomputable def brk:Bt->List Nat
  | .leaf=>[]
  | .node l r=>40::(brk l++41::brk r)
theorem mI:∀ t:Bt,(brk t).length=2*t.size
  | .leaf=>rfl
  | .node l r=>by
    show (40::(brk l++41::brk r)).length=2*(l.size+r.size+1)
    rw [List.length_cons,List.length_append,List.length_cons,mI l,mI r]
    lia
theorem ph:∀ t:Bt,clo 0 (brk t)=true
  | .leaf=>rfl
  | .node l r=>wu (ph l) (ph r)
theorem uW (t:Bt):(brk t).count 40=t.size:=by
  have:=jH (ph t)
  rw [mI] at this
  lia
theorem o8:∀ (n:Nat) (x:List Nat),x.length<=n->clo 0 x=true->∃ t,brk t=x
  | 0,x,hn,_=>⟨.leaf,(List.eq_nil_of_length_eq_zero (by lia)).symm⟩
  | n+1,x,hn,h=>by
    by_cases hx:x=[]
    · exact ⟨.leaf,hx.symm⟩
    · obtain ⟨a,b,rfl,ha,hb⟩:=uH h hx
      rw [List.length_cons,List.length_append,List.length_cons] at hn
      obtain ⟨l,rfl⟩:=o8 n a (by lia) ha
      obtain ⟨r,rfl⟩:=o8 n b (by lia) hb
      exact ⟨.node l r,rfl⟩
noncomputable def pre (n j:Nat):Int:=((List.range j).map fun i=>sh i*sh (n - 1 - i)).sum
noncomputable def Tw (H:Hp):V->Bt->Prop
  | v,.leaf=>∃ p,v = .ref p/\H p=some (.tup [])
  | v,.node l r=>∃ p a b,v = .ref p/\H p=some (.tup [a,b])/\Tw H a l/\Tw H b r
end Ck
set_option Elab.async false
set_option linter.all false
set_option maxRecDepth 100000
set_option maxHeartbeats 4000000
namespace L2
open PySem PySem.Spec PyProof.Rows
section
variable {X:Cx}
variable {X:Cx} {o e:Expr} {es:List Expr} {to:TE} {t:TA} {name:Str} {apos cpos:Pos} {T id:String} {r:V->List V->Hp->VK->Prop}
theorem yt {K:W.Frag} (hK:X.K=K) (pa:PlainAttrs T) (slot:Slot T name id) (hty:typeOf (.builtin id)=pure (.type "method_descriptor")) (hm:yu X id r) (ho:PE X o to) (ha:PA X (e::es) t)
    (hbase:attributeBase o name X.env (eval o X.env)=eval o X.env:=by rfl)
    (hfew:((backTo cpos (starEach (e::es) X.env)).all (fun x=>!x.1)&&(backToKw cpos (keywordEach [] X.env)).all (fun x=>x.1.isSome)
      && decide ((e::es).length+([]:List Keyword).length+(if ([]:List Keyword).isEmpty then 0 else 1) < 30))=true:=by rfl)
    (hline:(apos.endLine == cpos.line)=true:=by rfl) (hs:starEach (e::es) X.env=(false,eval e X.env)::starEach es X.env:=by rfl) (hplain:(backTo cpos (starEach es X.env)).any (·.1)=false:=by rfl) :
    PE X (.Call (.Attribute o name apos) (e::es) [] cpos) (zG K T r to t):=by
  subst hK
  exact cL pa slot hty hm ho ha hbase hfew hline hs hplain
end
section
variable {X:Cx}
end
theorem m6 {lo:Int} {n:Nat} {g:TG} {tt:TT} {te:TE} {σ0:St} {H:Hp} {D:Addr} {Q:VK} (Pv:Nat->List V->Hp->Prop) (hz:n<=sizeLine)
    (h0:Pv 0 [] (upd H D (.lst []))) (hl:∀ i ys H',i<=n->Pv i ys H'->ys.length<=i)
    (hs:∀ (i:Nat) (ys:List V) (H':Hp) (R:VK) (R0:Hp->Prop),i < n->Pv i ys H'->(∀ v H3,H3 D=some (.lst ys)->Pv (i+1) (ys++[v]) (upd H3 D (.lst (ys++[v])))->R v H3)->(∀ H3,Pv (i+1) ys H3->R0 H3) ->
      g (.int (lo+i)) σ0 H' fun σ2 H2=>Ext σ0 σ2/\tt σ2 H2 fun b H3=>if b=true then te σ2 H3 R else R0 H3)
    (hq:∀ ys H',Pv n ys H'->Q (.ref D) H') :
    qH (qa lo n) g tt te σ0 D Q H:=by
  refine ⟨fun i m ys H'=>m=n - i/\i<=n/\Pv i ys H',⟨n,by simp,Nat.zero_le _,h0⟩,?_⟩
  rintro i m ys H' ⟨rfl,hi,p⟩
  have ly:=hl i ys H' hi p
  by_cases hlt:i < n
  · refine .inr ⟨hlt,fun x H'' y=>?_⟩
    obtain ⟨e,y⟩:=y
    subst e y
    refine hs i ys _ _ _ hlt p (fun v H3 hD p'=>⟨hD,by lia,n - (i+1),by lia,rfl,hlt,p'⟩) fun H3 p'=>⟨n - (i+1),by lia,rfl,hlt,p'⟩
  · have e:i=n:=by lia
    subst e
    exact .inl ⟨Nat.le_refl _,hq ys H' p⟩
end L2
namespace Ck
open PySem L2
theorem dI.void {K:W.Frag} {H:Hp} {n:Nat} {a b:Addr} {xs:List V} (ne:a≠b) (ha:aq K H a xs) (hb:aq K H b []):dI K H (n+1) (.ref a) (.ref b) (decide (xs=[])):=by
  cases xs with
  | nil=>exact dI.lstT ne ha hb rfl (fun j x y hx _=>by cases hx)
  | cons x xs=>exact dI.lstN ne ha hb (by simp)
noncomputable def Ay (ts:List Bt):Nat:=(ts.map Bt.size).sum
end Ck
set_option Elab.async false
set_option linter.all false
set_option maxRecDepth 100000
set_option maxHeartbeats 4000000
namespace Lg
open PySem PyProof.Rows
section
variable {prog:Program} {w:World} {A:Around} {E:Value->Shared->Prop} {s:Shared}
end
noncomputable abbrev key (p:Keyed):Int:=numOf p.1
variable {a b out:Array Keyed} {ia ib:Nat}
section
variable {prog:Program} {w:World} {A:Around} {E:Value->Shared->Prop} {s:Shared}
end
variable {na nb:Nat}
section
variable {prog:Program} {w:World} {A:Around} {E:Value->Shared->Prop} {s:Shared}
end
section
variable {prog:Program} {w:World} {A:Around} {E:Value->Shared->Prop} {s:Shared}
end
structure SB (a₀:Array Keyed) (P:Array (Nat × Nat × Nat)) (st:SortSt):Prop where
  perm:(arrOf st).Perm a₀
  kind:kindOf st=oneType'
  failed:failedOf st=none
  pend:pendingOf st=P
section
variable {prog:Program} {w:World} {A:Around} {E:Value->Shared->Prop} {s:Shared} {a₀:Array Keyed} {P:Array (Nat × Nat × Nat)}
end
section
variable {prog:Program} {w:World} {A:Around} {E:Value->Shared->Prop} {s:Shared} {a₀:Array Keyed} {P:Array (Nat × Nat × Nat)}
end
section
variable {prog:Program} {w:World} {A:Around} {E:Value->Shared->Prop} {s:Shared} {a₀:Array Keyed}
end
section
variable {prog:Program} {w:World} {A:Around} {E:Value->Shared->Prop} {s:Shared}
end
end Lg
namespace L2
open PySem PySem.Spec PyProof.Rows
end L2
set_option Elab.async false
set_option linter.all false
set_option maxRecDepth 100000
set_option maxHeartbeats 4000000
namespace L2
open PySem PySem.Spec PyProof.Rows
section
variable {X:Cx} {tg:Expr}
end
section
variable {X:Cx} {a b c d:Expr} {ta tb tc td:TE} {pos:Pos}
noncomputable def z6 (r1 r2 r3:R2) (ta tb tc td:TE):TE:=fun σ H Q=>ta σ H fun x H1=>tb σ H1 fun y H2=>r1 x y H2 fun z H3=>∃ k,z = .bl k /\
  (if k=true then tc σ H3 fun w' H4=>r2 y w' H4 fun z' H5=>∃ k',z' = .bl k'/\(if k'=true then td σ H5 fun v' H6=>r3 w' v' H6 Q else Q (.bl false) H5) else Q (.bl false) H3)
theorem yk {o1 o2 o3:CmpOp} {r1 r2 r3:R2} (h1:eA X (compareOp o1) r1) (h2:eA X (compareOp o2) r2) (h3:eA X (compareOp o3) r3) (ha:PE X a ta) (hb:PE X b tb) (hc:PE X c tc) (hd:PE X d td)
    (hm:lastMarks [o1,o2,o3] [b,c,d]=false:=by with_unfolding_all rfl):PT X (.Compare a [o1,o2,o3] [b,c,d] pos) (wN (z6 r1 r2 r3 ta tb tc td)):=by
  intro pins s σ H Q I h
  refine isTrue_chain (aE (ha pins s σ H _ I h) fun v s1 ⟨x,H1,I1,x1,q1⟩=>test_link (aE (hb pins s1 σ H1 _ I1 q1) fun u s2 ⟨y,H2,I2,x2,q2⟩ =>
    aE (h1 pins s2 σ H2 x y v u _ I2 x1 x2 q2) fun e s3 ⟨z,H3,I3,x3,k,ek,q3⟩=>?_)) hm
  subst ek
  cases x3
  refine wpAny_truthy_bool ?_
  cases k with
  | false =>
    obtain ⟨k',e',q'⟩:=q3
    cases e'
    exact ite_ff ⟨H3,I3,q'⟩
  | true =>
    refine ite_tt (test_link (aE (hc pins s3 σ H3 _ I3 q3) fun w' s4 ⟨z',H4,I4,x4,q4⟩=>aE (h2 pins s4 σ H4 y z' u w' _ I4 x2 x4 q4) fun d' s5 ⟨z2,H5,I5,x5,k2,e2,q5⟩=>?_))
    subst e2
    cases x5
    refine wpAny_truthy_bool ?_
    cases k2 with
    | false =>
      obtain ⟨k',e',q'⟩:=q5
      cases e'
      exact ite_ff ⟨H5,I5,q'⟩
    | true =>
      refine ite_tt (test_last (aE (hd pins s5 σ H5 _ I5 q5) fun w2 s6 ⟨z3,H6,I6,x6,q6⟩=>aE (h3 pins s6 σ H6 z' z3 w' w2 _ I6 x4 x6 q6) fun d2 s7 ⟨z4,H7,I7,x7,k3,e3,q7⟩=>?_))
      subst e3
      cases x7
      exact wpAny_truthy_bool ⟨H7,I7,q7⟩
end
end L2
namespace Ck
open PySem L2
end Ck
namespace Ck
open PySem L2
noncomputable def bI:List Pair->List Int
  | []=>[]
  | p::ps=>p.1::p.2::bI ps
theorem qe:∀ ps:List Pair,(bI ps).length=2*ps.length
  | []=>rfl
  | p::ps=>by
    show (bI ps).length+1+1=2*(ps.length+1)
    have:=qe ps
    lia
theorem p9:∀ ps qs:List Pair,bI (ps++qs)=bI ps++bI qs
  | [],qs=>rfl
  | p::ps,qs=>by
    show p.1::p.2::bI (ps++qs)=_
    rw [p9 ps qs]
    rfl
theorem gR {x:Int}:∀ {ps:List Pair},x∈bI ps↔∃ p∈ps,x=p.1\/x=p.2
  | []=>by simp [bI]
  | p::ps=>by
    show x∈p.1::p.2::bI ps↔_
    rw [List.mem_cons,List.mem_cons,gR (ps:=ps)]
    constructor
    · rintro (h | h | ⟨r,hr,h⟩)
      · exact ⟨p,List.mem_cons_self ..,.inl h⟩
      · exact ⟨p,List.mem_cons_self ..,.inr h⟩
      · exact ⟨r,List.mem_cons_of_mem _ hr,h⟩
    · rintro ⟨r,hr,h⟩
      rcases List.mem_cons.mp hr with rfl | hr
      · rcases h with h | h
        · exact .inl h
        · exact .inr (.inl h)
      · exact .inr (.inr ⟨r,hr,h⟩)
noncomputable abbrev iV (ps:List Pair) (k:Nat):Int:=(ps.getD k (0,0)).1
noncomputable abbrev wH (ps:List Pair) (k:Nat):Int:=(ps.getD k (0,0)).2
noncomputable def wK (ps:List Pair) (k:Nat):Bool:=decide (iV ps k < wH ps k)&&(decide (k=0) || decide (iV ps (k - 1) < iV ps k))
noncomputable def ki (p r:Pair):Bool:=decide (p.1 < r.1)&&(decide (r.1 < p.2)&&decide (p.2 < r.2))
noncomputable def d9 (ps:List Pair):Bool:=ps.any fun p=>ps.any (ki p)
noncomputable def md (ps:List Pair):Bool:=(List.range ps.length).all (wK ps)&&(eG (bI ps)&&!d9 ps)
theorem sZ {ps:List Pair}:(List.range ps.length).all (wK ps)=true↔∀ k,k < ps.length->iV ps k < wH ps k/\(k=0\/iV ps (k - 1) < iV ps k):=by
  rw [List.all_eq_true]
  constructor
  · intro h k hk
    have:=h k (List.mem_range.mpr hk)
    unfold wK at this
    simpa using this
  · intro h k hk
    have:=h k (List.mem_range.mp hk)
    unfold wK
    simpa using this
theorem uB {ps:List Pair} {k:Nat} (h:k < ps.length):ps.getD k (0,0)∈ps:=by
  rw [List.getD_eq_getElem?_getD,List.getElem?_eq_getElem h]
  exact List.getElem_mem h
theorem u5 {ps:List Pair} (h:(bI ps).Nodup):ps.Pairwise fun p q=>p.1≠q.1:=by
  induction ps with
  | nil=>exact .nil
  | cons p ps ih =>
    have h':(p.1::p.2::bI ps).Nodup:=h
    rw [List.nodup_cons,List.nodup_cons] at h'
    refine .cons (fun q hq e=>h'.1 ?_) (ih h'.2.2)
    rw [e]
    exact List.mem_cons_of_mem _ (gR.mpr ⟨q,hq,.inl rfl⟩)
theorem ku (n:Nat):(d8 n).Nodup:=(oA n).imp fun h=>Int.ne_of_lt h
theorem hV {ps:List Pair}:d9 ps=true↔∃ p∈ps,∃ r∈ps,p.1 < r.1/\r.1 < p.2/\p.2 < r.2:=by
  unfold d9
  rw [List.any_eq_true]
  constructor
  · rintro ⟨p,hp,h⟩
    obtain ⟨r,hr,h⟩:=List.any_eq_true.mp h
    unfold ki at h
    exact ⟨p,hp,r,hr,by simpa using h⟩
  · rintro ⟨p,hp,r,hr,h⟩
    exact ⟨p,hp,List.any_eq_true.mpr ⟨r,hr,by unfold ki; simpa using h⟩⟩
end Ck
set_option Elab.async false
set_option linter.all false
set_option maxRecDepth 100000
set_option maxHeartbeats 4000000
namespace L2
open PySem PySem.Spec PyProof.Rows
section
variable {X:Cx}
end
section
variable {X:Cx}
end
end L2
namespace Ck
open PySem L2
noncomputable def Dp (c:List Nat) (j:Nat):Int:=(j:Int) - 2*((c.take j).count 41:Nat)
theorem xa (c:List Nat):Dp c 0=0:=by unfold Dp; simp
theorem mR {c:List Nat} {j:Nat} (h:j < c.length):Dp c (j+1)=Dp c j+1 - 2*(if c.getD j 0=41 then 1 else 0):=by
  unfold Dp
  have e:c.getD j 0=c[j]:=by rw [List.getD_eq_getElem?_getD,List.getElem?_eq_getElem h]; rfl
  rw [List.take_add_one,List.getElem?_eq_getElem h,List.count_append,e]
  have:((some c[j]).toList).count 41=if c[j]=41 then 1 else 0:=by
    show [c[j]].count 41=_
    rw [List.count_singleton]
    by_cases z:c[j]=41<;>simp [z]
  rw [this]
  split<;>lia
noncomputable def bN (c:List Nat) (k:Nat):Int:=match (List.range c.length).find? (fun j=>decide (k<=j)&&decide (Dp c (j+1)=Dp c k)) with
  | some j=>(j:Int)
  | none=>-1
theorem sM {c:List Nat} {k j:Nat} (hk:k<=j) (hj:j < c.length) (h:Dp c (j+1)=Dp c k) (before:∀ m,k<=m->m < j->Dp c (m+1)≠Dp c k):bN c k=(j:Int):=by
  have:(List.range c.length).find? (fun j=>decide (k<=j)&&decide (Dp c (j+1)=Dp c k))=some j:=by
    rw [List.find?_range_eq_some]
    refine ⟨by simp [hk,h],List.mem_range.mpr hj,fun m hm=>?_⟩
    by_cases z:k<=m
    · have:=before m z hm
      simp [this]
    · simp [z]
  unfold bN
  rw [this]
theorem xH {c:List Nat} {k:Nat} (h:∀ m,k<=m->m < c.length->Dp c (m+1)≠Dp c k):bN c k = -1:=by
  have:(List.range c.length).find? (fun j=>decide (k<=j)&&decide (Dp c (j+1)=Dp c k))=none:=by
    rw [List.find?_eq_none]
    intro m hm
    by_cases z:k<=m
    · have:=h m z (List.mem_range.mp hm)
      simp [this]
    · simp [z]
  unfold bN
  rw [this]
noncomputable def a8 (c:List Nat) (i:Nat):List Pair:=(List.range i).filterMap fun k=>if c.getD k 0=40 then some ((k:Int),bN c k) else none
theorem gw (c:List Nat) (i:Nat):a8 c (i+1)=a8 c i++(if c.getD i 0=40 then [((i:Int),bN c i)] else []):=by
  unfold a8
  rw [List.range_succ,List.filterMap_append]
  congr 1
  by_cases h:c.getD i 0=40
  · rw [if_pos h,List.filterMap_cons_some (by rw [if_pos h]),List.filterMap_nil]
  · rw [if_neg h,List.filterMap_cons_none (by rw [if_neg h]),List.filterMap_nil]
theorem rH (c:List Nat) (i:Nat):(a8 c i).Pairwise fun p q=>p.1 < q.1:=by
  unfold a8
  refine List.Pairwise.filterMap _ ?_ List.pairwise_lt_range
  intro a b hab p hp q hq
  by_cases ha:c.getD a 0=40
  · by_cases hb:c.getD b 0=40
    · rw [if_pos ha] at hp
      rw [if_pos hb] at hq
      injection hp with hp
      injection hq with hq
      subst hp; subst hq
      show (a:Int) < (b:Int)
      lia
    · rw [if_neg hb] at hq
      cases hq
  · rw [if_neg ha] at hp
    cases hp
theorem ko {c:List Nat} {i:Nat} {p:Pair}:p∈a8 c i↔∃ k,k < i/\c.getD k 0=40/\p=((k:Int),bN c k):=by
  unfold a8
  rw [List.mem_filterMap]
  constructor
  · rintro ⟨k,hk,h⟩
    by_cases ha:c.getD k 0=40
    · rw [if_pos ha] at h
      injection h with h
      exact ⟨k,List.mem_range.mp hk,ha,h.symm⟩
    · rw [if_neg ha] at h
      cases h
  · rintro ⟨k,hk,ha,rfl⟩
    exact ⟨k,List.mem_range.mpr hk,by rw [if_pos ha]⟩
structure Wk (c:List Nat) (i:Nat) (fd:List Pair) (sk:List Int):Prop where
  prm:(fd++sk.map fun k=>(k,bN c k.toNat)).Perm (a8 c i)
  flt:(bI fd++sk).Perm (d8 i)
  dep:(sk.length:Int)=Dp c i
  stk:∀ (s:Nat) (k:Int),sk[s]? = some k->0<=k/\k < (i:Int)/\Dp c k.toNat=(s:Int)/\∀ j,k.toNat<=j->j < i->(s:Int) < Dp c (j+1)
  prs:∀ p∈fd,0<=p.1/\p.1 < p.2/\p.2 < (i:Int)/\Dp c (p.2.toNat+1)=Dp c p.1.toNat/\∀ j:Nat,p.1.toNat<=j->(j:Int) < p.2->Dp c p.1.toNat < Dp c (j+1)
theorem Wk.nil (c:List Nat):Wk c 0 [] []:=⟨.nil,.nil,by rw [xa]; rfl,fun s k h=>by simp at h,fun p hp=>by cases hp⟩
theorem Wk.up {c:List Nat} {i:Nat} {fd:List Pair} {sk:List Int} (w:Wk c i fd sk) (hi:i < c.length) (h:c.getD i 0=40):Wk c (i+1) fd (sk++[(i:Int)]):=by
  have hD:=mR hi
  rw [h] at hD
  simp at hD
  refine ⟨?_,?_,?_,?_,?_⟩
  · rw [gw,if_pos h,List.map_append,<- List.append_assoc]
    have:[(i:Int)].map (fun k=>(k,bN c k.toNat))=[((i:Int),bN c i)]:=by simp
    rw [this]
    exact w.prm.append_right _
  · rw [nW,<- List.append_assoc]
    exact w.flt.append_right _
  · rw [List.length_append,hD,<- w.dep]
    simp
  · intro s k hk
    by_cases e:s < sk.length
    · rw [List.getElem?_append_left e] at hk
      obtain ⟨h1,h2,h3,h4⟩:=w.stk s k hk
      refine ⟨h1,by lia,h3,fun j hj hji=>?_⟩
      by_cases ej:j=i
      · subst ej
        have:=w.dep
        lia
      · exact h4 j hj (by lia)
    · rw [List.getElem?_append_right (by lia)] at hk
      have es:s=sk.length:=by
        have:=(List.getElem?_eq_some_iff.mp hk).1
        simp at this
        lia
      subst es
      have ek:(i:Int)=k:=by simpa using hk
      subst ek
      refine ⟨by lia,by lia,?_,fun j hj hji=>?_⟩
      · rw [show ((i:Nat):Int).toNat=i by lia,w.dep]
      · have:j=i:=by lia
        subst this
        have:=w.dep
        lia
  · intro p hp
    obtain ⟨h1,h2,h3,h4,h5⟩:=w.prs p hp
    exact ⟨h1,h2,by lia,h4,h5⟩
theorem Wk.down {c:List Nat} {i:Nat} {fd:List Pair} {sk:List Int} {m:Int} (w:Wk c i fd (sk++[m])) (hi:i < c.length) (h:c.getD i 0=41):Wk c (i+1) (fd++[(m,(i:Int))]) sk:=by
  have hD:=mR hi
  rw [if_pos h] at hD
  obtain ⟨m0,m1,m2,m3⟩:=w.stk sk.length m (by simp)
  have dep:=w.dep
  rw [List.length_append] at dep
  have dep':(sk.length:Int)+1=Dp c i:=by simpa using dep
  have hm:bN c m.toNat=(i:Int):=sM (by lia) hi (by lia) (fun j hj hji=>by have:=m3 j hj hji; lia)
  refine ⟨?_,?_,by lia,?_,?_⟩
  · rw [gw,if_neg (by rw [h]; decide),List.append_nil]
    have p:=w.prm
    rw [List.map_append] at p
    have e:[m].map (fun k=>(k,bN c k.toNat))=[(m,(i:Int))]:=by simp [hm]
    rw [e] at p
    refine List.Perm.trans ?_ p
    rw [List.append_assoc]
    exact List.Perm.append_left _ List.perm_append_comm
  · rw [nW,p9]
    have p:=w.flt
    have e:bI [(m,(i:Int))]=[m]++[(i:Int)]:=rfl
    rw [e]
    refine List.Perm.trans ?_ (p.append_right _)
    rw [List.append_assoc,List.append_assoc,List.append_assoc]
    refine List.Perm.append_left _ ?_
    rw [<- List.append_assoc]
    exact List.perm_append_comm.trans (by rw [List.append_assoc])
  · intro s k hk
    have hs:=(List.getElem?_eq_some_iff.mp hk).1
    obtain ⟨h1,h2,h3,h4⟩:=w.stk s k (by rw [List.getElem?_append_left hs]; exact hk)
    refine ⟨h1,by lia,h3,fun j hj hji=>?_⟩
    by_cases ej:j=i
    · subst ej; lia
    · exact h4 j hj (by lia)
  · intro p hp
    rcases List.mem_append.mp hp with z | z
    · obtain ⟨h1,h2,h3,h4,h5⟩:=w.prs p z
      exact ⟨h1,h2,by lia,h4,h5⟩
    · have e:p=(m,(i:Int)):=by simpa using z
      subst e
      refine ⟨m0,m1,by show (i:Int) < ((i+1:Nat):Int); lia,?_,fun j hj hji=>?_⟩
      · show Dp c ((i:Int).toNat+1)=Dp c m.toNat
        rw [show ((i:Nat):Int).toNat=i by lia]
        lia
      · show Dp c m.toNat < _
        have hji:(j:Int) < (i:Int):=hji
        have:=m3 j hj (by lia)
        lia
theorem Wk.bows {c:List Nat} {n:Nat} {fd:List Pair} (w:Wk c n fd []):md (a8 c n)=true:=by
  have p:=w.prm
  rw [List.map_nil,List.append_nil] at p
  have f:=w.flt
  rw [List.append_nil] at f
  have fp:(bI (a8 c n)).Perm (bI fd):=by
    have go:∀ {as bs:List Pair},as.Perm bs->(bI as).Perm (bI bs):=by
      intro as bs h
      induction h with
      | nil=>exact .nil
      | cons x _ ih=>exact (ih.cons _).cons _
      | swap x y l =>
        show (y.1::y.2::x.1::x.2::bI l).Perm (x.1::x.2::y.1::y.2::bI l)
        exact (List.perm_append_comm (l₁:=[y.1,y.2]) (l₂:=[x.1,x.2])).append_right (bI l)
      | trans _ _ i1 i2=>exact i1.trans i2
    exact go p.symm
  have al:∀ k,k < (a8 c n).length->(a8 c n).getD k (0,0)∈fd:=fun k hk=>p.mem_iff.mpr (uB hk)
  unfold md
  rw [Bool.and_eq_true,Bool.and_eq_true]
  refine ⟨sZ.mpr fun k hk=>⟨(w.prs _ (al k hk)).2.1,?_⟩,(du _).mpr ?_,?_⟩
  · by_cases e:k=0
    · exact .inl e
    · refine .inr ?_
      have:=List.pairwise_iff_getElem.mp (rH c n) (k - 1) k (by lia) hk (by lia)
      unfold iV
      rw [List.getD_eq_getElem?_getD,List.getD_eq_getElem?_getD,List.getElem?_eq_getElem hk,List.getElem?_eq_getElem (show k - 1 < (a8 c n).length by lia)]
      exact this
  · have e:=(fp.trans f).length_eq
    rw [gO] at e
    rw [e]
    exact fp.trans f
  · cases e:d9 (a8 c n) with
    | false=>rfl
    | true =>
      obtain ⟨a,ha,b,hb,h1,h2,h3⟩:=hV.mp e
      obtain ⟨a1,a2,a3,a4,a5⟩:=w.prs a (p.mem_iff.mpr ha)
      obtain ⟨b1,b2,b3,b4,b5⟩:=w.prs b (p.mem_iff.mpr hb)
      have x1:=b5 a.2.toNat (by lia) (by lia)
      have x2:=a5 (b.1.toNat - 1) (by lia) (by lia)
      rw [show b.1.toNat - 1+1=b.1.toNat by lia] at x2
      lia
noncomputable def rO:Nat->List Nat->List Int
  | _,[]=>[]
  | k,c::t=>if c=40 then (k:Int)::rO k t else rO (k+1) t
theorem yn (k:Nat) {c:Nat} (t:List Nat) (h:c≠40):rO k (c::t)=rO (k+1) t:=by conv=>lhs; unfold rO; rw [if_neg h]
theorem xA:∀ (m k:Nat) (t:List Nat),rO k (List.replicate m 41++t)=rO (k+m) t
  | 0,k,t=>rfl
  | m+1,k,t=>by
    rw [List.replicate_succ,List.cons_append,yn k _ (by decide),xA m (k+1) t]
    congr 1
    lia
theorem tD:∀ (m d:Nat) (t:List Nat),clo (d+m) (List.replicate m 41++t)=clo d t
  | 0,d,t=>rfl
  | m+1,d,t=>by
    rw [List.replicate_succ,List.cons_append,<- Nat.add_assoc,cF,tD m d t]
theorem jZ:∀ (c:List Nat) (d:Nat),clo d c=true->∀ x∈c,x=40\/x=41
  | [],d,h,x,hx=>by cases hx
  | y::c,d,h,x,hx=>by
    by_cases e:y=40
    · subst e
      rw [dU] at h
      rcases List.mem_cons.mp hx with z | z
      · exact .inl z
      · exact jZ c _ h x z
    · by_cases e2:y=41
      · subst e2
        cases d with
        | zero=>rw [dw] at h; cases h
        | succ d =>
          rw [cF] at h
          rcases List.mem_cons.mp hx with z | z
          · exact .inr z
          · exact jZ c _ h x z
      · rw [cR e e2] at h; cases h
theorem vQ {c:List Nat} (h:clo 0 c=true):c.count 41=c.count 40:=by
  have h1:=jH h
  have h2:∀ l:List Nat,(∀ x∈l,x=40\/x=41)->l.count 40+l.count 41=l.length:=by
    intro l
    induction l with
    | nil=>intro _; rfl
    | cons x l ih =>
      intro hl
      have:=ih fun y hy=>hl y (List.mem_cons_of_mem _ hy)
      rcases hl x (List.mem_cons_self ..) with e | e
      · subst e; rw [List.count_cons_self,List.count_cons_of_ne (by decide),List.length_cons]; lia
      · subst e; rw [List.count_cons_self,List.count_cons_of_ne (by decide),List.length_cons]; lia
  have:=h2 c (jZ c 0 h)
  lia
theorem yU {c:List Nat} {n:Nat} {p:Pair} (h:p∈a8 c n):0<=p.1/\p.1 < (n:Int):=by
  obtain ⟨k,hk,_,rfl⟩:=ko.mp h
  show 0<=(k:Int)/\(k:Int) < (n:Int)
  lia
end Ck
set_option Elab.async false
set_option linter.all false
set_option maxRecDepth 100000
set_option maxHeartbeats 4000000
namespace Ck
open PySem L2
def zL (m:Int) (p:Pair):Prop:=0<=p.1/\p.1 < p.2/\p.2 < m
def uJ (p q:Pair):Prop:=p.1 < q.1/\q.1 < p.2/\p.2 < q.2
def NC (ps:List Pair):Prop:=∀ p∈ps,∀ q∈ps,¬ uJ p q
theorem n6 {ps:List Pair}:d9 ps=false↔NC ps:=by
  constructor
  · intro h p hp q hq c
    have:d9 ps=true:=hV.mpr ⟨p,hp,q,hq,c.1,c.2.1,c.2.2⟩
    rw [h] at this
    cases this
  · intro h
    cases e:d9 ps with
    | false=>rfl
    | true =>
      obtain ⟨p,hp,q,hq,c⟩:=hV.mp e
      exact absurd c (h p hp q hq)
theorem lP {α β:Type} {f:α->β} {g:β->α} {l:List α} (h:l.Nodup) (e:∀ x∈l,g (f x)=x):(l.map f).Nodup:=by
  induction l with
  | nil=>exact List.nodup_nil
  | cons a l ih =>
    rw [List.nodup_cons] at h
    rw [List.map_cons,List.nodup_cons]
    refine ⟨fun z=>?_,ih h.2 fun x hx=>e x (List.mem_cons_of_mem _ hx)⟩
    obtain ⟨b,hb,eb⟩:=List.mem_map.mp z
    have:b=a:=by rw [<- e b (List.mem_cons_of_mem _ hb),eb,e a (List.mem_cons_self ..)]
    exact h.1 (this▸hb)
noncomputable def nm (x y:Int):Pair:=if x < y then (x,y) else (y,x)
end Ck
set_option Elab.async false
set_option linter.all false
set_option maxRecDepth 100000
set_option maxHeartbeats 4000000
namespace Ck
open PySem L2
structure tQ (ps:List Pair):Prop where
  inr:∀ p∈ps,zL (2*(ps.length:Int)) p
  flat:(bI ps).Perm (d8 (2*ps.length))
  nc:NC ps
  ris:ps.Pairwise e9
theorem r8 {n:Nat} {x:Int}:x∈d8 n↔0<=x/\x < (n:Int):=by
  unfold d8
  rw [List.mem_map]
  constructor
  · rintro ⟨k,hk,rfl⟩
    have:=List.mem_range.mp hk
    lia
  · intro h
    exact ⟨x.toNat,List.mem_range.mpr (by lia),by lia⟩
theorem wQ {ps:List Pair} (h:md ps=true):tQ ps:=by
  unfold md at h
  rw [Bool.and_eq_true,Bool.and_eq_true,Bool.not_eq_true'] at h
  obtain ⟨h1,h2,h3⟩:=h
  have st:=sZ.mp h1
  have fl:=(du _).mp h2
  rw [qe] at fl
  have bd:∀ p∈ps,0<=p.1/\p.2 < 2*(ps.length:Int):=fun p hp=>by
    have a:=r8.mp (fl.mem_iff.mp (gR.mpr ⟨p,hp,.inl rfl⟩))
    have b:=r8.mp (fl.mem_iff.mp (gR.mpr ⟨p,hp,.inr rfl⟩))
    lia
  have mono:∀ (j i:Nat),i < j->j < ps.length->iV ps i < iV ps j:=by
    intro j
    induction j with
    | zero=>intro i hi; lia
    | succ j ih =>
      intro i hi hj
      have:=(st (j+1) hj).2
      rw [Nat.add_sub_cancel] at this
      have z:iV ps j < iV ps (j+1):=this.resolve_left (by lia)
      by_cases e:i=j
      · rw [e]; exact z
      · have:=ih i (by lia) (by lia); lia
  refine ⟨fun p hp=>?_,fl,n6.mp h3,?_⟩
  · obtain ⟨k,hk⟩:=List.getElem?_of_mem hp
    have lk:=(List.getElem?_eq_some_iff.mp hk).1
    have:=(st k lk).1
    have b:=bd p hp
    have e1:iV ps k=p.1:=by unfold iV; rw [List.getD_eq_getElem?_getD,hk]; rfl
    have e2:wH ps k=p.2:=by unfold wH; rw [List.getD_eq_getElem?_getD,hk]; rfl
    exact ⟨b.1,by lia,b.2⟩
  · refine List.pairwise_iff_getElem.mpr fun i j hi hj hij=>?_
    have:=mono j i hij hj
    have e1:iV ps i=ps[i].1:=by unfold iV; rw [List.getD_eq_getElem?_getD,List.getElem?_eq_getElem hi]; rfl
    have e2:iV ps j=ps[j].1:=by unfold iV; rw [List.getD_eq_getElem?_getD,List.getElem?_eq_getElem hj]; rfl
    exact .inl (by lia)
end Ck
set_option Elab.async false
set_option linter.all false
set_option maxRecDepth 100000
set_option maxHeartbeats 4000000
namespace Ck
open PySem L2
theorem u7 {c:List Nat} (h:clo 0 c=true):∀ i,i<=c.length->∃ fd sk,Wk c i fd sk/\clo sk.length (c.drop i)=true
  | 0,_=>⟨[],[],Wk.nil c,by rw [List.drop_zero]; exact h⟩
  | i+1,hi=>by
    obtain ⟨fd,sk,w,hc⟩:=u7 h i (by lia)
    have lt:i < c.length:=by lia
    have ge:c.getD i 0=c[i]:=by rw [List.getD_eq_getElem?_getD,List.getElem?_eq_getElem lt]; rfl
    rw [List.drop_eq_getElem_cons lt] at hc
    by_cases e1:c[i]=40
    · rw [e1,dU] at hc
      exact ⟨fd,sk++[(i:Int)],w.up lt (by rw [ge]; exact e1),by rw [List.length_append]; exact hc⟩
    · by_cases e2:c[i]=41
      · rw [e2] at hc
        rcases List.eq_nil_or_concat sk with rfl | ⟨sk0,m,rfl⟩
        · rw [show ([]:List Int).length=0 from rfl,dw] at hc
          cases hc
        · rw [List.concat_eq_append] at hc w
          rw [List.length_append,show [m].length=1 from rfl,cF] at hc
          exact ⟨_,sk0,w.down lt (by rw [ge]; exact e2),hc⟩
      · rw [cR e1 e2] at hc
        cases hc
theorem wd {c:List Nat} (h:clo 0 c=true):md (a8 c c.length)=true:=by
  obtain ⟨fd,sk,w,hc⟩:=u7 h c.length (Nat.le_refl _)
  rw [List.drop_length,iG] at hc
  have:sk=[]:=List.eq_nil_of_length_eq_zero (by simpa using hc)
  subst this
  exact w.bows
theorem mG (c:List Nat):∀ i,i<=c.length->(a8 c i).length=(c.take i).count 40
  | 0,_=>rfl
  | i+1,hi=>by
    have lt:i < c.length:=by lia
    have ge:c.getD i 0=c[i]:=by rw [List.getD_eq_getElem?_getD,List.getElem?_eq_getElem lt]; rfl
    rw [gw,List.length_append,mG c i (by lia),ge,List.take_succ_eq_append_getElem lt,List.count_append]
    by_cases e:c[i]=40
    · simp [e]
    · simp [e]
theorem ma {c:List Nat} {n:Nat} (h:clo 0 c=true) (hn:c.length=2*n):tQ (a8 c c.length)/\(a8 c c.length).length=n:=by
  refine ⟨wQ (wd h),?_⟩
  rw [mG c _ (Nat.le_refl _),List.take_length]
  obtain ⟨t,rfl⟩:=o8 c.length c (Nat.le_refl _) h
  rw [uW]
  rw [mI] at hn
  lia
end Ck
set_option Elab.async false
set_option linter.all false
set_option maxRecDepth 100000
set_option maxHeartbeats 4000000
namespace L2
open PySem PySem.Spec PyProof.Rows PySem.W PySem.SeqAt Ck
noncomputable def d3:List Int->List Int->Bool
  | [],[]=>false
  | [],_::_=>true
  | _::_,[]=>false
  | a::as,b::bs=>if a=b then d3 as bs else decide (a < b)
theorem rJ:∀ as:List Int,d3 as []=false
  | []=>rfl
  | _::_=>rfl
theorem rZ:∀ as bs:List Int,d3 as bs=true->d3 bs as=false
  | [],[],h=>rfl
  | [],_::_,_=>rfl
  | _::_,[],h=>by cases h
  | a::as,b::bs,h=>by
    unfold d3 at h |-
    by_cases e:a=b
    · rw [if_pos e] at h
      rw [if_pos e.symm]
      exact rZ as bs h
    · rw [if_neg e] at h
      rw [if_neg (fun z=>e z.symm)]
      have:=of_decide_eq_true h
      exact decide_eq_false (by lia)
theorem sN:∀ as bs cs:List Int,d3 bs as=false->d3 cs bs=false->d3 cs as=false
  | [],_,cs,_,_=>rJ cs
  | _::_,[],_,h,_=>by cases h
  | _::_,_::_,[],_,h=>by cases h
  | a::as,b::bs,c::cs,h1,h2=>by
    unfold d3 at h1 h2 |-
    by_cases e1:b=a
    · rw [if_pos e1] at h1
      by_cases e2:c=b
      · rw [if_pos e2] at h2
        rw [if_pos (e2.trans e1)]
        exact sN as bs cs h1 h2
      · rw [if_neg e2] at h2
        have:=of_decide_eq_false h2
        rw [if_neg (fun z=>e2 (z.trans e1.symm))]
        exact decide_eq_false (by lia)
    · rw [if_neg e1] at h1
      have d1:=of_decide_eq_false h1
      by_cases e2:c=b
      · rw [if_pos e2] at h2
        rw [if_neg (fun z=>e1 (e2.symm.trans z))]
        exact decide_eq_false (by lia)
      · rw [if_neg e2] at h2
        have:=of_decide_eq_false h2
        rw [if_neg (by lia)]
        exact decide_eq_false (by lia)
theorem z7 (rs:List (List Int)):lB fun i j=>d3 (rs.getD i []) (rs.getD j []) where
  asym a b h:=rZ _ _ h
  ntr a b c h1 h2:=sN _ _ _ h1 h2
theorem mP {vs:List Value} {ns:List Int} (h:IntsAre vs ns):∀ {i:Nat} {n:Int},ns[i]? = some n->∃ t,vs[i]? = some (.int n t):=by
  induction h with
  | nil=>intro i n e; cases e
  | cons m t h ih =>
    intro i n e
    cases i with
    | zero=>simp at e; exact ⟨t,by rw [<- e]; rfl⟩
    | succ i=>exact ih (by simpa using e)
theorem xX (l b:Addr) (items items2:Array Value) (ns ms:List Int) (hi:IntsAre items.toList ns) (hm:IntsAre items2.toList ms) (n n2:Nat) (dd dd2:Option Addr) (sl sl2:Array (Option Value)):∀ (k i:Nat),ns.length - i=k->i<=ns.length->i<=ms.length ->
    Meets (Builtin.«list.__eq__.loop» ⟨[.ref l,.ref b,rawInt i,rawInt 0],[]⟩) (fun A R s=>s.heap.get? l=some { cls:=.type "list",dict:=dd,data:=.seq items n,slots:=sl }/\s.heap.get? b=some { cls:=.type "list",dict:=dd2,data:=.seq items2 n2,slots:=sl2 }/\R (.ok (.ret (.bool (d3 (ns.drop i) (ms.drop i))))) s):=by
  have l1:items.size=ns.length:=by have:=hi.length; simpa using this
  have l2:items2.size=ms.length:=by have:=hm.length; simpa using this
  -- one of them is at its end
  have fin:∀ i:Nat,i<=ns.length->i<=ms.length->(i=ns.length\/i=ms.length)->d3 (ns.drop i) (ms.drop i)=decide (items.size < items2.size):=fun i h1 h2 h=>by
    rw [l1,l2]
    by_cases e:i=ns.length
    · rw [List.drop_eq_nil_of_le (as:=ns) (by lia)]
      by_cases e2:i=ms.length
      · rw [List.drop_eq_nil_of_le (by lia)]
        exact (decide_eq_false (by lia)).symm
      · rw [List.drop_eq_getElem_cons (show i < ms.length by lia)]
        exact (decide_eq_true (by lia)).symm
    · rw [List.drop_eq_nil_of_le (as:=ms) (by lia),rJ]
      exact (decide_eq_false (by lia)).symm
  intro k
  induction k with
  | zero =>
    intro i hk hn2 hm2 prog w A R s h
    obtain ⟨hp,g,d,tk,os⟩:=s
    obtain ⟨hl,hb,h⟩:=h
    wp_walk using wpAny_loadPart' hl,wpAny_loadPart' hb
    have n1:items[((i:Nat):Int).toNat]? = none:=by simp; lia
    rw [n1]
    rw [fin i hn2 hm2 (by lia)] at h
    wp_walk using wpAny_loadPart' hl,wpAny_loadPart' hb
    exact h
  | succ k ih =>
    intro i hk hn2 hm2 prog w A R s h
    obtain ⟨hp,g,d,tk,os⟩:=s
    obtain ⟨hl,hb,h⟩:=h
    have li:i < ns.length:=by lia
    obtain ⟨t1,g1⟩:=mP hi (List.getElem?_eq_getElem li)
    have i1:items[((i:Nat):Int).toNat]? = some (.int ns[i] t1):=by simpa using g1
    wp_walk using wpAny_loadPart' hl,wpAny_loadPart' hb
    rw [i1]
    by_cases lm:i < ms.length
    · obtain ⟨t2,g2⟩:=mP hm (List.getElem?_eq_getElem lm)
      have i2:items2[((i:Nat):Int).toNat]? = some (.int ms[i] t2):=by simpa using g2
      rw [i2]
      rw [List.drop_eq_getElem_cons li,List.drop_eq_getElem_cons lm] at h
      unfold d3 at h
      refine wpAny_bind (wpAny_eqBool_int ?_)
      by_cases e:ns[i]=ms[i]
      · rw [if_pos e] at h
        rw [show (ns[i] == ms[i])=true by simpa using e]
        wp_walk
        have hc:((i:Int)+1)=((i+1:Nat):Int):=by lia
        rw [hc]
        exact ⟨plainId_quiet MeetsSeq3.plain_eq_loop _,codeAny_builtin MeetsSeq3.entry_eq_loop (by
          rw [Around.under_plainId MeetsSeq3.plain_eq_loop _]
          exact ih (i+1) (by lia) (by lia) (by lia) prog w A R _ ⟨hl,hb,h⟩)⟩
      · rw [if_neg e] at h
        rw [show (ns[i] == ms[i])=false by simpa using e]
        wp_walk using wpAny_loadPart' hl,wpAny_loadPart' hb
        rw [i1,i2]
        refine wpAny_bind (wpAny_lt_int ?_)
        exact wpAny_pure h
    · have n2':items2[((i:Nat):Int).toNat]? = none:=by simp; lia
      rw [n2']
      rw [fin i hn2 hm2 (by lia)] at h
      wp_walk using wpAny_loadPart' hl,wpAny_loadPart' hb
      exact h
theorem xD (l b:Addr) (items items2:Array Value) (ns ms:List Int) (hi:IntsAre items.toList ns) (hm:IntsAre items2.toList ms) (n n2:Nat) (dd dd2:Option Addr) (sl sl2:Array (Option Value)) :
    Meets (Builtin.«list.__lt__» ⟨[.ref l,.ref b],[]⟩) (fun A R s=>s.heap.get? l=some { cls:=.type "list",dict:=dd,data:=.seq items n,slots:=sl }/\s.heap.get? b=some { cls:=.type "list",dict:=dd2,data:=.seq items2 n2,slots:=sl2 }/\R (.ok (.ret (.bool (d3 ns ms)))) s):=by
  intro prog w A R s h
  obtain ⟨hp,g,d,tk,os⟩:=s
  obtain ⟨hl,hb,h⟩:=h
  have f3:=AutoSeq1.sub_list_list
  wp_walk using wpAny_loadPart' hl,wpAny_loadPart' hb
  exact ⟨plainId_quiet MeetsSeq3.plain_eq_loop _,codeAny_builtin MeetsSeq3.entry_eq_loop (by
    rw [Around.under_plainId MeetsSeq3.plain_eq_loop _]
    exact xX l b items items2 ns ms hi hm n n2 dd dd2 sl sl2 _ 0 rfl (Nat.zero_le _) (Nat.zero_le _) prog w A R _ ⟨hl,hb,by simpa using h⟩)⟩
section
variable {prog:Program} {w:World} {A:Around} {E:Value->Shared->Prop} {s:Shared}
theorem tE {l b:Addr} {its jts:List Value} {ns ms:List Int} {n n2:Nat} {Q:Bool->Shared->Prop} (hu:A.units < cLine) (hi:IntsAre its ns) (hm:IntsAre jts ms) (hl:s.heap.get? l=some { cls:=.type "list",data:=.seq its.toArray n }) (hb:s.heap.get? b=some { cls:=.type "list",data:=.seq jts.toArray n2 }) (h:Q (d3 ns ms) s) :
    wpAny (model prog w) A (oneLt' true (.ref l) (.ref b)) Q E s:=by
  rw [oneLt'_eq]
  simp only [if_true]
  refine wpAny_bind (wpAny_cRoomFor hu (wpAny_bind (wpAny_callSpecialIfBound?_slot (T:="list") ⟨_,hl,rfl⟩ F.slot_list_lt (call_meets F.slot_list_lt ⟨_,hl,rfl⟩ F.entry_list_lt (F.args_list_lt_2 _ _) (xD l b its.toArray jts.toArray ns ms hi hm n n2 none none #[] #[]) ⟨hl,hb,?_⟩))))
  exact wpAny_truthy_bool h
def lO (h:Heap) (vs:List Value) (rs:List (List Int)):Prop:=Paired (fun (v:Value) (r:List Int)=>∃ a its n,v = .ref a/\IntsAre its r/\h.get? a=some { cls:=.type "list",data:=.seq its.toArray n }) vs rs
theorem lO.get {h:Heap}:∀ {vs:List Value} {rs:List (List Int)},lO h vs rs->∀ {i:Nat},i < vs.length->∃ a its n,vs.getD i Value.none = .ref a/\IntsAre its (rs.getD i [])/\h.get? a=some { cls:=.type "list",data:=.seq its.toArray n }
  | _,_,.nil,i,e=>absurd e (by simp)
  | _,_,.cons r t,0,e=>r
  | _,_,.cons r t,i+1,e=>by
    have:=lO.get t (i:=i) (by simpa using e)
    simpa using this
theorem lO.mem {h:Heap}:∀ {vs:List Value} {rs:List (List Int)},lO h vs rs->∀ v∈vs,∃ a its n,v = .ref a/\h.get? a=some { cls:=.type "list",data:=.seq (List.toArray its) n }
  | _,_,.cons r t,v,hv=>by
    rcases List.mem_cons.mp hv with rfl | hv
    · obtain ⟨a,its,n,e,_,g⟩:=r
      exact ⟨a,its,n,e,g⟩
    · exact lO.mem t v hv
theorem lO.mono {h h':Heap} (k:∀ b o,h.get? b=some o->h'.get? b=some o):∀ {vs:List Value} {rs:List (List Int)},lO h vs rs->lO h' vs rs
  | _,_,.nil=>.nil
  | _,_,.cons r t=>by
    obtain ⟨a,its,n,e,hi,g⟩:=r
    exact .cons ⟨a,its,n,e,hi,k _ _ g⟩ (lO.mono k t)
theorem y3 {vs:List Value} {rs:List (List Int)} {s1:Shared} (hu:A.units < cLine) (r:lO s1.heap vs rs) (h2:2<=vs.length):tN prog w A vs (fun i j=>d3 (rs.getD i []) (rs.getD j [])) s1:=by
  intro Q q
  refine kas_kind (T:=.type "list") h2 (fun v hv=>?_) (by decide) (by decide) (q _ fun i j C hi hj hc=>?_)
  · obtain ⟨a,its,n,rfl,g⟩:=r.mem v hv
    exact (Looks.ld g).andThen .now
  · obtain ⟨a,its,n,e1,i1,g1⟩:=r.get hi
    obtain ⟨b,jts,n2,e2,i2,g2⟩:=r.get hj
    unfold kas_ask
    rw [e1,e2,keyLt'_oneType]
    exact tE hu i1 i2 g1 g2 hc
end
end L2
set_option Elab.async false
set_option linter.all false
set_option maxRecDepth 100000
set_option maxHeartbeats 4000000
namespace Zp
open PySem PyProof.Rows
noncomputable abbrev km (h:Heap) (z TI TO T:Addr) (b:Bool):Prop :=
  h.get? z=some { cls:=.type "zip",dict:=none,data:=.fields #[rawInt T,.bool b,.bool false,.ref TI,.ref TO],slots:=#[] }
section
variable {prog:Program} {w:World} {A:Around} {E:Value->Shared->Prop} {s:Shared}
theorem sA {M:Model} {a:Addr} {Q:Option Obj->Shared->Prop} (h:Q (s.heap.get? a) s):wpAny M A (loadIfAlive a) Q E s:=fun _ _ _=>h
theorem qg {z TI TO T:Addr} {b:Bool} {oT:Obj} {Q:Bool->Shared->Prop} (hz:km s.heap z TI TO T b) (hT:s.heap.get? T=some oT)
    (q:∀ h',km h' z TI TO T true->(∀ c o,c≠z->s.heap.get? c=some o->h'.get? c=some o)->h'.objs.size=s.heap.objs.size->Q false { s with heap:=h' }):wpAny (model prog w) A (Builtin.SmallTypes.ownedTupleIsFree (.ref z)) Q E s:=by
  unfold Builtin.SmallTypes.ownedTupleIsFree
  refine wpAny_bind (wpAny_field hz rfl (x:=rawInt T) rfl ?_)
  unfold rawInt
  refine wpAny_bind (sA ?_)
  rw [show ((T:Nat):Int).toNat=T by lia,hT]
  rw [if_neg (by simp)]
  refine wpAny_bind (wpAny_field hz rfl (x:=.bool b) rfl ?_)
  cases b with
  | true =>
    rw [if_neg (by decide)]
    exact wpAny_bind (wpAny_pure (wpAny_pure (q s.heap hz (fun c o _ e=>e) rfl)))
  | false =>
    rw [if_pos (by decide)]
    exact wpAny_bind (wpAny_setField_rec hz (by simp) fun h1 hz1 hs1=>wpAny_pure (q h1 hz1 (fun c o n e=>hs1.extBut _ _ n e) hs1.1))
theorem uC {z TI TO T i1 i2 l1 l2:Addr} {k1 k2:Nat} {xs ys:Array Value} {x y:Value} {b:Bool} {oT:Obj} {Q:Value->Shared->Prop} (D:ZipApart z TI TO i1 i2 l1 l2)
    (hz:km s.heap z TI TO T b) (hT:s.heap.get? T=some oT) (hTI:IsPair s.heap TI (.ref i1) (.ref i2)) (h1:s.heap.IsListIter i1 l1 k1) (h2:s.heap.IsListIter i2 l2 k2) (hl1:s.heap.IsList l1 xs) (hl2:s.heap.IsList l2 ys) (hx:xs[k1]? = some x) (hy:ys[k2]? = some y)
    (hQ:∀ h',km h' z TI TO T true->h'.IsListIter i1 l1 (k1+1)->h'.IsListIter i2 l2 (k2+1)->IsPair h' s.heap.objs.size x y->h'.objs.size=s.heap.objs.size+1 ->
      (∀ c o,c≠z->c≠i1->c≠i2->s.heap.get? c=some o->h'.get? c=some o)->Q (.ref s.heap.objs.size) { s with heap:=h' }) :
    wpAny (model prog w) A (Builtin.«zip.__next__» ⟨[.ref z],[]⟩) (fun fin s'=>∃ v,fin = .done (.ret v)/\Q v s') E s:=by
  show wpAny _ _ (field (.ref z) 2 >>= _) _ _ _
  refine wpAny_bind (wpAny_field hz rfl (x:=.bool false) rfl ?_)
  show wpAny _ _ (field (.ref z) 3 >>= _) _ _ _
  refine wpAny_bind (wpAny_field hz rfl (x:=.ref TI) rfl (wpAny_bind (wpAny_seqItems hTI rfl ?_)))
  show wpAny _ _ (Builtin.SmallTypes.ownedTupleIsFree (.ref z) >>= _) _ _ _
  refine wpAny_bind (qg hz hT fun ha hza ka sza=>?_)
  rw [if_neg (by decide)]
  simp only [List.forIn_cons,List.forIn_nil,Array.forIn_toList,<- Array.forIn_toList]
  refine wpAny_bind (wpAny_bind (wpAny_bind (wpAny_holding ?_)))
  show wpAny _ _ (Builtin.SmallTypes.nextOf (.ref i1) >>= _) _ _ _
  refine wpAny_bind (wpAny_nextOf_list_item (h1.at fun o e=>ka _ o D.i1z e) (hl1.at fun o e=>ka _ o D.l1z e) hx fun hb h1b hsb=>wpAny_pure (wpAny_pure ?_))
  refine wpAny_bind (wpAny_bind (wpAny_holding ?_))
  show wpAny _ _ (Builtin.SmallTypes.nextOf (.ref i2) >>= _) _ _ _
  refine wpAny_bind (wpAny_nextOf_list_item ((h2.at fun o e=>ka _ o D.i2z e).extBut hsb.extBut D.i12.symm) ((hl2.at fun o e=>ka _ o D.l2z e).extBut hsb.extBut D.l2i1) hy fun hc h2c hsc=>wpAny_pure (wpAny_pure (wpAny_pure ?_)))
  refine wpAny_bind (wpAny_newTuple (wpAny_pure ⟨_,rfl,?_⟩) (by show 2<=sizeLine; rw [sizeLine_eq]; lia))
  have szc:hc.objs.size=s.heap.objs.size:=by rw [hsc.1,hsb.1,sza]
  have up:∀ c o,hc.get? c=some o->(hc.push { cls:=.type "tuple",data:=.seq #[x,y] }).get? c=some o:=fun c o e=>Heap.get?_push_of_some _ e
  have hzc:km hc z TI TO T true:=hsc.extBut _ _ D.i2z.symm (hsb.extBut _ _ D.i1z.symm hza)
  have hT8:IsPair (hc.push { cls:=.type "tuple",data:=.seq #[x,y] }) hc.objs.size x y:=Heap.get?_push_size _ rfl
  show Q (.ref hc.objs.size) { s with heap:=hc.push { cls:=.type "tuple",data:=.seq #[x,y] } }
  rw [szc] at hT8 |-
  exact hQ _ (up _ _ hzc) ((h1b.extBut hsc.extBut D.i12).at fun o e=>up _ o e) (h2c.at fun o e=>up _ o e) hT8 (by rw [Heap.size_push,szc]) fun c o c1 c2 c3 e=>up _ _ (hsc.extBut _ _ c3 (hsb.extBut _ _ c2 (ka _ _ c1 e)))
theorem vW {z TI TO T i1 i2 l1 l2:Addr} {k1 k2:Nat} {xs ys:Array Value} {b:Bool} {oT:Obj} {Q:PySem.Fin->Shared->Prop} (hh:A.handled=none) (D:ZipApart z TI TO i1 i2 l1 l2)
    (hz:km s.heap z TI TO T b) (hT:s.heap.get? T=some oT) (hTI:IsPair s.heap TI (.ref i1) (.ref i2)) (h1:s.heap.IsListIter i1 l1 k1) (h2:s.heap.IsListIter i2 l2 k2) (hl1:s.heap.IsList l1 xs) (hl2:s.heap.IsList l2 ys) (hend:xs[k1]? = none\/ys[k2]? = none)
    (hE:∀ h' e,(∀ c o,c≠z->c≠i1->c≠i2->s.heap.get? c=some o->h'.get? c=some o)->(∃ o,h'.get? e=some o/\o.cls = .type "StopIteration")->E (.ref e) { s with heap:=h' }) :
    wpAny (model prog w) A (Builtin.«zip.__next__» ⟨[.ref z],[]⟩) Q E s:=by
  show wpAny _ _ (field (.ref z) 2 >>= _) _ _ _
  refine wpAny_bind (wpAny_field hz rfl (x:=.bool false) rfl ?_)
  show wpAny _ _ (field (.ref z) 3 >>= _) _ _ _
  refine wpAny_bind (wpAny_field hz rfl (x:=.ref TI) rfl (wpAny_bind (wpAny_seqItems hTI rfl ?_)))
  show wpAny _ _ (Builtin.SmallTypes.ownedTupleIsFree (.ref z) >>= _) _ _ _
  refine wpAny_bind (qg hz hT fun ha hza ka sza=>?_)
  rw [if_neg (by decide)]
  simp only [List.forIn_cons,List.forIn_nil,Array.forIn_toList,<- Array.forIn_toList]
  refine wpAny_bind (wpAny_bind (wpAny_bind (wpAny_holding ?_)))
  show wpAny _ _ (Builtin.SmallTypes.nextOf (.ref i1) >>= _) _ _ _
  cases hx:xs[k1]? with
  | none =>
    exact wpAny_bind (wpAny_nextOf_list_end hh (h1.at fun o e=>ka _ o D.i1z e) (hl1.at fun o e=>ka _ o D.l1z e) hx fun hb e hsb he=>hE hb e (fun c o c1 c2 _ x=>hsb _ _ c2 (ka _ _ c1 x)) he)
  | some x =>
    have hy:ys[k2]? = none:=by rcases hend with h | h; rw [hx] at h; cases h; exact h
    refine wpAny_bind (wpAny_nextOf_list_item (h1.at fun o e=>ka _ o D.i1z e) (hl1.at fun o e=>ka _ o D.l1z e) hx fun hb h1b hsb=>wpAny_pure (wpAny_pure ?_))
    refine wpAny_bind (wpAny_bind (wpAny_holding ?_))
    show wpAny _ _ (Builtin.SmallTypes.nextOf (.ref i2) >>= _) _ _ _
    exact wpAny_bind (wpAny_nextOf_list_end hh ((h2.at fun o e=>ka _ o D.i2z e).extBut hsb.extBut D.i12.symm) ((hl2.at fun o e=>ka _ o D.l2z e).extBut hsb.extBut D.l2i1) hy fun hc e hsc he=>hE hc e (fun c o c1 c2 c3 x=>hsc _ _ c3 (hsb.extBut _ _ c2 (ka _ _ c1 x))) he)
theorem ug {z TI TO T i1 i2 l1 l2:Addr} {k1 k2:Nat} {xs ys:Array Value} {x y:Value} {b:Bool} {oT:Obj} {Q:Option Value->Shared->Prop} (D:ZipApart z TI TO i1 i2 l1 l2)
    (hz:km s.heap z TI TO T b) (hT:s.heap.get? T=some oT) (hTI:IsPair s.heap TI (.ref i1) (.ref i2)) (h1:s.heap.IsListIter i1 l1 k1) (h2:s.heap.IsListIter i2 l2 k2) (hl1:s.heap.IsList l1 xs) (hl2:s.heap.IsList l2 ys) (hx:xs[k1]? = some x) (hy:ys[k2]? = some y)
    (hQ:∀ h',km h' z TI TO T true->h'.IsListIter i1 l1 (k1+1)->h'.IsListIter i2 l2 (k2+1)->IsPair h' s.heap.objs.size x y->h'.objs.size=s.heap.objs.size+1 ->
      (∀ c o,c≠z->c≠i1->c≠i2->s.heap.get? c=some o->h'.get? c=some o)->Q (some (.ref s.heap.objs.size)) { s with heap:=h' }) :
    wpAny (model prog w) A (pyNext (.ref z)) Q E s:=by
  have hTy:s.TypeIs (.ref z) "zip":=⟨_,hz,rfl⟩
  unfold pyNext
  exact wpAny_bind (wpAny_attempt (wpAny_callSpecial?_slot (name:=Str.ofString "__next__") hTy F.slot_zip_next (wpAny_call_entry F.slot_zip_next hTy F.entry_zip_next
    (uC D hz hT hTI h1 h2 hl1 hl2 hx hy fun h' a1 a2 a3 a4 a5 a6=>wpAny_pure (hQ h' a1 a2 a3 a4 a5 a6)) (F.args_zip_next_1 _))))
theorem vB {z TI TO T i1 i2 l1 l2:Addr} {k1 k2:Nat} {xs ys:Array Value} {b:Bool} {oT:Obj} {Q:Option Value->Shared->Prop} (hh:A.handled=none) (D:ZipApart z TI TO i1 i2 l1 l2)
    (hz:km s.heap z TI TO T b) (hT:s.heap.get? T=some oT) (hTI:IsPair s.heap TI (.ref i1) (.ref i2)) (h1:s.heap.IsListIter i1 l1 k1) (h2:s.heap.IsListIter i2 l2 k2) (hl1:s.heap.IsList l1 xs) (hl2:s.heap.IsList l2 ys) (hend:xs[k1]? = none\/ys[k2]? = none)
    (hQ:∀ h',(∀ c o,c≠z->c≠i1->c≠i2->s.heap.get? c=some o->h'.get? c=some o)->Q none { s with heap:=h' }):wpAny (model prog w) A (pyNext (.ref z)) Q E s:=by
  have hTy:s.TypeIs (.ref z) "zip":=⟨_,hz,rfl⟩
  unfold pyNext
  refine wpAny_bind (wpAny_attempt (wpAny_callSpecial?_slot (name:=Str.ofString "__next__") hTy F.slot_zip_next (wpAny_call_entry F.slot_zip_next hTy F.entry_zip_next (vW hh D hz hT hTI h1 h2 hl1 hl2 hend fun h' e hk he=>?_) (F.args_zip_next_1 _))))
  obtain ⟨o,ho,hc⟩:=he
  exact wpAny_bind (wpAny_isInstance (T:="StopIteration") (b:=true) ⟨o,ho,hc⟩ isSubtype_stop (wpAny_pure (hQ _ hk)))
end
end Zp
namespace Zp
open PySem PyProof.Rows
def Zs (h:Heap) (z TI TO:Addr) (ts:List Addr):Prop:=(ts=[]/\IsZip h z TI TO .none/\∃ a b,IsPair h TO a b)\/∃ T b,T∈ts/\km h z TI TO T b
structure ZSt (h:Heap) (z TI TO i1 i2 l1 l2:Addr) (xs ys:Array Value) (ts:List Addr):Prop where
  zs:Zs h z TI TO ts
  ti:IsPair h TI (.ref i1) (.ref i2)
  it1:h.IsListIter i1 l1 ts.length
  it2:h.IsListIter i2 l2 ts.length
  li1:h.IsList l1 xs
  li2:h.IsList l2 ys
  tup:∀ (j:Nat) (T:Addr),ts[j]? = some T->∃ x y,xs[j]? = some x/\ys[j]? = some y/\IsPair h T x y/\T≠z/\T≠TO/\T≠i1/\T≠i2
  nd:ts.Nodup
  tto:∃ o,h.get? TO=some o
theorem ZSt.keep {h h':Heap} {z TI TO i1 i2 l1 l2:Addr} {xs ys:Array Value} {ts:List Addr} (Z:ZSt h z TI TO i1 i2 l1 l2 xs ys ts) (k:∀ b o,h.get? b=some o->(b=z\/b=TI\/b=TO\/b=i1\/b=i2\/b=l1\/b=l2\/b∈ts)->h'.get? b=some o):ZSt h' z TI TO i1 i2 l1 l2 xs ys ts:=by
  refine ⟨?_,k _ _ Z.ti (by simp),Z.it1.at fun o e=>k _ o e (by simp),Z.it2.at fun o e=>k _ o e (by simp),Z.li1.at fun o e=>k _ o e (by simp),Z.li2.at fun o e=>k _ o e (by simp),fun j T hj=>?_,Z.nd,let ⟨o,e⟩:=Z.tto; ⟨o,k _ _ e (by simp)⟩⟩
  · rcases Z.zs with ⟨e,hz,a,b,ho⟩ | ⟨T,b,hT,hz⟩
    · exact .inl ⟨e,k _ _ hz (by simp),a,b,k _ _ ho (by simp)⟩
    · exact .inr ⟨T,b,hT,k _ _ hz (by simp)⟩
  · obtain ⟨x,y,h1,h2,h3,h4⟩:=Z.tup j T hj
    exact ⟨x,y,h1,h2,k _ _ h3 (by simp [List.mem_of_getElem? hj]),h4⟩
section
variable {prog:Program} {w:World} {A:Around} {E:Value->Shared->Prop} {s:Shared}
theorem w8 {z TI TO i1 i2 l1 l2:Addr} {xs ys:Array Value} {ts:List Addr} {Q:Option Value->Shared->Prop} (D:ZipApart z TI TO i1 i2 l1 l2) (Z:ZSt s.heap z TI TO i1 i2 l1 l2 xs ys ts) (lt:ts.length < min xs.size ys.size)
    (q:∀ h',ZSt h' z TI TO i1 i2 l1 l2 xs ys (ts++[s.heap.objs.size])->(∀ c o,c≠z->c≠TO->c≠i1->c≠i2->s.heap.get? c=some o->h'.get? c=some o)->Q (some (.ref s.heap.objs.size)) { s with heap:=h' }):wpAny (model prog w) A (pyNext (.ref z)) Q E s:=by
  have lx:ts.length < xs.size:=by lia
  have ly:ts.length < ys.size:=by lia
  have sx:=Array.getElem?_eq_getElem lx
  have sy:=Array.getElem?_eq_getElem ly
  have far:∀ {c o},s.heap.get? c=some o->s.heap.objs.size≠c:=fun e=>Nat.ne_of_gt (Heap.lt_size e)
  have hzl:∃ o,s.heap.get? z=some o:=by
    rcases Z.zs with ⟨_,hz,_⟩ | ⟨T,b,_,hz⟩
    · exact ⟨_,hz⟩
    · exact ⟨_,hz⟩
  have fin:∀ h':Heap,Zs h' z TI TO (ts++[s.heap.objs.size])->h'.IsListIter i1 l1 (ts.length+1)->h'.IsListIter i2 l2 (ts.length+1)->IsPair h' s.heap.objs.size xs[ts.length] ys[ts.length]->(∀ c o,c≠z->c≠TO->c≠i1->c≠i2->s.heap.get? c=some o->h'.get? c=some o)->(∃ o,h'.get? TO=some o)->Q (some (.ref s.heap.objs.size)) { s with heap:=h' }:=fun h' a1 a2 a3 a4 a5 aTO=>by
    have nTO:s.heap.objs.size≠TO:=let ⟨_,e⟩:=Z.tto; far e
    refine q h' ⟨a1,a5 _ _ D.TIz D.TITO D.TIi1 D.TIi2 Z.ti,by rw [List.length_append]; exact a2,by rw [List.length_append]; exact a3,Z.li1.at fun o e=>a5 _ o D.l1z D.l1TO D.l1i1 D.l1i2 e,Z.li2.at fun o e=>a5 _ o D.l2z D.l2TO D.l2i1 D.l2i2 e,fun j T hj=>?_,?_,aTO⟩ a5
    · by_cases e:j < ts.length
      · rw [List.getElem?_append_left e] at hj
        obtain ⟨x,y,h1,h2,h3,n1,n2,n3,n4⟩:=Z.tup j T hj
        exact ⟨x,y,h1,h2,a5 _ _ n1 n2 n3 n4 h3,n1,n2,n3,n4⟩
      · rw [List.getElem?_append_right (by lia)] at hj
        have ej:j=ts.length:=by
          have:=(List.getElem?_eq_some_iff.mp hj).1
          simp at this
          lia
        subst ej
        have eT:s.heap.objs.size=T:=by simpa using hj
        subst eT
        obtain ⟨o,ho⟩:=hzl
        exact ⟨_,_,sx,sy,a4,far ho,nTO,(by obtain ⟨_,e,_⟩:=Z.it1; exact far e),(by obtain ⟨_,e,_⟩:=Z.it2; exact far e)⟩
    · refine List.nodup_append.mpr ⟨Z.nd,by simp,fun c hc d hd=>?_⟩
      have ed:d=s.heap.objs.size:=by simpa using hd
      obtain ⟨j,hj⟩:=List.getElem?_of_mem hc
      obtain ⟨x,y,_,_,h3,_⟩:=Z.tup j c hj
      rw [ed]
      exact (far h3).symm
  rcases Z.zs with ⟨e,hz,a,b,ho⟩ | ⟨T,b,hT,hz⟩
  · exact wpAny_pyNext_zip_item D hz Z.ti ho Z.it1 Z.it2 Z.li1 Z.li2 sx sy fun h' a1 a2 a3 a4 a5 a6 a7=>fin h' (.inr ⟨_,false,by simp,a1⟩) a3 a4 a5 a7 ⟨_,a2⟩
  · obtain ⟨j,hj⟩:=List.getElem?_of_mem hT
    obtain ⟨x,y,_,_,h3,_⟩:=Z.tup j T hj
    obtain ⟨o,eo⟩:=Z.tto
    exact ug D hz h3 Z.ti Z.it1 Z.it2 Z.li1 Z.li2 sx sy fun h' a1 a2 a3 a4 a5 a6=>fin h' (.inr ⟨T,true,by simp [hT],a1⟩) a2 a3 a4 (fun c o c1 _ c3 c4 e=>a6 c o c1 c3 c4 e) ⟨o,a6 _ _ D.TOz D.TOi1 D.TOi2 eo⟩
theorem yL {z TI TO i1 i2 l1 l2:Addr} {xs ys:Array Value} {ts:List Addr} {Q:Option Value->Shared->Prop} (hh:A.handled=none) (D:ZipApart z TI TO i1 i2 l1 l2) (Z:ZSt s.heap z TI TO i1 i2 l1 l2 xs ys ts) (le:min xs.size ys.size<=ts.length)
    (q:∀ h',(∀ c o,c≠z->c≠TO->c≠i1->c≠i2->s.heap.get? c=some o->h'.get? c=some o)->Q none { s with heap:=h' }):wpAny (model prog w) A (pyNext (.ref z)) Q E s:=by
  have hend:xs[ts.length]? = none\/ys[ts.length]? = none:=by
    by_cases h:xs.size<=ts.length
    · exact .inl (Array.getElem?_eq_none h)
    · exact .inr (Array.getElem?_eq_none (by lia))
  rcases Z.zs with ⟨e,hz,a,b,ho⟩ | ⟨T,b,hT,hz⟩
  · exact wpAny_pyNext_zip_end hh D hz Z.ti ho Z.it1 Z.it2 Z.li1 Z.li2 hend q
  · obtain ⟨j,hj⟩:=List.getElem?_of_mem hT
    obtain ⟨x,y,_,_,h3,_⟩:=Z.tup j T hj
    exact vB hh D hz h3 Z.ti Z.it1 Z.it2 Z.li1 Z.li2 hend fun h' k=>q h' fun c o c1 _ c3 c4 e=>k c o c1 c3 c4 e
end
section
variable {prog:Program} {w:World} {A:Around} {R:Result->Shared->Prop}
theorem xc {z TI TO i1 i2 l1 l2 S:Addr} {xs ys:Array Value} {res:Value} (hh:A.handled=none) (D:ZipApart z TI TO i1 i2 l1 l2) (hS:S≠z/\S≠TI/\S≠TO/\S≠i1/\S≠i2/\S≠l1/\S≠l2) (hn:min xs.size ys.size<=1000000) :
    ∀ (k:Nat) (s:Shared) (ts:List Addr) (acc:Array Value) (c:Nat),min xs.size ys.size - ts.length=k->ts.length<=min xs.size ys.size->ZSt s.heap z TI TO i1 i2 l1 l2 xs ys ts->S∉ts->s.heap.get? S=some { cls:=.type "list",dict:=none,data:=.seq acc c,slots:=#[] }->acc.toList=ts.map Value.ref ->
    (∀ (h':Heap) (ts':List Addr) (acc':Array Value) (c':Nat),(∀ b o,b≠S->b≠z->b≠TO->b≠i1->b≠i2->s.heap.get? b=some o->h'.get? b=some o)->h'.get? S=some { cls:=.type "list",dict:=none,data:=.seq acc' c',slots:=#[] }->acc'.toList=ts'.map Value.ref->ts'.length=min xs.size ys.size->ts'.Nodup->S∉ts' ->
      (∀ (j:Nat) (T:Addr),ts'[j]? = some T->(∃ x y,xs[j]? = some x/\ys[j]? = some y/\IsPair h' T x y)/\(T∈ts\/s.heap.objs.size<=T))->R (.ok (.ret res)) { s with heap:=h' }) ->
    codeAny (model prog w) A (.builtin "list.extend.loop" ⟨[.ref S,.ref z,res],[]⟩) R s:=by
  intro k
  induction k with
  | zero =>
    intro s ts acc c hk hi Z nS hl ea q
    refine codeAny_builtin F.entry_extend_loop ?_
    rw [Around.under_plainId F.plain_extend_loop _]
    show wpAny _ A.in1 (pyNext (.ref z) >>= _) _ _ s
    refine wpAny_bind (yL (A:=A.in1) hh D Z (by lia) fun h' kk=>wpAny_pure (q h' ts acc c (fun b o _ b1 b2 b3 b4 e=>kk b o b1 b2 b3 b4 e) (kk _ _ hS.1 hS.2.2.1 hS.2.2.2.1 hS.2.2.2.2.1 hl) ea (by lia) Z.nd nS fun j T hj=>?_))
    obtain ⟨x,y,h1,h2,h3,n1,n2,n3,n4⟩:=Z.tup j T hj
    exact ⟨⟨x,y,h1,h2,kk _ _ n1 n2 n3 n4 h3⟩,.inl (List.mem_of_getElem? hj)⟩
  | succ k ih =>
    intro s ts acc c hk hi Z nS hl ea q
    have la:acc.size=ts.length:=by rw [<- Array.length_toList,ea,List.length_map]
    refine codeAny_builtin F.entry_extend_loop ?_
    rw [Around.under_plainId F.plain_extend_loop _]
    show wpAny _ A.in1 (pyNext (.ref z) >>= _) _ _ s
    refine wpAny_bind (w8 (A:=A.in1) D Z (by lia) fun h' Z' kk=>?_)
    have hl':=kk _ _ hS.1 hS.2.2.1 hS.2.2.2.1 hS.2.2.2.2.1 hl
    have nS':S≠s.heap.objs.size:=Nat.ne_of_lt (Heap.lt_size hl)
    have nST:S∉ts++[s.heap.objs.size]:=by simp [nS,nS']
    show wpAny _ A.in1 (updateSeq S (·.push (.ref s.heap.objs.size)) >>= _) _ _ _
    have oth:∀ b o,b≠S->h'.get? b=some o->(h'.update S (Obj.mapSeq (·.push (.ref s.heap.objs.size)))).get? b=some o:=fun b o n e=>(Heap.get?_update_other _ _ (Ne.symm n)).trans e
    have Z2:ZSt (h'.update S (Obj.mapSeq (·.push (.ref s.heap.objs.size)))) z TI TO i1 i2 l1 l2 xs ys (ts++[s.heap.objs.size]):=Z'.keep fun b o e hb=>oth b o (fun z=>by
      subst z
      rcases hb with h | h | h | h | h | h | h | h
      · exact hS.1 h
      · exact hS.2.1 h
      · exact hS.2.2.1 h
      · exact hS.2.2.2.1 h
      · exact hS.2.2.2.2.1 h
      · exact hS.2.2.2.2.2.1 h
      · exact hS.2.2.2.2.2.2 h
      · exact nST h) e
    refine wpAny_bind (wpAny_updateSeq hl' rfl (wpAny_pure ⟨plainId_quiet F.plain_extend_loop _,ih { s with heap:=h'.update S (Obj.mapSeq (·.push (.ref s.heap.objs.size))) } (ts++[s.heap.objs.size]) (acc.push (.ref s.heap.objs.size)) _ (by rw [List.length_append]; show _ - (ts.length+1)=k; lia) (by rw [List.length_append]; show ts.length+1<=_; lia) Z2 nST (Heap.get?_update_self _ hl' rfl) (by rw [Array.toList_push,ea,List.map_append]; rfl) fun h2 ts' acc' c' kk2 hl2 ea2 lt2 nd2 nS2 tu=>?_⟩)
      (by rw [la,sizeLine_eq]; lia) (by show (acc.push (.ref s.heap.objs.size)).size<=sizeLine+1; rw [Array.size_push,la,sizeLine_eq]; lia))
    refine q h2 ts' acc' c' (fun b o b0 b1 b2 b3 b4 e=>kk2 b o b0 b1 b2 b3 b4 (oth b o b0 (kk b o b1 b2 b3 b4 e))) hl2 ea2 lt2 nd2 nS2 fun j T hj=>?_
    obtain ⟨g1,g2⟩:=tu j T hj
    refine ⟨g1,?_⟩
    rcases g2 with g | g
    · rcases List.mem_append.mp g with g | g
      · exact .inl g
      · exact .inr (by rw [show T=s.heap.objs.size by simpa using g]; exact Nat.le_refl _)
    · have hsz:s.heap.objs.size<=(h'.update S (Obj.mapSeq (·.push (.ref s.heap.objs.size)))).objs.size:=by
        rw [Heap.size_update]
        obtain ⟨x,y,_,_,h3,_⟩:=Z'.tup ts.length s.heap.objs.size (by simp)
        exact Nat.le_of_lt (Heap.lt_size h3)
      exact .inr (Nat.le_trans hsz g)
end
end Zp
namespace Zp
open PySem PyProof.Rows
theorem xW:typeLookup (.type "zip") "__len__" = pure none:=by rw [typeLookup_type,builtinLookup_eq_fast]; kernel_rfl
theorem we:typeLookup (.type "zip") "__length_hint__" = pure none:=by rw [typeLookup_type,builtinLookup_eq_fast]; kernel_rfl
section
variable {prog:Program} {w:World} {A:Around} {E:Value->Shared->Prop} {s:Shared}
theorem vT {z:Addr} {Q:Bool->Shared->Prop} (hT:s.TypeIs (.ref z) "zip") (q:Q true s):wpAny (model prog w) A (Builtin.List.listLengthHint (.ref z)) Q E s:=by
  unfold Builtin.List.listLengthHint
  refine wpAny_bind (wpAny_specialOf hT xW ?_)
  dsimp only
  exact wpAny_bind (wpAny_specialOf hT we (wpAny_pure q))
theorem ZSt.zip {h:Heap} {z TI TO i1 i2 l1 l2:Addr} {xs ys:Array Value} (Z:ZSt h z TI TO i1 i2 l1 l2 xs ys []):IsZip h z TI TO .none:=by
  rcases Z.zs with ⟨_,hz,_⟩ | ⟨T,b,hT,_⟩
  · exact hz
  · cases hT
theorem ud {R:Result->Shared->Prop} {z TI TO i1 i2 l1 l2 S:Addr} {xs ys:Array Value} {res:Value} {c:Nat} (hh:A.handled=none) (D:ZipApart z TI TO i1 i2 l1 l2) (hS:S≠z/\S≠TI/\S≠TO/\S≠i1/\S≠i2/\S≠l1/\S≠l2) (hn:min xs.size ys.size<=1000000)
    (Z:ZSt s.heap z TI TO i1 i2 l1 l2 xs ys []) (hl:s.heap.get? S=some { cls:=.type "list",dict:=none,data:=.seq #[] c,slots:=#[] })
    (q:∀ (h':Heap) (ts:List Addr) (acc:Array Value) (c':Nat),(∀ b o,b≠S->b≠z->b≠TO->b≠i1->b≠i2->s.heap.get? b=some o->h'.get? b=some o)->h'.get? S=some { cls:=.type "list",dict:=none,data:=.seq acc c',slots:=#[] }->acc.toList=ts.map Value.ref->ts.length=min xs.size ys.size->ts.Nodup->S∉ts ->
      (∀ (j:Nat) (T:Addr),ts[j]? = some T->(∃ x y,xs[j]? = some x/\ys[j]? = some y/\IsPair h' T x y)/\s.heap.objs.size<=T)->R (.ok (.ret res)) { s with heap:=h' }) :
    wpAny (model prog w) A.in1 (Builtin.List.listExtendWith (.ref S) (.ref z) res) (fun fin s'=>match fin with | .done f=>R (.ok f) s' | .again c'=>c'.quiet=true/\codeAny (model prog w) A c' R s') (fun e s'=>R (.error e) s') s:=by
  have hz:=Z.zip
  have n1:Builtin.List.listSameRef (.ref S) (.ref z)=false:=by simp [Builtin.List.listSameRef,hS.1]
  have n2:(Value.type "zip" == Value.type "list")=false:=by decide
  have n3:(Value.type "zip" == Value.type "tuple")=false:=by decide
  unfold Builtin.List.listExtendWith
  refine wpAny_bind (wpAny_typeOf (T:="zip") ⟨_,hz,rfl⟩ ?_)
  simp only [n1,n2,n3,Bool.or_false,Bool.false_eq_true,if_false]
  refine wpAny_bind (wpAny_pyIter_zip hz (wpAny_bind (wpAny_holding (vT ⟨_,hz,rfl⟩ ?_))))
  simp only [Bool.true_or,if_true]
  refine wpAny_bind (wpAny_rule (wpAny_bind ?_))
  show wpAny _ _ (updateSeq S (·.push .none) >>= fun _=>updateSeq S (·.pop)) _ _ _
  have hl2:=Heap.get?_update_self (Obj.mapSeq (·.push Value.none)) hl rfl
  have hl3:=Heap.get?_update_self (Obj.mapSeq (·.pop)) hl2 rfl
  have oth:∀ b o,b≠S->s.heap.get? b=some o->((s.heap.update S (Obj.mapSeq (·.push Value.none))).update S (Obj.mapSeq (·.pop))).get? b=some o:=fun b o n e=>(Heap.get?_update_other _ _ (Ne.symm n)).trans ((Heap.get?_update_other _ _ (Ne.symm n)).trans e)
  refine wpAny_bind (wpAny_updateSeq hl rfl (wpAny_updateSeq hl2 rfl (wpAny_pure ⟨plainId_quiet F.plain_extend_loop _,?_⟩) (by show 1<=sizeLine; rw [sizeLine_eq]; lia) (by show 0<=_; exact Nat.zero_le _)) (Nat.zero_le _) (by show 1<=_; rw [sizeLine_eq]; lia))
  refine xc (xs:=xs) (ys:=ys) hh D hS hn _ _ [] #[] _ rfl (Nat.zero_le _) (Z.keep fun b o e hb=>oth b o (fun x=>by
      subst x
      rcases hb with h | h | h | h | h | h | h | h
      · exact hS.1 h
      · exact hS.2.1 h
      · exact hS.2.2.1 h
      · exact hS.2.2.2.1 h
      · exact hS.2.2.2.2.1 h
      · exact hS.2.2.2.2.2.1 h
      · exact hS.2.2.2.2.2.2 h
      · cases h) e) (by simp) hl3 rfl fun h' ts acc c' k e1 e2 e3 e4 e5 e6=>q h' ts acc c' (fun b o b0 b1 b2 b3 b4 e=>k b o b0 b1 b2 b3 b4 (oth b o b0 e)) e1 e2 e3 e4 e5 fun j T hj=>?_
  obtain ⟨g1,g2⟩:=e6 j T hj
  refine ⟨g1,?_⟩
  rcases g2 with g | g
  · cases g
  · rw [Heap.size_update,Heap.size_update] at g
    exact g
theorem list_zip {Q:Value->Shared->Prop} {z TI TO i1 i2 l1 l2:Addr} {xs ys:Array Value} (hh:A.handled=none) (D:ZipApart z TI TO i1 i2 l1 l2) (hn:min xs.size ys.size<=1000000) (Z:ZSt s.heap z TI TO i1 i2 l1 l2 xs ys [])
    (q:∀ (h':Heap) (ts:List Addr) (acc:Array Value) (c':Nat),(∀ b o,b≠z->b≠TO->b≠i1->b≠i2->s.heap.get? b=some o->h'.get? b=some o)->h'.get? s.heap.objs.size=some { cls:=.type "list",dict:=none,data:=.seq acc c',slots:=#[] }->acc.toList=ts.map Value.ref->ts.length=min xs.size ys.size->ts.Nodup ->
      (∀ (j:Nat) (T:Addr),ts[j]? = some T->(∃ x y,xs[j]? = some x/\ys[j]? = some y/\IsPair h' T x y)/\s.heap.objs.size < T)->Q (.ref s.heap.objs.size) { s with heap:=h' }) :
    wpAny (model prog w) A (call (.type "list") [.ref z]) Q E s:=by
  have hz:=Z.zip
  have far:∀ {c o},s.heap.get? c=some o->s.heap.objs.size≠c:=fun e=>Nat.ne_of_gt (Heap.lt_size e)
  have hS:s.heap.objs.size≠z/\s.heap.objs.size≠TI/\s.heap.objs.size≠TO/\s.heap.objs.size≠i1/\s.heap.objs.size≠i2/\s.heap.objs.size≠l1/\s.heap.objs.size≠l2 :=
    ⟨far hz,far Z.ti,(let ⟨_,e⟩:=Z.tto; far e),(let ⟨_,e,_⟩:=Z.it1; far e),(let ⟨_,e,_⟩:=Z.it2; far e),(let ⟨_,e,_⟩:=Z.li1; far e),(let ⟨_,e,_⟩:=Z.li2; far e)⟩
  refine callType_codes (Q₁:=fun T s1=>T = .ref s.heap.objs.size/\s1={ s with heap:=s.heap.push { cls:=.type "list",data:=.seq #[] } }) F.called_list (F.typeCall_list_1 _) F.entry_list_init (code_list_new _ ⟨rfl,rfl⟩) fun T s1 e1=>?_
  obtain ⟨rfl,rfl⟩:=e1
  have g0:(s.heap.push { cls:=.type "list",data:=.seq #[] }).get? s.heap.objs.size=some { cls:=.type "list",data:=.seq #[] }:=Heap.get?_push_size _ rfl
  have g1:=Heap.get?_update_self (Obj.mapSeq (fun _=>(#[]:Array Value))) g0 rfl
  have oth:∀ b o,s.heap.get? b=some o->((s.heap.push { cls:=.type "list",data:=.seq #[] }).update s.heap.objs.size (Obj.mapSeq (fun _=>(#[]:Array Value)))).get? b=some o:=fun b o e=>(Heap.get?_update_other _ _ (far e)).trans (Heap.get?_push_of_some _ e)
  refine ⟨⟨_,g0,rfl⟩,F.args_list_init_2 _ _,?_⟩
  show wpAny _ _ (do let was <- Builtin.List.listItems (.ref s.heap.objs.size); Builtin.List.listUpdate (.ref s.heap.objs.size) (fun _=>#[]); letGo was.toList.reverse; Builtin.List.listExtendWith (.ref s.heap.objs.size) (.ref z) .none) _ _ _
  refine wpAny_bind ?_
  unfold Builtin.List.listItems
  refine wpAny_bind (wpAny_seqItems g0 rfl (wpAny_pure ?_))
  show wpAny _ _ (updateSeq s.heap.objs.size (fun _=>#[]) >>= fun _=>letGo (#[]:Array Value).toList.reverse >>= fun _=>Builtin.List.listExtendWith (.ref s.heap.objs.size) (.ref z) .none) _ _ _
  refine wpAny_bind (wpAny_updateSeq g0 rfl (wpAny_bind (wpAny_letGo ?_)) (Nat.zero_le _) (Nat.zero_le _))
  refine ud (s:={ s with heap:=(s.heap.push { cls:=.type "list",data:=.seq #[] }).update s.heap.objs.size (Obj.mapSeq (fun _=>(#[]:Array Value))) }) (A:=A.in1) hh D hS hn (Z.keep fun b o e _=>oth b o e) g1 fun h' ts acc c' k e1 e2 e3 e4 e5 e6=>⟨rfl,q h' ts acc c' (fun b o b1 b2 b3 b4 e=>k b o (Ne.symm (far e)) b1 b2 b3 b4 (oth b o e)) e1 e2 e3 e4 fun j T hj=>?_⟩
  obtain ⟨x1,x2⟩:=e6 j T hj
  rw [Heap.size_update,Heap.size_push] at x2
  exact ⟨x1,x2⟩
end
end Zp
namespace Ck
open PySem L2
theorem qx {α β:Type} {R:α->β->Prop}:∀ {as:List α} {bs:List β},as.length=bs.length->(∀ (j:Nat) a b,as[j]? = some a->bs[j]? = some b->R a b)->Paired R as bs
  | [],[],_,_=>.nil
  | a::as,b::bs,hl,h=>.cons (h 0 a b rfl rfl) (qx (by simpa using hl) fun j x y e1 e2=>h (j+1) x y (by simpa using e1) (by simpa using e2))
end Ck
namespace L2
open PySem PySem.Spec PyProof.Rows Ck
section
variable {X:Cx}
theorem sE {pins:List (Addr × Obj)} {σ:St} {s:Shared} {ts:List Addr} {ps:List Pair} (r:Paired (fun (T:Addr) (p:Pair)=>∃ t u,IsPair s.heap T (.int p.1 t) (.int p.2 u)) ts ps) :
    ∀ (H:Hp),Inv X pins σ H s->(∀ T∈ts,tS X pins H T)->ts.Nodup->∃ H',Inv X pins σ H' s/\ao H H'/\dZ H' (ts.map V.ref) ps/\∀ b,b∉ts->H' b=H b:=by
  induction r with
  | nil=>exact fun H I _ _=>⟨H,I,ao.refl H,.nil,fun _ _=>rfl⟩
  | @cons T p ts ps h r ih =>
    intro H I o nd
    obtain ⟨t,u,h⟩:=h
    have oT:=o T (List.mem_cons_self ..)
    rw [List.nodup_cons] at nd
    have ok:dt X.prog X.w (upd H T (.tup [.int p.1,.int p.2])) s.heap T (.tup [.int p.1,.int p.2]):=⟨sz (n:=2) (by decide),[.int p.1 t,.int p.2 u],.cons ⟨_,rfl⟩ (.cons ⟨_,rfl⟩ .nil),_,h,rfl,_,rfl⟩
    have I1:=I.trackO oT ok
    obtain ⟨H',I',s',pr,k⟩:=ih _ I1 (fun U hU=>by
      have ne:U≠T:=fun z=>nd.1 (z▸hU)
      have oU:=o U (List.mem_cons_of_mem _ hU)
      exact ⟨oU.new,(ar ne).trans oU.free,oU.loc,oU.cell,oU.pin⟩) nd.2
    refine ⟨H',I',(ao.new (ao.refl H) oT.free _).trans s',.cons ⟨T,rfl,s' _ _ ag⟩ pr,fun b hb=>?_⟩
    rw [k b (fun z=>hb (List.mem_cons_of_mem _ z))]
    exact ar fun z=>hb (by rw [z]; exact List.mem_cons_self ..)
noncomputable def Ao (K:W.Frag) (ta:TA):TE:=fun σ H Q=>ta σ H fun vs H1=>∃ (p q:Addr) (ns ms:List Int),vs=[.ref p,.ref q]/\aq K H1 p (ns.map V.int)/\aq K H1 q (ms.map V.int)/\ns.length<=1000000/\∀ (l:Addr) (H2:Hp),ao H1 H2->H1 l=none->mY H2 l (ns.zip ms)->Q (.ref l) H2
theorem xM {K:W.Frag} {a b:Expr} {ta:TA} {p p2 pos pos2:Pos} (hK:X.K=K) (hc:X.calm=true) (hgl:Gl X "list") (hml:X.mg "list" = none) (hg:Gl X "zip") (hm:X.mg "zip" = none) (ha:PA X [a,b] ta) (hs:starEach [a,b] X.env=[(false,eval a X.env),(false,eval b X.env)]:=by rfl) (hs2:starEach [b] X.env=[(false,eval b X.env)]:=by rfl)
    (he:starEach [.Call (.Name "zip" p) [a,b] [] pos] X.env=[(false,eval (.Call (.Name "zip" p) [a,b] [] pos) X.env)]:=by rfl) :
    PE X (.Call (.Name "list" p2) [.Call (.Name "zip" p) [a,b] [] pos] [] pos2) (Ao K ta):=by
  subst hK
  intro pins s σ H Q I h
  refine wpAny_Call_Name_kw (gm I hgl hml iH ?_ (by decide) (by decide))
  refine PyProof.Rows.callWith_type1 ?_ he rfl
  rw [he]
  show wpAny _ _ (spliced ((false,eval (.Call (.Name "zip" p) [a,b] [] pos) X.env)::backTo pos2 [])) _ _ s
  refine Calls.spliced_cons (Call_ (gm I hg hm boot_zip (PyProof.Rows.callWith_type1 (aE (ha pos pins s σ H _ I h) fun us s1 ⟨vs,H1,I1,r1,q1⟩=>?_) (by rw [hs,hs2]) (by rw [hs2]; rfl))))
  obtain ⟨p1,p2,ns,ms,e,l1,l2,z1,q⟩:=q1
  subst e
  obtain ⟨u1,u2,rfl,ru1,ru2⟩:=vals2 r1
  cases ru1
  cases ru2
  obtain ⟨its,rv,pl,hz⟩:=I1.list l1
  obtain ⟨jts,rw_,pm,hz2⟩:=I1.list l2
  have hi:=intsAre_of rv
  have hj:=intsAre_of rw_
  have li:=hi.length
  have lj:=hj.length
  have lt1:p1 < s1.heap.objs.size:=by obtain ⟨_,e,_⟩:=pl.isList; exact Heap.lt_size e
  have lt2:p2 < s1.heap.objs.size:=by obtain ⟨_,e,_⟩:=pm.isList; exact Heap.lt_size e
  refine call_zip_2 pl.isList pm.isList fun h2 hzz hTI hTO hi1 hi2 hsz hk=>Calls.spliced_nil ?_
  have D:=zipApart_new lt1 lt2
  have I2:Inv X pins σ H1 { s1 with heap:=h2 }:=I1.kept (t':=s1.toks) hk
  have Z:Zp.ZSt h2 (s1.heap.objs.size+4) (s1.heap.objs.size+2) (s1.heap.objs.size+3) s1.heap.objs.size (s1.heap.objs.size+1) p1 p2 its.toArray jts.toArray [] :=
    ⟨.inl ⟨rfl,hzz,_,_,hTO⟩,hTI,hi1,hi2,pl.isList.at fun o e=>hk _ o e,pm.isList.at fun o e=>hk _ o e,fun j T hj=>by simp at hj,List.nodup_nil,⟨_,hTO⟩⟩
  refine Zp.list_zip (s:={ s1 with heap:=h2 }) (I.ok.hd hc) D (by simp; lia) Z fun h3 ts acc c kk hl ea lts nd tu=>?_
  have k3:∀ b o,s1.heap.get? b=some o->h3.get? b=some o:=fun b o e=>by
    have lt:=Heap.lt_size e
    exact kk b o (Nat.ne_of_lt (Nat.lt_of_lt_of_le lt (Nat.le_add_right _ _))) (Nat.ne_of_lt (Nat.lt_of_lt_of_le lt (Nat.le_add_right _ _))) (Nat.ne_of_lt lt) (Nat.ne_of_lt (Nat.lt_of_lt_of_le lt (Nat.le_add_right _ _))) (hk b o e)
  have I3:Inv X pins σ H1 { s1 with heap:=h3 }:=I1.kept (t':=s1.toks) k3
  have our:∀ T,s1.heap.objs.size<=T->tS X pins H1 T:=fun T hT=>by
    have f:=I1.fpOk hT (I1.hok.fresh hT)
    exact ⟨Heap.get?_none_of_le (Nat.le_trans I1.sz hT),f.1,f.2.1,f.2.2.2.2.1,f.2.2.2.2.2⟩
  have hgt:∀ T∈ts,h2.objs.size < T:=fun T hT=>by
    obtain ⟨j,hj⟩:=List.getElem?_of_mem hT
    exact (tu j T hj).2
  have lz:(ns.zip ms).length=ts.length:=by rw [lts,List.length_zip]; simp; lia
  have prd:Paired (fun (T:Addr) (p:Pair)=>∃ t u,IsPair h3 T (.int p.1 t) (.int p.2 u)) ts (ns.zip ms):=by
    refine qx lz.symm fun j T pr e1 e2=>?_
    obtain ⟨⟨x,y,hx,hy,hp⟩,_⟩:=tu j T e1
    have hx':its[j]? = some x:=by simpa using hx
    have hy':jts[j]? = some y:=by simpa using hy
    rw [List.getElem?_zip_eq_some] at e2
    obtain ⟨t,et⟩:=mP hi e2.1
    obtain ⟨u,eu⟩:=mP hj e2.2
    rw [et] at hx'
    rw [eu] at hy'
    cases hx'
    cases hy'
    exact ⟨t,u,hp⟩
  obtain ⟨H',I',s',prs,kf⟩:=sE prd H1 I3 (fun T hT=>our T (by have:=hgt T hT; lia)) nd
  have nS:h2.objs.size∉ts:=fun z=>Nat.lt_irrefl _ (hgt _ z)
  have oS:=our h2.objs.size (by lia)
  have fS:H' h2.objs.size=none:=by rw [kf _ nS]; exact oS.free
  have vs:Vals (ts.map V.ref) acc.toList:=by
    rw [ea]
    have go:∀ ts:List Addr,Vals (ts.map V.ref) (ts.map Value.ref):=fun ts=>by
      induction ts with
      | nil=>exact .nil
      | cons T ts ih=>exact .cons rfl ih
    exact go ts
  have I4:=I'.trackO (o':=.lst (ts.map V.ref)) ⟨oS.new,fS,oS.loc,oS.cell,oS.pin⟩ ⟨by rw [List.length_map,lts]; simp; exact sz (by lia),acc.toList,c,vs,hl⟩
  exact ⟨.ref h2.objs.size,_,I4,rfl,q _ _ (s'.trans (ao.new (ao.refl H') fS _)) oS.free ⟨_,ag,prs.updN fS _⟩⟩
end
end L2
set_option Elab.async false
set_option linter.all false
set_option maxRecDepth 100000
set_option maxHeartbeats 4000000
namespace Ck
open PySem L2
noncomputable abbrev aI (H0 H:Hp) (a:Addr):List Addr->List (List Int)->Prop:=Paired (fun (b:Addr) (ns:List Int)=>H b=some (.lst (ns.map V.int))/\H0 b=none/\b≠a)
def aZ (H0 H:Hp) (a:Addr) (rs:List (List Int)):Prop:=∃ bs:List Addr,H a=some (.lst (bs.map V.ref))/\aI H0 H a bs rs/\bs.Nodup
theorem aZ.nil {H0 H:Hp} {a:Addr} (h:H a=some (.lst [])):aZ H0 H a []:=⟨[],h,.nil,List.nodup_nil⟩
theorem aZ.same {H0 H H':Hp} {a:Addr} {rs:List (List Int)} (h:aZ H0 H a rs) (s:ao H H'):aZ H0 H' a rs :=
  let ⟨bs,e,r,n⟩:=h
  ⟨bs,s _ _ e,Paired.mapP r fun _ _ ⟨p,q⟩=>⟨s _ _ p,q⟩,n⟩
theorem aZ.since {H0 H1 H:Hp} {a:Addr} {rs:List (List Int)} (h:aZ H0 H a rs) (s:ao H1 H0):aZ H1 H a rs :=
  let ⟨bs,e,r,n⟩:=h
  ⟨bs,e,Paired.mapP r fun _ _ ⟨p,q,z⟩=>⟨p,s.free q,z⟩,n⟩
theorem aZ.len {H0 H:Hp} {a:Addr} {rs:List (List Int)} (h:aZ H0 H a rs):∃ xs,H a=some (.lst xs)/\xs.length=rs.length :=
  let ⟨bs,e,r,_⟩:=h
  ⟨_,e,by rw [List.length_map]; exact Paired.length r⟩
theorem aI.get {H0 H:Hp} {a:Addr}:∀ {bs:List Addr} {rs:List (List Int)},aI H0 H a bs rs->∀ {j:Nat} {ns:List Int},rs[j]? = some ns->∃ b,bs[j]? = some b/\H b=some (.lst (ns.map V.int))/\H0 b=none/\b≠a
  | _,_,.nil,j,ns,e=>by cases e
  | _,_,.cons r t,0,ns,e=>by
    rw [List.getElem?_cons_zero] at e
    cases e
    exact ⟨_,rfl,r⟩
  | _,_,.cons r t,j+1,ns,e=>aI.get t (j:=j) (by simpa using e)
theorem aZ.get {H0 H:Hp} {a:Addr} {rs:List (List Int)} (h:aZ H0 H a rs) {xs:List V} (hx:H a=some (.lst xs)) {j:Nat} {ns:List Int} (e:rs[j]? = some ns):∃ b,xs[j]? = some (.ref b)/\H b=some (.lst (ns.map V.int))/\H0 b=none/\b≠a:=by
  obtain ⟨bs,e1,r,_⟩:=h
  rw [hx] at e1
  cases e1
  obtain ⟨b,h1,h2⟩:=r.get e
  exact ⟨b,by rw [List.getElem?_map,h1]; rfl,h2⟩
theorem aI.updC {H0 H:Hp} {a c:Addr} {o:HO}:∀ {bs:List Addr} {rs:List (List Int)},aI H0 H a bs rs->(∀ b∈bs,b≠c)->aI H0 (upd H c o) a bs rs
  | _,_,.nil,_=>.nil
  | _,_,.cons ⟨p,q⟩ t,n=>.cons ⟨(ar (n _ (by simp))).trans p,q⟩ (aI.updC t fun b hb=>n b (by simp [hb]))
theorem aI.all {H0 H:Hp} {a:Addr}:∀ {bs:List Addr} {rs:List (List Int)},aI H0 H a bs rs->∀ b∈bs,(∃ ns:List Int,H b=some (.lst (ns.map V.int)))/\H0 b=none/\b≠a
  | _,_,.nil,b,hb=>by cases hb
  | _,_,.cons ⟨p,q⟩ t,b,hb=>by
    rcases List.mem_cons.mp hb with rfl | z
    · exact ⟨⟨_,p⟩,q⟩
    · exact aI.all t b z
theorem aZ.updC {H0 H:Hp} {a c:Addr} {o o':HO} {rs:List (List Int)} (h:aZ H0 H a rs) (hc:H0 c=some o') (ne:a≠c):aZ H0 (upd H c o) a rs:=by
  obtain ⟨bs,e,r,n⟩:=h
  exact ⟨bs,(ar ne).trans e,r.updC (fun b hb z=>by have:=(r.all b hb).2.1; rw [z,hc] at this; cases this),n⟩
theorem aI.snoc {H0 H:Hp} {a b:Addr} {ns:List Int} (hb:H b=some (.lst (ns.map V.int))) (h0:H0 b=none) (ne:b≠a):∀ {bs:List Addr} {rs:List (List Int)},aI H0 H a bs rs->aI H0 H a (bs++[b]) (rs++[ns])
  | _,_,.nil=>.cons ⟨hb,h0,ne⟩ .nil
  | _,_,.cons r t=>.cons r (aI.snoc hb h0 ne t)
theorem aZ.snoc {H0 H:Hp} {a b:Addr} {rs:List (List Int)} {xs:List V} (h:aZ H0 H a rs) (hx:H a=some (.lst xs)) (hb:H b=none) (h0:H0 b=none) (ns:List Int) :
    aZ H0 (upd (upd H b (.lst (ns.map V.int))) a (.lst (xs++[.ref b]))) a (rs++[ns]):=by
  obtain ⟨bs,e,r,n⟩:=h
  rw [hx] at e
  cases e
  have ne:b≠a:=fun z=>by rw [z,hx] at hb; cases hb
  have nb:∀ c∈bs,c≠b:=fun c hc z=>by
    obtain ⟨⟨ms,e⟩,_⟩:=r.all c hc
    rw [z,hb] at e
    cases e
  have r1:aI H0 (upd H b (.lst (ns.map V.int))) a bs rs:=r.updC nb
  have r2:aI H0 (upd (upd H b (.lst (ns.map V.int))) a (.lst (bs.map V.ref++[.ref b]))) a bs rs:=r1.updC fun c hc=>(r.all c hc).2.2
  refine ⟨bs++[b],by rw [ag,List.map_append]; rfl,aI.snoc ((ar ne).trans ag) h0 ne r2,?_⟩
  refine List.nodup_append.mpr ⟨n,by simp,?_⟩
  intro c hc d hd
  have:d=b:=by simpa using hd
  rw [this]
  exact nb c hc
theorem aI.put {H0 H:Hp} {a b:Addr} {ms:List Int}:∀ {bs:List Addr} {rs:List (List Int)} {j:Nat},aI H0 H a bs rs->bs.Nodup->bs[j]? = some b->aI H0 (upd H b (.lst (ms.map V.int))) a bs (rs.set j ms)
  | _,_,j,.nil,_,e=>by cases e
  | _,_,0,.cons r t,n,e=>by
    rw [List.getElem?_cons_zero] at e
    cases e
    rw [List.nodup_cons] at n
    exact .cons ⟨ag,r.2⟩ (aI.updC t fun c hc z=>n.1 (z▸hc))
  | _,_,j+1,.cons r t,n,e=>by
    rw [List.nodup_cons] at n
    have e':=e
    rw [List.getElem?_cons_succ] at e'
    have hb:=List.mem_of_getElem? e'
    exact .cons ⟨(ar (fun z=>n.1 (by rw [z]; exact hb))).trans r.1,r.2⟩ (aI.put t n.2 e')
theorem aZ.put {H0 H:Hp} {a b:Addr} {rs:List (List Int)} {xs:List V} (h:aZ H0 H a rs) (hx:H a=some (.lst xs)) {j:Nat} (e:xs[j]? = some (.ref b)) (ms:List Int):aZ H0 (upd H b (.lst (ms.map V.int))) a (rs.set j ms):=by
  obtain ⟨bs,e1,r,n⟩:=h
  rw [hx] at e1
  cases e1
  have e2:bs[j]? = some b:=by
    rw [List.getElem?_map] at e
    cases hb:bs[j]? with
    | none=>rw [hb] at e; cases e
    | some c =>
      rw [hb] at e
      have:V.ref c=V.ref b:=by simpa using e
      cases this
      rfl
  exact ⟨bs,(ar (Ne.symm (r.all b (List.mem_of_getElem? e2)).2.2)).trans hx,r.put n e2,n⟩
inductive fX:List (List Int)->List Nat->Nat->Prop
  | start:fX [] [] 0
  | shut {rs:List (List Int)} {p:List Nat} {m k:Nat}:fX rs (p++[m]) k->fX rs p k
  | opn {rs:List (List Int)} {p:List Nat} {k:Nat}:fX rs p k->fX (rs++[[(k:Int)]]) (p++[rs.length]) (k+1)
  | put {rs:List (List Int)} {p:List Nat} {m k:Nat} {r:List Int}:fX rs (p++[m]) k->rs[m]? = some r->fX (rs.set m (r++[(k:Int)])) (p++[m]) (k+1)
theorem fX.lens {rs:List (List Int)} {p:List Nat} {k:Nat} (h:fX rs p k):rs.length<=k/\(∀ m∈p,m < rs.length)/\p.length<=rs.length/\∀ r∈rs,r.length<=k:=by
  induction h with
  | start=>simp
  | @shut rs p m k _ ih =>
    obtain ⟨h1,h2,h3,h4⟩:=ih
    exact ⟨h1,fun x hx=>h2 x (by simp [hx]),by simp at h3; lia,h4⟩
  | @opn rs p k _ ih =>
    obtain ⟨h1,h2,h3,h4⟩:=ih
    refine ⟨by simp; lia,fun x hx=>?_,by simp; lia,fun r hr=>?_⟩
    · rcases List.mem_append.mp hx with z | z
      · have:=h2 x z; simp; lia
      · have:x=rs.length:=by simpa using z
        simp; lia
    · rcases List.mem_append.mp hr with z | z
      · have:=h4 r z; lia
      · have:r=[(k:Int)]:=by simpa using z
        rw [this]; simp
  | @put rs p m k r _ hr ih =>
    obtain ⟨h1,h2,h3,h4⟩:=ih
    refine ⟨by rw [List.length_set]; lia,fun x hx=>by rw [List.length_set]; exact h2 x hx,by rw [List.length_set]; exact h3,fun s hs=>?_⟩
    rcases List.mem_or_eq_of_mem_set hs with z | z
    · have:=h4 s z; lia
    · have:=h4 r (List.mem_of_getElem? hr)
      rw [z]; simp; lia
end Ck
namespace Ck
open PySem L2
def fH (H H':Hp):Prop:=∀ b,H' b=none->H b=none
theorem fH.refl (H:Hp):fH H H:=fun _ h=>h
theorem fH.free' {H H':Hp} {b:Addr} (s:fH H H') (h:H' b=none):H b=none:=s b h
theorem fH.upd {H H':Hp} (s:fH H H') (a:Addr) (o:HO):fH H (L2.upd H' a o):=fun b h=>s b (by
  by_cases e:b=a
  · rw [e,ag] at h; cases h
  · rw [ar e] at h; exact h)
theorem fH.new {H H':Hp} {o:HO} (s:fH H H') (a:Addr):fH H (L2.upd H' a o):=s.upd a o
end Ck
set_option Elab.async false
set_option linter.all false
set_option maxRecDepth 100000
set_option maxHeartbeats 4000000
namespace Ck
open PySem PySem.Spec PyProof.Rows L2
theorem om {X:Cx} {pins:List (Addr × Obj)} {σ:L2.St} {H H0:Hp} {s:Shared} {a:Addr} (I:Inv X pins σ H s):∀ {bs:List Addr} {rs:List (List Int)} {vs:List Value},aI H0 H a bs rs->Vals (bs.map V.ref) vs->lO s.heap vs rs
  | _,_,_,.nil,.nil=>.nil
  | _,_,_,.cons r t,.cons rv tv=>by
    cases rv
    obtain ⟨z,its,n,r',hl,e⟩:=I.lstM r.1
    exact .cons ⟨_,its,n,rfl,intsAre_of r',e⟩ (om I t tv)
theorem oK {H H' H0:Hp} {a a':Addr}:∀ {bs:List Addr} {rs:List (List Int)},aI H0 H a bs rs->(∀ b∈bs,H' b=H b/\b≠a')->aI H0 H' a' bs rs
  | _,_,.nil,_=>.nil
  | _,_,.cons ⟨p,q,_⟩ t,k=>.cons ⟨(k _ (by simp)).1.trans p,q,(k _ (by simp)).2⟩ (oK t fun b hb=>k b (by simp [hb]))
end Ck
namespace L2
open PySem PySem.Spec PyProof.Rows PySem.W Ck
section
variable {X:Cx}
theorem mB (hu:X.A.units+100 < cLine):eY X (.builtin "sorted") (fun xs H Q=>∃ (p:Addr) (H0:Hp) (rs:List (List Int)),xs=[.ref p]/\aZ H0 H p rs/\rs.length < 64/\∀ (q:Addr) (ss:List (List Int)) (H':Hp),ao H H'->H q=none->aZ H0 H' q ss->ss.Perm rs->ss.Pairwise (fun a b=>d3 b a=false)->(∀ (ws zs:List V),H p=some (.lst ws)->H' q=some (.lst zs)->∀ v∈zs,v∈ws)->Q (.ref q) H'):=by
  intro pins s σ H xs us Q I r h
  obtain ⟨p,H0,rs,rfl,⟨bs,hl,ro,nd⟩,h64,q⟩:=h
  obtain ⟨u,rfl,ru⟩:=vals1 r
  cases ru
  obtain ⟨its,r',pl,hz⟩:=I.list (aq.of hl)
  have lw:bs.length=rs.length:=Paired.length ro
  have li:(bs.map V.ref).length=its.length:=r'.length
  rw [List.length_map] at li
  have lv:=om I ro r'
  refine oJ (z7 rs) pl.isList (by lia) (fun h6 old h2=>y3 (s1:={ s with heap:=h6 }) (show X.A.units+1+1 < cLine by lia) (lv.mono old) h2) fun g ok ri=>?_
  obtain ⟨e,he⟩:=sortedAll_at s.heap its (iP its g).toArray
  have hb:∀ i∈g.toList,i < its.length:=fun i hi=>List.mem_range.mp (ok.mem_iff.mp hi)
  have lg:g.toList.length=its.length:=by rw [ok.length_eq,List.length_range]
  have em:(g.toList.map fun i=>(bs.map V.ref).getD i V.non)=(g.toList.map fun i=>bs.getD i 0).map V.ref:=by
    rw [List.map_map]
    refine List.map_congr_left fun i hi=>?_
    have:=hb i hi
    have l1:i < bs.length:=by lia
    simp [l1]
  have hz2:((g.toList.map fun i=>bs.getD i 0).map V.ref).length<=sizeLine:=by rw [List.length_map,List.length_map,lg]; exact sz (by lia)
  have vs2:Vals ((g.toList.map fun i=>bs.getD i 0).map V.ref) (iP its g):=by
    rw [<- em]
    exact gU r' V.non Value.none g.toList (fun i hi=>by rw [List.length_map,li]; exact hb i hi)
  have ro2:aI H0 H p (g.toList.map fun i=>bs.getD i 0) (g.toList.map fun i=>rs.getD i []):=gU ro 0 [] g.toList (fun i hi=>by rw [li]; exact hb i hi)
  have pm:(g.toList.map fun i=>bs.getD i 0).Perm bs:=lY 0 bs (by rw [li]; exact ok)
  have fr:H (s.heap.objs.size+1)=none:=I.hok.fresh (Nat.le_succ _)
  refine ⟨.ref _,_,I.laid (t':=s.toks) (o:=.lst ((g.toList.map fun i=>bs.getD i 0).map V.ref)) (fun b u e=>sortedAll_old e) (Nat.le_succ _) ⟨hz2,iP its g,e,vs2,by simpa [seqObj] using he⟩,rfl,?_⟩
  refine q _ _ _ (ao.new (ao.refl H) fr _) fr ⟨_,ag,oK ro2 (fun b hb'=>?_),pm.nodup_iff.mpr nd⟩ (lY [] rs (by rw [<- lw,li]; exact ok)) ?_ (fun ws zs ew ez v hv=>?_)
  · obtain ⟨⟨ns,hn⟩,_⟩:=ro2.all b hb'
    have:b≠s.heap.objs.size+1:=ay hn fr
    exact ⟨ar this,this⟩
  · rw [List.pairwise_map]
    have gs:g.size=its.length:=by rw [<- lg]; simp
    refine List.pairwise_iff_getElem.mpr fun i j hi hj hij=>?_
    have:=ri i j (by lia) (by rw [<- gs]; simpa using hj)
    unfold gA at this
    simpa [show i < g.size by simpa using hi,show j < g.size by simpa using hj] using this
  · rw [hl] at ew
    cases ew
    rw [ag] at ez
    cases ez
    exact (pm.map V.ref).mem_iff.mp hv
end
theorem rP:∀ as bs:List Int,d3 as bs=false->d3 bs as=false->as=bs
  | [],[],_,_=>rfl
  | [],_::_,h,_=>by cases h
  | _::_,[],_,h=>by cases h
  | a::as,b::bs,h1,h2=>by
    unfold d3 at h1 h2
    by_cases e:a=b
    · rw [if_pos e] at h1
      rw [if_pos e.symm] at h2
      rw [e,rP as bs h1 h2]
    · rw [if_neg e] at h1
      rw [if_neg (fun z=>e z.symm)] at h2
      have:=of_decide_eq_false h1
      have:=of_decide_eq_false h2
      lia
end L2
namespace Ck
open PySem L2
noncomputable abbrev hd (r:List Int):Int:=r.getD 0 0
noncomputable def iota (k:Nat):List Int:=(List.range k).map fun (i:Nat)=>(i:Int)
structure vo (k:Nat) (rs:List (List Int)):Prop where
  ne:∀ r∈rs,r≠[]
  inc:∀ r∈rs,r.Pairwise (· < ·)
  heads:(rs.map hd).Pairwise (· < ·)
  flat:rs.flatten.Perm (iota k)
theorem wB {k:Nat} {x:Int}:x∈iota k↔0<=x/\x < (k:Int):=by
  unfold iota
  rw [List.mem_map]
  constructor
  · rintro ⟨i,hi,rfl⟩
    have:=List.mem_range.mp hi
    lia
  · rintro ⟨h1,h2⟩
    exact ⟨x.toNat,List.mem_range.mpr (by lia),by lia⟩
theorem vo.rng {k:Nat} {rs:List (List Int)} (h:vo k rs) {r:List Int} (hr:r∈rs) {x:Int} (hx:x∈r):0<=x/\x < (k:Int) :=
  wB.mp (h.flat.mem_iff.mp (List.mem_flatten.mpr ⟨r,hr,hx⟩))
theorem rK {r:List Int} (h:r≠[]):hd r∈r:=by
  cases r with
  | nil=>exact absurd rfl h
  | cons a r=>exact List.mem_cons_self ..
theorem m9 (x:Int):∀ (rs:List (List Int)) (m:Nat) (r:List Int),rs[m]? = some r->(rs.set m (r++[x])).flatten.Perm (rs.flatten++[x])
  | [],m,r,h=>by cases h
  | s::rs,0,r,h=>by
    have e:s=r:=by simpa using h
    subst e
    rw [List.set_cons_zero,List.flatten_cons,List.flatten_cons,List.append_assoc,List.append_assoc]
    exact List.Perm.append_left s List.perm_append_comm
  | s::rs,m+1,r,h=>by
    rw [List.set_cons_succ,List.flatten_cons,List.flatten_cons,List.append_assoc]
    exact List.Perm.append_left s (m9 x rs m r (by simpa using h))
theorem qo (k:Nat):iota (k+1)=iota k++[(k:Int)]:=by
  unfold iota
  rw [List.range_succ,List.map_append]
  rfl
theorem fX.rms {rs:List (List Int)} {p:List Nat} {k:Nat} (h:fX rs p k):vo k rs:=by
  induction h with
  | start=>exact ⟨fun r h=>(by cases h),fun r h=>(by cases h),.nil,List.Perm.refl _⟩
  | shut _ ih=>exact ih
  | @opn rs p k _ ih =>
    refine ⟨fun r hr=>?_,fun r hr=>?_,?_,?_⟩
    · rcases List.mem_append.mp hr with z | z
      · exact ih.ne r z
      · rw [List.mem_singleton.mp z]; simp
    · rcases List.mem_append.mp hr with z | z
      · exact ih.inc r z
      · rw [List.mem_singleton.mp z]; simp
    · rw [List.map_append,List.pairwise_append]
      refine ⟨ih.heads,by simp,fun x hx y hy=>?_⟩
      obtain ⟨r,hr,rfl⟩:=List.mem_map.mp hx
      have:y=(k:Int):=by simpa using hy
      have:=ih.rng hr (rK (ih.ne r hr))
      lia
    · rw [List.flatten_append,qo]
      exact List.Perm.append_right _ ih.flat
  | @put rs p m k r _ hr ih =>
    have hrm:=List.mem_of_getElem? hr
    have hl:m < rs.length:=(List.getElem?_eq_some_iff.mp hr).1
    refine ⟨fun s hs=>?_,fun s hs=>?_,?_,?_⟩
    · rcases List.mem_or_eq_of_mem_set hs with z | z
      · exact ih.ne s z
      · rw [z]; simp
    · rcases List.mem_or_eq_of_mem_set hs with z | z
      · exact ih.inc s z
      · rw [z,List.pairwise_append]
        refine ⟨ih.inc r hrm,by simp,fun x hx y hy=>?_⟩
        have:y=(k:Int):=by simpa using hy
        have:=ih.rng hrm hx
        lia
    · have e:(rs.set m (r++[(k:Int)])).map hd=rs.map hd:=by
        rw [List.map_set]
        have e1:hd (r++[(k:Int)])=hd r:=by
          cases r with
          | nil=>exact absurd rfl (ih.ne _ hrm)
          | cons a r=>rfl
        rw [e1]
        refine List.ext_getElem? fun j=>?_
        rw [List.getElem?_set]
        by_cases z:m=j
        · subst z
          rw [if_pos rfl,if_pos (by rw [List.length_map]; exact hl),List.getElem?_map,hr]
          rfl
        · rw [if_neg z]
      rw [e]
      exact ih.heads
    · rw [qo]
      exact (m9 _ rs m r hr).trans (List.Perm.append_right _ ih.flat)
section
variable {i:Nat} {ls:List (List Int)} (h:vo i ls)
include h
variable {j:Nat} {rs:List (List Int)} (h':vo j rs)
include h'
end
end Ck
set_option Elab.async false
set_option linter.all false
set_option maxRecDepth 100000
set_option maxHeartbeats 4000000
namespace L2
open PySem PySem.Spec PyProof.Rows
theorem lK {X:Cx} {K:W.Frag} (hK:X.K=K):eY X (.type "list") (fun xs H Q=>∃ p ys,xs=[.ref p]/\(aq K H p ys\/jh K H p ys)/\∀ l,H l=none->Q (.ref l) (upd H l (.lst ys))):=by
  subst hK
  exact ml
end L2
namespace Ck
open PySem L2
theorem aZ.at {H0 H:Hp} {a:Addr} {rs:List (List Int)} {xs:List V} (h:aZ H0 H a rs) (hx:H a=some (.lst xs)) {j:Nat} {v:V} (e:xs[j]? = some v) :
    ∃ b ns,v = .ref b/\rs[j]? = some ns/\H b=some (.lst (ns.map V.int))/\H0 b=none/\b≠a:=by
  obtain ⟨ys,ey,ly⟩:=h.len
  rw [hx] at ey
  cases ey
  have hj:j < rs.length:=by rw [<- ly]; exact (List.getElem?_eq_some_iff.mp e).1
  obtain ⟨b,h1,h2,h3,h4⟩:=h.get hx (List.getElem?_eq_getElem hj)
  rw [e] at h1
  cases h1
  exact ⟨b,rs[j],rfl,List.getElem?_eq_getElem hj,h2,h3,h4⟩
theorem aZ.push {H0 H H':Hp} {a b:Addr} {rs:List (List Int)} {xs:List V} {ns:List Int} (h:aZ H0 H a rs) (hx:H a=some (.lst xs)) (s:ao H H') (fb:H b=none) (hb:H' b=some (.lst (ns.map V.int))) (h0:H0 b=none) :
    aZ H0 (upd H' a (.lst (xs++[.ref b]))) a (rs++[ns]):=by
  obtain ⟨bs,e,r,n⟩:=h
  rw [hx] at e
  cases e
  have ne:b≠a:=fun z=>by rw [z,hx] at fb; cases fb
  have nb:∀ c∈bs,c≠b:=fun c hc z=>by
    obtain ⟨⟨ms,e⟩,_⟩:=r.all c hc
    rw [z,fb] at e
    cases e
  have r1:aI H0 H' a bs rs:=Paired.mapP r fun _ _ ⟨p,q⟩=>⟨s _ _ p,q⟩
  have r2:aI H0 (upd H' a (.lst (bs.map V.ref++[.ref b]))) a bs rs:=r1.updC fun c hc=>(r.all c hc).2.2
  refine ⟨bs++[b],by rw [ag,List.map_append]; rfl,aI.snoc ((ar ne).trans hb) h0 ne r2,?_⟩
  refine List.nodup_append.mpr ⟨n,by simp,?_⟩
  intro c hc d hd
  have:d=b:=by simpa using hd
  rw [this]
  exact nb c hc
def Ab (H:Hp) (a c:Addr):Prop:=c≠a/\∀ xs,H a=some (.lst xs)->V.ref c∉xs
def ua (a:Addr) (H H':Hp):Prop:=∀ c,Ab H a c->∀ o,H c=some o->H' c=some o
theorem u9 {r:List Int} (h:r≠[]):iU (r.map V.int) (-1)=some (.int (r.getD (r.length - 1) 0)):=by
  obtain ⟨r0,m,rfl⟩:∃ r0 m,r=r0++[m]:=⟨_,_,(List.dropLast_concat_getLast h).symm⟩
  rw [List.map_append]
  refine (n5 (r0.map V.int) (V.int m)).trans ?_
  simp [List.getD_eq_getElem?_getD]
theorem rT:∀ ls:List (List Int),(ls.map fun r=>(r.length:Int)).sum=(ls.flatten.length:Int)
  | []=>rfl
  | r::ls=>by
    rw [List.map_cons,List.sum_cons,rT ls,List.flatten_cons,List.length_append]
    lia
theorem len_one:∀ (ls:List (List Int)) (r:List Int),r∈ls->r.length<=ls.flatten.length
  | [],r,h=>by cases h
  | s::ls,r,h=>by
    rw [List.flatten_cons,List.length_append]
    rcases List.mem_cons.mp h with rfl | h
    · lia
    · have:=len_one ls r h
      lia
theorem vZ (k:Nat):(iota k).length=k:=by unfold iota; simp
end Ck
namespace L2
open PySem PySem.Spec PyProof.Rows
section
variable {κ:Type} [DecidableEq κ]
noncomputable def yd (kvs:List (κ × V)) (k:κ):Option V:=(kvs.find? fun kv=>decide (kv.1=k)).map (·.2)
end
section
variable {P:Program} {w:World} {H:Hp} {h:Heap} {a:Addr}
end
section
variable {X:Cx} {pins:List (Addr × Obj)} {σ:St} {H:Hp} {s:Shared} {a:Addr} {y v:V} {u r:Value} {o:Option V} {A:Around} {E:Value->Shared->Prop}
end
section
variable {X:Cx} {pins:List (Addr × Obj)} {σ:St} {H:Hp} {s:Shared} {a:Addr} {kvs:List (Key × V)} {k:Key} {u:Value} {A:Around} {E:Value->Shared->Prop}
end
section
variable {X:Cx} {o i e value:Expr} {pos pos' tpos:Pos} {td ty tv:TE}
end
section
variable {X:Cx} {pos:Pos}
end
section
variable {X:Cx} {pins:List (Addr × Obj)} {σ:St} {H:Hp} {s:Shared} {a:Addr} {y d:V} {u r:Value} {o:Option V} {A:Around} {E:Value->Shared->Prop}
end
section
variable {X:Cx} {o e f:Expr} {apos cpos:Pos} {td ty tx:TE}
end
section
variable {X:Cx} {pins:List (Addr × Obj)} {σ:St} {H:Hp} {s:Shared} {a:Addr} {kvs:List (Key × V)} {A:Around} {E:Value->Shared->Prop}
end
section
variable {X:Cx} {pins:List (Addr × Obj)} {σ:St} {H:Hp} {s:Shared} {a:Addr} {y:V} {u:Value} {A:Around} {E:Value->Shared->Prop}
end
end L2
namespace L2
open PySem PySem.Spec PyProof.Rows
section
variable {κ:Type} [DecidableEq κ]
end
end L2
set_option Elab.async false
set_option linter.all false
set_option maxRecDepth 100000
set_option maxHeartbeats 4000000
namespace Ck
open PySem L2
theorem mZ:∀ {r s:List Int},r.map V.int=s.map V.int->r=s
  | [],[],_=>rfl
  | a::r,b::s,h=>by
    rw [List.map_cons,List.map_cons] at h
    injection h with h1 h2
    injection h1 with h1
    rw [h1,mZ h2]
noncomputable def qI (o:Option HO):Bool:=match o with | some (.lst [])=>true | _=>false
theorem qp (r:List Int):qI (some (.lst (r.map V.int)))=decide (r=[]):=by
  cases r with
  | nil=>rfl
  | cons a r=>rw [decide_eq_false (by simp)]; rfl
end Ck
namespace L2
open PySem PySem.Spec PyProof.Rows Ck
theorem lW {X:Cx} {K:W.Frag} (hK:X.K=K):eY X (.builtin "sorted") (fun xs H Q=>∃ (p:Addr) (ns:List Int),xs=[.ref p]/\aq K H p (ns.map V.int)/\ns.length < 64/\∀ (q:Addr) (ms:List Int),H q=none->ms.Perm ns->ms.Pairwise (·<=·)->Q (.ref q) (upd H q (.lst (ms.map V.int)))):=by
  subst hK
  exact nh
noncomputable def zO:R2:=fun x y H Q=>∃ (a l:Addr) (H0:Hp) (rs:List (List Int)),x = .ref a/\y = .ref l/\H a=some (.lst [])/\aZ H0 H l rs/\Q (.bl (rs.any fun r=>decide (r=[]))) H
theorem yJ {X:Cx} (hu:X.A.units+100 < cLine):eA X (compareOp .In) zO:=by
  intro pins s σ H x y u v Q I ru rv h
  obtain ⟨a,l,H0,rs,rfl,rfl,ha,⟨bs,hl,ro,nd⟩,q⟩:=h
  cases (show u=Value.ref _ from ru)
  cases (show v=Value.ref _ from rv)
  obtain ⟨its,r',pl,hz⟩:=I.list (aq.of hl)
  have ei:its=bs.map Value.ref:=by
    have go:∀ (bs:List Addr) (us:List Value),Vals (bs.map V.ref) us->us=bs.map Value.ref:=fun bs=>by
      induction bs with
      | nil=>intro us h; rw [List.map_nil] at h; cases h; rfl
      | cons b bs ih =>
        intro us h
        rw [List.map_cons] at h
        cases h with
        | cons h t=>rw [ih _ t,List.map_cons]; cases (show _=Value.ref b from h); rfl
    exact go bs its r'
  have one:∀ (b:Addr) (r:List Int),H b=some (.lst (r.map V.int))->dI X.K H 1 (.ref b) (.ref a) (decide (r=[])):=fun b r hb=>by
    by_cases e:b=a
    · subst e
      rw [ha] at hb
      have:r=[]:=by
        injection hb with hb; injection hb with hb
        exact List.map_eq_nil_iff.mp hb.symm
      rw [decide_eq_true this]
      exact dI.same
    · have:=dI.void (K:=X.K) (n:=0) e (aq.of hb) (aq.of ha)
      have e2:decide (r.map V.int=[])=decide (r=[]):=by
        cases r<;>simp
      rw [e2] at this
      exact this
  have ex:∀ (bs:List Addr) (rs:List (List Int)),aI H0 H l bs rs->∃ e:Value->Bool,(∀ y∈bs.map Value.ref,∃ (b:Addr) (r:List Int),y = .ref b/\H b=some (.lst (r.map V.int))/\e y=decide (r=[]))/\(bs.map Value.ref).any e=rs.any fun r=>decide (r=[]):=fun bs rs ro=>by
    refine ⟨fun y=>match y with | .ref b=>qI (H b) | _=>false,?_,?_⟩
    · intro y hy
      obtain ⟨b,hb,rfl⟩:=List.mem_map.mp hy
      obtain ⟨⟨ns,e⟩,_⟩:=ro.all b hb
      refine ⟨b,ns,rfl,e,?_⟩
      show qI (H b)=_
      rw [e,qp]
    · induction ro with
      | nil=>rfl
      | cons h _ ih =>
        rw [List.map_cons,List.any_cons,List.any_cons,ih]
        congr 1
        show qI (H _)=_
        rw [h.1,qp]
  obtain ⟨e,e1,e2⟩:=ex bs rs ro
  refine SeqAt.in_listAt (items:=its.toArray) e pl.isList (fun y hy=>?_) ⟨.bl _,H,I,rfl,?_⟩
  · have hy':y∈bs.map Value.ref:=by rw [ei] at hy; simpa using hy
    obtain ⟨b,r,rfl,hb,e3⟩:=e1 y hy'
    rw [e3]
    exact (one b r hb).at_ (A:=X.A.in1) (by show X.A.units+1+1 < cLine; lia) I rfl rfl
  · rw [ei,List.any_toArray,e2]
    exact q
end L2
namespace Ck
open PySem L2
theorem dI.ints {K:W.Frag} {H:Hp} {n:Nat} {a b:Addr} {r s:List Int} (ha:H a=some (.lst (r.map V.int))) (hb:H b=some (.lst (s.map V.int))):dI K H (n+1) (.ref a) (.ref b) (decide (r=s)):=by
  by_cases e:a=b
  · subst e
    rw [ha] at hb
    have:r=s:=by
      injection hb with hb; injection hb with hb
      exact mZ hb
    rw [decide_eq_true this]
    exact dI.same
  by_cases hl:r.length=s.length
  · have h:=dI.lst (K:=K) (n:=n) (e:=fun j=>decide (r.getD j 0=s.getD j 0)) e (aq.of ha) (aq.of hb) (by simp [hl]) (fun j x y hx hy=>by
      obtain ⟨c,rfl⟩:=jx hx
      obtain ⟨d,rfl⟩:=jx hy
      rw [List.getElem?_map] at hx hy
      have ec:r.getD j 0=c:=by
        rw [List.getD_eq_getElem?_getD]
        cases h:r[j]? with
        | none=>rw [h] at hx; cases hx
        | some z=>rw [h] at hx; injection hx with hx; injection hx
      have ed:s.getD j 0=d:=by
        rw [List.getD_eq_getElem?_getD]
        cases h:s[j]? with
        | none=>rw [h] at hy; cases hy
        | some z=>rw [h] at hy; injection hy with hy; injection hy
      have z:=dI.flat (K:=K) (H:=H) (n:=n) (x:=V.int c) (y:=V.int d) rfl rfl
      rw [ec,ed]
      have e3:nk (V.int c) (V.int d)=decide (c=d):=rfl
      rw [e3] at z
      exact z)
    have e2:(List.range (r.map V.int).length).all (fun j=>decide (r.getD j 0=s.getD j 0))=decide (r=s):=by
      rw [Bool.eq_iff_iff,List.all_eq_true,decide_eq_true_iff]
      constructor
      · intro h
        refine List.ext_getElem hl fun k h1 h2=>?_
        have:=of_decide_eq_true (h k (List.mem_range.mpr (by simpa using h1)))
        rw [List.getD_eq_getElem?_getD,List.getD_eq_getElem?_getD,List.getElem?_eq_getElem h1,List.getElem?_eq_getElem h2] at this
        exact this
      · intro h k _
        rw [h]
        exact decide_eq_true rfl
    rw [e2] at h
    exact h
  · rw [decide_eq_false fun z=>hl (by rw [z])]
    exact dI.lstN e (aq.of ha) (aq.of hb) (by simpa using hl)
theorem dI.rooms {K:W.Frag} {H0 H1 H:Hp} {a b:Addr} {rs ss:List (List Int)} (h:aZ H0 H a rs) (k:aZ H1 H b ss) (ne:a≠b):dI K H 2 (.ref a) (.ref b) (decide (rs=ss)):=by
  obtain ⟨xs,ex,lx⟩:=h.len
  obtain ⟨ys,ey,ly⟩:=k.len
  by_cases hl:rs.length=ss.length
  · have d:=dI.lst (K:=K) (n:=1) (e:=fun j=>decide (rs.getD j []=ss.getD j [])) ne (aq.of ex) (aq.of ey) (by lia) (fun j x y e1 e2=>by
      have hj:j < rs.length:=by rw [<- lx]; exact (List.getElem?_eq_some_iff.mp e1).1
      obtain ⟨c,f1,g1,_⟩:=h.get ex (List.getElem?_eq_getElem hj)
      obtain ⟨d,f2,g2,_⟩:=k.get ey (List.getElem?_eq_getElem (show j < ss.length by lia))
      rw [f1] at e1
      rw [f2] at e2
      cases e1
      cases e2
      rw [List.getD_eq_getElem?_getD,List.getD_eq_getElem?_getD,List.getElem?_eq_getElem hj,List.getElem?_eq_getElem (show j < ss.length by lia)]
      exact dI.ints g1 g2)
    have e:(List.range xs.length).all (fun j=>decide (rs.getD j []=ss.getD j []))=decide (rs=ss):=by
      rw [Bool.eq_iff_iff,List.all_eq_true,decide_eq_true_iff]
      constructor
      · intro h
        refine List.ext_getElem hl fun k h1 h2=>?_
        have:=of_decide_eq_true (h k (List.mem_range.mpr (by lia)))
        rw [List.getD_eq_getElem?_getD,List.getD_eq_getElem?_getD,List.getElem?_eq_getElem h1,List.getElem?_eq_getElem h2] at this
        exact this
      · intro h k _
        rw [h]
        exact decide_eq_true rfl
    rw [e] at d
    exact d
  · rw [decide_eq_false fun z=>hl (by rw [z])]
    exact dI.lstN ne (aq.of ex) (aq.of ey) (by lia)
end Ck
namespace Ck
open PySem L2
noncomputable def fq (rs:List (List Int)):List Pair:=(rs.map fun r=>r.zip (r.drop 1)).flatten
noncomputable def lI (rs:List (List Int)):Bool:=decide ((∀ r∈rs,r.Pairwise (· < ·))/\(rs.map hd).Pairwise (· < ·))
noncomputable def dR (rs:List (List Int)):Bool:=rs.all (fun r=>decide (r≠[]))&&(eG rs.flatten&&(lI rs&&!d9 (fq rs)))
theorem wt {rs:List (List Int)} (h:∃ r∈rs,r=[]):dR rs=false:=by
  obtain ⟨r,hr,e⟩:=h
  unfold dR
  have:rs.all (fun r=>decide (r≠[]))=false:=List.all_eq_false.mpr ⟨r,hr,by simp [e]⟩
  rw [this,Bool.false_and]
theorem v8 {rs:List (List Int)} (h:eG rs.flatten=false):dR rs=false:=by
  unfold dR
  rw [h]
  simp
theorem rG {rs:List (List Int)} (hne:∀ r∈rs,r≠[]) (hE:eG rs.flatten=true):dR rs=(lI rs&&!d9 (fq rs)):=by
  unfold dR
  have:rs.all (fun r=>decide (r≠[]))=true:=List.all_eq_true.mpr fun r hr=>decide_eq_true (hne r hr)
  rw [this,hE,Bool.true_and,Bool.true_and]
theorem ub {rs:List (List Int)} (hE:eG rs.flatten=true):rs.flatten.Nodup:=((du _).mp hE).nodup_iff.mpr (ku _)
theorem oZ:∀ {rs:List (List Int)},rs.flatten.Nodup->(∀ r∈rs,r.Nodup)/\rs.Pairwise fun a b=>∀ x∈a,x∉b
  | [],_=>⟨fun r hr=>absurd hr (by simp),List.Pairwise.nil⟩
  | r::rs,h=>by
    rw [List.flatten_cons,List.nodup_append] at h
    obtain ⟨h1,h2,h3⟩:=h
    obtain ⟨i1,i2⟩:=oZ h2
    refine ⟨fun q hq=>?_,.cons (fun q hq x hx hx'=>h3 x hx x (List.mem_flatten.mpr ⟨q,hq,hx'⟩) rfl) i2⟩
    rcases List.mem_cons.mp hq with z | z
    · rw [z]; exact h1
    · exact i1 q z
theorem tO {rs:List (List Int)} (h:rs.flatten.Nodup) {r:List Int} (hr:r∈rs):r.Nodup:=by
  exact (oZ h).1 r hr
theorem uP {a b:List Int} (ha:a≠[]) (hb:b≠[]) (h:d3 b a=false) (ne:hd a≠hd b):hd a < hd b:=by
  cases a with
  | nil=>exact absurd rfl ha
  | cons x a =>
    cases b with
    | nil=>exact absurd rfl hb
    | cons y b =>
      have ne':x≠y:=ne
      show x < y
      have h':(if y=x then d3 b a else decide (y < x))=false:=h
      rw [if_neg (fun z=>ne' z.symm)] at h'
      have:=of_decide_eq_false h'
      lia
theorem si {a b:List Int} (ha:a≠[]) (hb:b≠[]) (h:hd a < hd b):d3 b a=false:=by
  cases a with
  | nil=>exact absurd rfl ha
  | cons x a =>
    cases b with
    | nil=>exact absurd rfl hb
    | cons y b =>
      have h':x < y:=h
      show (if y=x then d3 b a else decide (y < x))=false
      rw [if_neg (by lia)]
      exact decide_eq_false (by lia)
theorem vA {rs:List (List Int)} (hne:∀ r∈rs,r≠[]) (h:rs.flatten.Nodup):rs.Pairwise fun a b=>hd a≠hd b:=by
  exact (oZ h).2.imp_of_mem fun ha hb hd' e=>by
    have h1:=rK (hne _ ha)
    have h2:=rK (hne _ hb)
    rw [<- e] at h2
    exact hd' _ h1 h2
theorem vk {r:List Int} (h:r.Pairwise (·<=·)) (nd:r.Nodup):r.Pairwise (· < ·):=by
  have:=List.Pairwise.and h nd
  exact this.imp fun ⟨h1,h2⟩=>by lia
theorem rp {rs ts ss:List (List Int)} (hts:Paired (fun (r q:List Int)=>q.Perm r/\q.Pairwise (·<=·)) rs ts) (hp:ss.Perm ts) (hs:ss.Pairwise fun a b=>d3 b a=false) (hne:∀ r∈rs,r≠[]) (hE:eG rs.flatten=true):decide (rs=ss)=lI rs:=by
  have nd:=ub hE
  unfold lI
  rw [Bool.eq_iff_iff,decide_eq_true_iff,decide_eq_true_iff]
  constructor
  · intro e
    constructor
    · intro r hr
      have h1:r∈ts:=hp.mem_iff.mp (e▸hr)
      have go:∀ {rs ts:List (List Int)},Paired (fun (r q:List Int)=>q.Perm r/\q.Pairwise (·<=·)) rs ts->∀ q∈ts,q.Pairwise (·<=·):=by
        intro rs ts h
        induction h with
        | nil=>intro q hq; cases hq
        | cons x _ ih =>
          intro q hq
          rcases List.mem_cons.mp hq with z | z
          · rw [z]; exact x.2
          · exact ih q z
      exact vk (go hts r h1) (tO nd hr)
    · rw [List.pairwise_map]
      rw [<- e] at hs
      exact (hs.and (vA hne nd)).imp_of_mem fun ha hb ⟨h1,h2⟩=>uP (hne _ ha) (hne _ hb) h1 h2
  · rintro ⟨h1,h2⟩
    have et:ts=rs:=by
      have go:∀ {rs ts:List (List Int)},Paired (fun (r q:List Int)=>q.Perm r/\q.Pairwise (·<=·)) rs ts->(∀ r∈rs,r.Pairwise (· < ·))->ts=rs:=by
        intro rs ts h
        induction h with
        | nil=>intro _; rfl
        | cons x _ ih =>
          intro hr
          rw [ih fun r hr'=>hr r (List.mem_cons_of_mem _ hr')]
          congr 1
          exact List.Perm.eq_of_pairwise (le:=(·<=·)) (fun a b _ _ h1 h2=>Int.le_antisymm h1 h2) x.2 ((hr _ (List.mem_cons_self ..)).imp Int.le_of_lt) x.1
      exact go hts h1
    rw [et] at hp
    rw [List.pairwise_map] at h2
    have h2':rs.Pairwise fun a b=>d3 b a=false:=h2.imp_of_mem fun ha hb h=>si (hne _ ha) (hne _ hb) h
    exact (List.Perm.eq_of_pairwise (le:=fun a b=>d3 b a=false) (fun a b _ _ h1 h2=>rP a b h2 h1) hs h2' hp).symm
theorem jy {rs:List (List Int)} {p:Pair}:p∈fq rs↔∃ r∈rs,p∈r.zip (r.drop 1):=by
  unfold fq
  rw [List.mem_flatten]
  constructor
  · rintro ⟨l,hl,hp⟩
    obtain ⟨r,hr,rfl⟩:=List.mem_map.mp hl
    exact ⟨r,hr,hp⟩
  · rintro ⟨r,hr,hp⟩
    exact ⟨_,List.mem_map.mpr ⟨r,hr,rfl⟩,hp⟩
noncomputable abbrev lst (r:List Int):Int:=r.getD (r.length - 1) 0
theorem cu {r:List Int} (h:r≠[]):lst r∈r:=by
  have:r.length - 1 < r.length:=by
    cases r with
    | nil=>exact absurd rfl h
    | cons a r=>simp
  unfold lst
  rw [List.getD_eq_getElem?_getD,List.getElem?_eq_getElem this]
  exact List.getElem_mem this
structure Ax (rs:List (List Int)) (p:List Nat) (k:Nat):Prop where
  up:p.Pairwise fun a b=>lst (rs.getD a []) < lst (rs.getD b [])
  far:∀ q∈fq rs,q.2 < (k:Int)
  str:∀ m∈p,∀ q∈fq rs,¬ (q.1 < lst (rs.getD m [])/\lst (rs.getD m []) < q.2)
  no:∀ a∈fq rs,∀ b∈fq rs,¬ (a.1 < b.1/\b.1 < a.2/\a.2 < b.2)
theorem lst_snoc (r:List Int) (k:Int):lst (r++[k])=k:=by
  unfold lst
  rw [List.getD_eq_getElem?_getD,List.length_append,List.getElem?_append_right (by simp)]
  simp
theorem nA {r:List Int} (h:r≠[]) (k:Int):(r++[k]).zip ((r++[k]).drop 1)=r.zip (r.drop 1)++[(lst r,k)]:=by
  induction r with
  | nil=>exact absurd rfl h
  | cons a r ih =>
    cases r with
    | nil=>rfl
    | cons b r =>
      have:=ih (by simp)
      show (a,b)::((b::r)++[k]).zip (((b::r)++[k]).drop 1)=(a,b)::(b::r).zip ((b::r).drop 1)++[(lst (a::b::r),k)]
      rw [this]
      rfl
theorem nr (rs:List (List Int)) (k:Int):fq (rs++[[k]])=fq rs:=by
  unfold fq
  rw [List.map_append,List.flatten_append]
  simp
theorem xR {k:Int}:∀ {rs:List (List Int)} {m:Nat} {r:List Int},rs[m]? = some r->r≠[]->∀ q:Pair,q∈fq (rs.set m (r++[k]))↔q∈fq rs\/q=(lst r,k):=by
  intro rs m r hm hr q
  obtain ⟨lm,em⟩:=List.getElem?_eq_some_iff.mp hm
  rw [jy,jy]
  constructor
  · rintro ⟨x,hx,hq⟩
    rcases List.mem_or_eq_of_mem_set hx with z | z
    · exact .inl ⟨x,z,hq⟩
    · rw [z,nA hr,List.mem_append] at hq
      rcases hq with z | z
      · exact .inl ⟨r,List.mem_of_getElem? hm,z⟩
      · exact .inr (by simpa using z)
  · have hin:r++[k]∈rs.set m (r++[k]):=List.mem_of_getElem? (i:=m) (by rw [List.getElem?_set_self lm])
    rintro (⟨x,hx,hq⟩ | e)
    · by_cases ex:x=r
      · exact ⟨_,hin,by rw [nA hr,List.mem_append]; exact .inl (by rw [<- ex]; exact hq)⟩
      · obtain ⟨j,lj,ej⟩:=List.getElem_of_mem hx
        have nj:m≠j:=fun z=>ex (by subst z; rw [<- ej,em])
        exact ⟨x,List.mem_of_getElem? (i:=j) (by rw [List.getElem?_set_ne nj,List.getElem?_eq_getElem lj,ej]),hq⟩
    · exact ⟨_,hin,by rw [nA hr,List.mem_append]; exact .inr (by rw [e]; simp)⟩
theorem fX.calm {rs:List (List Int)} {p:List Nat} {k:Nat} (h:fX rs p k):Ax rs p k:=by
  induction h with
  | start=>exact ⟨List.Pairwise.nil,fun q hq=>absurd hq (by simp [fq]),fun m hm=>absurd hm (by simp),fun a ha=>absurd ha (by simp [fq])⟩
  | @shut rs p m k h ih =>
    obtain ⟨h1,h2,h3,h4⟩:=ih
    exact ⟨(List.pairwise_append.mp h1).1,h2,fun x hx=>h3 x (by simp [hx]),h4⟩
  | @opn rs p k h ih =>
    obtain ⟨h1,h2,h3,h4⟩:=ih
    obtain ⟨l1,l2,l3,l4⟩:=h.lens
    have rm:=h.rms
    have old:∀ m∈p,(rs++[[(k:Int)]]).getD m []=rs.getD m []:=fun m hm=>by
      rw [List.getD_eq_getElem?_getD,List.getElem?_append_left (l2 m hm),List.getD_eq_getElem?_getD]
    have new:(rs++[[(k:Int)]]).getD rs.length []=[(k:Int)]:=by
      rw [List.getD_eq_getElem?_getD,List.getElem?_append_right (Nat.le_refl _)]
      simp
    have lk:∀ m∈p,lst (rs.getD m []) < (k:Int):=fun m hm=>by
      have hr:rs.getD m []∈rs:=by
        rw [List.getD_eq_getElem?_getD,List.getElem?_eq_getElem (l2 m hm)]
        exact List.getElem_mem _
      exact (rm.rng hr (cu (rm.ne _ hr))).2
    refine ⟨?_,?_,?_,?_⟩
    · refine List.pairwise_append.mpr ⟨h1.imp_of_mem fun ha hb h=>by rw [old _ ha,old _ hb]; exact h,List.pairwise_singleton ..,fun a ha b hb=>?_⟩
      have e:b=rs.length:=by simpa using hb
      subst e
      rw [old a ha,new]
      exact lk a ha
    · intro q hq
      rw [nr] at hq
      have:=h2 q hq
      lia
    · intro m hm q hq
      rw [nr] at hq
      rcases List.mem_append.mp hm with z | z
      · rw [old m z]
        exact h3 m z q hq
      · have e:m=rs.length:=by simpa using z
        subst e
        rw [new]
        have:=h2 q hq
        show ¬ (q.1 < (k:Int)/\(k:Int) < q.2)
        lia
    · rw [nr]
      exact h4
  | @put rs p m k r h hr ih =>
    obtain ⟨h1,h2,h3,h4⟩:=ih
    obtain ⟨l1,l2,l3,l4⟩:=h.lens
    have rm:=h.rms
    have lm:=l2 m (by simp)
    have rne:r≠[]:=rm.ne r (List.mem_of_getElem? hr)
    have er:rs.getD m []=r:=by rw [List.getD_eq_getElem?_getD,hr]; rfl
    have lrk:lst r < (k:Int):=(rm.rng (List.mem_of_getElem? hr) (cu rne)).2
    obtain ⟨u1,_,u3⟩:=List.pairwise_append.mp h1
    have low:∀ a∈p,lst (rs.getD a []) < lst r:=fun a ha=>by have:=u3 a ha m (by simp); rw [er] at this; exact this
    have ne:∀ a∈p,m≠a:=fun a ha e=>by
      have:=low a ha
      rw [<- e,er] at this
      lia
    have old:∀ a∈p,(rs.set m (r++[(k:Int)])).getD a []=rs.getD a []:=fun a ha=>by
      rw [List.getD_eq_getElem?_getD,List.getElem?_set_ne (ne a ha),List.getD_eq_getElem?_getD]
    have new:(rs.set m (r++[(k:Int)])).getD m []=r++[(k:Int)]:=by
      rw [List.getD_eq_getElem?_getD,List.getElem?_set_self lm]
      rfl
    have mem:=xR (k:=(k:Int)) hr rne
    refine ⟨?_,?_,?_,?_⟩
    · refine List.pairwise_append.mpr ⟨u1.imp_of_mem fun ha hb h=>by rw [old _ ha,old _ hb]; exact h,List.pairwise_singleton ..,fun a ha b hb=>?_⟩
      have e:b=m:=by simpa using hb
      subst e
      rw [old a ha,new,lst_snoc]
      have:=low a ha
      lia
    · intro q hq
      rcases (mem q).mp hq with z | z
      · have:=h2 q z; lia
      · rw [z]
        show (k:Int) < ((k+1:Nat):Int)
        lia
    · intro a ha q hq
      rcases List.mem_append.mp ha with z | z
      · rw [old a z]
        rcases (mem q).mp hq with w | w
        · exact h3 a (by simp [z]) q w
        · have:=low a z
          rw [w]
          show ¬ (lst r < _/\_)
          lia
      · have e:a=m:=by simpa using z
        subst e
        rw [new,lst_snoc]
        rcases (mem q).mp hq with w | w
        · have:=h2 q w
          lia
        · rw [w]
          show ¬ (lst r < (k:Int)/\(k:Int) < (k:Int))
          lia
    · intro a ha b hb
      rcases (mem a).mp ha with wa | wa
      · rcases (mem b).mp hb with wb | wb
        · exact h4 a wa b wb
        · have:=h3 m (by simp) a wa
          rw [er] at this
          rw [wb]
          show ¬ (a.1 < lst r/\lst r < a.2/\a.2 < (k:Int))
          lia
      · rcases (mem b).mp hb with wb | wb
        · have:=h2 b wb
          rw [wa]
          show ¬ (lst r < b.1/\b.1 < (k:Int)/\(k:Int) < b.2)
          lia
        · rw [wa,wb]
          show ¬ (lst r < lst r/\_)
          lia
theorem wD (k:Nat):iota k=d8 k:=rfl
theorem fX.rooms {rs:List (List Int)} {p:List Nat} {k:Nat} (h:fX rs p k):dR rs=true:=by
  have rm:=h.rms
  have c:=h.calm
  have hE:eG rs.flatten=true:=(du _).mpr (by
    have e:=rm.flat.length_eq
    rw [wD,gO] at e
    rw [e]
    exact rm.flat)
  rw [rG rm.ne hE,Bool.and_eq_true]
  refine ⟨decide_eq_true ⟨rm.inc,rm.heads⟩,?_⟩
  cases e:d9 (fq rs) with
  | false=>rfl
  | true =>
    obtain ⟨a,ha,b,hb,x1,x2,x3⟩:=hV.mp e
    exact absurd ⟨x1,x2,x3⟩ (c.no a ha b hb)
end Ck
namespace L2
open PySem PySem.Spec PyProof.Rows Ck
end L2
namespace Ck
open PySem L2
theorem kX {α β:Type} {R:α->β->Prop}:∀ {as cs:List α} {bs ds:List β},Paired R as bs->Paired R cs ds->Paired R (as++cs) (bs++ds)
  | _,_,_,_,.nil,h=>h
  | _,_,_,_,.cons r t,h=>.cons r (kX t h)
def eC (H:Hp) (bs:List Addr) (xss:List (List V)):Prop:=Paired (fun (b:Addr) (xs:List V)=>H b=some (.lst xs)) bs xss
theorem eC.same {H H':Hp} {bs:List Addr} {xss:List (List V)} (h:eC H bs xss) (s:ao H H'):eC H' bs xss:=Paired.mapP h fun _ _ e=>s _ _ e
theorem eC.get {H:Hp}:∀ {bs:List Addr} {xss:List (List V)},eC H bs xss->∀ {j:Nat} {v:V},(bs.map V.ref)[j]? = some v->∃ b xs,v = .ref b/\xss[j]? = some xs/\H b=some (.lst xs)
  | _,_,.nil,j,v,e=>by simp at e
  | _,_,.cons r t,0,v,e=>⟨_,_,(by simpa using e.symm),rfl,r⟩
  | _,_,.cons r t,j+1,v,e=>by
    obtain ⟨b,xs,h1,h2,h3⟩:=eC.get t (j:=j) (by simpa using e)
    exact ⟨b,xs,h1,by simpa using h2,h3⟩
theorem aZ.rws {H0 H:Hp} {a:Addr} {rs:List (List Int)} (h:aZ H0 H a rs):∃ bs:List Addr,H a=some (.lst (bs.map V.ref))/\eC H bs (rs.map fun r=>r.map V.int):=by
  obtain ⟨bs,e,r,_⟩:=h
  refine ⟨bs,e,?_⟩
  have go:∀ {bs:List Addr} {rs:List (List Int)},aI H0 H a bs rs->eC H bs (rs.map fun r=>r.map V.int):=by
    intro bs rs r
    induction r with
    | nil=>exact .nil
    | cons x _ ih=>exact .cons x.1 ih
  exact go r
theorem eC.len {H:Hp} {bs:List Addr} {xss:List (List V)} (h:eC H bs xss):bs.length=xss.length:=Paired.length h
theorem sd (rs:List (List Int)):(rs.map fun r=>r.map V.int).flatten=rs.flatten.map V.int:=by
  rw [List.map_flatten]
end Ck
namespace Ck
open PySem L2
structure Hm (rs:List (List Int)) (fl:List Int) (kvs:List (Key × V)):Prop where
  len:kvs.length=fl.length
  nd:fl.Nodup
  has:∀ m∈fl,∃ (j:Nat) (r:List Int),yd kvs (.inl m)=some (.int (j:Int))/\rs[j]? = some r/\m∈r
  no:∀ m:Int,m∉fl->yd kvs (.inl m)=none
end Ck
namespace Ck
open PySem L2
end Ck
set_option Elab.async false
set_option maxRecDepth 100000
set_option maxHeartbeats 4000000
set_option linter.all false
namespace Ck
open PySem L2
noncomputable def m7 (p:Pair):Pair:=(p.2,p.1)
noncomputable def d7 (c:List Nat) (k:Int):Int:=(((c.take k.toNat).count 40:Nat):Int)
theorem mT:∀ {ps:List Pair},(bI ps).Nodup->∀ {p q:Pair},p∈ps->q∈ps->p.2=q.2->p=q
  | [],_,_,_,hp,_,_=>by cases hp
  | r::ps,nd,p,q,hp,hq,e=>by
    have nd':(r.1::r.2::bI ps).Nodup:=nd
    rw [List.nodup_cons,List.nodup_cons] at nd'
    rcases List.mem_cons.mp hp with rfl | hp2
    · rcases List.mem_cons.mp hq with rfl | hq2
      · rfl
      · exact absurd (gR.mpr ⟨q,hq2,.inr e⟩) nd'.2.1
    · rcases List.mem_cons.mp hq with rfl | hq2
      · exact absurd (show q.2∈bI ps from gR.mpr ⟨p,hp2,.inr e.symm⟩) nd'.2.1
      · exact mT nd'.2.2 hp2 hq2 e
theorem vG {ps qs:List Pair} (h:tQ ps) (f:Int->Int) (hf:∀ (j:Nat) (p:Pair),ps[j]? = some p->f p.1=(j:Int)) (pm:qs.Perm (ps.map fun p=>(p.2,p.1))) (rs:qs.Pairwise e9) :
    g9 (qs.map fun q=>f q.2)=true:=by
  have lq:qs.length=ps.length:=by rw [pm.length_eq,List.length_map]
  have back:∀ q∈qs,(q.2,q.1)∈ps:=fun q hq=>by
    obtain ⟨p,hp,rfl⟩:=List.mem_map.mp (pm.mem_iff.mp hq)
    exact hp
  have idx:∀ p∈ps,∃ j:Nat,j < ps.length/\ps[j]? = some p/\f p.1=(j:Int):=fun p hp=>by
    obtain ⟨j,hj⟩:=List.getElem?_of_mem hp
    exact ⟨j,(List.getElem?_eq_some_iff.mp hj).1,hj,hf j p hj⟩
  have mono:∀ p∈ps,∀ r∈ps,f p.1 < f r.1->p.1<=r.1:=fun p hp r hr lt=>by
    obtain ⟨i,hi,ei,fi⟩:=idx p hp
    obtain ⟨j,hj,ej,fj⟩:=idx r hr
    have:=List.pairwise_iff_getElem.mp h.ris i j hi hj (by lia)
    rw [(List.getElem?_eq_some_iff.mp ei).2,(List.getElem?_eq_some_iff.mp ej).2] at this
    unfold e9 at this
    lia
  unfold g9
  rw [Bool.and_eq_true]
  refine ⟨(du _).mpr ?_,qv fun k hk=>?_⟩
  · have a:=pm.map (fun q:Pair=>f q.2)
    rw [List.map_map] at a
    rw [List.length_map,lq]
    refine a.trans ?_
    have e:ps.map ((fun q:Pair=>f q.2) ∘ fun p=>(p.2,p.1))=d8 ps.length:=by
      refine List.ext_getElem? fun i=>?_
      rw [List.getElem?_map]
      by_cases hi:i < ps.length
      · rw [List.getElem?_eq_getElem hi,xv hi]
        exact congrArg some (hf i _ (List.getElem?_eq_getElem hi))
      · rw [List.getElem?_eq_none (by lia),List.getElem?_eq_none (by rw [gO]; lia)]
        rfl
    rw [e]
  · cases z:lD (qs.map fun q=>f q.2) k with
    | false=>rfl
    | true =>
      obtain ⟨i,j,hi,hj,hl,h1,h2⟩:=(nB _ _).mp z
      rw [List.length_map] at hl hk
      have g:∀ m (hm:m < qs.length),(qs.map fun q=>f q.2).getD m 0=f (qs[m]).2:=fun m hm=>by
        rw [List.getD_eq_getElem?_getD,List.getElem?_map,List.getElem?_eq_getElem hm]
        rfl
      rw [g k (by lia),g j (by lia)] at h1
      rw [g j (by lia),g i (by lia)] at h2
      have bi:=back _ (List.getElem_mem (show i < qs.length by lia))
      have bk:=back _ (List.getElem_mem hk)
      have bj:=back _ (List.getElem_mem hl)
      have m1:=mono _ bk _ bj h1
      have m2:=mono _ bj _ bi h2
      have s1:=List.pairwise_iff_getElem.mp rs i k (by lia) hk hi
      have s2:=List.pairwise_iff_getElem.mp rs k j hk hl hj
      have ri:=h.inr _ bi
      have rj:=h.inr _ bj
      have rk:=h.inr _ bk
      have n:=h.nc _ bk _ bj
      have nd:(bI ps).Nodup:=h.flat.nodup_iff.mpr (ku _)
      have sj:=fun e=>mT nd bk bj e
      generalize qs[i]=qi at *
      generalize qs[k]=qk at *
      generalize qs[j]=qj at *
      unfold uJ at n
      unfold zL at ri rj rk
      unfold e9 at s1 s2
      simp only at *
      have e1:qk.2≠qj.2:=fun e=>by rw [e] at h1; lia
      have e2:qj.2≠qi.2:=fun e=>by rw [e] at h2; lia
      have e3:qk.1≠qj.1:=fun e=>e1 (congrArg Prod.fst (sj e))
      lia
theorem xF {row:List Int} (h:row.Perm (d8 row.length)) {v:Int}:v∈row↔0<=v/\v < (row.length:Int):=by rw [h.mem_iff,gS]
end Ck
namespace Ck
open PySem L2
end Ck
namespace Ck
open PySem L2
theorem pL (c:List Nat) {i:Nat}:∀ {n:Nat},i<=n->a8 c i <+: a8 c n
  | 0,h=>by
    obtain rfl:i=0:=by lia
    exact List.prefix_refl _
  | n+1,h=>by
    by_cases e:i=n+1
    · subst e; exact List.prefix_refl _
    · rw [gw]
      exact (pL c (n:=n) (by lia)).trans (List.prefix_append _ _)
theorem sT {c:List Nat} {n j k:Nat} {m:Int} (hk:k < n) (h40:c.getD k 0=40) (hj:(a8 c n)[j]? = some ((k:Int),m)):j=(a8 c k).length:=by
  have e:(a8 c (k+1))[(a8 c k).length]? = some ((k:Int),bN c k):=by rw [gw,if_pos h40,List.getElem?_append_right (Nat.le_refl _),Nat.sub_self]; rfl
  obtain ⟨r,er⟩:=pL c (i:=k+1) (n:=n) hk
  have lt:=(List.getElem?_eq_some_iff.mp e).1
  have e2:(a8 c n)[(a8 c k).length]? = some ((k:Int),bN c k):=by rw [<- er,List.getElem?_append_left lt,e]
  obtain ⟨h1,g1⟩:=List.getElem?_eq_some_iff.mp e2
  obtain ⟨h2,g2⟩:=List.getElem?_eq_some_iff.mp hj
  have pw:=List.pairwise_iff_getElem.mp (rH c n)
  by_cases l1:j < (a8 c k).length
  · have:=pw j _ h2 h1 l1
    rw [g1,g2] at this
    simp at this
  · by_cases l2:(a8 c k).length < j
    · have:=pw _ j h1 h2 l2
      rw [g1,g2] at this
      simp at this
    · lia
end Ck
set_option Elab.async false
set_option linter.all false
set_option maxRecDepth 100000
set_option maxHeartbeats 4000000
namespace L2
open PySem PySem.Spec PyProof.Rows
theorem xI {X:Cx} {K:W.Frag} (h:X.K=K):sO X (yq K):=h▸yD
section
variable {prog:Program} {w:World} {A:Around} {E:Value->Shared->Prop} {s:Shared}
end
section
variable {X:Cx}
end
end L2
set_option Elab.async false
set_option linter.all false
set_option maxRecDepth 100000
set_option maxHeartbeats 4000000
namespace Ck
open PySem L2
noncomputable def one (n k:Nat):Nat:=if 0 < k/\0 < n then 1 else 0
end Ck
set_option Elab.async false
set_option linter.all false
set_option maxRecDepth 100000
set_option maxHeartbeats 4000000
namespace Ck
open PySem L2
end Ck
set_option Elab.async false
set_option linter.all false
set_option maxRecDepth 100000
set_option maxHeartbeats 4000000
namespace L2
open PySem PySem.Spec PyProof.Rows
section
variable {X:Cx}
end
end L2
namespace Ck
open PySem L2
inductive lN (H:Hp):List V->List (Option Bt)->Prop
  | nil:lN H [] []
  | tree {v:V} {t:Bt} {xs:List V} {ts:List (Option Bt)} (h:Tw H v t) (r:lN H xs ts):lN H (v::xs) (some t::ts)
  | sign {xs:List V} {ts:List (Option Bt)} (r:lN H xs ts):lN H (.str (Str.ofString ")")::xs) (none::ts)
end Ck
set_option Elab.async false
set_option linter.all false
set_option maxRecDepth 100000
set_option maxHeartbeats 4000000
namespace Ck
open PySem L2
structure Wf (c:List Nat) (i:Nat) (fd:List Pair):Prop where
  ln:fd.length=(c.take i).count 41
  ix:∀ (j:Nat) (p:Pair),fd[j]? = some p->(c.take p.2.toNat).count 41=j
theorem Wf.up {c:List Nat} {i:Nat} {fd:List Pair} (w:Wf c i fd) (hi:i < c.length) (h:c.getD i 0=40):Wf c (i+1) fd:=by
  refine ⟨?_,w.ix⟩
  have ge:c.getD i 0=c[i]:=by rw [List.getD_eq_getElem?_getD,List.getElem?_eq_getElem hi]; rfl
  rw [List.take_succ_eq_append_getElem hi,List.count_append,<- ge,h,w.ln]
  rfl
theorem Wf.down {c:List Nat} {i:Nat} {fd:List Pair} {m:Int} (w:Wf c i fd) (hi:i < c.length) (h:c.getD i 0=41):Wf c (i+1) (fd++[(m,(i:Int))]):=by
  have ge:c.getD i 0=c[i]:=by rw [List.getD_eq_getElem?_getD,List.getElem?_eq_getElem hi]; rfl
  refine ⟨?_,fun j p hp=>?_⟩
  · rw [List.take_succ_eq_append_getElem hi,List.count_append,<- ge,h,List.length_append,w.ln]
    rfl
  · by_cases e:j < fd.length
    · rw [List.getElem?_append_left e] at hp
      exact w.ix j p hp
    · rw [List.getElem?_append_right (by lia)] at hp
      have e2:j - fd.length=0:=by
        have:=(List.getElem?_eq_some_iff.mp hp).1
        simpa using this
      rw [e2] at hp
      have hp:=Option.some.inj hp
      subst hp
      show (c.take ((i:Nat):Int).toNat).count 41=j
      rw [Int.toNat_natCast,<- w.ln]
      lia
theorem o7 {c:List Nat} {n:Nat} {fd:List Pair} (w:Wk c n fd []):fd.Perm (a8 c n):=by
  have p:=w.prm
  rwa [List.map_nil,List.append_nil] at p
theorem yi (c:List Nat) (n:Nat):(a8 c n).Nodup:=(rH c n).imp fun h e=>by rw [e] at h; lia
theorem yO {c:List Nat} {n:Nat} {fd:List Pair} (w:Wk c n fd []) (f:Wf c n fd):(fd.map m7).Pairwise e9:=by
  rw [List.pairwise_map]
  refine List.pairwise_iff_getElem.mpr fun i j hi hj hij=>.inl ?_
  have a:=f.ix i _ (List.getElem?_eq_getElem hi)
  have b:=f.ix j _ (List.getElem?_eq_getElem hj)
  have pi:=w.prs _ (List.getElem_mem hi)
  have pj:=w.prs _ (List.getElem_mem hj)
  show fd[i].2 < fd[j].2
  by_cases lt:fd[i].2 < fd[j].2
  · exact lt
  · have:fd[j].2.toNat<=fd[i].2.toNat:=by lia
    have le:=(List.take_prefix_take_left this (l:=c)).sublist.count_le 41
    lia
theorem vp {c:List Nat} {n:Nat} {fd qs:List Pair} (w:Wk c n fd []) (f:Wf c n fd) (pm:qs.Perm ((a8 c n).map m7)) (rs:qs.Pairwise e9):qs=fd.map m7 :=
  vx rs (yO w f) (pm.trans ((o7 w).symm.map m7))
theorem xg {c:List Nat} {n:Nat} {fd qs:List Pair} (w:Wk c n fd []) (f:Wf c n fd) (pm:qs.Perm ((a8 c n).map m7)) (rs:qs.Pairwise e9):(qs.map fun q=>d7 c q.2)=fd.map fun p=>d7 c p.1:=by
  rw [vp w f pm rs,List.map_map]
  rfl
end Ck
namespace L2
open PySem PySem.Spec
variable {X:Cx}
end L2
set_option Elab.async false
set_option linter.all false
set_option maxRecDepth 100000
set_option maxHeartbeats 4000000
namespace Ck
open PySem L2
noncomputable def bE (c:List Nat):Nat->Nat
  | 0=>0
  | q+1=>if c.getD q 0=41 then bE c q else q+1
theorem gB (c:List Nat) (q:Nat):bE c (q+1)=if c.getD q 0=41 then bE c q else q+1:=rfl
theorem rn (c:List Nat):∀ q,bE c q<=q
  | 0=>Nat.le_refl _
  | q+1=>by
    rw [gB]
    split
    · have:=rn c q; lia
    · exact Nat.le_refl _
theorem uY (c:List Nat):∀ q m,bE c q<=m->m < q->c.getD m 0=41
  | 0,m,_,h=>by lia
  | q+1,m,h1,h2=>by
    rw [gB] at h1
    by_cases e:c.getD q 0=41
    · rw [if_pos e] at h1
      by_cases e2:m=q
      · rw [e2]; exact e
      · exact uY c q m h1 (by lia)
    · rw [if_neg e] at h1; lia
theorem rA (c:List Nat):∀ q m,bE c q<=m->m<=q->bE c m=bE c q
  | 0,m,_,h=>by rw [show m=0 by lia]
  | q+1,m,h1,h2=>by
    by_cases e2:m=q+1
    · rw [e2]
    · rw [gB] at h1 |-
      by_cases e:c.getD q 0=41
      · rw [if_pos e] at h1 |-
        exact rA c q m h1 (by lia)
      · rw [if_neg e] at h1; lia
theorem pB {c:List Nat} {x y m:Nat} (h:bE c x=bE c y) (h1:x<=m) (h2:m<=y):bE c m=bE c x/\(m < y->c.getD m 0=41):=by
  have l:=rn c x
  exact ⟨(rA c y m (by lia) h2).trans h.symm,fun h3=>uY c y m (by lia) h3⟩
noncomputable def j7:List Int × Nat × List (List Int) × Bool->Nat->List Int × Nat × List (List Int) × Bool
  | (S,b,gs,ah),ch=>if ch=40 then (S++[(b:Int)],b+1,gs,true) else (S.dropLast,b,(if ah=true then gs++[[S.getLastD 0]] else gs.dropLast++[gs.getLastD []++[S.getLastD 0]]),false)
noncomputable def aT (c:List Nat):List Int × Nat × List (List Int) × Bool:=c.foldl j7 ([],0,[],true)
theorem eQ (c:List Nat) (ch:Nat):aT (c++[ch])=j7 (aT c) ch:=by unfold aT; rw [List.foldl_append]; rfl
theorem kr (S:List Int) (b:Nat) (gs:List (List Int)) (ah:Bool):j7 (S,b,gs,ah) 40=(S++[(b:Int)],b+1,gs,true):=rfl
theorem kO (S:List Int) (m:Int) (b:Nat) (gs:List (List Int)):j7 (S++[m],b,gs,true) 41=(S,b,gs++[[m]],false):=by simp [j7]
theorem jN (S:List Int) (m:Int) (b:Nat) (gs:List (List Int)) (g:List Int):j7 (S++[m],b,gs++[g],false) 41=(S,b,gs++[g++[m]],false):=by simp [j7]
structure Gp (c:List Nat) (i:Nat) (gs:List (List Pair)) (fd:List Pair) (ah:Bool):Prop where
  flat:gs.flatten=fd
  ne:∀ g∈gs,g≠[]
  same:∀ g∈gs,∀ p∈g,∀ q∈g,bE c p.2.toNat=bE c q.2.toNat
  apart:gs.Pairwise fun g h=>∀ p∈g,∀ q∈h,bE c p.2.toNat≠bE c q.2.toNat
  last:ah=false->∃ gs0 g,gs=gs0++[g]/\∀ p∈g,bE c p.2.toNat=bE c i
  up:ah=true->bE c i=i
theorem Gp.nil (c:List Nat):Gp c 0 [] [] true:=⟨rfl,fun g h=>(by cases h),fun g h=>(by cases h),.nil,fun h=>(by cases h),fun _=>rfl⟩
theorem Gp.opn {c:List Nat} {i:Nat} {gs:List (List Pair)} {fd:List Pair} {ah:Bool} (h:Gp c i gs fd ah) (hc:c.getD i 0=40):Gp c (i+1) gs fd true :=
  ⟨h.flat,h.ne,h.same,h.apart,fun z=>(by cases z),fun _=>by rw [gB,if_neg (by lia)]⟩
theorem Gp.new {c:List Nat} {i:Nat} {gs:List (List Pair)} {fd:List Pair} {m:Int} (h:Gp c i gs fd true) (hc:c.getD i 0=41) (hb:∀ p∈fd,0<=p.2/\p.2 < (i:Int)):Gp c (i+1) (gs++[[(m,(i:Int))]]) (fd++[(m,(i:Int))]) false:=by
  have hu:=h.up rfl
  refine ⟨by rw [List.flatten_append,h.flat]; simp,fun g hg=>?_,fun g hg=>?_,?_,fun _=>⟨gs,_,rfl,fun p hp=>?_⟩,fun z=>(by cases z)⟩
  · rcases List.mem_append.mp hg with z | z
    · exact h.ne g z
    · rw [List.mem_singleton.mp z]; simp
  · rcases List.mem_append.mp hg with z | z
    · exact h.same g z
    · rw [List.mem_singleton.mp z]
      intro p hp q hq
      rw [List.mem_singleton.mp hp,List.mem_singleton.mp hq]
  · refine List.pairwise_append.mpr ⟨h.apart,List.pairwise_singleton _ _,fun g hg g' hg' p hp q hq=>?_⟩
    rw [List.mem_singleton.mp hg'] at hq
    rw [List.mem_singleton.mp hq]
    have b:=hb p (by rw [<- h.flat]; exact List.mem_flatten.mpr ⟨g,hg,hp⟩)
    have l:=rn c p.2.toNat
    show bE c p.2.toNat≠bE c ((i:Nat):Int).toNat
    rw [Int.toNat_natCast,hu]
    lia
  · rw [List.mem_singleton.mp hp,gB,if_pos hc]
    rfl
theorem Gp.more {c:List Nat} {i:Nat} {gs0:List (List Pair)} {g:List Pair} {fd:List Pair} {m:Int} (h:Gp c i (gs0++[g]) fd false) (hc:c.getD i 0=41):Gp c (i+1) (gs0++[g++[(m,(i:Int))]]) (fd++[(m,(i:Int))]) false:=by
  obtain ⟨gs1,g1,e,hl⟩:=h.last rfl
  obtain ⟨rfl,e2⟩:=List.append_inj' e rfl
  cases e2
  have ap:=List.pairwise_append.mp h.apart
  have gi:bE c ((i:Nat):Int).toNat=bE c i:=by rw [Int.toNat_natCast]
  have all:∀ p∈g++[(m,(i:Int))],bE c p.2.toNat=bE c i:=fun p hp=>by
    rcases List.mem_append.mp hp with z | z
    · exact hl p z
    · rw [List.mem_singleton.mp z]; exact gi
  refine ⟨?_,fun x hx=>?_,fun x hx=>?_,?_,fun _=>⟨gs0,_,rfl,fun p hp=>?_⟩,fun z=>(by cases z)⟩
  · have f:=h.flat
    rw [List.flatten_append] at f |-
    rw [<- f]
    simp
  · rcases List.mem_append.mp hx with z | z
    · exact h.ne x (List.mem_append_left _ z)
    · rw [List.mem_singleton.mp z]; simp
  · rcases List.mem_append.mp hx with z | z
    · exact h.same x (List.mem_append_left _ z)
    · rw [List.mem_singleton.mp z]
      intro p hp q hq
      rw [all p hp,all q hq]
  · refine List.pairwise_append.mpr ⟨ap.1,List.pairwise_singleton _ _,fun x hx y hy p hp q hq=>?_⟩
    rw [List.mem_singleton.mp hy] at hq
    rw [all q hq]
    obtain ⟨r,hr⟩:=List.exists_mem_of_ne_nil g (h.ne g (by simp))
    rw [<- hl r hr]
    exact ap.2.2 x hx g (by simp) p hp r hr
  · rw [all p hp,gB,if_pos hc]
theorem sQ {c:List Nat} (h:clo 0 c=true):∀ i,i<=c.length->∃ fd sk gs ah,Wk c i fd sk/\Wf c i fd/\Gp c i gs fd ah/\clo sk.length (c.drop i)=true /\
    aT (c.take i)=(sk.map (d7 c),(c.take i).count 40,gs.map (fun g=>g.map fun p=>d7 c p.1),ah)
  | 0,_=>⟨[],[],[],true,Wk.nil c,⟨by simp,fun j p hp=>by simp at hp⟩,Gp.nil c,by rw [List.drop_zero]; exact h,rfl⟩
  | i+1,hi=>by
    obtain ⟨fd,sk,gs,ah,w,f,g,hc,e⟩:=sQ h i (by lia)
    have lt:i < c.length:=by lia
    have ge:c.getD i 0=c[i]:=by rw [List.getD_eq_getElem?_getD,List.getElem?_eq_getElem lt]; rfl
    have tk:c.take (i+1)=c.take i++[c[i]]:=List.take_succ_eq_append_getElem lt
    rw [List.drop_eq_getElem_cons lt] at hc
    by_cases e1:c[i]=40
    · rw [e1,dU] at hc
      refine ⟨fd,sk++[(i:Int)],gs,true,w.up lt (by rw [ge]; exact e1),f.up lt (by rw [ge]; exact e1),g.opn (by rw [ge]; exact e1),by rw [List.length_append]; exact hc,?_⟩
      rw [tk,eQ,e,e1,kr,List.map_append,List.count_append]
      rfl
    · by_cases e2:c[i]=41
      · rw [e2] at hc
        rcases List.eq_nil_or_concat sk with rfl | ⟨sk0,m,rfl⟩
        · rw [show ([]:List Int).length=0 from rfl,dw] at hc
          cases hc
        · rw [List.concat_eq_append] at hc w e
          rw [List.length_append,show [m].length=1 from rfl,cF] at hc
          have c41:c.getD i 0=41:=by rw [ge]; exact e2
          have ct:(c.take (i+1)).count 40=(c.take i).count 40:=by rw [tk,List.count_append,e2]; rfl
          have bd:∀ p∈fd,0<=p.2/\p.2 < (i:Int):=fun p hp=>by have:=w.prs p hp; lia
          cases ah with
          | true =>
            refine ⟨_,sk0,gs++[[(m,(i:Int))]],false,w.down lt c41,f.down lt c41,g.new c41 bd,hc,?_⟩
            rw [ct,tk,eQ,e,e2,List.map_append]
            show j7 (sk0.map (d7 c)++[d7 c m],_,_,true) 41=_
            rw [kO,List.map_append]
            rfl
          | false =>
            obtain ⟨gs0,g1,rfl,_⟩:=g.last rfl
            refine ⟨_,sk0,gs0++[g1++[(m,(i:Int))]],false,w.down lt c41,f.down lt c41,g.more c41,hc,?_⟩
            rw [ct,tk,eQ,e,e2,List.map_append,List.map_append]
            show j7 (sk0.map (d7 c)++[d7 c m],_,gs0.map _++[g1.map _],false) 41=_
            rw [jN,List.map_append]
            show (_,_,_++[_++[_]],_)=(_,_,_++[(g1++[(m,(i:Int))]).map _],_)
            rw [List.map_append]
            rfl
      · rw [cR e1 e2] at hc
        cases hc
end Ck
namespace Ck
open PySem L2
theorem mC {c:List Nat} {j:Nat} {p:Pair} (hj:(a8 c c.length)[j]? = some p):d7 c p.1=(j:Int):=by
  obtain ⟨k,hk,e40,rfl⟩:=ko.mp (List.mem_of_getElem? hj)
  unfold d7
  show (((c.take ((k:Nat):Int).toNat).count 40:Nat):Int)=(j:Int)
  rw [Int.toNat_natCast,<- mG c k (by lia),sT hk e40 hj]
noncomputable def fM (c:List Nat):List Int:=(a8 c c.length).map fun p=>((bE c p.2.toNat:Nat):Int)
theorem iJ (c:List Nat):(fM c).length=(a8 c c.length).length:=by unfold fM; simp
theorem kM {c:List Nat} {j:Nat} {p:Pair} (hj:(a8 c c.length)[j]? = some p):(fM c).getD j 0=((bE c p.2.toNat:Nat):Int):=by
  unfold fM
  rw [List.getD_eq_getElem?_getD,List.getElem?_map,hj]
  rfl
noncomputable def en (st:List Int) (s:Int):List Int:=((List.range st.length).filter fun j=>decide (st.getD j 0=s)).map fun (j:Nat)=>(j:Int)
noncomputable def grp (st:List Int):List (List Int):=((List.range st.length).filter fun k=>decide (st.idxOf (st.getD k 0)=k)).map fun k=>en st (st.getD k 0)
theorem d4 {st:List Int} {s v:Int}:v∈en st s↔∃ j:Nat,j < st.length/\st.getD j 0=s/\v=(j:Int):=by
  unfold en
  rw [List.mem_map]
  constructor
  · rintro ⟨j,hj,rfl⟩
    rw [List.mem_filter,List.mem_range,decide_eq_true_iff] at hj
    exact ⟨j,hj.1,hj.2,rfl⟩
  · rintro ⟨j,h1,h2,rfl⟩
    exact ⟨j,List.mem_filter.mpr ⟨List.mem_range.mpr h1,decide_eq_true h2⟩,rfl⟩
theorem kn (st:List Int) (s:Int):(en st s).Pairwise (· < ·):=by
  unfold en
  rw [List.pairwise_map]
  exact (List.pairwise_lt_range.filter _).imp fun h=>by lia
theorem getD_at {st:List Int} {j:Nat} (h:j < st.length):st.getD j 0=st[j]:=by rw [List.getD_eq_getElem?_getD,List.getElem?_eq_getElem h]; rfl
theorem fA {st:List Int} {r:List Int}:r∈grp st↔∃ s∈st,r=en st s:=by
  unfold grp
  rw [List.mem_map]
  constructor
  · rintro ⟨k,hk,rfl⟩
    rw [List.mem_filter,List.mem_range] at hk
    exact ⟨_,by rw [getD_at hk.1]; exact List.getElem_mem hk.1,rfl⟩
  · rintro ⟨s,hs,rfl⟩
    have hi:=List.idxOf_lt_length_iff.mpr hs
    have e:st.getD (st.idxOf s) 0=s:=by rw [getD_at hi,List.getElem_idxOf hi]
    exact ⟨st.idxOf s,List.mem_filter.mpr ⟨List.mem_range.mpr hi,decide_eq_true (by rw [e])⟩,by rw [e]⟩
theorem uX {st:List Int}:(grp st).map hd=((List.range st.length).filter fun k=>decide (st.idxOf (st.getD k 0)=k)).map fun (k:Nat)=>(k:Int):=by
  unfold grp
  rw [List.map_map]
  refine List.map_congr_left fun k hk=>?_
  rw [List.mem_filter,List.mem_range,decide_eq_true_iff] at hk
  show hd (en st (st.getD k 0))=(k:Int)
  have mk:(k:Int)∈en st (st.getD k 0):=d4.mpr ⟨k,hk.1,rfl,rfl⟩
  have lt:=kn st (st.getD k 0)
  cases e:en st (st.getD k 0) with
  | nil=>rw [e] at mk; cases mk
  | cons a t =>
    rw [e] at mk lt
    show a=(k:Int)
    obtain ⟨j,hj,ej,rfl⟩:=d4.mp (show a∈en st (st.getD k 0) by rw [e]; exact List.mem_cons_self ..)
    have jk:k<=j:=by
      have:=hk.2
      rw [<- ej,getD_at hj] at this
      by_cases z:j < k
      · have l:=List.not_of_lt_findIdx (p:=(· == st[j])) (xs:=st) (i:=j) (by rw [<- List.idxOf]; lia)
        simp at l
      · lia
    rcases List.mem_cons.mp mk with z | z
    · exact z.symm
    · have:=(List.pairwise_cons.mp lt).1 _ z
      lia
theorem o6 {a b:List Int} (ha:a.Pairwise (· < ·)) (hb:b.Pairwise (· < ·)) (h:∀ x,x∈a↔x∈b):a=b :=
  List.Perm.eq_of_pairwise (le:=(·<=·)) (fun x y _ _ h1 h2=>by lia) (ha.imp fun h=>by lia) (hb.imp fun h=>by lia)
    ((List.perm_ext_iff_of_nodup (ha.imp fun h=>by lia) (hb.imp fun h=>by lia)).mpr h)
theorem vq (st:List Int):(grp st).Nodup:=by
  have h:((grp st).map hd).Nodup:=by
    rw [uX]
    exact lP (g:=Int.toNat) (List.nodup_range.filter _) fun x _=>Int.toNat_natCast x
  exact List.Pairwise.of_map hd (fun a b n e=>n (by rw [e])) h
end Ck
namespace Ck
open PySem L2
structure Wh (c:List Nat) (gs:List (List Pair)) (fd:List Pair):Prop where
  clo:clo 0 c=true
  wk:Wk c c.length fd []
  wf:Wf c c.length fd
  flat:gs.flatten=fd
  ne:∀ g∈gs,g≠[]
  same:∀ g∈gs,∀ p∈g,∀ q∈g,bE c p.2.toNat=bE c q.2.toNat
  apart:gs.Pairwise fun g h=>∀ p∈g,∀ q∈h,bE c p.2.toNat≠bE c q.2.toNat
theorem kR {c:List Nat} (h:clo 0 c=true):∃ fd gs ah,Wh c gs fd/\aT c=([],c.count 40,gs.map (fun g=>g.map fun p=>d7 c p.1),ah):=by
  obtain ⟨fd,sk,gs,ah,w,f,g,hc,e⟩:=sQ h c.length (Nat.le_refl _)
  rw [List.drop_length,iG] at hc
  have:sk=[]:=List.eq_nil_of_length_eq_zero (by simpa using hc)
  subst this
  rw [List.take_length] at e
  exact ⟨fd,gs,ah,⟨h,w,f,g.flat,g.ne,g.same,g.apart⟩,e⟩
section
variable {c:List Nat} {gs:List (List Pair)} {fd:List Pair} (W:Wh c gs fd)
include W
theorem Wh.bw {p:Pair}:p∈fd↔p∈a8 c c.length:=(o7 W.wk).mem_iff
theorem Wh.mem {p:Pair}:p∈fd↔∃ g∈gs,p∈g:=by rw [<- W.flat,List.mem_flatten]
theorem Wh.nd:fd.Nodup:=(o7 W.wk).nodup_iff.mpr (yi c _)
theorem Wh.inv {p:Pair} (hp:p∈fd):(a8 c c.length).getD (d7 c p.1).toNat (0,0)=p:=by
  obtain ⟨j,hj⟩:=List.getElem?_of_mem (W.bw.mp hp)
  rw [mC hj,Int.toNat_natCast,List.getD_eq_getElem?_getD,hj]
  rfl
theorem Wh.one {g h:List Pair} (hg:g∈gs) (hh:h∈gs) {p q:Pair} (hp:p∈g) (hq:q∈h) (e:bE c p.2.toNat=bE c q.2.toNat):g=h:=by
  obtain ⟨i,hi,rfl⟩:=List.getElem_of_mem hg
  obtain ⟨j,hj,rfl⟩:=List.getElem_of_mem hh
  have a:=List.pairwise_iff_getElem.mp W.apart
  by_cases l:i < j
  · exact absurd e (a i j hi hj l p hp q hq)
  · by_cases l2:j < i
    · exact absurd e.symm (a j i hj hi l2 q hq p hp)
    · have:i=j:=by lia
      subst this
      rfl
theorem Wh.cls {g:List Pair} (hg:g∈gs) {t:List Int} (pt:t.Perm (g.map fun p=>d7 c p.1)) (st:t.Pairwise (·<=·)) {p:Pair} (hp:p∈g):t=en (fM c) ((bE c p.2.toNat:Nat):Int):=by
  have gf:∀ q∈g,q∈fd:=fun q hq=>W.mem.mpr ⟨g,hg,hq⟩
  have ndg:g.Nodup:=by
    have:=List.sublist_flatten_of_mem hg
    rw [W.flat] at this
    exact W.nd.sublist this
  have ndm:(g.map fun p=>d7 c p.1).Nodup:=lP (g:=fun v:Int=>(a8 c c.length).getD v.toNat (0,0)) ndg fun q hq=>W.inv (gf q hq)
  have ndt:=pt.nodup_iff.mpr ndm
  refine o6 ((List.Pairwise.and st ndt).imp fun ⟨a,b⟩=>by lia) (kn _ _) fun v=>?_
  rw [pt.mem_iff,List.mem_map,d4]
  constructor
  · rintro ⟨q,hq,rfl⟩
    obtain ⟨j,hj⟩:=List.getElem?_of_mem (W.bw.mp (gf q hq))
    exact ⟨j,by rw [iJ]; exact (List.getElem?_eq_some_iff.mp hj).1,by rw [kM hj,W.same g hg q hq p hp],mC hj⟩
  · rintro ⟨j,hj,ej,rfl⟩
    rw [iJ] at hj
    have hb:(a8 c c.length)[j]? = some (a8 c c.length)[j]:=List.getElem?_eq_getElem hj
    rw [kM hb] at ej
    have mf:=W.bw.mpr (List.getElem_mem hj)
    obtain ⟨h,hh,hq⟩:=W.mem.mp mf
    have e:=W.one hh hg hq hp (by lia)
    subst e
    exact ⟨_,hq,mC hb⟩
theorem Wh.sorted {ts:List (List Int)}:∀ {hs:List (List Pair)},(∀ g∈hs,g∈gs)->∀ {ts:List (List Int)},Paired (fun (r t:List Int)=>t.Perm r/\t.Pairwise (·<=·)) (hs.map fun g=>g.map fun p=>d7 c p.1) ts->ts=hs.map fun g=>en (fM c) ((bE c (g.headD (0,0)).2.toNat:Nat):Int)
  | [],_,ts,h=>by cases h; rfl
  | g::hs,hg,ts,h=>by
    cases h with
    | cons r t =>
      obtain ⟨p,hp⟩:=List.exists_mem_of_ne_nil g (W.ne g (hg g (List.mem_cons_self ..)))
      have hd:g.headD (0,0)∈g:=by
        cases g with
        | nil=>cases hp
        | cons a g=>exact List.mem_cons_self ..
      rw [List.map_cons,<- W.cls (hg g (List.mem_cons_self ..)) r.1 r.2 hd,<- Wh.sorted (ts:=[]) (fun x hx=>hg x (List.mem_cons_of_mem _ hx)) t]
theorem Wh.grp {ts:List (List Int)} (h:Paired (fun (r t:List Int)=>t.Perm r/\t.Pairwise (·<=·)) (gs.map fun g=>g.map fun p=>d7 c p.1) ts):ts.Perm (grp (fM c)):=by
  have e:=W.sorted (ts:=[]) (fun g h=>h) h
  have hd:∀ g∈gs,g.headD (0,0)∈g:=fun g hg=>by
    cases g with
    | nil=>exact absurd rfl (W.ne _ hg)
    | cons a g=>exact List.mem_cons_self ..
  have inj:∀ g∈gs,∀ p∈g,d7 c p.1∈en (fM c) ((bE c p.2.toNat:Nat):Int)/\∀ s:Int,d7 c p.1∈en (fM c) s->s=((bE c p.2.toNat:Nat):Int):=fun g hg p hp=>by
    obtain ⟨j,hj⟩:=List.getElem?_of_mem (W.bw.mp (W.mem.mpr ⟨g,hg,hp⟩))
    refine ⟨d4.mpr ⟨j,by rw [iJ]; exact (List.getElem?_eq_some_iff.mp hj).1,kM hj,mC hj⟩,fun s hs=>?_⟩
    obtain ⟨i,hi,ei,er⟩:=d4.mp hs
    rw [mC hj] at er
    have:i=j:=by lia
    subst this
    rw [<- ei,kM hj]
  rw [e]
  refine (List.perm_ext_iff_of_nodup ?_ (vq _)).mpr fun r=>?_
  · rw [List.Nodup,List.pairwise_map]
    refine W.apart.imp_of_mem fun {g h} hg hh a z=>?_
    have i1:=inj g hg _ (hd g hg)
    rw [z] at i1
    have:=i1.2 _ i1.1
    have i2:=inj g hg _ (hd g hg)
    have e1:=i2.2 _ (by rw [<- z]; exact i2.1)
    exact a _ (hd g hg) _ (hd h hh) (by lia)
  · rw [fA,List.mem_map]
    constructor
    · rintro ⟨g,hg,rfl⟩
      refine ⟨_,?_,rfl⟩
      unfold fM
      exact List.mem_map.mpr ⟨_,W.bw.mp (W.mem.mpr ⟨g,hg,hd g hg⟩),rfl⟩
    · rintro ⟨s,hs,rfl⟩
      unfold fM at hs
      obtain ⟨p,hp,rfl⟩:=List.mem_map.mp hs
      obtain ⟨g,hg,hpg⟩:=W.mem.mp (W.bw.mpr hp)
      exact ⟨g,hg,by rw [W.same g hg _ (hd g hg) p hpg]⟩
end
end Ck
namespace Ck
open PySem L2
noncomputable def hOf (gs:List (List Int)) (j:Int):Nat:=((gs.filter fun g=>decide (hd g=j)).map List.length).sum
noncomputable def kOf (R:List (List Int)) (j:Int):Nat:=((R.filter fun r=>decide (lst r=j)).map List.length).sum
noncomputable def iW (k:Nat):List Nat:=40::List.replicate k 41
noncomputable def mj (gs:List (List Int)) (b:Nat):List Nat:=(List.range b).flatMap fun (j:Nat)=>iW (hOf gs (j:Int))
noncomputable def jf (R:List (List Int)) (b:Nat):List Nat:=(List.range b).flatMap fun (j:Nat)=>iW (kOf R (j:Int))
theorem kH {α β:Type} {f g:α->List β} {l:List α} (h:∀ x∈l,f x=g x):l.flatMap f=l.flatMap g:=by
  rw [List.flatMap_def,List.flatMap_def,List.map_congr_left h]
theorem hOf_snoc (gs:List (List Int)) (g:List Int) (j:Int):hOf (gs++[g]) j=hOf gs j+if hd g=j then g.length else 0:=by
  unfold hOf
  rw [List.filter_append,List.map_append,List.sum_append]
  by_cases e:hd g=j
  · rw [if_pos e,List.filter_cons,if_pos (decide_eq_true e)]; simp
  · rw [if_neg e,List.filter_cons,if_neg (by rw [decide_eq_false e]; decide)]; simp
theorem nP (gs:List (List Int)) (b:Nat):mj gs (b+1)=mj gs b++iW (hOf gs (b:Int)):=by
  unfold mj
  rw [List.range_succ,List.flatMap_append]
  simp
theorem nK (R:List (List Int)) (b:Nat):jf R (b+1)=jf R b++iW (kOf R (b:Int)):=by
  unfold jf
  rw [List.range_succ,List.flatMap_append]
  simp
structure Mi (c:List Nat) (S:List Int) (b:Nat) (gs:List (List Int)) (ah:Bool):Prop where
  tx:c=mj gs b
  inc:S.Pairwise (· < ·)
  lt:∀ x∈S,0<=x/\x < (b:Int)
  fin:∀ g∈gs,g≠[]/\0<=hd g/\hd g < (b:Int)/\g.Pairwise (· > ·)
  up:ah=true->S=[]\/∃ S0,S=S0++[(b:Int) - 1]
  clean:ah=true->∀ g∈gs,hd g < (b:Int) - 1
  dn:ah=false->∃ gs0 g,gs=gs0++[g]/\hd g=(b:Int) - 1/\(∀ x∈S,∀ y∈g,x < y)/\∀ h∈gs0,hd h < (b:Int) - 1
theorem Mi.nil:Mi [] [] 0 [] true:=⟨rfl,.nil,fun x h=>(by cases h),fun g h=>(by cases h),fun _=>.inl rfl,fun _ g h=>(by cases h),fun h=>(by cases h)⟩
theorem xf {g:List Int} (h:g≠[]) (m:Int):hd (g++[m])=hd g:=by
  cases g with
  | nil=>exact absurd rfl h
  | cons a g=>rfl
theorem hOf_none {gs:List (List Int)} {j:Int} (h:∀ g∈gs,hd g≠j):hOf gs j=0:=by
  unfold hOf
  rw [List.filter_eq_nil_iff.mpr fun g hg=>by rw [decide_eq_false (h g hg)]; decide]
  rfl
theorem Mi.opn {c:List Nat} {S:List Int} {b:Nat} {gs:List (List Int)} {ah:Bool} (h:Mi c S b gs ah):Mi (c++[40]) (S++[(b:Int)]) (b+1) gs true:=by
  refine ⟨?_,?_,fun x hx=>?_,fun g hg=>?_,fun _=>.inr ⟨S,by rw [show ((b+1:Nat):Int) - 1=(b:Int) by lia]⟩,fun _ g hg=>?_,fun z=>(by cases z)⟩
  · rw [nP,<- h.tx,hOf_none fun g hg=>by have:=h.fin g hg; lia]
    rfl
  · refine List.pairwise_append.mpr ⟨h.inc,List.pairwise_singleton _ _,fun x hx y hy=>?_⟩
    rw [List.mem_singleton.mp hy]
    exact (h.lt x hx).2
  · rcases List.mem_append.mp hx with z | z
    · have:=h.lt x z; lia
    · rw [List.mem_singleton.mp z]; lia
  · have:=h.fin g hg
    exact ⟨this.1,this.2.1,by lia,this.2.2.2⟩
  · have:=h.fin g hg
    lia
theorem sS {gs gs':List (List Int)} {b:Nat} (h1:∀ j:Nat,j+1 < b->hOf gs (j:Int)=hOf gs' (j:Int)) (h2:hOf gs' ((b:Int) - 1)=hOf gs ((b:Int) - 1)+1) (hb:0 < b):mj gs' b=mj gs b++[41]:=by
  obtain ⟨a,rfl⟩:∃ a,b=a+1:=⟨b - 1,by lia⟩
  rw [nP,nP,List.append_assoc]
  have e0:((a+1:Nat):Int) - 1=(a:Int):=by lia
  rw [e0] at h2
  have e1:mj gs' a=mj gs a:=by
    unfold mj
    refine kH fun j hj=>?_
    have:=List.mem_range.mp hj
    rw [h1 j (by lia)]
  rw [e1,h2]
  refine congrArg _ ?_
  unfold iW
  rw [List.replicate_succ']
  rfl
theorem Mi.new {c:List Nat} {S:List Int} {m:Int} {b:Nat} {gs:List (List Int)} (h:Mi c (S++[m]) b gs true):Mi (c++[41]) S b (gs++[[m]]) false:=by
  have hm:m=(b:Int) - 1:=by
    rcases h.up rfl with z | ⟨S0,z⟩
    · simp at z
    · have:=List.append_inj' z rfl
      simpa using this.2
  have mb:=h.lt m (by simp)
  have ap:=List.pairwise_append.mp h.inc
  have cl:=h.clean rfl
  refine ⟨?_,ap.1,fun x hx=>h.lt x (by simp [hx]),fun g hg=>?_,fun z=>(by cases z),fun z=>(by cases z),fun _=>⟨gs,_,rfl,hm,fun x hx y hy=>ap.2.2 x hx y (by simpa using hy),cl⟩⟩
  · have e1:∀ j:Nat,j+1 < b->hOf gs (j:Int)=hOf (gs++[[m]]) (j:Int):=fun j hj=>by
      rw [hOf_snoc,if_neg (show ¬ hd [m]=(j:Int) by show ¬ m=_; lia)]; rfl
    have e2:hOf (gs++[[m]]) ((b:Int) - 1)=hOf gs ((b:Int) - 1)+1:=by
      rw [hOf_snoc,if_pos (show hd [m]=(b:Int) - 1 from hm)]; rfl
    rw [h.tx,sS e1 e2 (by lia)]
  · rcases List.mem_append.mp hg with z | z
    · exact h.fin g z
    · rw [List.mem_singleton.mp z]
      exact ⟨by simp,mb.1,mb.2,List.pairwise_singleton _ _⟩
theorem Mi.more {c:List Nat} {S:List Int} {m:Int} {b:Nat} {gs:List (List Int)} {g:List Int} (h:Mi c (S++[m]) b (gs++[g]) false):Mi (c++[41]) S b (gs++[g++[m]]) false:=by
  obtain ⟨gs0,g0,e,h1,h2,h3⟩:=h.dn rfl
  obtain ⟨rfl,e2⟩:=List.append_inj' e rfl
  cases e2
  have fg:=h.fin g (by simp)
  have mb:=h.lt m (by simp)
  have ap:=List.pairwise_append.mp h.inc
  have hm:=xf fg.1 m
  refine ⟨?_,ap.1,fun x hx=>h.lt x (by simp [hx]),fun x hx=>?_,fun z=>(by cases z),fun z=>(by cases z),fun _=>⟨gs,_,rfl,hm.trans h1,fun x hx y hy=>?_,h3⟩⟩
  · have e1:∀ j:Nat,j+1 < b->hOf (gs++[g]) (j:Int)=hOf (gs++[g++[m]]) (j:Int):=fun j hj=>by
      rw [hOf_snoc,hOf_snoc,hm,if_neg (by lia),if_neg (by lia)]
    have e2:hOf (gs++[g++[m]]) ((b:Int) - 1)=hOf (gs++[g]) ((b:Int) - 1)+1:=by
      rw [hOf_snoc,hOf_snoc,hm,if_pos h1,if_pos h1,List.length_append]
      rfl
    rw [h.tx,sS e1 e2 (by lia)]
  · rcases List.mem_append.mp hx with z | z
    · exact h.fin x (List.mem_append_left _ z)
    · rw [List.mem_singleton.mp z,hm]
      refine ⟨by simp,fg.2.1,fg.2.2.1,List.pairwise_append.mpr ⟨fg.2.2.2,List.pairwise_singleton _ _,fun a ha y hy=>?_⟩⟩
      rw [List.mem_singleton.mp hy]
      exact h2 m (by simp) a ha
  · rcases List.mem_append.mp hy with z | z
    · exact h2 x (by simp [hx]) y z
    · exact ap.2.2 x hx y (by simpa using z)
theorem oj {c:List Nat} (h:clo 0 c=true):∀ i,i<=c.length->Mi (c.take i) (aT (c.take i)).1 (aT (c.take i)).2.1 (aT (c.take i)).2.2.1 (aT (c.take i)).2.2.2/\clo (aT (c.take i)).1.length (c.drop i)=true
  | 0,_=>⟨Mi.nil,by rw [List.drop_zero]; exact h⟩
  | i+1,hi=>by
    obtain ⟨mi,hc⟩:=oj h i (by lia)
    have lt:i < c.length:=by lia
    have tk:c.take (i+1)=c.take i++[c[i]]:=List.take_succ_eq_append_getElem lt
    rw [List.drop_eq_getElem_cons lt] at hc
    rw [tk,eQ]
    generalize aT (c.take i)=z at mi hc
    obtain ⟨S,b,gs,ah⟩:=z
    simp only at mi hc
    by_cases e1:c[i]=40
    · rw [e1,dU] at hc
      rw [e1,kr]
      exact ⟨mi.opn,by rw [List.length_append]; exact hc⟩
    · by_cases e2:c[i]=41
      · rw [e2] at hc
        rw [e2]
        rcases List.eq_nil_or_concat S with rfl | ⟨S0,m,rfl⟩
        · rw [show ([]:List Int).length=0 from rfl,dw] at hc
          cases hc
        · rw [List.concat_eq_append] at hc mi |-
          rw [List.length_append,show [m].length=1 from rfl,cF] at hc
          cases ah with
          | true=>rw [kO]; exact ⟨mi.new,hc⟩
          | false =>
            obtain ⟨gs0,g,rfl,_⟩:=mi.dn rfl
            rw [jN]
            exact ⟨mi.more,hc⟩
      · rw [cR e1 e2] at hc
        cases hc
end Ck
set_option Elab.async false
set_option linter.all false
set_option maxRecDepth 100000
set_option maxHeartbeats 4000000
namespace Ck
open PySem L2
end Ck
set_option Elab.async false
set_option linter.all false
set_option maxRecDepth 100000
set_option maxHeartbeats 4000000
namespace Ck
open PySem L2
theorem rD {ps:List Pair} (h:tQ ps) {i j:Nat} (hi:i < ps.length) (hj:j < ps.length):(ps[i]).1 < (ps[j]).1↔i < j:=by
  have nd:(bI ps).Nodup:=h.flat.nodup_iff.mpr (ku _)
  have ne:=List.pairwise_iff_getElem.mp (u5 nd)
  have le:=List.pairwise_iff_getElem.mp h.ris
  constructor
  · intro lt
    by_cases e:i < j
    · exact e
    · by_cases e2:i=j
      · subst e2; lia
      · have:=le j i hj hi (by lia)
        unfold e9 at this
        lia
  · intro lt
    have a:=le i j hi hj lt
    have b:=ne i j hi hj lt
    unfold e9 at a
    lia
end Ck
set_option Elab.async false
set_option linter.all false
set_option maxRecDepth 100000
set_option maxHeartbeats 4000000
namespace Ck
open PySem L2
theorem vL {a b:List Nat} (h:a.Perm b):a.sum=b.sum:=by
  induction h with
  | nil=>rfl
  | cons x _ ih=>rw [List.sum_cons,List.sum_cons,ih]
  | swap x y l=>simp only [List.sum_cons]; lia
  | trans _ _ h1 h2=>exact h1.trans h2
theorem vX {R T:List (List Int)} (h:R.Perm T) (j:Int):kOf R j=kOf T j:=vL ((h.filter _).map _)
theorem oF {t:List Int} (st:t.Pairwise (·<=·)) {x:Int} (hx:x∈t):x<=lst t:=by
  obtain ⟨i,hi,rfl⟩:=List.getElem_of_mem hx
  have e:lst t=t[t.length - 1]:=by
    show t.getD (t.length - 1) 0=_
    rw [List.getD_eq_getElem?_getD,List.getElem?_eq_getElem (by lia)]
    rfl
  rw [e]
  by_cases z:i=t.length - 1
  · subst z; exact Int.le_refl _
  · exact List.pairwise_iff_getElem.mp st i (t.length - 1) hi (by lia) (by lia)
theorem x9 {g t:List Int} (pt:t.Perm g) (st:t.Pairwise (·<=·)) (dg:g.Pairwise (· > ·)) (ne:g≠[]):lst t=hd g:=by
  have nt:t≠[]:=fun z=>ne (by rw [z] at pt; exact pt.nil_eq.symm)
  have a:=oF st (pt.mem_iff.mpr (show hd g∈g by cases g with | nil=>exact absurd rfl ne | cons x g=>exact List.mem_cons_self ..))
  have b:=pt.mem_iff.mp (cu nt)
  cases g with
  | nil=>exact absurd rfl ne
  | cons x g =>
    have a:x<=lst t:=a
    show lst t=x
    rcases List.mem_cons.mp b with z | z
    · exact z
    · have:=(List.pairwise_cons.mp dg).1 _ z
      lia
theorem k_h:∀ {gs ts:List (List Int)},Paired (fun (r t:List Int)=>t.Perm r/\t.Pairwise (·<=·)) gs ts->(∀ g∈gs,g≠[]/\g.Pairwise (· > ·))->∀ j:Int,kOf ts j=hOf gs j
  | _,_,.nil,_,j=>rfl
  | g::gs,t::ts,.cons r p,h,j=>by
    have ih:=k_h p (fun x hx=>h x (List.mem_cons_of_mem _ hx)) j
    have hg:=h g (List.mem_cons_self ..)
    have e:=x9 r.1 r.2 hg.2 hg.1
    unfold kOf hOf at *
    rw [List.filter_cons,List.filter_cons,e]
    by_cases z:hd g=j
    · rw [if_pos (decide_eq_true z),if_pos (decide_eq_true z),List.map_cons,List.map_cons,List.sum_cons,List.sum_cons,ih,r.1.length_eq]
    · rw [if_neg (by rw [decide_eq_false z]; decide),if_neg (by rw [decide_eq_false z]; decide),ih]
theorem oY {c:List Nat} (h:clo 0 c=true):Mi c [] (c.count 40) (aT c).2.2.1 (aT c).2.2.2/\(aT c).1=[]/\(aT c).2.1=c.count 40:=by
  obtain ⟨fd,gs,ah,W,e⟩:=kR h
  have m:=(oj h c.length (Nat.le_refl _)).1
  rw [List.take_length] at m
  rw [e] at m |-
  exact ⟨m,rfl,rfl⟩
theorem ze {c:List Nat} (h:clo 0 c=true) {ts R:List (List Int)} (p:Paired (fun (r t:List Int)=>t.Perm r/\t.Pairwise (·<=·)) (aT c).2.2.1 ts) (pr:ts.Perm R):jf R (c.count 40)=c:=by
  obtain ⟨m,_,_⟩:=oY h
  have e:jf R (c.count 40)=mj (aT c).2.2.1 (c.count 40):=by
    unfold jf mj
    refine kH fun j _=>?_
    rw [vX pr.symm,k_h p fun g hg=>⟨(m.fin g hg).1,(m.fin g hg).2.2.2⟩]
  rw [e]
  exact m.tx.symm
structure Gd (R:List (List Int)) (n:Nat):Prop where
  ne:∀ r∈R,r≠[]
  inc:∀ r∈R,r.Pairwise (· < ·)
  heads:(R.map hd).Pairwise (· < ·)
  flat:R.flatten.Perm (d8 n)
  nc:NC (fq R)
theorem yZ {R:List (List Int)} (h:dR R=true):Gd R R.flatten.length:=by
  unfold dR at h
  rw [Bool.and_eq_true,Bool.and_eq_true,Bool.and_eq_true,Bool.not_eq_true'] at h
  obtain ⟨h1,h2,h3,h4⟩:=h
  unfold lI at h3
  have h3:=of_decide_eq_true h3
  exact ⟨fun r hr=>by simpa using List.all_eq_true.mp h1 r hr,h3.1,h3.2,(du _).mp h2,n6.mp h4⟩
theorem Gd.is {R:List (List Int)} {n:Nat} (h:Gd R n):dR R=true:=by
  have l:R.flatten.length=n:=by rw [h.flat.length_eq,gO]
  unfold dR
  rw [Bool.and_eq_true,Bool.and_eq_true,Bool.and_eq_true,Bool.not_eq_true']
  refine ⟨List.all_eq_true.mpr fun r hr=>decide_eq_true (h.ne r hr),(du _).mpr (by rw [l]; exact h.flat),?_,n6.mpr h.nc⟩
  unfold lI
  exact decide_eq_true ⟨h.inc,h.heads⟩
theorem Gd.uniq {R:List (List Int)} {n:Nat} (h:Gd R n) {r s:List Int} (hr:r∈R) (hs:s∈R) {x:Int} (h1:x∈r) (h2:x∈s):r=s:=by
  have nd:R.flatten.Nodup:=h.flat.nodup_iff.mpr (ku n)
  have pd:=(List.pairwise_flatten.mp nd).2
  obtain ⟨i,hi,rfl⟩:=List.getElem_of_mem hr
  obtain ⟨j,hj,rfl⟩:=List.getElem_of_mem hs
  have a:=List.pairwise_iff_getElem.mp pd
  by_cases l:i < j
  · exact absurd rfl (a i j hi hj l x h1 x h2)
  · by_cases l2:j < i
    · exact absurd rfl (a j i hj hi l2 x h2 x h1)
    · have:i=j:=by lia
      subst this
      rfl
theorem Gd.home {R:List (List Int)} {n:Nat} (h:Gd R n) {x:Int} (h0:0<=x) (h1:x < (n:Int)):∃ r∈R,x∈r:=by
  have:=h.flat.mem_iff.mpr (gS.mpr ⟨h0,h1⟩)
  exact List.mem_flatten.mp this
theorem Gd.bd {R:List (List Int)} {n:Nat} (h:Gd R n) {r:List Int} (hr:r∈R) {x:Int} (hx:x∈r):0<=x/\x < (n:Int):=gS.mp (h.flat.mem_iff.mp (List.mem_flatten.mpr ⟨r,hr,hx⟩))
noncomputable def rmO (R:List (List Int)) (x:Int):Int:=((R.find? fun r=>decide (x∈r)).map lst).getD 0
theorem Gd.rm {R:List (List Int)} {n:Nat} (h:Gd R n) {r:List Int} (hr:r∈R) {x:Int} (hx:x∈r):rmO R x=lst r:=by
  unfold Ck.rmO
  cases e:R.find? fun r=>decide (x∈r) with
  | none =>
    have:=List.find?_eq_none.mp e r hr
    simp [hx] at this
  | some s =>
    have s1:=List.mem_of_find?_eq_some e
    have s2:=List.find?_some e
    have:=h.uniq s1 hr (by simpa using s2) hx
    rw [this]
    rfl
noncomputable def SR (R:List (List Int)) (j:Nat):List Int:=((List.range j).filter fun (x:Nat)=>decide ((j:Int)<=rmO R (x:Int))).map fun (x:Nat)=>(x:Int)
theorem iS {R:List (List Int)} {j:Nat} {v:Int}:v∈SR R j↔0<=v/\v < (j:Int)/\(j:Int)<=rmO R v:=by
  unfold SR
  rw [List.mem_map]
  constructor
  · rintro ⟨x,hx,rfl⟩
    rw [List.mem_filter,List.mem_range,decide_eq_true_iff] at hx
    exact ⟨by lia,by lia,hx.2⟩
  · rintro ⟨h0,h1,h2⟩
    refine ⟨v.toNat,List.mem_filter.mpr ⟨List.mem_range.mpr (by lia),decide_eq_true ?_⟩,by lia⟩
    rw [show ((v.toNat:Nat):Int)=v by lia]
    exact h2
theorem oP (R:List (List Int)) (j:Nat):(SR R j).Pairwise (· < ·):=by
  unfold SR
  rw [List.pairwise_map]
  exact (List.pairwise_lt_range.filter _).imp fun h=>by lia
theorem tX {x l:Int}:∀ {r:List Int},r.Pairwise (· < ·)->∀ {y:Int},y∈r->l∈r->y < x->x < l->x∉r->∃ p∈r.zip (r.drop 1),y<=p.1/\p.1 < x/\x < p.2
  | [],_,y,hy,_,_,_,_=>by cases hy
  | [a],_,y,hy,hl,h1,h2,_=>by
    rw [List.mem_singleton.mp hy] at h1
    rw [List.mem_singleton.mp hl] at h2
    lia
  | a::b::r,pw,y,hy,hl,h1,h2,hx=>by
    have pw':=List.pairwise_cons.mp pw
    have ab:=pw'.1 b (List.mem_cons_self ..)
    have hb:b≠x:=fun e=>hx (by rw [e]; simp)
    rcases List.mem_cons.mp hy with rfl | hy'
    · by_cases c:b < x
      · have l':l∈b::r:=by
          rcases List.mem_cons.mp hl with z | z
          · lia
          · exact z
        obtain ⟨p,hp,q1,q2⟩:=tX pw'.2 (List.mem_cons_self ..) l' c h2 fun z=>hx (List.mem_cons_of_mem _ z)
        exact ⟨p,List.mem_cons_of_mem _ hp,by lia,q2⟩
      · exact ⟨(y,b),List.mem_cons_self ..,Int.le_refl _,h1,by show x < b; lia⟩
    · have l':l∈b::r:=by
        rcases List.mem_cons.mp hl with z | z
        · have:=pw'.1 y hy'
          lia
        · exact z
      obtain ⟨p,hp,q1,q2⟩:=tX pw'.2 hy' l' h1 h2 fun z=>hx (List.mem_cons_of_mem _ z)
      exact ⟨p,List.mem_cons_of_mem _ hp,q1,q2⟩
theorem Gd.key {R:List (List Int)} {n:Nat} (h:Gd R n) {r:List Int} (hr:r∈R) {j:Nat} (hj:lst r=(j:Int)):SR R j++[(j:Int)]=SR R (j+1)++r:=by
  have jr:(j:Int)∈r:=by rw [<- hj]; exact cu (h.ne r hr)
  have jn:=h.bd hr jr
  refine o6 ?_ ?_ fun v=>?_
  · refine List.pairwise_append.mpr ⟨oP R j,List.pairwise_singleton _ _,fun x hx y hy=>?_⟩
    rw [List.mem_singleton.mp hy]
    exact (iS.mp hx).2.1
  · refine List.pairwise_append.mpr ⟨oP R _,h.inc r hr,fun x hx y hy=>?_⟩
    obtain ⟨x0,x1,x2⟩:=iS.mp hx
    obtain ⟨s,hs,xs⟩:=h.home x0 (by lia)
    rw [h.rm hs xs] at x2
    have xr:x∉r:=fun z=>by
      have:=h.uniq hs hr xs z
      rw [this,hj] at x2
      lia
    by_cases c:x < y
    · exact c
    · have xy:y≠x:=fun e=>xr (by rw [<- e]; exact hy)
      have xj:x≠(j:Int):=fun e=>xr (by rw [e]; exact jr)
      obtain ⟨p,hp,q1,q2,q3⟩:=tX (h.inc r hr) hy jr (by lia) (by lia) xr
      have p2r:p.2∈r:=by
        have:=(List.of_mem_zip (a:=p.1) (b:=p.2) hp).2
        exact List.mem_of_mem_drop this
      have p2j:=oF ((h.inc r hr).imp fun h=>by lia) p2r
      rw [hj] at p2j
      have p2s:p.2∉s:=fun z=>xr (by have:=h.uniq hs hr z p2r; rw [<- this]; exact xs)
      obtain ⟨p',hp',q1',q2',q3'⟩:=tX (h.inc s hs) xs (cu (h.ne s hs)) q3 (by lia) p2s
      exact absurd (show uJ p p' from ⟨by lia,by lia,by lia⟩) (h.nc p (jy.mpr ⟨r,hr,hp⟩) p' (jy.mpr ⟨s,hs,hp'⟩))
  · rw [List.mem_append,List.mem_append,iS,iS,List.mem_singleton]
    constructor
    · rintro (⟨v0,v1,v2⟩ | rfl)
      · by_cases e:rmO R v=(j:Int)
        · refine .inr ?_
          obtain ⟨s,hs,vs⟩:=h.home v0 (by lia)
          rw [h.rm hs vs] at e
          have js:(j:Int)∈s:=by rw [<- e]; exact cu (h.ne s hs)
          rw [<- h.uniq hs hr js jr]
          exact vs
        · exact .inl ⟨v0,by lia,by lia⟩
      · exact .inr jr
    · rintro (⟨v0,v1,v2⟩ | hv)
      · by_cases e:v=(j:Int)
        · exact .inr e
        · exact .inl ⟨v0,by lia,by lia⟩
      · have b:=h.bd hr hv
        have l:=oF ((h.inc r hr).imp fun h=>by lia) hv
        rw [hj] at l
        by_cases e:v=(j:Int)
        · exact .inr e
        · exact .inl ⟨b.1,by lia,by rw [h.rm hr hv,hj]; exact Int.le_refl _⟩
theorem Gd.idle {R:List (List Int)} {n:Nat} (h:Gd R n) {j:Nat} (hn:j < n) (hj:∀ r∈R,lst r≠(j:Int)):SR R (j+1)=SR R j++[(j:Int)]:=by
  refine o6 (oP R _) ?_ fun v=>?_
  · refine List.pairwise_append.mpr ⟨oP R j,List.pairwise_singleton _ _,fun x hx y hy=>?_⟩
    rw [List.mem_singleton.mp hy]
    exact (iS.mp hx).2.1
  · rw [List.mem_append,iS,iS,List.mem_singleton]
    constructor
    · rintro ⟨v0,v1,v2⟩
      by_cases e:v=(j:Int)
      · exact .inr e
      · exact .inl ⟨v0,by lia,by lia⟩
    · rintro (⟨v0,v1,v2⟩ | rfl)
      · obtain ⟨s,hs,vs⟩:=h.home v0 (by lia)
        have:=hj s hs
        rw [h.rm hs vs] at v2 |-
        exact ⟨v0,by lia,by lia⟩
      · obtain ⟨s,hs,vs⟩:=h.home (x:=(j:Int)) (by lia) (by lia)
        have:=hj s hs
        have l:=oF ((h.inc s hs).imp fun h=>by lia) vs
        rw [h.rm hs vs]
        exact ⟨by lia,by lia,by lia⟩
end Ck
namespace Ck
open PySem L2
theorem qf:∀ (k:Nat) (r:List Int),r.length=k->∀ (S:List Int) (b:Nat) (gs:List (List Int)) (g:List Int),(List.replicate k 41).foldl j7 (S++r,b,gs++[g],false)=(S,b,gs++[g++r.reverse],false)
  | 0,r,hk,S,b,gs,g=>by
    have:r=[]:=List.eq_nil_of_length_eq_zero hk
    subst this
    simp
  | k+1,r,hk,S,b,gs,g=>by
    have ne:r≠[]:=fun z=>by rw [z] at hk; cases hk
    obtain ⟨r0,m,rfl⟩:∃ r0 m,r=r0++[m]:=⟨_,_,(List.dropLast_concat_getLast ne).symm⟩
    rw [List.replicate_succ,List.foldl_cons,<- List.append_assoc,jN,qf k r0 (by rw [List.length_append] at hk; have:r0.length+1=k+1:=hk; lia),List.reverse_append]
    simp
theorem vY {r:List Int} (hr:r≠[]) (S:List Int) (b:Nat) (gs:List (List Int)):(List.replicate r.length 41).foldl j7 (S++r,b,gs,true)=(S,b,gs++[r.reverse],false):=by
  obtain ⟨r0,m,rfl⟩:∃ r0 m,r=r0++[m]:=⟨_,_,(List.dropLast_concat_getLast hr).symm⟩
  rw [List.length_append,show [m].length=1 from rfl,List.replicate_succ,List.foldl_cons,<- List.append_assoc,kO,qf r0.length r0 rfl,List.reverse_append]
  rfl
theorem Gd.kOf {R:List (List Int)} {n:Nat} (h:Gd R n) {r:List Int} (hr:r∈R) {j:Int} (hj:lst r=j):kOf R j=r.length:=by
  have key:∀ {T:List (List Int)},T.Nodup->(∀ s∈T,lst s=j->s=r)->r∈T->Ck.kOf T j=r.length:=by
    intro T
    induction T with
    | nil=>intro _ _ z; cases z
    | cons a T ih =>
      intro nd one mem
      have nd':=List.nodup_cons.mp nd
      unfold Ck.kOf at ih |-
      rw [List.filter_cons]
      rcases List.mem_cons.mp mem with e | e
      · subst e
        rw [if_pos (decide_eq_true hj),List.filter_eq_nil_iff.mpr fun s hs=>by
          rw [decide_eq_true_iff]
          intro z
          exact nd'.1 (by rw [<- one s (List.mem_cons_of_mem _ hs) z]; exact hs)]
        simp
      · rw [if_neg (by
          rw [decide_eq_true_iff]
          intro z
          have:=one a (List.mem_cons_self ..) z
          exact nd'.1 (by rw [this]; exact e))]
        exact ih nd'.2 (fun s hs=>one s (List.mem_cons_of_mem _ hs)) e
  have ndR:R.Nodup:=List.Pairwise.of_map hd (fun a b n e=>by rw [e] at n; lia) h.heads
  refine key ndR (fun s hs e=>?_) hr
  exact h.uniq hs hr (x:=j) (by rw [<- e]; exact cu (h.ne s hs)) (by rw [<- hj]; exact cu (h.ne r hr))
theorem nG {R:List (List Int)} {j:Int} (h:∀ r∈R,lst r≠j):kOf R j=0:=by
  unfold kOf
  rw [List.filter_eq_nil_iff.mpr fun g hg=>by rw [decide_eq_false (h g hg)]; decide]
  rfl
theorem vV (a b:List Nat):aT (a++b)=b.foldl j7 (aT a):=by unfold aT; rw [List.foldl_append]
theorem Gd.walk {R:List (List Int)} {n:Nat} (h:Gd R n):∀ j,j<=n->∃ (rs:List (List Int)) (ah:Bool),aT (jf R j)=(SR R j,j,rs.map List.reverse,ah)/\rs.Perm (R.filter fun r=>decide (lst r < (j:Int)))
  | 0,_=>⟨[],true,rfl,by
      rw [List.filter_eq_nil_iff.mpr fun r hr=>by
        rw [decide_eq_true_iff]
        have:=h.bd hr (cu (h.ne r hr))
        lia]⟩
  | j+1,hj=>by
    obtain ⟨rs,ah,e,pm⟩:=Gd.walk h j (by lia)
    have next:∀ r:List Int,decide (lst r < ((j+1:Nat):Int))=(decide (lst r < (j:Int)) || decide (lst r=(j:Int))):=fun r=>by
      rw [Bool.eq_iff_iff,Bool.or_eq_true,decide_eq_true_iff,decide_eq_true_iff,decide_eq_true_iff]
      lia
    rw [nK,vV,e]
    unfold iW
    rw [List.foldl_cons,kr]
    by_cases c:∃ r∈R,lst r=(j:Int)
    · obtain ⟨r,hr,lr⟩:=c
      rw [h.kOf hr lr,h.key hr lr,vY (h.ne r hr)]
      refine ⟨rs++[r],false,by rw [List.map_append]; rfl,?_⟩
      have ndR:R.Nodup:=List.Pairwise.of_map hd (fun a b n e=>by rw [e] at n; lia) h.heads
      refine (List.Perm.append_right [r] pm).trans ((List.perm_ext_iff_of_nodup ?_ (ndR.filter _)).mpr fun s=>?_)
      · refine List.pairwise_append.mpr ⟨ndR.filter _,List.pairwise_singleton _ _,fun a ha b hb z=>?_⟩
        rw [List.mem_filter,decide_eq_true_iff] at ha
        rw [z,List.mem_singleton.mp hb,lr] at ha
        lia
      · rw [List.mem_append,List.mem_filter,List.mem_filter,List.mem_singleton,next,Bool.or_eq_true,decide_eq_true_iff,decide_eq_true_iff]
        constructor
        · rintro (⟨a,b⟩ | rfl)
          · exact ⟨a,.inl b⟩
          · exact ⟨hr,.inr lr⟩
        · rintro ⟨a,b | b⟩
          · exact .inl ⟨a,b⟩
          · exact .inr (h.uniq a hr (x:=(j:Int)) (by rw [<- b]; exact cu (h.ne s a)) (by rw [<- lr]; exact cu (h.ne r hr)))
    · have no:∀ r∈R,lst r≠(j:Int):=fun r hr z=>c ⟨r,hr,z⟩
      rw [nG no,h.idle (by lia) no]
      refine ⟨rs,true,rfl,?_⟩
      rw [List.filter_congr fun r hr=>by rw [next,decide_eq_false (no r hr),Bool.or_false]]
      exact pm
theorem Gd.SR_end {R:List (List Int)} {n:Nat} (h:Gd R n):SR R n=[]:=by
  refine List.eq_nil_iff_forall_not_mem.mpr fun v hv=>?_
  obtain ⟨v0,v1,v2⟩:=iS.mp hv
  obtain ⟨s,hs,vs⟩:=h.home v0 v1
  rw [h.rm hs vs] at v2
  have:=h.bd hs (cu (h.ne s hs))
  lia
theorem Gd.clo_app {R:List (List Int)} {n:Nat} (h:Gd R n):∀ j,j<=n->∀ t,clo 0 (jf R j++t)=clo (SR R j).length t
  | 0,_,t=>rfl
  | j+1,hj,t=>by
    rw [nK,List.append_assoc,Gd.clo_app h j (by lia)]
    unfold iW
    rw [List.cons_append,dU]
    by_cases c:∃ r∈R,lst r=(j:Int)
    · obtain ⟨r,hr,lr⟩:=c
      have l:=congrArg List.length (h.key hr lr)
      rw [List.length_append,List.length_append] at l
      have l':(SR R j).length+1=(SR R (j+1)).length+r.length:=l
      rw [h.kOf hr lr,l',tD]
    · have no:∀ r∈R,lst r≠(j:Int):=fun r hr z=>c ⟨r,hr,z⟩
      rw [nG no,h.idle (by lia) no,List.length_append]
      rfl
theorem Gd.text {R:List (List Int)} {n:Nat} (h:Gd R n):clo 0 (jf R n)=true/\∃ (rs:List (List Int)) (ah:Bool),aT (jf R n)=([],n,rs.map List.reverse,ah)/\rs.Perm R:=by
  have a:=h.clo_app n (Nat.le_refl _) []
  rw [List.append_nil,h.SR_end] at a
  obtain ⟨rs,ah,e,pm⟩:=h.walk n (Nat.le_refl _)
  rw [h.SR_end] at e
  refine ⟨a,rs,ah,e,?_⟩
  rw [List.filter_eq_self.mpr fun r hr=>decide_eq_true (h.bd hr (cu (h.ne r hr))).2] at pm
  exact pm
theorem oE {ts:List (List Int)}:∀ {rs ts:List (List Int)},(∀ r∈rs,r.Pairwise (· < ·))->Paired (fun (r t:List Int)=>t.Perm r/\t.Pairwise (·<=·)) (rs.map List.reverse) ts->ts=rs
  | [],ts,_,h=>by cases h; rfl
  | r::rs,ts,hi,h=>by
    cases h with
    | cons p t =>
      have inc:=hi r (List.mem_cons_self ..)
      rw [oE (ts:=[]) (fun x hx=>hi x (List.mem_cons_of_mem _ hx)) t]
      refine congrArg (·::rs) ?_
      exact List.Perm.eq_of_pairwise (le:=(·<=·)) (fun x y _ _ h1 h2=>by lia) p.2 (inc.imp fun h=>by lia) (p.1.trans (List.reverse_perm r))
theorem Gd.sort {R ts ss:List (List Int)} {n:Nat} (h:Gd R n) (pt:ts.Perm R) (hp:ss.Perm ts) (hs:ss.Pairwise fun a b=>d3 b a=false):ss=R:=by
  have self:∀ {T:List (List Int)},(∀ r∈T,r.Pairwise (· < ·))->Paired (fun (r q:List Int)=>q.Perm r/\q.Pairwise (·<=·)) T T:=by
    intro T
    induction T with
    | nil=>intro _; exact .nil
    | cons r T ih=>intro hi; exact .cons ⟨.refl _,(hi r (List.mem_cons_self ..)).imp fun h=>by lia⟩ (ih fun x hx=>hi x (List.mem_cons_of_mem _ hx))
  have l:R.flatten.length=n:=by rw [h.flat.length_eq,gO]
  have e:=rp (self h.inc) (hp.trans pt) hs h.ne ((du _).mpr (by rw [l]; exact h.flat))
  have r:lI R=true:=by unfold lI; exact decide_eq_true ⟨h.inc,h.heads⟩
  rw [r] at e
  exact (of_decide_eq_true e).symm
end Ck
set_option Elab.async false
set_option linter.all false
set_option maxRecDepth 100000
set_option maxHeartbeats 4000000
namespace Ck
open PySem L2
theorem nL:∀ {r:List Int},r.Pairwise (· < ·)->∀ {p:Pair},p∈r.zip (r.drop 1)->p.1∈r/\p.2∈r/\p.1 < p.2/\∀ x∈r,¬ (p.1 < x/\x < p.2)
  | [],_,p,hp=>by cases hp
  | [a],_,p,hp=>by cases hp
  | a::b::r,pw,p,hp=>by
    have pw':=List.pairwise_cons.mp pw
    have ab:=pw'.1 b (List.mem_cons_self ..)
    rcases List.mem_cons.mp hp with rfl | hp'
    · refine ⟨List.mem_cons_self ..,by simp,ab,fun x hx z=>?_⟩
      rcases List.mem_cons.mp hx with e | hx
      · have:x=a:=e
        simp only at z
        lia
      · rcases List.mem_cons.mp hx with e | hx
        · simp only at z
          lia
        · have:=(List.pairwise_cons.mp pw'.2).1 x hx
          simp only at z
          lia
    · obtain ⟨h1,h2,h3,h4⟩:=nL pw'.2 hp'
      refine ⟨List.mem_cons_of_mem _ h1,List.mem_cons_of_mem _ h2,h3,fun x hx z=>?_⟩
      rcases List.mem_cons.mp hx with e | hx
      · have:=pw'.1 p.1 h1
        lia
      · exact h4 x hx z
theorem vK (st:List Int):(grp st).flatten.Perm (d8 st.length):=by
  refine (List.perm_ext_iff_of_nodup ?_ (ku _)).mpr fun v=>?_
  · refine List.pairwise_flatten.mpr ⟨fun r hr=>?_,(vq st).imp_of_mem fun {a b} ha hb n x hx y hy e=>n ?_⟩
    · obtain ⟨s,_,rfl⟩:=fA.mp hr
      exact (kn st s).imp fun h=>by lia
    · obtain ⟨s,_,rfl⟩:=fA.mp ha
      obtain ⟨u,_,rfl⟩:=fA.mp hb
      obtain ⟨i,_,ei,rfl⟩:=d4.mp hx
      obtain ⟨j,_,ej,rfl⟩:=d4.mp hy
      have:i=j:=by lia
      subst this
      rw [<- ei,<- ej]
  · rw [List.mem_flatten,gS]
    constructor
    · rintro ⟨r,hr,hv⟩
      obtain ⟨s,_,rfl⟩:=fA.mp hr
      obtain ⟨j,hj,_,rfl⟩:=d4.mp hv
      lia
    · rintro ⟨h0,h1⟩
      have hj:v.toNat < st.length:=by lia
      refine ⟨_,fA.mpr ⟨st.getD v.toNat 0,by rw [getD_at hj]; exact List.getElem_mem hj,rfl⟩,d4.mpr ⟨v.toNat,hj,rfl,by lia⟩⟩
section
variable {c:List Nat} {gs:List (List Pair)} {fd:List Pair} (W:Wh c gs fd)
include W
theorem Wh.ends {p:Pair} (hp:p∈fd):0<=p.1/\p.1 < p.2/\p.2 < (c.length:Int)/\c.getD p.1.toNat 0=40/\c.getD p.2.toNat 0=41:=by
  obtain ⟨p0,p1,p2,pd,pb⟩:=W.wk.prs p hp
  obtain ⟨k,hk,e40,ek⟩:=ko.mp (W.bw.mp hp)
  refine ⟨p0,p1,p2,by rw [ek]; exact e40,?_⟩
  have ds:=mR (c:=c) (j:=p.2.toNat) (by lia)
  have pb1:=pb (p.2.toNat - 1) (by lia) (by lia)
  rw [show p.2.toNat - 1+1=p.2.toNat by lia] at pb1
  by_cases e:c.getD p.2.toNat 0=41
  · exact e
  · rw [if_neg e] at ds; lia
theorem Wh.gd:Gd (Ck.grp (fM c)) (a8 c c.length).length:=by
  have bw:=wQ W.wk.bows
  refine ⟨fun r hr=>?_,fun r hr=>?_,?_,?_,?_⟩
  · obtain ⟨s,hs,rfl⟩:=fA.mp hr
    obtain ⟨j,hj,rfl⟩:=List.getElem_of_mem hs
    intro z
    have:(j:Int)∈en (fM c) (fM c)[j]:=d4.mpr ⟨j,hj,getD_at hj,rfl⟩
    rw [z] at this
    cases this
  · obtain ⟨s,hs,rfl⟩:=fA.mp hr
    exact kn _ _
  · rw [uX,List.pairwise_map]
    exact (List.pairwise_lt_range.filter _).imp fun h=>by lia
  · have:=vK (fM c)
    rw [iJ] at this
    exact this
  · intro p hp q hq cr
    obtain ⟨r,hr,pr⟩:=jy.mp hp
    obtain ⟨r',hr',qr⟩:=jy.mp hq
    obtain ⟨s,hs,rfl⟩:=fA.mp hr
    obtain ⟨s',hs',rfl⟩:=fA.mp hr'
    obtain ⟨a1,a2,a3,a4⟩:=nL (kn _ _) pr
    obtain ⟨b1,b2,b3,b4⟩:=nL (kn _ _) qr
    unfold uJ at cr
    have look:∀ {v s:Int},v∈en (fM c) s->∃ (j:Nat) (hj:j < (a8 c c.length).length),v=(j:Int)/\s=((bE c (a8 c c.length)[j].2.toNat:Nat):Int)/\(a8 c c.length)[j]∈fd:=fun {v s} hv=>by
      obtain ⟨j,hj,ej,rfl⟩:=d4.mp hv
      rw [iJ] at hj
      refine ⟨j,hj,rfl,?_,W.bw.mpr (List.getElem_mem hj)⟩
      rw [<- ej,kM (List.getElem?_eq_getElem hj)]
    obtain ⟨i1,h1,e1,s1,m1⟩:=look a1
    obtain ⟨i2,h2,e2,s2,m2⟩:=look a2
    obtain ⟨i3,h3,e3,s3,m3⟩:=look b1
    obtain ⟨i4,h4,e4,s4,m4⟩:=look b2
    have o13:=(rD bw h1 h3).mpr (by lia)
    have o32:=(rD bw h3 h2).mpr (by lia)
    have o24:=(rD bw h2 h4).mpr (by lia)
    have E1:=W.ends m1
    have E2:=W.ends m2
    have E3:=W.ends m3
    have E4:=W.ends m4
    have n13:=bw.nc _ (List.getElem_mem h1) _ (List.getElem_mem h3)
    have n32:=bw.nc _ (List.getElem_mem h3) _ (List.getElem_mem h2)
    have ns:bE c (a8 c c.length)[i3].2.toNat=bE c (a8 c c.length)[i1].2.toNat->False:=fun z=>by
      refine a4 q.1 (d4.mpr ⟨i3,by rw [iJ]; exact h3,?_,e3⟩) ⟨by lia,by lia⟩
      rw [kM (List.getElem?_eq_getElem h3),z]
      lia
    have nd:(bI (a8 c c.length)).Nodup:=bw.flat.nodup_iff.mpr (ku _)
    have d13:(a8 c c.length)[i1].2≠(a8 c c.length)[i3].2:=fun e=>by have:=mT nd (List.getElem_mem h1) (List.getElem_mem h3) e; rw [this] at o13; lia
    have d32:(a8 c c.length)[i3].2≠(a8 c c.length)[i2].2:=fun e=>by have:=mT nd (List.getElem_mem h3) (List.getElem_mem h2) e; rw [this] at o32; lia
    generalize (a8 c c.length)[i1]=p1 at *
    generalize (a8 c c.length)[i2]=p2 at *
    generalize (a8 c c.length)[i3]=p3 at *
    generalize (a8 c c.length)[i4]=p4 at *
    unfold uJ at n13 n32
    have r12:bE c p1.2.toNat=bE c p2.2.toNat:=by lia
    have r34:bE c p3.2.toNat=bE c p4.2.toNat:=by lia
    -- the third pair ends after the second begins
    have x1:p2.1 < p3.2:=by
      by_cases z:p2.1 < p3.2
      · exact z
      · by_cases y:p2.1=p3.2
        · have:=E2.2.2.2.1
          rw [y,E3.2.2.2.2] at this
          cases this
        · have:=(pB r34 (m:=p2.1.toNat) (by lia) (by lia)).2 (by lia)
          rw [E2.2.2.2.1] at this
          cases this
    have x2:p2.1 < p1.2:=by
      by_cases z:p2.1 < p1.2
      · exact z
      · by_cases y:p2.1=p1.2
        · have:=E2.2.2.2.1
          rw [y,E1.2.2.2.2] at this
          cases this
        · have:=(pB r12 (m:=p2.1.toNat) (by lia) (by lia)).2 (by lia)
          rw [E2.2.2.2.1] at this
          cases this
    have x3:p2.2 < p3.2:=by lia
    have x4:p3.2 < p1.2:=by omega
    exact ns ((pB r12.symm (m:=p3.2.toNat) (by lia) (by lia)).1.trans r12.symm)
end
end Ck
set_option Elab.async false
set_option linter.all false
set_option maxRecDepth 100000
set_option maxHeartbeats 4000000
namespace Ck
open PySem L2
theorem ur {x:Str} {n:Int} (hx:x.length=1) (h0 : -100<=n) (h1:n<=100):MulOk x n:=by
  refine ⟨?_,fun h2 _=>?_,fun h2 _=>?_⟩
  · simp; lia
  · rw [hx]
    have:(1:Int)<=(2 ^ 63 - 1) / n:=by
      refine Int.le_ediv_of_mul_le (by lia) ?_
      lia
    lia
  · rw [hx,Nat.one_mul]
    exact decide_eq_false (Nat.not_lt.mpr (sz (by lia)))
noncomputable def ra (s:List Nat × Int) (m:Int):List Nat × Int:=(s.1++(List.replicate (m+1 - s.2).toNat 40++[41]),if m+1 > s.2 then m+1 else s.2)
noncomputable def dv (ms:List Int):List Nat × Int:=ms.foldl ra ([],0)
theorem jF (ms:List Int) (m:Int):dv (ms++[m])=ra (dv ms) m:=by unfold dv; rw [List.foldl_append]; rfl
structure Nx (c:List Nat) (b:Nat) (gs:List (List Int)) (ah:Bool):Prop where
  tx:c=(dv gs.flatten).1++List.replicate ((b:Int) - (dv gs.flatten).2).toNat 40
  le:0<=(dv gs.flatten).2/\(dv gs.flatten).2<=(b:Int)
  dn:ah=false->(dv gs.flatten).2=(b:Int)
theorem lV (gs:List (List Int)) (m:Int):(gs++[[m]]).flatten=gs.flatten++[m]:=by rw [List.flatten_append]; simp
theorem uh (gs:List (List Int)) (g:List Int) (m:Int):(gs++[g++[m]]).flatten=(gs++[g]).flatten++[m]:=by rw [List.flatten_append,List.flatten_append]; simp
theorem ux {c:List Nat} (h:clo 0 c=true):∀ i,i<=c.length->Nx (c.take i) (aT (c.take i)).2.1 (aT (c.take i)).2.2.1 (aT (c.take i)).2.2.2
  | 0,_=>⟨rfl,⟨Int.le_refl _,Int.le_refl _⟩,fun h=>(by cases h)⟩
  | i+1,hi=>by
    have nx:=ux h i (by lia)
    obtain ⟨mi,hc⟩:=oj h i (by lia)
    have lt:i < c.length:=by lia
    have tk:c.take (i+1)=c.take i++[c[i]]:=List.take_succ_eq_append_getElem lt
    rw [List.drop_eq_getElem_cons lt] at hc
    rw [tk,eQ]
    generalize c.take i=d at *
    generalize aT d=z at mi hc nx
    obtain ⟨S,b,gs,ah⟩:=z
    simp only at mi hc nx
    obtain ⟨tx,le,dn⟩:=nx
    by_cases e1:c[i]=40
    · rw [e1,kr]
      refine ⟨?_,⟨le.1,by show _<=((b+1:Nat):Int); lia⟩,fun z=>(by cases z)⟩
      show d++[40]=_++List.replicate (((b+1:Nat):Int) - _).toNat 40
      rw [show (((b+1:Nat):Int) - (dv gs.flatten).2).toNat=((b:Int) - (dv gs.flatten).2).toNat+1 by lia,List.replicate_succ',<- List.append_assoc,<- tx]
    · by_cases e2:c[i]=41
      · rw [e2] at hc |-
        rcases List.eq_nil_or_concat S with rfl | ⟨S0,m,rfl⟩
        · rw [show ([]:List Int).length=0 from rfl,dw] at hc
          cases hc
        · rw [List.concat_eq_append] at hc mi |-
          have mb:=mi.lt m (by simp)
          cases ah with
          | true =>
            have hm:m=(b:Int) - 1:=by
              rcases mi.up rfl with z | ⟨S1,z⟩
              · simp at z
              · have:=List.append_inj' z rfl
                simpa using this.2
            rw [kO]
            refine ⟨?_,?_,fun _=>?_⟩
            · show d++[41]=(dv (gs++[[m]]).flatten).1++List.replicate ((b:Int) - (dv (gs++[[m]]).flatten).2).toNat 40
              rw [lV,jF]
              unfold ra
              simp only
              rw [show m+1 - (dv gs.flatten).2=(b:Int) - (dv gs.flatten).2 by lia,<- List.append_assoc,<- tx]
              split
              · rw [show ((b:Int) - (m+1)).toNat=0 by lia]; simp
              · rw [show ((b:Int) - (dv gs.flatten).2).toNat=0 by lia]; simp
            · show 0<=(dv (gs++[[m]]).flatten).2/\(dv (gs++[[m]]).flatten).2<=(b:Int)
              rw [lV,jF]
              unfold ra
              simp only
              split<;>lia
            · show (dv (gs++[[m]]).flatten).2=(b:Int)
              rw [lV,jF]
              unfold ra
              simp only
              split<;>lia
          | false =>
            have d0:=dn rfl
            obtain ⟨gs0,g,rfl,_⟩:=mi.dn rfl
            rw [jN]
            have key:dv (gs0++[g++[m]]).flatten=((dv (gs0++[g]).flatten).1++[41],(b:Int)):=by
              rw [uh,jF]
              unfold ra
              rw [d0,show (m+1 - (b:Int)).toNat=0 by lia,if_neg (by lia)]
              rfl
            refine ⟨?_,?_,fun _=>?_⟩
            · show d++[41]=(dv (gs0++[g++[m]]).flatten).1++List.replicate ((b:Int) - (dv (gs0++[g++[m]]).flatten).2).toNat 40
              rw [key,tx,d0]
              simp
            · show 0<=(dv (gs0++[g++[m]]).flatten).2/\(dv (gs0++[g++[m]]).flatten).2<=(b:Int)
              rw [key]
              exact ⟨by show 0<=(b:Int); lia,Int.le_refl _⟩
            · show (dv (gs0++[g++[m]]).flatten).2=(b:Int)
              rw [key]
      · rw [cR e1 e2] at hc
        cases hc
theorem v7 {c:List Nat} (h:clo 0 c=true):(dv (aT c).2.2.1.flatten).1=c:=by
  have nx:=ux h c.length (Nat.le_refl _)
  rw [List.take_length] at nx
  obtain ⟨tx,le,dn⟩:=nx
  have last:(aT c).2.2.2=false\/(aT c).2.1=0:=by
    rcases List.eq_nil_or_concat c with rfl | ⟨d,x,rfl⟩
    · exact .inr rfl
    · rw [List.concat_eq_append] at h |-
      have sg:=jZ _ 0 h x (by simp)
      rcases sg with rfl | rfl
      · obtain ⟨m,e1,e2⟩:=oY h
        rw [eQ] at e1
        generalize aT d=z at e1
        obtain ⟨S,b,gs,ah⟩:=z
        rw [kr] at e1
        simp at e1
      · refine .inl ?_
        rw [eQ]
        generalize aT d=z
        obtain ⟨S,b,gs,ah⟩:=z
        rfl
  have z:((aT c).2.1:Int) - (dv (aT c).2.2.1.flatten).2=0:=by
    rcases last with e | e
    · rw [dn e]; lia
    · lia
  rw [z] at tx
  simpa using tx.symm
theorem fX.shuts {rs:List (List Int)} {k:Nat}:∀ {q p:List Nat},fX rs (p++q) k->fX rs p k:=by
  intro q
  induction q with
  | nil=>intro p h; rwa [List.append_nil] at h
  | cons m q ih =>
    intro p h
    have:fX rs (p++[m]) k:=ih (p:=p++[m]) (by rw [List.append_assoc]; exact h)
    exact this.shut
end Ck
namespace Ck
open PySem L2
theorem vM {c:List Nat} (h:clo 0 c=true):(aT c).2.2.1.flatten.length<=c.length:=by
  obtain ⟨fd,gs,ah,W,e⟩:=kR h
  rw [e]
  show (gs.map fun g=>g.map fun p=>d7 c p.1).flatten.length<=_
  rw [<- List.map_flatten,List.length_map,W.flat,W.wf.ln]
  exact Nat.le_trans (List.count_le_length) (by rw [List.length_take]; lia)
theorem qw {c:List Nat} (h:clo 0 c=true):2*(aT c).2.2.1.flatten.length=c.length:=by
  obtain ⟨fd,gs,ah,W,e⟩:=kR h
  rw [e]
  show 2*(gs.map fun g=>g.map fun p=>d7 c p.1).flatten.length=_
  rw [<- List.map_flatten,List.length_map,W.flat,W.wf.ln,List.take_length,vQ h]
  have:=jH h
  lia
theorem xT {c:List Nat} (h:clo 0 c=true) (hc:c.length<=100) {g:List Int} (hg:g∈(aT c).2.2.1):g.length < 64:=by
  have:=(List.sublist_flatten_of_mem hg).length_le
  have:=qw h
  lia
theorem j5 {rs:List (List Int)} (h:∀ r∈rs,r≠[]) {n:Nat} (hn:rs.flatten.length=n):rs.length<=n:=by
  subst hn
  induction rs with
  | nil=>exact Nat.le_refl _
  | cons r rs ih =>
    have:=ih fun x hx=>h x (List.mem_cons_of_mem _ hx)
    have:=List.length_pos_iff.mpr (h r (List.mem_cons_self ..))
    rw [List.flatten_cons,List.length_append,List.length_cons]
    lia
end Ck
namespace Ck
theorem uI {c:List Nat} (h:clo 0 c=true) (hc:0 < c.length):c.getD 0 0=40:=by
  cases c with
  | nil=>cases hc
  | cons x c =>
    show x=40
    by_cases e:x=40
    · exact e
    · by_cases e2:x=41
      · rw [e2,dw] at h; cases h
      · rw [cR e e2] at h; cases h
end Ck
namespace Ck
theorem xY {c:List Nat} (h:clo 0 c=true) (hc:c.length<=100):(aT c).2.2.1.length < 64:=by
  have:=j5 (fun g hg=>((oY h).1.fin g hg).1) rfl
  have:=qw h
  lia
end Ck
namespace Ck
open PySem L2
theorem aZ.updX {H0 H:Hp} {a c:Addr} {o:HO} {rs:List (List Int)} {xs:List V} (h:aZ H0 H a rs) (hx:H a=some (.lst xs)) (ne:a≠c) (hc:∀ (j:Nat) (b:Addr),xs[j]? = some (.ref b)->b≠c):aZ H0 (upd H c o) a rs:=by
  obtain ⟨bs,e,r,n⟩:=h
  rw [hx] at e
  cases e
  refine ⟨bs,(ar ne).trans hx,r.updC fun b hb=>?_,n⟩
  obtain ⟨j,hj⟩:=List.getElem?_of_mem hb
  exact hc j b (by rw [List.getElem?_map,hj]; rfl)
end Ck
set_option Elab.async false
set_option linter.all false
set_option maxRecDepth 100000
namespace Ck
open PySem PySem.W PySem.Calls PyProof.Rows
noncomputable def sP {α:Type} (p q:Program) (loose:List Str) (Xt:Shared->Bool) (Yf:Shared->α) (h0:Heap) (s:Shared) :=
  ((staticsOk (importedModules p.main.body) h0 s.heap&&namesBound p s.heap&&gensDone s&&laidKept h0 s.heap),
    openSeen q loose (importedModules p.main.body) Xt true s,Yf s)
theorem t9 {p q:Program} {loose:List Str} {Xt:Shared->Bool} {α:Type} {Yf:Shared->α} {Ya:World->α} {N M m:Nat} {H:Params->Heap} {gs:Array GenState} {dr:Drawn} {tk:Nat} {an:Option Value}
    (o:∀ w:World,(fencedOpening treeTable p w N).map (fun s=>(s.heap,s.gens,s.drawn,s.toks))=some (H w.params,gs,dr,tk))
    (z:∀ w:World,((H w.params).isNs mainGlobals&&gs.size == 0,(H w.params).objs.size,(H w.params).nsMap mainGlobals "__annotations__")=(true,m,an))
    (r:∀ (w:World) (os:OsState),∃ e,topRun treeTable p w m an M ⟨H w.params,gs,dr,tk,os⟩ (topStub p)=some e/\sP p q loose Xt Yf (H w.params) e=(true,openGood q loose,Ya w))
    (le:M<=N):LeftO p q loose Xt Yf Ya N:=by
  intro w
  have ow:=o w
  cases hf:fencedOpening treeTable p w N with
  | none=>rw [hf] at ow; cases ow
  | some s =>
    rw [hf] at ow
    have os:=Option.some.inj ow
    have e1:s.heap=H w.params:=congrArg Prod.fst os
    have e2:s.gens=gs:=congrArg (fun x=>x.2.1) os
    have e3:s.drawn=dr:=congrArg (fun x=>x.2.2.1) os
    have e4:s.toks=tk:=congrArg (fun x=>x.2.2.2) os
    obtain ⟨e,run,look⟩:=r w s.os
    have hs:s=⟨H w.params,gs,dr,tk,s.os⟩:=by rw [<- e1,<- e2,<- e3,<- e4]
    have run':=topRun_mono (N - M) _ _ _ _ run
    rw [Nat.add_sub_cancel' le] at run'
    have zw:=z w
    have z1:=congrArg Prod.fst zw
    have z2:=congrArg (fun x=>x.2.1) zw
    have z3:=congrArg (fun x=>x.2.2) zw
    dsimp only at z1 z2 z3
    have l1:=congrArg Prod.fst look
    have l2:=congrArg Prod.snd look
    have tf:topFrom treeTable p w N s=some e:=by
      rw [hs]
      unfold topFrom
      dsimp only
      rw [z1,z2,z3,run']
      unfold sP at l1
      dsimp only at l1
      dsimp only [Option.bind]
      rw [l1]
    unfold openEnds
    rw [hf,Option.bind_some,tf]
    exact congrArg some l2
noncomputable def alive (o:Obj):Option Obj:=match o with
  | ⟨_,_,.freed,_⟩=>none
  | o=>some o
noncomputable def iO:List Obj->List Bool->List (Option Obj)
  | _,[]=>[]
  | [],true::m=>none::iO [] m
  | [],false::m=>iO [] m
  | o::os,true::m=>alive o::iO os m
  | _::os,false::m=>iO os m
noncomputable def mh:List Bool->Nat->List Nat
  | [],_=>[]
  | true::m,i=>i::mh m (i+1)
  | false::m,i=>mh m (i+1)
theorem px:∀ (m:List Bool) (os:List Obj) (pre:List Obj),iO os m=(mh m pre.length).map fun a=>(pre++os)[a]?.bind alive
  | [],os,pre=>by cases os<;>rfl
  | b::m,[],pre=>by
    have k:=px m [] (pre++[default])
    rw [List.length_append,List.length_singleton] at k
    have e:∀ i,pre.length < i->((pre++[(default:Obj)])++[])[i]?.bind alive=(pre++[])[i]?.bind alive:=fun i hi=>by
      rw [List.getElem?_eq_none (by simp; lia),List.getElem?_eq_none (by simp; lia)]
    have lt:∀ (m:List Bool) (n i:Nat),i∈mh m n->n<=i:=by
      intro m
      induction m with
      | nil=>intro n i h; cases h
      | cons b m ih=>intro n i h; cases b with
        | true =>
          rcases List.mem_cons.1 h with h | h
          · lia
          · have:=ih _ _ h; lia
        | false=>have:=ih _ _ h; lia
    have k':iO [] m=(mh m (pre.length+1)).map fun a=>(pre++[])[a]?.bind alive:=by
      rw [k]; exact List.map_congr_left fun i hi=>e i (lt _ _ _ hi)
    cases b with
    | true=>show none::iO [] m=_::_; rw [k']; congr 1; simp
    | false=>exact k'
  | b::m,o::os,pre=>by
    have k:=px m os (pre++[o])
    rw [List.length_append,List.length_singleton,List.append_assoc,List.singleton_append] at k
    cases b with
    | true=>show alive o::iO os m=_::_; rw [k]; congr 1; simp
    | false=>exact k
theorem vh (h:Heap) (a:Addr):h.get? a=h.objs.toList[a]?.bind alive:=by
  unfold Heap.get?
  rw [Array.getElem?_toList]
  cases h.objs[a]? with
  | none=>rfl
  | some o=>obtain ⟨c,d,x,s⟩:=o; cases x<;>rfl
theorem xG {m:List Bool} {as:List Addr} (e:as=mh m 0) (h:Heap):as.map h.get? = iO h.objs.toList m:=by
  rw [px m h.objs.toList [],e]
  exact List.map_congr_left fun a _=>vh h a
section
variable {tb:String->Option Builtin} {p:Program} {w:World} {m:Nat} {an:Option Value} {env:Env} {q:Pos}
noncomputable def pK {β:Type} (tb:String->Option Builtin) (p:Program) (w:World) (m:Nat) (an:Option Value) (q:Pos) (c:Code) (n4:Nat) (L:Shared->β) (r:Flow × SharedT × Code × Pos):Flow × Code × Option β :=
  (r.1,r.2.2.1,(topRun tb p w m an n4 r.2.1.abs ⟨doneF .next,c,r.2.2.2,[topFrame q]⟩).map L)
theorem uw {β:Type} {L:Shared->β} {b:List Stmt} {c:Code} {n1 n2 n3 n4:Nat} {S0 Sa:Shared} {Sb:SharedT} {pos0 pos1:Pos} {z:β} (hc:c = .body b env)
    (h1:topGo tb p w m an n1 S0 (topStub p)=some (Sa,⟨denote tb c,c,pos0,[topFrame q]⟩))
    (h2:segRun tb p w m an 1 n2 Sa (blockOf b env c pos0 [topFrame q])=some (.next,Sb.abs,c,pos1))
    (h3:(segRunT tb p w m an 1 n3 Sb (piecesOf b env c pos1 [topFrame q])).map (pK tb p w m an q c n4 L)=some (.next,c,some z)) :
    ∃ e,topRun tb p w m an (n1+(n2+(n3+n4))) S0 (topStub p)=some e/\L e=z:=by
  cases hr:segRunT tb p w m an 1 n3 Sb (piecesOf b env c pos1 [topFrame q]) with
  | none=>rw [hr] at h3; cases h3
  | some x =>
    obtain ⟨f,s,d,ps⟩:=x
    rw [hr] at h3
    have h3:=Option.some.inj h3
    unfold pK at h3
    have a1:f = .next:=congrArg Prod.fst h3
    have a2:d=c:=congrArg (fun x=>x.2.1) h3
    have a3:=congrArg (fun x=>x.2.2) h3
    dsimp only at a3
    subst a1 a2 hc
    cases ht:topRun tb p w m an n4 s.abs ⟨doneF .next,.body b env,ps,[topFrame q]⟩ with
    | none=>rw [ht] at a3; cases a3
    | some e =>
      rw [ht] at a3
      have k:=piece_app (rest:=[]) (segRun_of hr) (piece_nil ht)
      rw [List.append_nil] at k
      exact ⟨e,go_top h1 (piece_block h2 k),Option.some.inj a3⟩
end
end Ck
set_option maxHeartbeats 4000000
namespace Ck
open PySem L2
noncomputable def top (i:Nat):Stmt:=PySem.Challenge.pw_countkin_k26_rooms_and_rows.main.body.getD i (.Pass ⟨0,0,0,0⟩)
structure cm where
  ax:Addr
  aO:Addr
  bV:Addr
  aG:Addr
  aM:Addr
  bW:Addr
  bC:Addr
  cI:Addr
  ee:Addr
  bp:Addr
  cA:Addr
  bK:Addr
  eD:Addr
  fP:Addr
  bS:Addr
  eW:Addr
  cK:Addr
  bL:Addr
  eB:Addr
  fO:Addr
  bR:Addr
structure yz (K:W.Frag) (mg:Str->Option Value) (ca:cm):Prop where
  oO:mg "Brackets" = some (.ref ca.ax)
  i6:mg "SplitFamily" = some (.ref ca.aO)
  nU:mg "Family" = some (.ref ca.bV)
  sU:mg "Rooms" = some (.ref ca.aG)
  xi:mg "Turns" = some (.ref ca.aM)
  hJ:lJ K ca.ax
  kL:lJ K ca.aG
  mQ:lJ K ca.aM
  mt_Brackets_refuse_other:Meth K ca.ax "refuse_other" ca.bp
  mt_Brackets_is_one:Meth K ca.ax "is_one" ca.ee
  mt_Rooms_refuse_other:Meth K ca.aG "refuse_other" ca.bS
  mt_Rooms_size_of:Meth K ca.aG "size_of" ca.eW
  mt_Rooms_is_one:Meth K ca.aG "is_one" ca.fP
  mt_Turns_refuse_other:Meth K ca.aM "refuse_other" ca.bR
  mt_Turns_is_one:Meth K ca.aM "is_one" ca.fO
  mk_Brackets:Mk K ca.ax ca.cI
  mk_Rooms:Mk K ca.aG ca.eD
  mk_Turns:Mk K ca.aM ca.eB
  cm_SplitFamily___init___Brackets:nQ K ca.aO "__init__" ca.bC
  cm_Family___init___Brackets:nQ K ca.bV "__init__" ca.bW
  cm_SplitFamily___init___Rooms:nQ K ca.aO "__init__" ca.bK
  cm_Family___init___Rooms:nQ K ca.bV "__init__" ca.cA
  cm_SplitFamily___init___Turns:nQ K ca.aO "__init__" ca.bL
  cm_Family___init___Turns:nQ K ca.bV "__init__" ca.cK
  gz:gq K ca.ax "word"
  gk:gq K ca.ax "least"
  je:gq K ca.aG "word"
  iF:gq K ca.aG "least"
  ja:gq K ca.aM "word"
  iN:gq K ca.aM "least"
noncomputable abbrev gc:Stmt:=top 30
theorem m8:az ["_law_cell","_law_turn","_law_number"] ["_law_cell","_law_turn"] (aj gc):=⟨rfl,rfl,rfl,by decide +kernel,rfl,by decide +kernel,by decide +kernel⟩
noncomputable abbrev eH:Stmt:=top 32
theorem cQ:az ["_law_script","_law_turn","_law_many","_law_cells","_law_found","_law_lefts","_law_k","_law_at","_law_number"] ["_law_script","_law_turn","_law_many"] (aj eH):=⟨rfl,rfl,rfl,by decide +kernel,rfl,by decide +kernel,by decide +kernel⟩
noncomputable abbrev dQ:Stmt:=top 33
theorem br:az ["_law_script","_law_size","_law_turn","_law_draws_here","_law_lean","_law_signs","_law_ups","_law_k","_law_height","_law_up"] ["_law_script","_law_size","_law_turn"] (aj dQ):=⟨rfl,rfl,rfl,by decide +kernel,rfl,by decide +kernel,by decide +kernel⟩
noncomputable abbrev dO:Stmt:=top 28
theorem n9:az ["_law_script","_law_k"] ["_law_script","_law_k"] (aj dO):=⟨rfl,rfl,rfl,by decide +kernel,rfl,by decide +kernel,by decide +kernel⟩
noncomputable abbrev fC:Stmt:=top 37
theorem g7:az ["_law_text_here","_law_at","_law_height","_law_k"] ["_law_text_here","_law_at"] (aj fC):=⟨rfl,rfl,rfl,by decide +kernel,rfl,by decide +kernel,by decide +kernel⟩
noncomputable abbrev dF:Stmt:=top 38
theorem cq:az ["_law_text_here","_law_starts","_law_k","_law_at","_law_found"] ["_law_text_here"] (aj dF):=⟨rfl,rfl,rfl,by decide +kernel,rfl,by decide +kernel,by decide +kernel⟩
noncomputable abbrev bo:Stmt:=inClass (top 9) 0
theorem iM:az ["self","word","least"] ["self","word","least"] (aj bo):=⟨rfl,rfl,rfl,by decide +kernel,rfl,by decide +kernel,by decide +kernel⟩
noncomputable abbrev aN:Stmt:=inClass (top 10) 0
theorem gn:az ["self","word"] ["self","word"] (aj aN):=⟨rfl,rfl,rfl,by decide +kernel,rfl,by decide +kernel,by decide +kernel⟩
noncomputable abbrev bQ:Stmt:=inClass (top 20) 0
theorem kx:az ["self"] ["self"] (aj bQ):=⟨rfl,rfl,rfl,by decide +kernel,rfl,by decide +kernel,by decide +kernel⟩
noncomputable abbrev iK:Stmt:=top 18
theorem iX:az ["text","depth","sign"] ["text"] (aj iK):=⟨rfl,rfl,rfl,by decide +kernel,rfl,by decide +kernel,by decide +kernel⟩
noncomputable abbrev cy:Stmt:=inClass (top 20) 2
theorem lT:az ["self","thing"] ["self","thing"] (aj cy):=⟨rfl,rfl,rfl,by decide +kernel,rfl,by decide +kernel,by decide +kernel⟩
noncomputable abbrev aQ:Stmt:=inClass (top 9) 7
theorem gL:az ["self","thing"] ["self","thing"] (aj aQ):=⟨rfl,rfl,rfl,by decide +kernel,rfl,by decide +kernel,by decide +kernel⟩
noncomputable abbrev cZ:Stmt:=top 22
theorem bG:az ["text","runs","stack","begun","ahead","sign"] ["text"] (aj cZ):=⟨rfl,rfl,rfl,by decide +kernel,rfl,by decide +kernel,by decide +kernel⟩
noncomputable abbrev cf:Stmt:=top 23
theorem kY:az ["thing"] ["thing"] (aj cf):=⟨rfl,rfl,rfl,by decide +kernel,rfl,by decide +kernel,by decide +kernel⟩
noncomputable abbrev eL:Stmt:=top 29
theorem qA:az ["_law_found"] ["_law_found"] (aj eL):=⟨rfl,rfl,rfl,by decide +kernel,rfl,by decide +kernel,by decide +kernel⟩
noncomputable abbrev dP:Stmt:=top 35
theorem j0:az ["_law_found","_law_due","_law_k"] ["_law_found","_law_due"] (aj dP):=⟨rfl,rfl,rfl,by decide +kernel,rfl,by decide +kernel,by decide +kernel⟩
noncomputable abbrev fz:Stmt:=top 36
theorem mq:az ["_law_found","_law_due","_law_k"] ["_law_found","_law_due"] (aj fz):=⟨rfl,rfl,rfl,by decide +kernel,rfl,by decide +kernel,by decide +kernel⟩
noncomputable abbrev fE:Stmt:=top 40
theorem rE:az ["_law_found","_law_due"] ["_law_found","_law_due"] (aj fE):=⟨rfl,rfl,rfl,by decide +kernel,rfl,by decide +kernel,by decide +kernel⟩
noncomputable abbrev bA:Stmt:=inClass (top 9) 0
theorem ju:az ["self","word","least"] ["self","word","least"] (aj bA):=⟨rfl,rfl,rfl,by decide +kernel,rfl,by decide +kernel,by decide +kernel⟩
noncomputable abbrev aY:Stmt:=inClass (top 10) 0
theorem g8:az ["self","word"] ["self","word"] (aj aY):=⟨rfl,rfl,rfl,by decide +kernel,rfl,by decide +kernel,by decide +kernel⟩
noncomputable abbrev cP:Stmt:=inClass (top 12) 0
theorem my:az ["self"] ["self"] (aj cP):=⟨rfl,rfl,rfl,by decide +kernel,rfl,by decide +kernel,by decide +kernel⟩
noncomputable abbrev fG:Stmt:=top 3
theorem qM:az ["numbers"] ["numbers"] (aj fG):=⟨rfl,rfl,rfl,by decide +kernel,rfl,by decide +kernel,by decide +kernel⟩
noncomputable abbrev kP:Stmt:=top 2
theorem pQ:az ["rows","found","row"] ["rows"] (aj kP):=⟨rfl,rfl,rfl,by decide +kernel,rfl,by decide +kernel,by decide +kernel⟩
noncomputable abbrev fB:Stmt:=top 4
theorem fY:az ["pairs","a","b","c","d"] ["pairs"] (aj fB):=⟨rfl,rfl,rfl,by decide +kernel,rfl,by decide +kernel,by decide +kernel⟩
noncomputable abbrev eM:Stmt:=top 13
theorem qD:az ["rooms"] ["rooms"] (aj eM):=⟨rfl,rfl,rfl,by decide +kernel,rfl,by decide +kernel,by decide +kernel⟩
noncomputable abbrev dC:Stmt:=inClass (top 12) 2
theorem nF:az ["self","thing"] ["self","thing"] (aj dC):=⟨rfl,rfl,rfl,by decide +kernel,rfl,by decide +kernel,by decide +kernel⟩
noncomputable abbrev bc:Stmt:=inClass (top 9) 7
theorem iq:az ["self","thing"] ["self","thing"] (aj bc):=⟨rfl,rfl,rfl,by decide +kernel,rfl,by decide +kernel,by decide +kernel⟩
noncomputable abbrev dj:Stmt:=inClass (top 12) 1
theorem mW:az ["self","thing"] ["self","thing"] (aj dj):=⟨rfl,rfl,rfl,by decide +kernel,rfl,by decide +kernel,by decide +kernel⟩
noncomputable abbrev bY:Stmt:=top 24
theorem eU:az ["thing","signs","room"] ["thing"] (aj bY):=⟨rfl,rfl,rfl,by decide +kernel,rfl,by decide +kernel,by decide +kernel⟩
noncomputable abbrev dD:Stmt:=top 39
theorem jJ:az ["_law_text_here","_law_closings"] ["_law_text_here"] (aj dD):=⟨rfl,rfl,rfl,by decide +kernel,rfl,by decide +kernel,by decide +kernel⟩
noncomputable abbrev cc:Stmt:=top 25
theorem kZ:az ["thing"] ["thing"] (aj cc):=⟨rfl,rfl,rfl,by decide +kernel,rfl,by decide +kernel,by decide +kernel⟩
noncomputable abbrev bz:Stmt:=inClass (top 9) 0
theorem ji:az ["self","word","least"] ["self","word","least"] (aj bz):=⟨rfl,rfl,rfl,by decide +kernel,rfl,by decide +kernel,by decide +kernel⟩
noncomputable abbrev aX:Stmt:=inClass (top 10) 0
theorem gY:az ["self","word"] ["self","word"] (aj aX):=⟨rfl,rfl,rfl,by decide +kernel,rfl,by decide +kernel,by decide +kernel⟩
noncomputable abbrev cN:Stmt:=inClass (top 15) 0
theorem mw:az ["self"] ["self"] (aj cN):=⟨rfl,rfl,rfl,by decide +kernel,rfl,by decide +kernel,by decide +kernel⟩
noncomputable abbrev cb:Stmt:=top 16
theorem cC:az ["numbers","stack","put","number"] ["numbers"] (aj cb):=⟨rfl,rfl,rfl,by decide +kernel,rfl,by decide +kernel,by decide +kernel⟩
noncomputable abbrev dG:Stmt:=inClass (top 15) 2
theorem nH:az ["self","thing"] ["self","thing"] (aj dG):=⟨rfl,rfl,rfl,by decide +kernel,rfl,by decide +kernel,by decide +kernel⟩
noncomputable abbrev a9:Stmt:=inClass (top 9) 7
theorem il:az ["self","thing"] ["self","thing"] (aj a9):=⟨rfl,rfl,rfl,by decide +kernel,rfl,by decide +kernel,by decide +kernel⟩
noncomputable abbrev bZ:Stmt:=top 26
theorem cB:az ["thing","signs","begun","number"] ["thing"] (aj bZ):=⟨rfl,rfl,rfl,by decide +kernel,rfl,by decide +kernel,by decide +kernel⟩
noncomputable abbrev dH:Stmt:=top 34
theorem dc:az ["_law_script","_law_size","_law_turn","_law_found","_law_pile","_law_k","_law_number"] ["_law_script","_law_size","_law_turn"] (aj dH):=⟨rfl,rfl,rfl,by decide +kernel,rfl,by decide +kernel,by decide +kernel⟩
noncomputable abbrev d5:Stmt:=top 31
theorem eP:az ["_law_text_here","_law_height","_law_sign"] ["_law_text_here"] (aj d5):=⟨rfl,rfl,rfl,by decide +kernel,rfl,by decide +kernel,by decide +kernel⟩
noncomputable abbrev jv:Stmt:=top 41
theorem fm:az ["_law_script","_law_text_here","_law_rooms","_law_found","_law_room","_law_handed","_law_turns","_law_size"] ["_law_script"] (aj jv):=⟨rfl,rfl,rfl,by decide +kernel,rfl,by decide +kernel,by decide +kernel⟩
noncomputable def j8 (_:W.Frag) (_:cm):Sp:=fun vs H Q _=>∃ c t:Int,vs=[.int c,.int t]/\0<=t/\t<=100000/\∀ m:Int,0<=m->m < 2147483629->Q (.int m) H
noncomputable def gr (K:W.Frag) (_:cm):Sp:=fun vs H Q _=>∃ (a:Addr) (ns:List Int) (t m:Int),vs=[.ref a,.int t,.int m]/\aq K H a (ns.map V.int)/\ns.length<=63/\0<=t/\t<=1000/\0<=m/\m<=1000 /\
  ∀ (p:Addr) (xs:List Int) (H':Hp),ao H H'->H p=none->H' p=some (.lst (xs.map V.int))->xs.length=m.toNat->(∀ x∈xs,0<=x/\x < 2147483587)->Q (.ref p) H'
noncomputable def hZ (K:W.Frag) (_:cm):Sp:=fun vs H Q _=>∃ (a:Addr) (ns:List Int) (n t:Int),vs=[.ref a,.int n,.int t]/\aq K H a (ns.map V.int)/\ns.length<=63/\0<=n/\n<=40/\0<=t/\t<=1000 /\
  ∀ (x:Str) (H':Hp),ao H H'->clo 0 x.cps.toList=true->x.length=2*n.toNat->Q (.str x) H'
noncomputable def g4 (K:W.Frag) (_:cm):Sp:=fun vs H Q _=>∃ (a:Addr) (ns:List Int) (k:Int),vs=[.ref a,.int k]/\aq K H a (ns.map V.int)/\0<=k/\Q (.int (ns.getD k.toNat 0)) H
noncomputable def gZ (K:W.Frag) (_:cm):Sp:=fun vs H Q _=>∃ (t:Str) (k:Nat),vs=[.str t,.int (k:Int)]/\t.length<=80/\k < t.length/\Q (.int (bN t.cps.toList k)) H
theorem zx (st:List Int) (i:Nat):((List.range (i+1)).filter fun k=>decide (st.idxOf (st.getD k 0)=k)).map (fun k=>en st (st.getD k 0))=((List.range i).filter fun k=>decide (st.idxOf (st.getD k 0)=k)).map (fun k=>en st (st.getD k 0))++if st.idxOf (st.getD i 0)=i then [en st (st.getD i 0)] else []:=by
  rw [List.range_succ,List.filter_append,List.map_append]
  refine congrArg _ ?_
  by_cases e:st.idxOf (st.getD i 0)=i
  · rw [if_pos e,List.filter_cons,if_pos (decide_eq_true e)]; rfl
  · rw [if_neg e,List.filter_cons,if_neg (by rw [decide_eq_false e]; decide)]; rfl
noncomputable def gy (K:W.Frag) (_:cm):Sp:=fun vs H Q _=>∃ (t:Str) (n:Nat),vs=[.str t]/\clo 0 t.cps.toList=true/\t.length=2*n/\n<=40/\∀ (p:Addr) (H':Hp),ao H H'->H p=none->aZ H H' p (grp (fM t.cps.toList))->Q (.ref p) H'
noncomputable def di (_:W.Frag) (ca:cm):Sp:=fun vs H Q _=>∃ (x dx:Addr) (w:Str) (l:Int),vs=[.ref x,.str w,.int l]/\H x=some (.ins ca.ax dx [])/\∀ (fs:List (Str × V)) (H':Hp),H'=upd H x (.ins ca.ax dx fs)->j9 fs w l->Q .non H'
noncomputable def ck (_:W.Frag) (ca:cm):Sp:=fun vs H Q _=>∃ (x dx:Addr) (w:Str),vs=[.ref x,.str w]/\H x=some (.ins ca.ax dx [])/\∀ (fs:List (Str × V)) (H':Hp),H'=upd H x (.ins ca.ax dx fs)->j9 fs w 0->Q .non H'
noncomputable def dE (_:W.Frag) (ca:cm):Sp:=fun vs H Q _=>∃ x dx,vs=[.ref x]/\H x=some (.ins ca.ax dx [])/\∀ (fs:List (Str × V)) (H':Hp),H'=upd H x (.ins ca.ax dx fs)->j9 fs "brackets" 0->Q .non H'
noncomputable def mx (_:W.Frag) (_:cm):Sp:=fun vs H Q _=>∃ x:Str,vs=[.str x]/\Q (.bl (clo 0 x.cps.toList)) H
noncomputable def fK (_:W.Frag) (_:cm):Sp:=fun vs H Q _=>∃ (x:Addr) (t:Str),vs=[.ref x,.str t]/\Q (.bl (clo 0 t.cps.toList)) H
noncomputable def bB (K:W.Frag) (ca:cm):Sp:=fun vs H Q _=>∃ (x dx:Addr) (fs:List (Str × V)) (t:Str),vs=[.ref x,.str t]/\H x=some (.ins ca.ax dx fs)/\fs.lookup ("is_one" : Str)=none/\clo 0 t.cps.toList=true/\∀ H',ao H H'->Q .non H'
noncomputable def eE (K:W.Frag) (_:cm):Sp:=fun vs H Q _=>∃ (t:Str),vs=[.str t]/\clo 0 t.cps.toList=true/\t.length<=80/\∀ (p:Addr) (H':Hp),ao H H'->H p=none->aZ H H' p (aT t.cps.toList).2.2.1->(aT t.cps.toList).2.2.1.length<=80->(∀ g∈(aT t.cps.toList).2.2.1,g.length<=80)->Q (.ref p) H'
noncomputable def e7 (K:W.Frag) (ca:cm):Sp:=fun vs H Q _=>∃ (t:Str) (n:Nat),vs=[.str t]/\clo 0 t.cps.toList=true/\t.length=2*n/\n<=40/\∀ (p:Addr) (ts ss:List (List Int)) (H':Hp),ao H H'->H p=none->aZ H H' p ss->Paired (fun (r t:List Int)=>t.Perm r/\t.Pairwise (·<=·)) (aT t.cps.toList).2.2.1 ts->ss.Perm ts->ss.Pairwise (fun a b=>d3 b a=false)->Q (.ref p) H'
noncomputable def jc (_:W.Frag) (_:cm):Sp:=fun vs H Q _=>∃ n:Int,vs=[.int n]/\Q (.bl true) H
noncomputable def fN (K:W.Frag) (_:cm):Sp:=fun vs H Q _=>∃ (p r:Addr) (ns:List Int),vs=[.ref p,.ref r]/\H p=some (.lst (ns.map V.int))/\H r=some (.lst (ns.map V.int))/\ns.length<=1000/\Q (.bl true) H
noncomputable def jP (K:W.Frag) (_:cm):Sp:=fun vs H Q _=>∃ (p r:Addr) (H0 H1:Hp) (rs:List (List Int)),vs=[.ref p,.ref r]/\aZ H0 H p rs/\aZ H1 H r rs/\rs.length<=1000/\(∀ x∈rs,x.length<=1000)/\Q (.bl true) H
noncomputable def jT (K:W.Frag) (_:cm):Sp:=fun vs H Q _=>∃ (t:Str),vs=[.str t,.str t]/\Q (.bl true) H
noncomputable def dN (_:W.Frag) (ca:cm):Sp:=fun vs H Q _=>∃ (x dx:Addr) (w:Str) (l:Int),vs=[.ref x,.str w,.int l]/\H x=some (.ins ca.aG dx [])/\∀ (fs:List (Str × V)) (H':Hp),H'=upd H x (.ins ca.aG dx fs)->j9 fs w l->Q .non H'
noncomputable def cJ (_:W.Frag) (ca:cm):Sp:=fun vs H Q _=>∃ (x dx:Addr) (w:Str),vs=[.ref x,.str w]/\H x=some (.ins ca.aG dx [])/\∀ (fs:List (Str × V)) (H':Hp),H'=upd H x (.ins ca.aG dx fs)->j9 fs w 0->Q .non H'
noncomputable def fQ (_:W.Frag) (ca:cm):Sp:=fun vs H Q _=>∃ x dx,vs=[.ref x]/\H x=some (.ins ca.aG dx [])/\∀ (fs:List (Str × V)) (H':Hp),H'=upd H x (.ins ca.aG dx fs)->j9 fs "rooms" 0->Q .non H'
noncomputable def gX (K:W.Frag) (_:cm):Sp:=fun vs H Q _=>∃ (l:Addr) (ns:List Int),vs=[.ref l]/\H l=some (.lst (ns.map V.int))/\ns.length < 64/\∀ H',ao H H'->Q (.bl (eG ns)) H'
noncomputable def kN (K:W.Frag) (_:cm):Sp:=fun vs H Q _=>∃ (l:Addr) (bs:List Addr) (xss:List (List V)),vs=[.ref l]/\H l=some (.lst (bs.map V.ref))/\eC H bs xss/\xss.flatten.length<=1000/\∀ (p:Addr) (H':Hp),ao H H'->H p=none->H' p=some (.lst xss.flatten)->Q (.ref p) H'
noncomputable def jS (K:W.Frag) (_:cm):Sp:=fun vs H Q _=>∃ (l:Addr) (ps:List Pair),vs=[.ref l]/\mY H l ps/\Q (.bl (d9 ps)) H
noncomputable def i5 (K:W.Frag) (_:cm):Sp:=fun vs H Q _=>∃ (l:Addr) (H0:Hp) (rs:List (List Int)),vs=[.ref l]/\aZ H0 H l rs/\rs.length<=100/\rs.flatten.length<=1000/\∀ (p:Addr) (H':Hp),ao H H'->H p=none->mY H' p (fq rs)->Q (.ref p) H'
noncomputable def gv (K:W.Frag) (_:cm):Sp:=fun vs H Q _=>∃ (x l:Addr) (H0:Hp) (rs:List (List Int)),vs=[.ref x,.ref l]/\aZ H0 H l rs/\rs.length<=60/\rs.flatten.length < 64/\(∀ r∈rs,r.length < 64)/\∀ H',ao H H'->Q (.bl (dR rs)) H'
noncomputable def cT (K:W.Frag) (ca:cm):Sp:=fun vs H Q _=>∃ (x dx:Addr) (fs:List (Str × V)) (l:Addr) (H0:Hp) (rs:List (List Int)),vs=[.ref x,.ref l]/\H x=some (.ins ca.aG dx fs)/\fs.lookup ("is_one" : Str)=none/\aZ H0 H l rs/\rs.length<=60/\rs.flatten.length < 64/\(∀ r∈rs,r.length < 64)/\dR rs=true/\∀ H',ao H H'->Q .non H'
noncomputable def gj (K:W.Frag) (_:cm):Sp:=fun vs H Q _=>∃ (x l:Addr) (Ha:Hp) (ls:List (List Int)),vs=[.ref x,.ref l]/\aZ Ha H l ls/\ls.length<=1000/\∀ H',ao H H'->Q (.int (ls.flatten.length:Int)) H'
noncomputable def kB (R:List (List Int)) (n:Nat):List Str:=(List.range n).map fun (j:Nat)=>⟨(iW (kOf R (j:Int))).toArray⟩
theorem wj (n:Nat):(kB [] n).map V.str=List.replicate n (V.str (Str.ofString "(")):=by
  unfold kB
  rw [List.map_map]
  refine List.eq_replicate_iff.mpr ⟨by simp,fun b hb=>?_⟩
  obtain ⟨j,_,rfl⟩:=List.mem_map.mp hb
  rw [uQ]
  rfl
theorem wq {R:List (List Int)} {n i:Nat} (h:Gd R n) {r:List Int} (hr:R[i]? = some r):(kB (R.take i) n).set (lst r).toNat ⟨(iW r.length).toArray⟩=kB (R.take (i+1)) n:=by
  have hm:=List.mem_of_getElem? hr
  have b:=h.bd hm (cu (h.ne r hm))
  have ndR:R.Nodup:=List.Pairwise.of_map hd (fun a b n e=>by rw [e] at n; lia) h.heads
  have li:=(List.getElem?_eq_some_iff.mp hr).1
  have old:kOf (R.take i) (lst r)=0:=nG fun s hs e=>by
    have hs':=List.mem_of_mem_take hs
    have:=h.uniq hs' hm (x:=lst r) (by rw [<- e]; exact cu (h.ne s hs')) (cu (h.ne r hm))
    subst this
    obtain ⟨j,hj,ej⟩:=List.getElem_of_mem hs
    rw [List.length_take] at hj
    rw [List.getElem_take] at ej
    have:=List.pairwise_iff_getElem.mp ndR j i (by lia) li (by lia)
    rw [ej,(List.getElem?_eq_some_iff.mp hr).2] at this
    exact this rfl
  have add:∀ j:Int,kOf (R.take (i+1)) j=kOf (R.take i) j+if lst r=j then r.length else 0:=fun j=>by
    unfold kOf
    rw [List.take_add_one,hr]
    show ((List.filter _ (R.take i++[r])).map _).sum=_
    rw [List.filter_append,List.map_append,List.sum_append]
    by_cases e:lst r=j
    · rw [if_pos e,List.filter_cons,if_pos (decide_eq_true e)]; simp
    · rw [if_neg e,List.filter_cons,if_neg (by rw [decide_eq_false e]; decide)]; simp
  refine List.ext_getElem? fun m=>?_
  unfold kB
  rw [List.getElem?_set,List.getElem?_map,List.getElem?_map,List.length_map,List.length_range]
  by_cases e:(lst r).toNat=m
  · rw [if_pos e,if_pos (by lia),<- e,List.getElem?_range (by lia)]
    show some (⟨(iW r.length).toArray⟩:Str)=some ⟨(iW (kOf (R.take (i+1)) (((lst r).toNat:Nat):Int))).toArray⟩
    rw [show (((lst r).toNat:Nat):Int)=lst r by lia,add,old,if_pos rfl,Nat.zero_add]
  · rw [if_neg e]
    by_cases hmn:m < n
    · rw [List.getElem?_range hmn]
      show some (⟨(iW (kOf (R.take i) ((m:Nat):Int))).toArray⟩:Str)=some ⟨(iW (kOf (R.take (i+1)) ((m:Nat):Int))).toArray⟩
      rw [add,if_neg (by lia),Nat.add_zero]
    · rw [List.getElem?_eq_none (by rw [List.length_range]; lia)]
      rfl
theorem qt (R:List (List Int)) (n:Nat):((kB R n).map (·.cps.toList)).flatten=jf R n:=by
  unfold kB jf
  rw [List.map_map,List.flatMap_def]
  refine congrArg _ (List.map_congr_left fun j _=>?_)
  simp
theorem p8 (R:List (List Int)):∀ n:Nat,(jf R n).count 40=n
  | 0=>rfl
  | n+1=>by
    rw [nK,List.count_append,p8 R n]
    unfold iW
    rw [List.count_cons_self,List.count_replicate]
    simp
theorem tm {R:List (List Int)} {n:Nat} (h:Gd R n):(jf R n).length=2*n:=by
  have:=jH h.text.1
  rw [p8] at this
  exact this
theorem xh {R:List (List Int)} {n:Nat} (h:Gd R n):((kB R n).map (·.length)).sum=2*n:=by
  rw [<- tm h,<- qt,List.length_flatten,List.map_map]
  exact congrArg _ (List.map_congr_left fun y _=>(bU y).symm)
noncomputable def eZ (K:W.Frag) (ca:cm):Sp:=fun vs H Q _=>∃ (l:Addr) (H0:Hp) (rs:List (List Int)) (n:Nat),vs=[.ref l]/\aZ H0 H l rs/\Gd rs n/\n<=40/\∀ (y:Str) (H':Hp),ao H H'->y.cps.toList=jf rs n->Q (.str y) H'
noncomputable def gH (K:W.Frag) (_:cm):Sp:=fun vs H Q _=>∃ (t:Str),vs=[.str t]/\t.length<=80/\(a8 t.cps.toList t.length).length<=40/\∀ (p:Addr) (qs:List Pair) (H':Hp),ao H H'->H p=none->qs.Perm ((a8 t.cps.toList t.length).map m7)->qs.Pairwise e9->H' p=some (.lst ((qs.map fun q=>d7 t.cps.toList q.2).map V.int))->Q (.ref p) H'
noncomputable def e8 (K:W.Frag) (ca:cm):Sp:=fun vs H Q _=>∃ (t:Str) (n:Nat),vs=[.str t]/\clo 0 t.cps.toList=true/\t.length=2*n/\n<=40/\∀ (p:Addr) (H':Hp),ao H H'->H p=none->H' p=some (.lst ((aT t.cps.toList).2.2.1.flatten.map V.int))->Q (.ref p) H'
noncomputable def dJ (_:W.Frag) (ca:cm):Sp:=fun vs H Q _=>∃ (x dx:Addr) (w:Str) (l:Int),vs=[.ref x,.str w,.int l]/\H x=some (.ins ca.aM dx [])/\∀ (fs:List (Str × V)) (H':Hp),H'=upd H x (.ins ca.aM dx fs)->j9 fs w l->Q .non H'
noncomputable def cH (_:W.Frag) (ca:cm):Sp:=fun vs H Q _=>∃ (x dx:Addr) (w:Str),vs=[.ref x,.str w]/\H x=some (.ins ca.aM dx [])/\∀ (fs:List (Str × V)) (H':Hp),H'=upd H x (.ins ca.aM dx fs)->j9 fs w 0->Q .non H'
noncomputable def fW (_:W.Frag) (ca:cm):Sp:=fun vs H Q _=>∃ x dx,vs=[.ref x]/\H x=some (.ins ca.aM dx [])/\∀ (fs:List (Str × V)) (H':Hp),H'=upd H x (.ins ca.aM dx fs)->j9 fs "turns" 0->Q .non H'
noncomputable def eX (K:W.Frag) (_:cm):Sp:=fun vs H Q _=>∃ (l:Addr) (ns:List Int),vs=[.ref l]/\H l=some (.lst (ns.map V.int))/\ns.length < 64/\eG ns=true/\∀ H',ao H H'->Q (.bl (nE ns)) H'
noncomputable def gD (K:W.Frag) (_:cm):Sp:=fun vs H Q _=>∃ (x l:Addr) (ns:List Int),vs=[.ref x,.ref l]/\H l=some (.lst (ns.map V.int))/\ns.length < 64/\∀ H',ao H H'->Q (.bl (g9 ns)) H'
noncomputable def cU (K:W.Frag) (ca:cm):Sp:=fun vs H Q _=>∃ (x dx:Addr) (fs:List (Str × V)) (l:Addr) (ns:List Int),vs=[.ref x,.ref l]/\H x=some (.ins ca.aM dx fs)/\fs.lookup ("is_one" : Str)=none/\H l=some (.lst (ns.map V.int))/\ns.length < 64/\g9 ns=true/\∀ H',ao H H'->Q .non H'
theorem uV {ns:List Int} (h:g9 ns=true):ns.Perm (d8 ns.length):=by
  unfold g9 at h
  rw [Bool.and_eq_true] at h
  exact (du ns).mp h.1
noncomputable def eV (K:W.Frag) (ca:cm):Sp:=fun vs H Q _=>∃ (l:Addr) (ns:List Int),vs=[.ref l]/\H l=some (.lst (ns.map V.int))/\ns.length<=40/\g9 ns=true/\∀ (y:Str) (H':Hp),ao H H'->y.cps.toList=(dv ns).1->Q (.str y) H'
theorem xu (xs:List V) (k:Nat):fU xs none (some (k:Int))=xs.take k:=xV xs k
noncomputable def gM (K:W.Frag) (_:cm):Sp:=fun vs H Q _=>∃ (a:Addr) (ns:List Int) (n:Nat) (t:Int),vs=[.ref a,.int n,.int t]/\aq K H a (ns.map V.int)/\ns.length<=63/\n<=40/\0<=t/\t<=900 /\
  ∀ (p:Addr) (rs:List (List Int)) (op:List Nat) (H':Hp),ao H H'->H p=none->aZ H H' p rs->fX rs op n->Q (.ref p) H'
noncomputable def iE (_:W.Frag) (_:cm):Sp:=fun vs H Q _=>∃ x:Str,vs=[.str x]/\Q (.bl (clo 0 x.cps.toList)) H
theorem u6 {c:List Nat} {n:Nat} {qs:List Pair} (h:clo 0 c=true) (hn:c.length=2*n) (pm:qs.Perm ((a8 c c.length).map m7)) (rs:qs.Pairwise e9):g9 (qs.map fun q=>d7 c q.2)=true/\(qs.map fun q=>d7 c q.2).length=n:=by
  obtain ⟨bw,lb⟩:=ma h hn
  refine ⟨vG bw (d7 c) (fun j p hj=>?_) pm rs,by rw [List.length_map,pm.length_eq,List.length_map,lb]⟩
  obtain ⟨k,hk,e40,rfl⟩:=ko.mp (List.mem_of_getElem? hj)
  unfold d7
  show (((c.take ((k:Nat):Int).toNat).count 40:Nat):Int)=(j:Int)
  rw [Int.toNat_natCast,<- mG c k (by lia),sT hk e40 hj]
noncomputable def yw (K:W.Frag) (_:cm):Sp:=fun vs H Q _=>∃ (a:Addr) (ns:List Int),vs=[.ref a]/\aq K H a (ns.map V.int)/\ns.length<=63/\∀ H',Q (.bl true) H'
section
variable {P:Program} {w:World} {K:W.Frag} {mg:Str->Option Value} {base:Heap} {ca:cm} (CA:yz K mg ca) {f:Addr} {fd:FuncData}
include CA
theorem sr (F:bO K "_law_mix" "_law_mix" gc f fd):aH P w K mg base bM 1 f fd ["_law_cell","_law_turn"] (j8 K ca):=by
  refine F.ok m8 (fun vs H Q E h=>?_) (fun cdv A outer s H vs Q E hr h=>?_)
  · obtain ⟨c,t,rfl,h0,h1,q⟩:=h
    rfl
  obtain ⟨c,t,rfl,h0,h1,q⟩:=h
  refine ⟨_,ai (aB (i:=2) m8.nd rfl (Or.inl rfl) (aC dA (aC fh (aC ft (aC ft (aC dA (pv 0) au) (aC fh (aC fh (pv 1) (pv 1)) au)) au) au) au))
    (ak (aA (aC dA (aC ft (aC fh (pv 2) (pv 2)) (aC fh au (pv 1))) au))),?_⟩
  refine ⟨_,rfl,_,_,rfl,rfl,pm (by decide),_,rfl,_,rfl,_,_,rfl,rfl,.inl ⟨by lia,by lia⟩,_,_,rfl,rfl,.inr ⟨by decide,by decide⟩,_,_,rfl,rfl,_,_,rfl,rfl,_,_,rfl,rfl,.inr ⟨by decide,by decide⟩,_,_,rfl,rfl,pm (by decide),?_⟩
  have b0:=Int.emod_nonneg ((c % 2147483647+t*t*7919+104729)*48271) (show (2147483647:Int)≠0 by decide)
  have b1:=Int.emod_lt_of_pos ((c % 2147483647+t*t*7919+104729)*48271) (show (0:Int) < 2147483647 by decide)
  try dsimp only
  generalize (c % 2147483647+t*t*7919+104729)*48271 % 2147483647=n at *
  exact ⟨_,rfl,_,rfl,_,_,rfl,rfl,.inl ⟨by lia,by lia⟩,_,rfl,_,_,rfl,rfl,.inl ⟨by decide,by decide⟩,_,_,rfl,rfl,_,_,rfl,rfl,pm (by decide),q _ (Int.emod_nonneg _ (by decide)) (Int.emod_lt_of_pos _ (by decide))⟩
theorem qC (F:bO K "_law_draws" "_law_draws" eH f fd) {f0:Addr} {fd0:FuncData} (lH:Def P w K mg base "_law_mix" ["_law_cell","_law_turn"] 1 (j8 K ca) f0 fd0) (ba:mg "range" = none) (aK:mg "len" = none):aH P w K mg base bM 2 f fd ["_law_script","_law_turn","_law_many"] (gr K ca):=by
  refine F.ok cQ (fun vs H Q E h=>?_) (fun cdv A outer s H vs Q E hr h=>?_)
  · obtain ⟨a,ns,t,m,rfl,hS,h63,t0,t1,m0,m1,q⟩:=h
    rfl
  obtain ⟨a,ns,t,m,rfl,hS,h63,t0,t1,m0,m1,q⟩:=h
  refine ⟨_,ai (aB (i:=3) cQ.nd rfl (Or.inl rfl) (aC ya (jE mK (pv 0) kA (kE au)) (cY (aa (pv 1) ae))))
    (ai (aB (i:=4) cQ.nd rfl (Or.inl rfl) (cY ae))
    (ai (bu (aU cM (aC dA (aC jD (bX bJ (pv 3) au (fun _ _=>rfl)) au) au) au (aL _)) (ai (oq (i:=5) cQ.nd rfl (Or.inl rfl) rfl rfl (dk (pv 3)) rfl rfl rfl rfl (N:=["_law_cell"]) (.own .nil) (fun _ _ _ _ _ _=>(aJ (i:=0) (by show List.Nodup (["_law_cell"]:List Str); decide +kernel) rfl (Or.inl rfl))) (fun _ _ _ _ _ _=>gN) (fun _ _ _ _ _ _=>(aC jD (pv 0) au)))
    (ai (cD PassesOwn.never rfl (eg rfl ba (aa (aC ft (pv 1) (pv 2)) ae)) (aJ (i:=6) cQ.nd rfl (Or.inl rfl)) (ai (aB (i:=7) cQ.nd rfl (Or.inl rfl) (aC dA (pv 6) (aD aR rfl aK cj (aa (pv 5) ae))))
    (ai (aW (cL PySem.F.plainAttrs_list PySem.F.slot_list_append PySem.F.type_list_append bt (pv 4) (aa (aC dA (bX bJ (pv 5) (pv 7) (fun _ _=>rfl)) au) ae)))
    (ak (uL (aC jD (bX bJ (pv 5) (pv 7) (fun _ _=>rfl)) au) (uA (pv 5) (pv 7) set_list))))))
    (ak (aA (jE mK (pv 4) (kE (pv 1)) kA))))) bh)
    (ai (cD PassesOwn.never rfl (eg rfl ba (aa (pv 2) ae)) (aJ (i:=6) cQ.nd rfl (Or.inl rfl)) (ai (aB (i:=8) cQ.nd rfl (Or.inl rfl) (aS lH hr (aa (bX bJ (pv 3) (aC dA (pv 6) (aD aR rfl aK cj (aa (pv 3) ae))) (fun _ _=>rfl)) (aa (aC ft (pv 6) (pv 1)) ae))))
    (ak (aW (cL PySem.F.plainAttrs_list PySem.F.slot_list_append PySem.F.type_list_append bt (pv 4) (aa (aC dA (aC ft (aC fh (pv 8) (pv 8)) (aC fh au (pv 6))) au) ae))))))
    (ak (aA (pv 4)))))),?_⟩
  have M:∀ x:Int,0<=x % 2147483587/\x % 2147483587 < 2147483587:=fun x=>⟨Int.emod_nonneg x (by decide),Int.emod_lt_of_pos x (by decide)⟩
  refine ⟨_,rfl,_,rfl,a,_,rfl,hS,fun p1 hp1=>⟨_,rfl,(by show 1<=sizeLine; decide),fun p2 hp2=>?_⟩⟩
  have n12:p1≠p2:=ay ag hp2
  have s1:=ao.new (ao.refl H) hp1 (.lst (fU (ns.map V.int) none (some 63)))
  have s2:=ao.new s1 hp2 (.lst [.int t])
  have lc:(gK ns none (some 63)).length<=63:=Nat.le_trans (sv _ _ _) h63
  refine ⟨p1,p2,_,_,rfl,rfl,(ar n12).trans ag,ag,?_,fun pc hpc=>?_⟩
  · rw [lh,List.length_map]; exact sz (by simp; lia)
  have s3:=ao.new s2 hpc (.lst (fU (ns.map V.int) none (some 63)++[.int t]))
  have ecs:fU (ns.map V.int) none (some 63)++[.int t]=(gK ns none (some 63)++[t]).map V.int:=by rw [lh,List.map_append]; rfl
  have lcs:1<=(gK ns none (some 63)++[t]).length/\(gK ns none (some 63)++[t]).length<=64:=by rw [List.length_append]; constructor<;>simp<;>lia
  rw [ecs] at s3 |-
  generalize hH3:upd (upd (upd H p1 (.lst (fU (ns.map V.int) none (some 63)))) p2 (.lst [.int t])) pc (.lst ((gK ns none (some 63)++[t]).map V.int))=H3 at s3 |-
  have hc3:H3 pc=some (.lst ((gK ns none (some 63)++[t]).map V.int)):=by rw [<- hH3]; exact ag
  generalize gK ns none (some 63)++[t]=cs at hc3 lcs |-
  refine ⟨Nat.zero_le _,fun pf hpf=>?_⟩
  have s4:=ao.new s3 hpf (.lst [])
  have fpf:H pf=none:=s3.free hpf
  have ncf:pc≠pf:=ay hc3 hpf
  have hc4:upd H3 pf (.lst []) pc=some (.lst (cs.map V.int)):=(ar ncf).trans hc3
  have hf4:upd H3 pf (.lst []) pf=some (.lst (([]:List Int).map V.int)):=ag
  generalize upd H3 pf (.lst [])=H4 at s4 hc4 hf4 |-
  have at0:=gb (ns:=cs) (i:=0) (by decide) (by lia)
  have lm:(cs.map V.int).length=cs.length:=List.length_map _
  refine ⟨_,rfl,pc,_,_,_,rfl,rfl,aq.of hc4,at0,_,_,rfl,rfl,⟨by decide,by decide +kernel⟩,_,_,rfl,rfl,pm (by decide),rfl,_,rfl,pE (fun _=>?_) (fun _=>?_)⟩
  · refine ⟨_,rfl,pc,rfl,⟨_,aq.of hc4⟩,fun D hD=>u4 (fun v=>match v with | .int c=>.int (c / 100000) | v=>v) (by rw [lm]; exact sz (by lia)) (aq.of hc4) hD (fun i x H' R R0 hx hb hR=>?_) ?_⟩
    · obtain ⟨c,rfl⟩:=jx hx
      exact ⟨Ext.set rfl,qh (eK ⟨_,rfl,_,_,rfl,rfl,⟨by decide,by decide +kernel⟩,hR⟩)⟩
    · have fD:H D=none:=s4.free hD
      have nfD:pf≠D:=ay hf4 hD
      have el:(cs.map V.int).map (fun v=>match v with | .int c=>V.int (c / 100000) | v=>v)=(cs.map (· / 100000)).map V.int:=by rw [List.map_map,List.map_map]; rfl
      rw [el]
      refine ⟨_,rfl,_,rfl,_,_,rfl,rfl,_,rfl,by lia,by lia,eS (lo:=0) (n:=(t+m).toNat) (fun i σ H'=>∃ (o1 o2 o3:Option V) (ls fs:List Int),σ=[some (.ref a),some (.int t),some (.int m),some (.ref pc),some (.ref pf),some (.ref D),o1,o2,o3]/\ao H H'/\H' D=some (.lst (ls.map V.int))/\ls.length=cs.length/\H' pf=some (.lst (fs.map V.int))/\fs.length=i/\∀ x∈fs,0<=x/\x < 2147483587)
        ⟨_,_,_,_,[],rfl,ao.new s4 hD _,ag,by simp,(ar nfD).trans hf4,rfl,by simp⟩ ?_ ?_⟩
      · rintro i σ H5 hi ⟨o1,o2,o3,ls,fs,rfl,sm,hl,ll,hf,lf,bf⟩
        have lml:(ls.map V.int).length=ls.length:=List.length_map _
        have pos:(0:Int) < (((ls.map V.int).length:Nat):Int):=by rw [lml]; lia
        have k0:=Int.emod_nonneg ((0:Int)+(i:Int)) (show (((ls.map V.int).length:Nat):Int)≠0 by lia)
        have k1:=Int.emod_lt_of_pos ((0:Int)+(i:Int)) pos
        refine ⟨_,rfl,_,rfl,D,_,rfl,.inl (aq.of hl),_,_,rfl,rfl,pos,?_⟩
        try dsimp only
        generalize ((0:Int)+(i:Int)) % (((ls.map V.int).length:Nat):Int)=k at k0 k1 |-
        rw [lml] at k1
        have atk:=gb (ns:=ls) (i:=k) k0 k1
        refine ⟨_,rfl,.inl ⟨rfl,_,aq.of hf⟩,_,rfl,_,rfl,D,_,_,_,rfl,rfl,aq.of hl,atk,_,_,rfl,rfl,pm (by decide),pf,_,_,rfl,rfl,hf,by rw [List.length_map]; exact iy (by lia),?_⟩
        have hl6:upd H5 pf (.lst (fs.map V.int++[.int (ls.getD k.toNat 0 % 2147483587)])) D=some (.lst (ls.map V.int)):=(ar (Ne.symm nfD)).trans hl
        refine ⟨_,rfl,_,rfl,D,_,_,_,rfl,rfl,aq.of hl6,atk,_,_,rfl,rfl,⟨by decide,by decide +kernel⟩,_,rfl,_,rfl,D,_,_,_,rfl,rfl,hl6,sV k0 (by rw [lml]; exact k1),?_⟩
        refine ⟨_,_,_,ls.set k.toNat (ls.getD k.toNat 0 / 2147483587),fs++[ls.getD k.toNat 0 % 2147483587],rfl,(sm.upd fpf _).upd fD _,?_,by simpa using ll,?_,by simp [lf],?_⟩
        · rw [ag,List.map_set]
        · rw [ar nfD,ag,List.map_append]; rfl
        · intro x hx
          rcases List.mem_append.mp hx with z | z
          · exact bf x z
          · have:x=ls.getD k.toNat 0 % 2147483587:=by simpa using z
            rw [this]; exact M _
      · rintro σ H5 ⟨o1,o2,o3,ls,fs,rfl,sm,hl,ll,hf,lf,bf⟩
        refine ⟨_,rfl,_,rfl,_,rfl,pf,_,rfl,aq.of hf,fun pr hpr=>?_⟩
        rw [lh,uN fs t0]
        refine q pr (fs.drop t.toNat) _ (ao.new sm hpr _) (sm.free hpr) ag ?_ fun x hx=>bf x (List.mem_of_mem_drop hx)
        rw [List.length_drop,lf]; lia
  · refine ⟨_,rfl,_,rfl,by lia,by lia,eS (lo:=0) (n:=m.toNat) (fun i σ H'=>∃ (o1 o2 o3 o4:Option V) (fs:List Int),σ=[some (.ref a),some (.int t),some (.int m),some (.ref pc),some (.ref pf),o1,o2,o3,o4]/\ao H H'/\H' pc=some (.lst (cs.map V.int))/\H' pf=some (.lst (fs.map V.int))/\fs.length=i/\∀ x∈fs,0<=x/\x < 2147483587)
      ⟨_,_,_,_,[],rfl,s4,hc4,hf4,rfl,by simp⟩ ?_ ?_⟩
    · rintro i σ H5 hi ⟨o1,o2,o3,o4,fs,rfl,sm,hc,hf,lf,bf⟩
      have pos:(0:Int) < (((cs.map V.int).length:Nat):Int):=by rw [lm]; lia
      have k0:=Int.emod_nonneg ((0:Int)+(i:Int)) (show (((cs.map V.int).length:Nat):Int)≠0 by lia)
      have k1:=Int.emod_lt_of_pos ((0:Int)+(i:Int)) pos
      have atk:=gb (ns:=cs) (i:=((0:Int)+(i:Int)) % (((cs.map V.int).length:Nat):Int)) k0 (by rw [<- lm]; exact k1)
      refine ⟨_,rfl,_,rfl,_,rfl,pc,_,rfl,.inl (aq.of hc),_,_,rfl,rfl,pos,pc,_,_,_,rfl,rfl,aq.of hc,atk,_,rfl,_,rfl,_,_,rfl,rfl,_,_,rfl,by lia,by lia,fun x x0 x1=>?_⟩
      refine ⟨_,rfl,.inl ⟨rfl,_,aq.of hf⟩,_,rfl,_,rfl,_,_,rfl,rfl,.inl ⟨by lia,by lia⟩,_,rfl,_,_,rfl,rfl,.inl ⟨by decide,by decide⟩,_,_,rfl,rfl,_,_,rfl,rfl,pm (by decide),pf,_,_,rfl,rfl,hf,by rw [List.length_map]; exact iy (by lia),?_⟩
      refine ⟨_,_,_,_,fs++[(x*x+7*((0:Int)+(i:Int))) % 2147483587],rfl,sm.upd fpf _,(ar ncf).trans hc,?_,by simp [lf],?_⟩
      · rw [ag,List.map_append]; rfl
      · intro y hy
        rcases List.mem_append.mp hy with z | z
        · exact bf y z
        · have:y=(x*x+7*((0:Int)+(i:Int))) % 2147483587:=by simpa using z
          rw [this]; exact M _
    · rintro σ H5 ⟨o1,o2,o3,o4,fs,rfl,sm,hc,hf,lf,bf⟩
      exact ⟨_,rfl,q pf fs H5 sm fpf hf lf bf⟩
theorem oV (F:bO K "_law_text_by" "_law_text_by" dQ f fd) {f0:Addr} {fd0:FuncData} (eI:Def P w K mg base "_law_draws" ["_law_script","_law_turn","_law_many"] 2 (gr K ca) f0 fd0) (ba:mg "range" = none):aH P w K mg base bM 3 f fd ["_law_script","_law_size","_law_turn"] (hZ K ca):=by
  refine F.ok br (fun vs H Q E h=>?_) (fun cdv A outer s H vs Q E hr h=>?_)
  · obtain ⟨a,ns,n,t,rfl,hS,h63,n0,n1,t0,t1,q⟩:=h
    rfl
  obtain ⟨a,ns,n,t,rfl,hS,h63,n0,n1,t0,t1,q⟩:=h
  refine ⟨_,ai (aB (i:=3) br.nd rfl (Or.inl rfl) (aS eI hr (aa (pv 0) (aa (pv 2) (aa au ae)))))
    (ai (aB (i:=4) br.nd rfl (Or.inl rfl) (aC dA (bX bJ (pv 3) au (fun _ _=>rfl)) au))
    (ai (aB (i:=5) br.nd rfl (Or.inl rfl) (cY ae))
    (ai (aB (i:=6) br.nd rfl (Or.inl rfl) au)
    (ai (cD PassesOwn.never rfl (eg rfl ba (aa (aC fh au (pv 1)) ae)) (aJ (i:=7) br.nd rfl (Or.inl rfl)) (ai (aB (i:=8) br.nd rfl (Or.inl rfl) (aC jV (aC fh au (pv 6)) (pv 7)))
    (ai (aB (i:=9) br.nd rfl (Or.inl rfl) (gg cM (aC dA (bX bJ (pv 3) (pv 7) (fun _ _=>rfl)) au) au (aL _)))
    (ai (bu (aU cM (pv 4) au (aL _)) (ak (aB (i:=9) br.nd rfl (Or.inl rfl) (gg wR (aC dA (bX bJ (pv 3) (pv 7) (fun _ _=>rfl)) au) au (aL _)))) bh)
    (tj (bu (aU cM (pv 4) au (aL _)) (ak (aB (i:=9) br.nd rfl (Or.inl rfl) (gg cM (aC dA (bX bJ (pv 3) (pv 7) (fun _ _=>rfl)) au) au (aL _)))) bh)
    (ak (bu (PW.pt (rY (aU mL (pv 6) (pv 1) (aL _)) (pM (PW.pt (jw (aU cM (pv 8) au (aL _)) (i0 (cG (pv 9)))))))) (ai (aW (cL PySem.F.plainAttrs_list PySem.F.slot_list_append PySem.F.type_list_append bt (pv 5) (aa bD ae)))
    (ak (aB (i:=6) br.nd rfl (Or.inl rfl) (aC ft (pv 6) au)))) (ak (aW (cL PySem.F.plainAttrs_list PySem.F.slot_list_append PySem.F.type_list_append bt (pv 5) (aa bD ae)))))))))))
    (ak (aA (cL PySem.F.plainAttrs_str PySem.F.slot_str_join PySem.F.type_str_join pH bD (aa (pv 5) ae)))))))),?_⟩
  refine ⟨_,rfl,_,rfl,a,ns,t,81,rfl,hS,h63,t0,t1,by decide,by decide,fun pd xs H1 sm1 fd hd lx bx=>?_⟩
  have lx':xs.length=81:=lx
  have at80:=gb (ns:=xs) (i:=80) (by decide) (by lia)
  refine ⟨_,rfl,pd,_,_,_,rfl,rfl,aq.of hd,at80,_,_,rfl,rfl,pm (by decide),?_⟩
  try dsimp only
  generalize xs.getD (80:Int).toNat 0 % 4=e
  refine ⟨Nat.zero_le _,fun ps hps=>?_⟩
  have nps:pd≠ps:=ay hd hps
  have fps:H ps=none:=sm1.free hps
  refine ⟨_,rfl,_,_,rfl,rfl,.inl ⟨by decide,by decide⟩,_,rfl,by lia,by lia,eS (lo:=0) (n:=(2*n).toNat) (fun i σ H'=>∃ (o1 o2 o3:Option V) (l:List Nat) (u h:Nat),σ=[some (.ref a),some (.int n),some (.int t),some (.ref pd),some (.int e),some (.ref ps),some (.int u),o1,o2,o3]/\ao H H'/\H' pd=some (.lst (xs.map V.int))/\H' ps=some (.lst (l.map sgn))/\p7 n.toNat l i u h)
    ⟨_,_,_,[],0,0,rfl,ao.new sm1 hps _,(ar nps).trans hd,ag,⟨rfl,rfl,Nat.zero_le _,fun t=>rfl⟩⟩ ?_ ?_⟩
  · rintro i σ H5 hi ⟨o1,o2,o3,l,u,h,rfl,sm,hd5,hl,bg⟩
    have atk:=gb (ns:=xs) (i:=(0:Int)+(i:Int)) (by lia) (by lia)
    have bal:=bg.bal
    have le:=bg.le
    have ll:=bg.len
    have lmap:(l.map sgn).length < sizeLine:=by rw [List.length_map]; exact iy (by lia)
    refine ⟨_,rfl,_,_,rfl,rfl,.inl ⟨by decide,by decide⟩,_,rfl,_,_,rfl,rfl,?_⟩
    refine ⟨_,rfl,_,rfl,pd,_,_,_,rfl,rfl,aq.of hd5,atk,_,_,rfl,rfl,pm (by decide),rfl,?_⟩
    -- what the turn goes on with
    let P:L2.St->Hp->Prop:=fun σ' H'=>H'=H5/\∃ b:Bool,σ'=[some (.ref a),some (.int n),some (.int t),some (.ref pd),some (.int e),some (.ref ps),some (.int u),some (.int ((0:Int)+(i:Int))),some (.int (2*(u:Int) - ((0:Int)+(i:Int)))),some (.bl b)]
    refine ⟨_,rfl,rfl,_,rfl,pE (fun _=>⟨_,rfl,_,rfl,pd,_,_,_,rfl,rfl,aq.of hd5,atk,_,_,rfl,rfl,pm (by decide),_,_,rfl,rfl,P,?_,?_⟩) (fun _=>⟨P,?_,?_⟩)⟩
    case refine_1=>exact ⟨_,rfl,rfl,_,rfl,pE (fun _=>⟨_,rfl,_,rfl,pd,_,_,_,rfl,rfl,aq.of hd5,atk,_,_,rfl,rfl,pm (by decide),rfl,rfl,_,rfl⟩) (fun _=>⟨rfl,_,rfl⟩)⟩
    case refine_3=>exact ⟨_,rfl,rfl,_,rfl,pE (fun _=>⟨_,rfl,_,rfl,pd,_,_,_,rfl,rfl,aq.of hd5,atk,_,_,rfl,rfl,pm (by decide),rfl,rfl,_,rfl⟩) (fun _=>⟨rfl,_,rfl⟩)⟩
    all_goals
      rintro σ' H' ⟨rfl,b,rfl⟩
      refine ⟨_,rfl,_,rfl,_,_,rfl,rfl,_,rfl,?_⟩
      by_cases hu:(u:Int) < n
      · refine eO hu ⟨_,rfl,rfl,_,rfl,?_⟩
        by_cases hh:h=0
        · refine eO (congrArg V.int (by lia)) (eK ⟨_,rfl,.inl ⟨rfl,_,aq.of hl⟩,ps,_,_,rfl,rfl,hl,lmap,_,rfl,_,_,rfl,rfl,?_⟩)
          exact ⟨_,_,_,l++[40],u+1,h+1,rfl,sm.upd fps _,(ar nps).trans hd5,by rw [ag,List.map_append,tW]; rfl,bg.up (by lia)⟩
        · obtain ⟨h',rfl⟩:∃ h',h=h'+1:=⟨h - 1,by lia⟩
          refine eJ (fun z=>by injection z with z; lia) ⟨_,rfl,_,rfl,?_⟩
          cases b with
          | true =>
            refine eK ⟨_,rfl,.inl ⟨rfl,_,aq.of hl⟩,ps,_,_,rfl,rfl,hl,lmap,_,rfl,_,_,rfl,rfl,?_⟩
            exact ⟨_,_,_,l++[40],u+1,h'+1+1,rfl,sm.upd fps _,(ar nps).trans hd5,by rw [ag,List.map_append,tW]; rfl,bg.up (by lia)⟩
          | false =>
            refine cp ⟨_,rfl,.inl ⟨rfl,_,aq.of hl⟩,ps,_,_,rfl,rfl,hl,lmap,?_⟩
            exact ⟨_,_,_,l++[41],u,h',rfl,sm.upd fps _,(ar nps).trans hd5,by rw [ag,List.map_append,tU]; rfl,bg.down⟩
      · obtain ⟨h',rfl⟩:∃ h',h=h'+1:=⟨h - 1,by lia⟩
        refine eJ hu (cp ⟨_,rfl,.inl ⟨rfl,_,aq.of hl⟩,ps,_,_,rfl,rfl,hl,lmap,?_⟩)
        exact ⟨_,_,_,l++[41],u,h',rfl,sm.upd fps _,(ar nps).trans hd5,by rw [ag,List.map_append,tU]; rfl,bg.down⟩
  · rintro σ H5 ⟨o1,o2,o3,l,u,h,rfl,sm,hd5,hl,bg⟩
    have bal:=bg.bal
    have le:=bg.le
    have ll:=bg.len
    have hz:h=0:=by lia
    subst hz
    refine ⟨rfl,_,rfl,_,ps,l.map sW,rfl,rfl,aq.of (by rw [hl,xO]),?_,?_⟩
    · rw [tw]
      have e0:(Str.ofString "").length=0:=by decide +kernel
      show l.length+(l.map sW).length*(Str.ofString "").length<=16777216
      rw [e0,Nat.mul_zero]
      lia
    · refine q _ H5 sm ?_ ?_
      · rw [rz]
        have:=bg.clo []
        rw [List.append_nil] at this
        rw [this]; rfl
      · rw [so (rz l),ll]; lia
theorem oI (F:bO K "_law_cell_at" "_law_cell_at" dO f fd) (aK:mg "len" = none):aH P w K mg base bM 1 f fd ["_law_script","_law_k"] (g4 K ca):=by
  refine F.ok n9 (fun vs H Q E h=>?_) (fun cdv A outer s H vs Q E hr h=>?_)
  · obtain ⟨a,ns,k,rfl,hS,h0,q⟩:=h
    rfl
  obtain ⟨a,ns,k,rfl,hS,h0,q⟩:=h
  refine ⟨_,ai (bu (aU mL (pv 1) (aD aR rfl aK cj (aa (pv 0) ae)) (aL _)) (ak (aA (bX bJ (pv 0) (pv 1) (fun _ _=>rfl)))) bh)
    (ak (aA au)),?_⟩
  have hl:(ns.map V.int).length=ns.length:=List.length_map _
  refine ⟨_,rfl,_,rfl,a,_,rfl,.inl hS,_,_,rfl,rfl,_,rfl,pE (fun c=>?_) (fun c=>?_)⟩
  · have c':k < (((ns.map V.int).length:Nat):Int):=of_decide_eq_true c
    rw [hl] at c'
    exact ⟨_,rfl,_,rfl,a,_,_,_,rfl,rfl,hS,gb h0 c',q⟩
  · have c':¬ k < (((ns.map V.int).length:Nat):Int):=of_decide_eq_false (Bool.eq_false_iff.mpr c)
    rw [hl] at c'
    have e:ns.getD k.toNat 0=0:=by rw [List.getD_eq_getElem?_getD,List.getElem?_eq_none (by lia)]; rfl
    rw [e] at q
    exact q
theorem rR (F:bO K "_law_mate" "_law_mate" fC f fd) (ba:mg "range" = none) (aK:mg "len" = none) (mS:mg "int" = none):aH P w K mg base bM 1 f fd ["_law_text_here","_law_at"] (gZ K ca):=by
  refine F.ok g7 (fun vs H Q E h=>?_) (fun cdv A outer s H vs Q E hr h=>?_)
  · obtain ⟨t,k,rfl,hz,hk,q⟩:=h
    rfl
  obtain ⟨t,k,rfl,hz,hk,q⟩:=h
  refine ⟨_,ai (aB (i:=2) g7.nd rfl (Or.inl rfl) au)
    (ai (cD PassesOwn.never rfl (ve rfl ba (aa (pv 1) (aa (aD hG rfl aK cj (aa (pv 0) ae)) ae))) (aJ (i:=3) g7.nd rfl (Or.inl rfl)) (ai (aB (i:=2) g7.nd rfl (Or.inl rfl) (aC jV (aC ft (pv 2) au) (aC fh au (j6 uT rfl mS uy (aa (gg cM (bX oW (pv 0) (pv 3) (fun _ _=>rfl)) bD (aL _)) ae)))))
    (ak (bu (aU cM (pv 2) au (aL _)) (ak (aA (pv 3))) bh))))
    (ak (aA (qK ox au)))),?_⟩
  have lc:=bU t
  have lz:t.length<=sizeLine:=sz (by lia)
  refine ⟨_,rfl,_,rfl,t,rfl,lz,_,_,rfl,⟨by lia,by lia,by lia,by lia⟩,eS (lo:=(k:Int)) (n:=(((t.length:Nat):Int) - (k:Int)).toNat) (fun i σ H'=>∃ (o1:Option V),σ=[some (.str t),some (.int (k:Int)),some (.int (Dp t.cps.toList (k+i) - Dp t.cps.toList k)),o1]/\H=H'/\∀ m,k<=m->m < k+i->Dp t.cps.toList (m+1)≠Dp t.cps.toList k) ⟨none,by rw [Nat.add_zero,Int.sub_self]; rfl,rfl,fun m h1 h2=>by lia⟩ ?_ ?_⟩
  · rintro i σ H' hi ⟨o1,rfl,rfl,no⟩
    have hlt:k+i < t.cps.toList.length:=by lia
    have hc:t.cps.toList[((k:Int)+(i:Int)).toNat]? = some (t.cps.toList.getD (k+i) 0):=by
      rw [show ((k:Int)+(i:Int)).toNat=k+i by lia,List.getD_eq_getElem?_getD,List.getElem?_eq_getElem hlt]
      rfl
    have hat:=mO (by lia) hc
    have ds:=mR hlt
    generalize t.cps.toList.getD (k+i) 0=c at hat ds
    refine ⟨_,rfl,_,_,rfl,rfl,_,rfl,_,rfl,t,_,_,rfl,rfl,lz,hat,rfl,.inr ⟨_,rfl,_,_,rfl,rfl,.inl ⟨by decide,by decide⟩,_,_,rfl,rfl,?_⟩⟩
    try dsimp only
    rw [zk]
    have e:Dp t.cps.toList (k+i) - Dp t.cps.toList k+1 - 2*(if c=41 then 1 else 0)=Dp t.cps.toList (k+(i+1)) - Dp t.cps.toList k:=by
      rw [show k+(i+1)=k+i+1 by lia,ds]
      lia
    rw [e]
    refine ⟨_,rfl,rfl,_,rfl,?_⟩
    by_cases z:Dp t.cps.toList (k+(i+1)) - Dp t.cps.toList k=0
    · refine eO (congrArg V.int z) ⟨_,rfl,?_⟩
      have m:=sM (c:=t.cps.toList) (k:=k) (j:=k+i) (by lia) hlt (by rw [show k+i+1=k+(i+1) by lia]; lia) no
      rw [m] at q
      rw [show (k:Int)+(i:Int)=((k+i:Nat):Int) by lia]
      exact q
    · refine eJ (fun w=>z (by injection w)) ⟨_,rfl,rfl,fun m h1 h2=>?_⟩
      by_cases em:m=k+i
      · subst em
        rw [show k+i+1=k+(i+1) by lia]
        lia
      · exact no m h1 (by lia)
  · rintro σ H' ⟨o1,rfl,rfl,no⟩
    have m:=xH (c:=t.cps.toList) (k:=k) fun m h1 h2=>no m h1 (by lia)
    rw [m] at q
    exact ⟨_,rfl,q⟩
theorem n8 (F:bO K "_law_rooms_of" "_law_rooms_of" dF f fd) {f0:Addr} {fd0:FuncData} (fu:Def P w K mg base "_law_mate" ["_law_text_here","_law_at"] 1 (gZ K ca) f0 fd0) (ba:mg "range" = none) (aK:mg "len" = none):aH P w K mg base bM 2 f fd ["_law_text_here"] (gy K ca):=by
  refine F.ok cq (fun vs H Q E h=>?_) (fun cdv A outer s H vs Q E hr h=>?_)
  · obtain ⟨t,n,rfl,hB,lt2,hn,q⟩:=h
    rfl
  obtain ⟨t,n,rfl,hB,lt2,hn,q⟩:=h
  refine ⟨_,ai (aB (i:=1) cq.nd rfl (Or.inr rfl) (cY ae))
    (ai (cD PassesOwn.never rfl (eg rfl ba (aa (aD hG rfl aK cj (aa (pv 0) ae)) ae)) (aJ (i:=2) cq.nd rfl (Or.inr rfl)) (ak (bu (aU cM (bX oW (pv 0) (pv 2) (fun _ _=>rfl)) bD (aL _)) (ai (aB (i:=3) cq.nd rfl (Or.inl rfl) (aS fu hr (aa (pv 0) (aa (pv 2) ae))))
    (ai (qW PassesOwn.never (aU cM (bX oW (pv 0) (aC jV (pv 3) au) (fun _ _=>rfl)) bD (aL _)) (ak (aB (i:=3) cq.nd rfl (Or.inl rfl) (aC jV (pv 3) au))))
    (ak (aW (cL PySem.F.plainAttrs_list PySem.F.slot_list_append PySem.F.type_list_append bt (pv 1) (aa (pv 3) ae)))))) bh)))
    (ai (aB (i:=4) cq.nd rfl (Or.inl rfl) (cY ae))
    (ai (cD PassesOwn.never rfl (eg rfl ba (aa (aD aR rfl aK cj (aa (pv 1) ae)) ae)) (aJ (i:=2) cq.nd rfl (Or.inr rfl)) (ak (bu (aU cM (cL PySem.F.plainAttrs_list PySem.F.slot_list_index PySem.F.type_list_index vO (pv 1) (aa (bX bJ (pv 1) (pv 2) (fun _ _=>rfl)) ae)) (pv 2) (aL _)) (ak (aW (cL PySem.F.plainAttrs_list PySem.F.slot_list_append PySem.F.type_list_append bt (pv 4) (aa (gP rfl (eg rfl ba (aa (aD aR rfl aK cj (aa (pv 1) ae)) ae)) rfl rfl rfl rfl (N:=["_law_j","_law_starts","_law_k"]) (.own (.cap (j:=1) rfl rfl rfl (.cap (j:=2) rfl rfl rfl .nil))) (fun _ _ _ _ _ _=>(aJ (i:=0) (by show List.Nodup (["_law_j","_law_starts","_law_k"]:List Str); decide +kernel) rfl (Or.inl rfl))) (fun _ _ _ _ _ _=>(tq (aU cM (bX (qS (K:=K) rfl) (pv 1) (pv 0) (fun _ _=>rfl)) (bX (qS (K:=K) rfl) (pv 1) (pv 2) (fun _ _=>rfl)) (aL _)))) (fun _ _ _ _ _ _=>(pv 0))) ae)))) bh)))
    (ak (aA (pv 4)))))),?_⟩
  obtain ⟨fd,gs,ah,W,_⟩:=kR hB
  have lc:=bU t
  have lz:t.length<=sizeLine:=sz (by lia)
  have lb:=(ma hB (n:=n) (by lia)).2
  have stb:∀ i,i<=t.cps.toList.length->(a8 t.cps.toList i).length<=40:=fun i hi=>by
    have:=(pL t.cps.toList hi).length_le
    lia
  refine ⟨Nat.zero_le _,fun ps hps=>?_⟩
  have s1:=ao.new (ao.refl H) hps (.lst [])
  refine ⟨_,rfl,t,rfl,lz,_,rfl,by lia,by lia,eS (lo:=0) (n:=((t.length:Nat):Int).toNat) (fun i σ H'=>∃ (o1 o2 o3:Option V),σ=[some (.str t),some (.ref ps),o1,o2,o3]/\ao H H'/\H' ps=some (.lst (((a8 t.cps.toList i).map fun p=>((bE t.cps.toList p.2.toNat:Nat):Int)).map V.int))/\i<=t.cps.toList.length) ⟨_,_,_,rfl,s1,ag,Nat.zero_le _⟩ ?_ ?_⟩
  · rintro i σ H2 hi ⟨o1,o2,o3,rfl,s2,hs2,hi2⟩
    have hk:i < t.cps.toList.length:=by lia
    have hat:=mO (x:=t) (i:=(0:Int)+(i:Int)) (by lia) (by rw [show ((0:Int)+(i:Int)).toNat=i by lia]; exact List.getElem?_eq_getElem hk)
    have gi:t.cps.toList.getD i 0=t.cps.toList[i]:=by rw [List.getD_eq_getElem?_getD,List.getElem?_eq_getElem hk]; rfl
    have bs:=congrArg (List.map fun p:Pair=>((bE t.cps.toList p.2.toNat:Nat):Int)) (gw t.cps.toList i)
    rw [List.map_append] at bs
    refine ⟨_,rfl,_,rfl,t,_,_,rfl,rfl,lz,hat,rfl,_,rfl,mv (oh _) ?_⟩
    by_cases hc:t.cps.toList[i]=40
    · rw [gi,if_pos hc] at bs
      have mf:((i:Int),bN t.cps.toList i)∈fd:=W.bw.mpr (ko.mpr ⟨i,hk,by rw [gi]; exact hc,rfl⟩)
      have E:=W.ends mf
      simp only at E
      obtain ⟨e,he⟩:∃ e:Nat,bN t.cps.toList i=(e:Int):=⟨(bN t.cps.toList i).toNat,by lia⟩
      rw [he] at E bs
      simp only [Int.toNat_natCast] at E
      have c0:t.cps.toList.getD 0 0=40:=uI hB (by lia)
      refine eO hc ⟨_,rfl,_,rfl,t,i,(by rw [Int.zero_add]; rfl),by lia,by lia,?_⟩
      rw [he]
      refine ⟨fun m σ H'=>∃ (x:Nat),σ=[some (.str t),some (.ref ps),some (.int ((0:Int)+(i:Int))),some (.int (x:Int)),o3]/\H2=H'/\bE t.cps.toList x=bE t.cps.toList e/\1<=x/\x < t.cps.toList.length/\m=x,⟨_,e,rfl,rfl,rfl,by lia,by lia,rfl⟩,?_⟩
      rintro m σ H3 ⟨x,rfl,rfl,ex,x1,x2,em⟩
      have hx:x - 1 < t.cps.toList.length:=by lia
      have hat2:=mO (x:=t) (i:=(x:Int) - 1) (by lia) (by rw [show ((x:Int) - 1).toNat=x - 1 by lia]; exact List.getElem?_eq_getElem hx)
      have gx:t.cps.toList.getD (x - 1) 0=t.cps.toList[x - 1]:=by rw [List.getD_eq_getElem?_getD,List.getElem?_eq_getElem hx]; rfl
      have rx:=gB t.cps.toList (x - 1)
      rw [show x - 1+1=x by lia,gx] at rx
      refine ⟨_,rfl,_,rfl,_,_,rfl,rfl,t,_,_,rfl,rfl,lz,hat2,rfl,_,rfl,mv (qJ _) ?_⟩
      by_cases h41:t.cps.toList[x - 1]=41
      · rw [if_pos h41] at rx
        have x0:x - 1≠0:=fun z=>by
          rw [<- gx,z,c0] at h41
          cases h41
        refine eO h41 ⟨fun σ' H'=>σ'=[some (.str t),some (.ref ps),some (.int ((0:Int)+(i:Int))),some (.int ((x:Int) - 1)),o3]/\H2=H',?_,⟨_,rfl,_,_,rfl,rfl,rfl,rfl⟩⟩
        rintro σ' H' ⟨rfl,rfl⟩
        exact ⟨x - 1,by lia,x - 1,by rw [show ((x - 1:Nat):Int)=(x:Int) - 1 by lia],rfl,by rw [<- rx,ex],by lia,by lia,rfl⟩
      · rw [if_neg h41] at rx
        have ls:=stb i (by lia)
        refine eJ h41 ⟨_,rfl,.inl ⟨rfl,_,aq.of hs2⟩,_,rfl,ps,_,_,rfl,rfl,hs2,by rw [List.length_map,List.length_map]; exact iy (by lia),_,_,_,rfl,s2.upd hps _,?_,hk⟩
        rw [ag,bs,List.map_append]
        show some (HO.lst (_++[V.int (x:Int)]))=some (HO.lst (_++[V.int ((bE t.cps.toList ((e:Nat):Int).toNat:Nat):Int)]))
        rw [Int.toNat_natCast,<- ex,rx]
    · rw [gi,if_neg hc,List.map_nil,List.append_nil] at bs
      exact eJ hc ⟨_,_,_,rfl,s2,by rw [bs]; exact hs2,hk⟩
  · rintro σ H2 ⟨o1,o2,o3,rfl,s2,hs2,_⟩
    rw [show ((t.length:Nat):Int).toNat=t.cps.toList.length by lia] at hs2
    have est:((a8 t.cps.toList t.cps.toList.length).map fun p=>((bE t.cps.toList p.2.toNat:Nat):Int))=fM t.cps.toList:=rfl
    rw [est] at hs2
    have lst':=iJ t.cps.toList
    generalize fM t.cps.toList=st at *
    have lm:(st.map V.int).length=st.length:=List.length_map _
    refine ⟨Nat.zero_le _,fun pf hpf=>?_⟩
    have s3:=ao.new s2 hpf (.lst [])
    have fpf:=s2.free hpf
    have nsf:ps≠pf:=ay hs2 hpf
    have hs3:=(ar (o:=.lst []) nsf).trans hs2
    have hf3:aZ H (upd H2 pf (.lst [])) pf []:=aZ.nil ag
    generalize upd H2 pf (.lst [])=H3 at s3 hs3 hf3 |-
    refine ⟨_,rfl,ps,_,rfl,.inl (aq.of hs3),_,rfl,by lia,by lia,eS (lo:=0) (n:=(((st.map V.int).length:Nat):Int).toNat) (fun i σ H'=>∃ (o1 o2:Option V),σ=[some (.str t),some (.ref ps),o1,o2,some (.ref pf)]/\ao H H'/\H' ps=some (.lst (st.map V.int))/\aZ H H' pf (((List.range i).filter fun k=>decide (st.idxOf (st.getD k 0)=k)).map fun k=>en st (st.getD k 0))) ⟨_,_,rfl,s3,hs3,hf3⟩ ?_ ?_⟩
    · rintro i σ H4 hi ⟨o1,o2,rfl,s4,hs4,hf4⟩
      have hlt:i < st.length:=by lia
      have ati:=gb (ns:=st) (i:=(0:Int)+(i:Int)) (by lia) (by lia)
      rw [show ((0:Int)+(i:Int)).toNat=i by lia] at ati
      have mem:st.getD i 0∈st:=by rw [getD_at hlt]; exact List.getElem_mem hlt
      obtain ⟨zs,ez,lzs⟩:=hf4.len
      have lf:zs.length<=i:=by
        rw [lzs,List.length_map]
        exact Nat.le_trans (List.length_filter_le _ _) (by rw [List.length_range]; exact Nat.le_refl _)
      have gu:=zx st i
      refine ⟨_,rfl,.inl ⟨rfl,_,aq.of hs4⟩,_,rfl,_,rfl,ps,_,_,_,rfl,rfl,aq.of hs4,ati,ps,st,_,rfl,rfl,aq.of hs4,mem,_,rfl,rfl,_,rfl,?_⟩
      by_cases e:st.idxOf (st.getD i 0)=i
      · rw [if_pos e] at gu
        refine eO (by rw [e,Int.zero_add]) ⟨_,rfl,.inl ⟨rfl,_,aq.of ez⟩,_,rfl,ps,_,rfl,.inl (aq.of hs4),_,rfl,by lia,by lia,fun D hD=>m6 (lo:=0) (n:=(((st.map V.int).length:Nat):Int).toNat) (fun m ys H'=>ao H4 H'/\H' D=some (.lst ys)/\ys=(((List.range m).filter fun j=>decide (st.getD j 0=st.getD i 0)).map fun (j:Nat)=>(j:Int)).map V.int/\m<=st.length) (sz (by lia)) ⟨ao.new (ao.refl H4) hD _,ag,rfl,Nat.zero_le _⟩ (fun m ys H' hm h=>by rw [h.2.2.1,List.length_map,List.length_map]; exact Nat.le_trans (List.length_filter_le _ _) (by rw [List.length_range]; exact Nat.le_refl _)) (fun m ys H' R R0 hm h r r0=>?_) (fun ys H' h=>?_)⟩
        · obtain ⟨sm,hy,ey,hm2⟩:=h
          have atm:=gb (ns:=st) (i:=(0:Int)+(m:Int)) (by lia) (by lia)
          rw [show ((0:Int)+(m:Int)).toNat=m by lia] at atm
          have hs5:=sm _ _ hs4
          refine ⟨Ext.set rfl,⟨_,rfl,_,rfl,ps,_,_,_,rfl,rfl,aq.of hs5,atm,_,rfl,_,rfl,ps,_,_,_,rfl,rfl,aq.of hs5,ati,rfl,_,rfl,?_⟩⟩
          by_cases c1:st.getD m 0=st.getD i 0
          · refine eO (congrArg V.int c1) ⟨_,rfl,r _ _ hy ⟨sm.upd hD _,ag,?_,by lia⟩⟩
            rw [List.range_succ,List.filter_append,List.map_append,List.map_append,<- ey,List.filter_cons,if_pos (decide_eq_true c1),Int.zero_add]
            rfl
          · refine eJ (Aw c1) (r0 _ ⟨sm,hy,?_,by lia⟩)
            rw [List.range_succ,List.filter_append,List.map_append,List.map_append,<- ey,List.filter_cons,if_neg (by rw [decide_eq_false c1]; decide)]
            simp
        · obtain ⟨sm,hy,ey,hm2⟩:=h
          rw [show (((st.map V.int).length:Nat):Int).toNat=st.length by lia] at ey
          have ey':ys=(en st (st.getD i 0)).map V.int:=ey
          rw [ey'] at hy
          refine ⟨pf,_,_,rfl,rfl,sm _ _ ez,iy (by lia),_,_,rfl,(s4.trans sm).upd fpf _,(ar nsf).trans (sm _ _ hs4),?_⟩
          rw [gu]
          exact hf4.push ez sm hD hy (s4.free hD)
      · rw [if_neg e,List.append_nil] at gu
        exact eJ (fun z=>e (by have:=V.int.inj z; lia)) ⟨_,_,rfl,s4,hs4,by rw [gu]; exact hf4⟩
    · rintro σ H4 ⟨o1,o2,rfl,s4,hs4,hf4⟩
      rw [show (((st.map V.int).length:Nat):Int).toNat=st.length by lia] at hf4
      exact ⟨_,rfl,q pf H4 s4 fpf hf4⟩
theorem iA (F:bO K "__init__" "Family.__init__" bo ca.bW fd):aH P w K mg base bM 1 ca.bW fd ["self","word","least"] (di K ca):=by
  refine F.ok iM (fun vs H Q E h=>?_) (fun cdv A outer s H vs Q E hr h=>?_)
  · obtain ⟨x,dx,w,l,rfl,hx,q⟩:=h
    rfl
  obtain ⟨x,dx,w,l,rfl,hx,q⟩:=h
  refine ⟨_,ai (kG (pv 0) (pv 1) rfl)
    (ak (kG (pv 0) (pv 2) rfl)),?_⟩
  refine ⟨_,rfl,_,rfl,x,ca.ax,dx,_,rfl,hx,CA.hJ,CA.gz,(by show 0 < 1000; decide),?_⟩
  refine ⟨_,rfl,_,rfl,x,ca.ax,dx,_,rfl,ag,CA.hJ,CA.gk,(by show 1 < 1000; decide),?_⟩
  exact q _ _ mM (pI w l)
theorem gp (F:bO K "__init__" "SplitFamily.__init__" aN ca.bC fd) {fd0:FuncData} (dB:bH P w K mg base ["self","word","least"] 1 (di K ca) ca.bW fd0):aH P w K mg base bM 3 ca.bC fd ["self","word"] (ck K ca):=by
  refine F.ok gn (fun vs H Q E h=>?_) (fun cdv A outer s H vs Q E hr h=>?_)
  · obtain ⟨x,dx,w,rfl,hx,q⟩:=h
    rfl
  obtain ⟨x,dx,w,rfl,hx,q⟩:=h
  refine ⟨_,ak (aW (pG CA.nU CA.cm_Family___init___Brackets dB hr (aa (pv 0) (aa (pv 1) (aa au ae))))),?_⟩
  exact ⟨_,rfl,_,rfl,x,dx,w,0,rfl,hx,fun fs H' e f=>q fs H' e f⟩
theorem kQ (F:bO K "__init__" "Brackets.__init__" bQ ca.cI fd) {fd0:FuncData} (cn:bH P w K mg base ["self","word"] 3 (ck K ca) ca.bC fd0):aH P w K mg base bM 5 ca.cI fd ["self"] (dE K ca):=by
  refine F.ok kx (fun vs H Q E h=>?_) (fun cdv A outer s H vs Q E hr h=>?_)
  · obtain ⟨x,dx,rfl,hx,q⟩:=h
    rfl
  obtain ⟨x,dx,rfl,hx,q⟩:=h
  refine ⟨_,ak (aW (pG CA.i6 CA.cm_SplitFamily___init___Brackets cn hr (aa (pv 0) (aa bD ae)))),?_⟩
  exact ⟨_,rfl,x,dx,_,rfl,hx,fun fs H' e f=>q fs H' e f⟩
theorem uU (F:bO K "closes" "closes" iK f fd):aH P w K mg base bM 1 f fd ["text"] (mx K ca):=by
  refine F.ok iX (fun vs H Q E h=>?_) (fun cdv A outer s H vs Q E hr h=>?_)
  · obtain ⟨x,rfl,q⟩:=h
    rfl
  obtain ⟨x,rfl,q⟩:=h
  refine ⟨_,ai (aB (i:=1) iX.nd rfl (Or.inl rfl) au)
    (ai (cD PassesOwn.never rfl (r6 (pv 0)) (aJ (i:=2) iX.nd rfl (Or.inl rfl)) (ak (bu (aU cM (pv 2) bD (aL _)) (ak (oH (i:=1) iX.nd rfl (Or.inl rfl) au qN)) (ak (bu (PW.pt (rY (aU cM (pv 2) bD (aL _)) (pM (aU wR (pv 1) au (aL _))))) (ak (oH (i:=1) iX.nd rfl (Or.inl rfl) au yQ)) (ak (aA dm)))))))
    (ak (aA (gg cM (pv 1) au (aL _))))),?_⟩
  have fin:∀ b,clo 0 x.cps.toList=b->Q (.bl b) H:=fun b h=>by rw [<- h]; exact q
  refine ⟨_,rfl,x,rfl,o9 (x:=x) (fun i σ H'=>H'=H/\∃ (o:Option V) (d:Nat),σ=[some (.str x),some (.int d),o]/\clo 0 x.cps.toList=clo d (x.cps.toList.drop i)) ⟨rfl,none,0,rfl,rfl⟩ ?_ ?_⟩
  · rintro i c σ H' hc ⟨rfl,o,d,rfl,e⟩
    rw [qR hc] at e
    refine ⟨_,rfl,rfl,_,rfl,mv (oh c) ?_⟩
    by_cases h1:c=40
    · refine eO h1 ⟨_,rfl,_,_,rfl,rfl,rfl,_,d+1,rfl,?_⟩
      rw [e,h1,dU]
    · refine eJ h1 ⟨_,rfl,rfl,_,rfl,mv (qJ c) ?_⟩
      by_cases h2:c=41
      · refine eO h2 ⟨_,rfl,_,_,rfl,rfl,_,rfl,?_⟩
        cases d with
        | zero=>exact cp (fin false (by rw [e,h2,dw]))
        | succ d =>
          refine eO (by lia) ⟨_,rfl,_,_,rfl,rfl,rfl,some (.str ⟨#[c]⟩),d,?_,?_⟩
          · show [some (V.str x),some (V.int (((d+1:Nat):Int) - 1)),some (V.str ⟨#[c]⟩)]=_
            rw [show ((d+1:Nat):Int) - 1=(d:Int) by lia]
          · rw [e,h2,cF]
      · exact eJ h2 (cp (fin false (by rw [e,cR h1 h2])))
  · rintro σ H' ⟨rfl,o,d,rfl,e⟩
    refine ⟨_,rfl,rfl,fin _ ?_⟩
    rw [e,qQ,iG]
    cases d with
    | zero=>rfl
    | succ d=>exact (decide_eq_false fun z=>by injection z with z; lia).symm
theorem lR (F:bO K "is_one" "Brackets.is_one" cy ca.ee fd) {f0:Addr} {fd0:FuncData} (nM:Def P w K mg base "closes" ["text"] 1 (mx K ca) f0 fd0):aH P w K mg base bM 2 ca.ee fd ["self","thing"] (fK K ca):=by
  refine F.ok lT (fun vs H Q E h=>?_) (fun cdv A outer s H vs Q E hr h=>?_)
  · obtain ⟨x,t,rfl,q⟩:=h
    rfl
  obtain ⟨x,t,rfl,q⟩:=h
  refine ⟨_,ak (aA (aS nM hr (aa (pv 1) ae))),?_⟩
  exact ⟨_,rfl,t,rfl,q⟩
theorem gC (F:bO K "refuse_other" "Family.refuse_other" aQ ca.bp fd) {fd0:FuncData} (fR:bH P w K mg base ["self","thing"] 2 (fK K ca) ca.ee fd0):aH P w K mg base bM 3 ca.bp fd ["self","thing"] (bB K ca):=by
  refine F.ok gL (fun vs H Q E h=>?_) (fun cdv A outer s H vs Q E hr h=>?_)
  · obtain ⟨x,dx,fs,t,rfl,hx,fo,hB,q⟩:=h
    rfl
  obtain ⟨x,dx,fs,t,rfl,hx,fo,hB,q⟩:=h
  refine ⟨_,ak (bu (cW (cG (jY (pv 0) CA.hJ CA.mt_Brackets_is_one fR hr (aa (pv 1) ae)))) (ak nR) bh),?_⟩
  exact ⟨_,rfl,x,dx,fs,rfl,hx,fo,_,rfl,x,t,rfl,_,rfl,by rw [hB]; exact cp (q H (ao.refl H))⟩
theorem mV (F:bO K "closed_in_runs" "closed_in_runs" cZ f fd):aH P w K mg base bM 1 f fd ["text"] (eE K ca):=by
  refine F.ok bG (fun vs H Q E h=>?_) (fun cdv A outer s H vs Q E hr h=>?_)
  · obtain ⟨t,rfl,hB,hz,q⟩:=h
    rfl
  obtain ⟨t,rfl,hB,hz,q⟩:=h
  refine ⟨_,ai (aB (i:=1) bG.nd rfl (Or.inl rfl) (cY ae))
    (ai (aB (i:=2) bG.nd rfl (Or.inl rfl) (cY ae))
    (ai (aB (i:=3) bG.nd rfl (Or.inl rfl) au)
    (ai (aB (i:=4) bG.nd rfl (Or.inl rfl) bD)
    (ai (cD PassesOwn.never rfl (r6 (pv 0)) (aJ (i:=5) bG.nd rfl (Or.inl rfl)) (ai (bu (aU cM (pv 5) bD (aL _)) (ai (aW (cL PySem.F.plainAttrs_list PySem.F.slot_list_append PySem.F.type_list_append bt (pv 2) (aa (pv 3) ae)))
    (ak (oH (i:=3) bG.nd rfl (Or.inl rfl) au qN))) (tj (bu (aU cM (pv 4) bD (aL _)) (ak (aW (cL PySem.F.plainAttrs_list PySem.F.slot_list_append PySem.F.type_list_append bt (pv 1) (aa (cY ae) ae)))) bh)
    (ak (aW (cL PySem.F.plainAttrs_list PySem.F.slot_list_append PySem.F.type_list_append bt (bX bJ (pv 1) (qK ox au) (fun _ _=>rfl)) (aa (uK PySem.F.plainAttrs_list PySem.F.slot_list_pop PySem.F.type_list_pop vb (pv 2)) ae))))))
    (ak (aB (i:=4) bG.nd rfl (Or.inl rfl) (pv 5)))))
    (ak (aA (pv 1))))))),?_⟩
  have lc:=bU t
  have tc:t.cps.size=t.length:=rfl
  refine ⟨Nat.zero_le _,fun pr hpr=>⟨Nat.zero_le _,fun ps hps=>?_⟩⟩
  have s1:=ao.new (ao.refl H) hpr (.lst [])
  have fps:=s1.free hps
  have nrs:pr≠ps:=ay ag hps
  have s2:=ao.new s1 hps (.lst [])
  have hr2:aZ (upd (upd H pr (.lst [])) ps (.lst [])) (upd (upd H pr (.lst [])) ps (.lst [])) pr []:=aZ.nil ((ar nrs).trans ag)
  have hs2:upd (upd H pr (.lst [])) ps (.lst []) ps=some (.lst (([]:List Int).map V.int)):=ag
  generalize upd (upd H pr (.lst [])) ps (.lst [])=H2 at s2 hr2 hs2 |-
  refine ⟨_,rfl,t,rfl,o9 (x:=t) (fun i σ H'=>∃ (o1:Option V) (ah:Str) (S:List Int) (b:Nat) (gs:List (List Int)) (a:Bool),σ=[some (.str t),some (.ref pr),some (.ref ps),some (.int (b:Int)),some (.str ah),o1]/\aT (t.cps.toList.take i)=(S,b,gs,a)/\ao H H'/\fH H2 H'/\aZ H2 H' pr gs/\H' ps=some (.lst (S.map V.int))/\(a=true↔ah=Str.ofString "(")/\S.length<=i/\gs.length<=i/\∀ g∈gs,g.length<=i) ⟨_,_,[],0,[],true,rfl,rfl,s2,fH.refl H2,hr2,hs2,⟨fun _=>rfl,fun _=>rfl⟩,Nat.le_refl _,Nat.le_refl _,fun g hg=>by cases hg⟩ ?_ ?_⟩
  · rintro i c σ H3 hc ⟨o1,ah,S,b,gs,a,rfl,e,sm,st,hr3,hs3,ha,l1,l3,l2⟩
    have hi:i < t.cps.toList.length:=by
      have:=(Array.getElem?_eq_some_iff.mp hc).1
      simpa using this
    have hci:t.cps.toList[i]=c:=by
      have:=(Array.getElem?_eq_some_iff.mp hc).2
      simpa using this
    have tkm:aT (t.cps.toList.take (i+1))=j7 (S,b,gs,a) c:=by rw [List.take_succ_eq_append_getElem hi,hci,eQ,e]
    have mc:=oj hB i (by lia)
    rw [e] at mc
    obtain ⟨mi,cl⟩:=mc
    simp only at mi cl
    have lsm:(S.map V.int).length=S.length:=List.length_map _
    refine ⟨_,rfl,rfl,_,rfl,mv (oh c) ?_⟩
    rcases vt hi cl with ⟨g1,g2⟩ | ⟨g1,d,he,g2⟩
    · have c40:c=40:=by rw [<- hci]; exact g1
      subst c40
      refine eO rfl ⟨_,rfl,.inl ⟨rfl,_,aq.of hs3⟩,_,rfl,ps,_,_,rfl,rfl,hs3,by rw [lsm]; exact iy (by lia),?_⟩
      have hr4:=hr3.updC (o:=.lst (S.map V.int++[.int (b:Int)])) hs2 nrs
      refine ⟨_,rfl,_,_,rfl,rfl,_,rfl,_,_,S++[(b:Int)],b+1,gs,true,rfl,by rw [tkm,kr],sm.upd fps _,st.upd ps _,hr4,by rw [ag,List.map_append]; rfl,⟨fun _=>by rw [uQ],fun _=>rfl⟩,by rw [List.length_append]; exact Nat.succ_le_succ l1,by lia,fun g hg=>by have:=l2 g hg; lia⟩
    · have c41:c=41:=by rw [<- hci]; exact g1
      subst c41
      obtain ⟨S0,m,rfl⟩:∃ S0 m,S=S0++[m]:=by
        have hne:S≠[]:=by intro z; subst z; simp at he
        exact ⟨S.dropLast,S.getLast hne,(List.dropLast_concat_getLast hne).symm⟩
      refine eJ (by decide) ⟨fun σ H'=>∃ (gs':List (List Int)) (g':List Int),σ=[some (.str t),some (.ref pr),some (.ref ps),some (.int (b:Int)),some (.str ah),some (.str ⟨#[41]⟩)]/\ao H H'/\fH H2 H'/\aZ H2 H' pr (gs'++[g'])/\H' ps=some (.lst ((S0++[m]).map V.int))/\j7 (S0++[m],b,gs,a) 41=(S0,b,gs'++[g'++[m]],false)/\gs'.length<=i/\g'.length<=i/\∀ g∈gs',g.length<=i,?_,?_⟩
      · refine ⟨_,rfl,rfl,_,rfl,?_⟩
        by_cases ea:ah=Str.ofString "("
        · obtain ⟨xs,ex,lx⟩:=hr3.len
          have at1:=ha.mpr ea
          subst at1
          refine eO (congrArg V.str ea) ⟨_,rfl,.inl ⟨rfl,_,aq.of ex⟩,Nat.zero_le _,fun pn hpn=>?_⟩
          have ex1:=(ar (o:=.lst []) (ay ex hpn)).trans ex
          refine ⟨pr,_,_,rfl,rfl,ex1,iy (by lia),gs,[],rfl,(ao.new sm hpn _).upd hpr _,(st.new pn).upd pr _,hr3.snoc ex hpn (st.free' hpn) [],(ar (Ne.symm nrs)).trans ((ar (ay hs3 hpn)).trans hs3),kO S0 m b gs,l3,Nat.zero_le _,l2⟩
        · have af:a=false:=by
            cases a with
            | false=>rfl
            | true=>exact absurd (ha.mp rfl) ea
          subst af
          obtain ⟨gs0,g0,rfl,_⟩:=mi.dn rfl
          exact eJ (fun z=>ea (V.str.inj z)) ⟨gs0,g0,rfl,sm,st,hr3,hs3,jN S0 m b gs0 g0,by rw [List.length_append] at l3; lia,l2 g0 (by simp),fun g hg=>l2 g (by simp [hg])⟩
      · rintro σ H4 ⟨rs0,rl,rfl,sm4,st4,hr4,hs4,em,k1,k2,k3⟩
        obtain ⟨xs,ex,lx⟩:=hr4.len
        obtain ⟨bb,hb1,hb2,hb3,hb4⟩:=hr4.get ex (j:=rs0.length) (ns:=rl) (by simp)
        have atl:iU xs (-1)=some (.ref bb):=by
          have lxs:xs.length=rs0.length+1:=by rw [lx,List.length_append]; rfl
          have nx:xs≠[]:=fun z=>by rw [z] at lxs; cases lxs
          have ex2:xs=xs.dropLast++[xs.getLast nx]:=(List.dropLast_concat_getLast nx).symm
          rw [ex2,List.getElem?_append_right (by rw [List.length_dropLast]; lia),List.length_dropLast,show rs0.length - (xs.length - 1)=0 by lia] at hb1
          rw [ex2,n5]
          exact hb1
        have hlast:((S0++[m]).map V.int)[((S0++[m]).map V.int).length - 1]? = some (.int m):=by
          rw [List.length_map,List.length_append,List.map_append]
          show (S0.map V.int++[V.int m])[S0.length+1 - 1]? = _
          rw [Nat.add_sub_cancel,List.getElem?_append_right (by simp)]
          simp
        have hdl:((S0++[m]).map V.int).dropLast=S0.map V.int:=by rw [List.map_append]; exact List.dropLast_concat
        have nbp:bb≠ps:=fun z=>by rw [z,hs2] at hb3; cases hb3
        have hb5:=(ar (o:=.lst (((S0++[m]).map V.int).dropLast)) nbp).trans hb2
        have hr5:=hr4.updC (o:=.lst (((S0++[m]).map V.int).dropLast)) hs2 nrs
        have ex5:=(ar (o:=.lst (((S0++[m]).map V.int).dropLast)) nrs).trans ex
        have sm5:=sm4.upd fps (.lst (((S0++[m]).map V.int).dropLast))
        have st5:=st4.upd ps (.lst (((S0++[m]).map V.int).dropLast))
        refine ⟨_,rfl,_,rfl,pr,_,_,_,rfl,rfl,aq.of ex,atl,.inl ⟨rfl,_,aq.of hb2⟩,_,rfl,.inl ⟨rfl,_,aq.of hs4⟩,ps,_,_,rfl,rfl,hs4,hlast,bb,_,_,rfl,rfl,hb5,by rw [List.length_map]; exact iy (by lia),?_⟩
        have hr6:=hr5.put ex5 hb1 (rl++[m])
        rw [show (rl++[m]).map V.int=rl.map V.int++[V.int m] by rw [List.map_append]; rfl,List.set_append_right _ _ (Nat.le_refl _),Nat.sub_self] at hr6
        have fb:H bb=none:=s2.free hb3
        refine ⟨_,rfl,_,_,S0,b,rs0++[rl++[m]],false,rfl,by rw [tkm,em],sm5.upd fb _,st5.upd bb _,hr6,?_,⟨fun z=>(by cases z),fun z=>?_⟩,?_,?_,fun g hg=>?_⟩
        · rw [ar (Ne.symm nbp),ag,hdl]
        · have:(⟨#[41]⟩:Str)=⟨#[40]⟩:=by rw [<- uQ]; exact z
          cases this
        · rw [List.length_append] at l1
          have l1':S0.length+1<=i:=l1
          lia
        · rw [List.length_append]
          show rs0.length+1<=i+1
          lia
        · rcases List.mem_append.mp hg with z | z
          · have:=k3 g z; lia
          · rw [List.mem_singleton.mp z,List.length_append]
            show rl.length+1<=i+1
            lia
  · rintro σ H3 ⟨o1,ah,S,b,gs,a,rfl,e,sm,st,hr3,hs3,ha,l1,l3,l2⟩
    rw [show t.cps.size=t.cps.toList.length by lia,List.take_length] at e
    rw [e] at q
    exact ⟨_,rfl,q _ _ sm hpr (hr3.since s2) (by show gs.length<=80; lia) (fun g hg=>by have:=l2 g hg; lia)⟩
theorem lF (F:bO K "brackets_to_rooms" "brackets_to_rooms" cf f fd) {fd0:FuncData} (bP:bH P w K mg base ["self"] 5 (dE K ca) ca.cI fd0) {fd1:FuncData} (aP:bH P w K mg base ["self","thing"] 3 (bB K ca) ca.bp fd1) {f2:Addr} {fd2:FuncData} (dh:Def P w K mg base "closed_in_runs" ["text"] 1 (eE K ca) f2 fd2) (cE:mg "sorted" = none):aH P w K mg base bM 7 f fd ["thing"] (e7 K ca):=by
  refine F.ok kY (fun vs H Q E h=>?_) (fun cdv A outer s H vs Q E hr h=>?_)
  · obtain ⟨t,n,rfl,hB,lt2,hn,q⟩:=h
    rfl
  obtain ⟨t,n,rfl,hB,lt2,hn,q⟩:=h
  refine ⟨_,ai (aW (jY (mz CA.mk_Brackets CA.oO bP hr) CA.hJ CA.mt_Brackets_refuse_other aP hr (aa (pv 0) ae)))
    (ak (aA (aD (mB (qL hr)) rfl cE gQ (aa (gP rfl (dk (aS dh hr (aa (pv 0) ae))) rfl rfl rfl rfl (N:=["run"]) (.own .nil) (fun _ _ _ _ _ _=>(aJ (i:=0) (by show List.Nodup (["run"]:List Str); decide +kernel) rfl (Or.inl rfl))) (fun _ _ _ _ _ _=>gN) (fun _ _ _ _ _ _=>(aD (lW (K:=K) rfl) rfl cE gQ (aa (pv 0) ae)))) ae)))),?_⟩
  intro x dx nx ndx nex
  refine ⟨x,dx,rfl,ag,fun fsx Hx1 ex fx=>⟨rfl,?_⟩⟩
  have sx:ao H Hx1:=by rw [ex]; exact ((ao.new (ao.refl H) ndx _).upd nx _).upd nx _
  have hx:Hx1 x=some (.ins ca.ax dx fsx):=by rw [ex]; exact ag
  refine ⟨x,dx,fsx,rfl,hx,fx.no "refuse_other" (by decide) (by decide),_,rfl,x,dx,fsx,t,rfl,hx,fx.no "is_one" (by decide) (by decide),hB,fun H2 s2=>?_⟩
  have t2:=sx.trans s2
  have hsum:∀ g∈(aT t.cps.toList).2.2.1,g.length < 64:=fun g hg=>xT hB (by rw [bU]; lia) hg
  have hfew:=xY hB (by rw [bU]; lia)
  refine ⟨_,rfl,t,rfl,hB,by lia,fun p H3 s3 f3 h3 z1 z2=>?_⟩
  generalize (aT t.cps.toList).2.2.1=rs at *
  obtain ⟨xs,ex,lxs⟩:=h3.len
  have t3:=t2.trans s3
  refine ⟨p,rfl,⟨_,aq.of ex⟩,fun D hD=>fV (xs:=xs) (fun k ys H'=>∃ ts:List (List Int),ao H3 H'/\H' D=some (.lst ys)/\aZ H3 H' D ts/\Paired (fun (r t:List Int)=>t.Perm r/\t.Pairwise (·<=·)) (rs.take k) ts/\k<=rs.length) (sz (by lia)) ⟨[],ao.new (ao.refl H3) hD _,ag,aZ.nil ag,.nil,Nat.zero_le _⟩ (fun k ys H' hk h=>?_) (fun k v ys H' R R0 hx h r r0=>?_) (fun ys H' h=>?_)⟩
  · obtain ⟨ts,sm,hy,lt,pt,hk'⟩:=h
    obtain ⟨us,eu,lu⟩:=lt.len
    rw [hy] at eu
    cases eu
    refine ⟨aq.of (sm _ _ ex),?_⟩
    rw [lu,<- Paired.length pt,List.length_take]
    lia
  · obtain ⟨ts,sm,hy,lt,pt,hk'⟩:=h
    obtain ⟨b,ns,rfl,hn',hb,_⟩:=h3.at ex hx
    have hlt:k < rs.length:=(List.getElem?_eq_some_iff.mp hn').1
    refine ⟨Ext.set rfl,qh (eK ⟨_,rfl,b,ns,rfl,aq.of (sm _ _ hb),hsum ns (List.mem_of_getElem? hn'),fun c ms hc hp hs=>?_⟩)⟩
    have k9:=ao.new (ao.refl H') hc (.lst (ms.map V.int))
    refine r _ _ (k9 _ _ hy) ⟨ts++[ms],(sm.trans k9).upd hD _,ag,lt.push hy k9 hc ag (sm.free hc),?_,hlt⟩
    rw [List.take_add_one,hn']
    exact kX pt (.cons ⟨hp,hs⟩ .nil)
  · obtain ⟨ts,sm,hy,lt,pt,hk'⟩:=h
    rw [List.take_of_length_le (by lia)] at pt
    have ltl:=Paired.length pt
    refine ⟨D,_,ts,rfl,lt,by lia,fun pq ss H5 s5 f5 l5 hp hs _=>?_⟩
    have s15:=(t3.trans sm).trans s5
    exact q pq ts ss H5 s15 ((t3.trans sm).free f5) (l5.since t3) pt hp hs
theorem qy (F:bO K "_law_whole" "_law_whole" eL f fd) (aV:mg "isinstance" = none) (mS:mg "int" = none) (rQ:mg "bool" = none):aH P w K mg base bM 1 f fd ["_law_found"] (jc K ca):=by
  refine F.ok qA (fun vs H Q E h=>?_) (fun cdv A outer s H vs Q E hr h=>?_)
  · obtain ⟨n,rfl,q⟩:=h
    rfl
  obtain ⟨n,rfl,q⟩:=h
  refine ⟨_,ak (aA (ou (aD fF rfl aV d6 (aa (pv 0) (aa (jz (v:=.ty "int") rfl mS uy rfl) ae))) (oB (uv (aD fF rfl aV d6 (aa (pv 0) (aa (jz (v:=.ty "bool") rfl rQ xw rfl) ae))))))),?_⟩
  exact ⟨_,rfl,_,_,_,_,_,rfl,mH,.int _,sH,_,rfl,eK ⟨_,rfl,_,_,_,_,_,rfl,mH,.int _,r9,_,rfl,q⟩⟩
theorem oC (F:bO K "_law_numbers" "_law_numbers" dP f fd) {f0:Addr} {fd0:FuncData} (jO:Def P w K mg base "_law_whole" ["_law_found"] 1 (jc K ca) f0 fd0) (aV:mg "isinstance" = none) (dz:mg "list" = none) (aK:mg "len" = none) (ba:mg "range" = none):aH P w K mg base bM 2 f fd ["_law_found","_law_due"] (fN K ca):=by
  refine F.ok j0 (fun vs H Q E h=>?_) (fun cdv A outer s H vs Q E hr h=>?_)
  · obtain ⟨p,r,ns,rfl,hp,hr2,hz,q⟩:=h
    rfl
  obtain ⟨p,r,ns,rfl,hp,hr2,hz,q⟩:=h
  refine ⟨_,ai (bu (PW.pt (jw (cW (cG (aD fF rfl aV d6 (aa (pv 0) (aa (jz (v:=.ty "list") rfl dz iH rfl) ae))))) (i0 (aU oa (aD aR rfl aK cj (aa (pv 0) ae)) (aD aR rfl aK cj (aa (pv 1) ae)) (aL _))))) (ak (aA dm)) bh)
    (ai (cD PassesOwn.never rfl (eg rfl ba (aa (aD aR rfl aK cj (aa (pv 1) ae)) ae)) (aJ (i:=2) j0.nd rfl (Or.inl rfl)) (ak (bu (PW.pt (jw (cW (cG (aS jO hr (aa (bX bJ (pv 0) (pv 2) (fun _ _=>rfl)) ae)))) (i0 (aU oa (bX bJ (pv 0) (pv 2) (fun _ _=>rfl)) (bX bJ (pv 1) (pv 2) (fun _ _=>rfl)) (aL _))))) (ak (aA dm)) bh)))
    (ak (aA dm))),?_⟩
  have lm:(ns.map V.int).length=ns.length:=List.length_map _
  refine ⟨_,rfl,_,_,_,_,_,rfl,mH,.lst hp,lL,_,rfl,cp ⟨_,rfl,p,_,rfl,.inl (aq.of hp),_,rfl,r,_,rfl,.inl (aq.of hr2),rfl,_,rfl,oM rfl ?_⟩⟩
  refine ⟨_,rfl,r,_,rfl,.inl (aq.of hr2),_,rfl,by lia,by lia,eS (lo:=0) (n:=(((ns.map V.int).length:Nat):Int).toNat) (fun i σ H'=>H=H'/\∃ o,σ=[some (.ref p),some (.ref r),o]) ⟨rfl,_,rfl⟩ ?_ ?_⟩
  · rintro i σ H' hi ⟨rfl,o,rfl⟩
    have at1:=gb (ns:=ns) (i:=(0:Int)+(i:Int)) (by lia) (by lia)
    exact ⟨_,rfl,_,rfl,p,_,_,_,rfl,rfl,aq.of hp,at1,_,rfl,_,rfl,cp ⟨_,rfl,_,rfl,p,_,_,_,rfl,rfl,aq.of hp,at1,_,rfl,_,rfl,r,_,_,_,rfl,rfl,aq.of hr2,at1,rfl,_,rfl,oM rfl ⟨rfl,_,rfl⟩⟩⟩
  · rintro σ H' ⟨rfl,o,rfl⟩
    exact q
theorem rb (F:bO K "_law_rows" "_law_rows" fz f fd) {f0:Addr} {fd0:FuncData} (cw:Def P w K mg base "_law_numbers" ["_law_found","_law_due"] 2 (fN K ca) f0 fd0) (aV:mg "isinstance" = none) (dz:mg "list" = none) (aK:mg "len" = none) (ba:mg "range" = none):aH P w K mg base bM 3 f fd ["_law_found","_law_due"] (jP K ca):=by
  refine F.ok mq (fun vs H Q E h=>?_) (fun cdv A outer s H vs Q E hr h=>?_)
  · obtain ⟨p,r,H0,H1,rs,rfl,hp,hr2,hz,hm,q⟩:=h
    rfl
  obtain ⟨p,r,H0,H1,rs,rfl,hp,hr2,hz,hm,q⟩:=h
  refine ⟨_,ai (bu (PW.pt (jw (cW (cG (aD fF rfl aV d6 (aa (pv 0) (aa (jz (v:=.ty "list") rfl dz iH rfl) ae))))) (i0 (aU oa (aD aR rfl aK cj (aa (pv 0) ae)) (aD aR rfl aK cj (aa (pv 1) ae)) (aL _))))) (ak (aA dm)) bh)
    (ai (cD PassesOwn.never rfl (eg rfl ba (aa (aD aR rfl aK cj (aa (pv 1) ae)) ae)) (aJ (i:=2) mq.nd rfl (Or.inl rfl)) (ak (bu (cW (cG (aS cw hr (aa (bX bJ (pv 0) (pv 2) (fun _ _=>rfl)) (aa (bX bJ (pv 1) (pv 2) (fun _ _=>rfl)) ae))))) (ak (aA dm)) bh)))
    (ak (aA dm))),?_⟩
  obtain ⟨xs,ex,lx⟩:=hp.len
  obtain ⟨ys,ey,ly⟩:=hr2.len
  refine ⟨_,rfl,_,_,_,_,_,rfl,mH,.lst ex,lL,_,rfl,cp ⟨_,rfl,p,_,rfl,.inl (aq.of ex),_,rfl,r,_,rfl,.inl (aq.of ey),rfl,_,rfl,oM (congrArg (fun k:Nat=>V.int (k:Int)) (lx.trans ly.symm)) ?_⟩⟩
  refine ⟨_,rfl,r,_,rfl,.inl (aq.of ey),_,rfl,by lia,by lia,eS (lo:=0) (n:=((ys.length:Nat):Int).toNat) (fun i σ H'=>H=H'/\∃ o,σ=[some (.ref p),some (.ref r),o]) ⟨rfl,_,rfl⟩ ?_ ?_⟩
  · rintro i σ H' hi ⟨rfl,o,rfl⟩
    have hik:i < rs.length:=by lia
    have ei:rs[i]? = some rs[i]:=List.getElem?_eq_getElem hik
    obtain ⟨b1,e1,h1,_⟩:=hp.get ex ei
    obtain ⟨b2,e2,h2,_⟩:=hr2.get ey ei
    have at1:iU xs ((0:Int)+(i:Int))=some (.ref b1):=by rw [Int.zero_add]; exact ky e1
    have at2:iU ys ((0:Int)+(i:Int))=some (.ref b2):=by rw [Int.zero_add]; exact ky e2
    exact ⟨_,rfl,_,rfl,p,_,_,_,rfl,rfl,aq.of ex,at1,_,rfl,_,rfl,r,_,_,_,rfl,rfl,aq.of ey,at2,b1,b2,rs[i],rfl,h1,h2,hm _ (List.getElem_mem hik),_,rfl,cp ⟨rfl,_,rfl⟩⟩
  · rintro σ H' ⟨rfl,o,rfl⟩
    exact q
theorem rN (F:bO K "_law_text" "_law_text" fE f fd) (aV:mg "isinstance" = none) (mF:mg "str" = none):aH P w K mg base bM 1 f fd ["_law_found","_law_due"] (jT K ca):=by
  refine F.ok rE (fun vs H Q E h=>?_) (fun cdv A outer s H vs Q E hr h=>?_)
  · obtain ⟨t,rfl,q⟩:=h
    rfl
  obtain ⟨t,rfl,q⟩:=h
  refine ⟨_,ak (aA (ou (aD fF rfl aV d6 (aa (pv 0) (aa (jz (v:=.ty "str") rfl mF uS rfl) ae))) (oB (gg cM (pv 0) (pv 1) (aL _))))),?_⟩
  refine ⟨_,rfl,_,_,_,_,_,rfl,mH,.str _,nq,_,rfl,eK ⟨_,rfl,_,rfl,rfl,?_⟩⟩
  rw [decide_eq_true rfl]
  exact q
theorem jt (F:bO K "__init__" "Family.__init__" bA ca.cA fd):aH P w K mg base bM 1 ca.cA fd ["self","word","least"] (dN K ca):=by
  refine F.ok ju (fun vs H Q E h=>?_) (fun cdv A outer s H vs Q E hr h=>?_)
  · obtain ⟨x,dx,w,l,rfl,hx,q⟩:=h
    rfl
  obtain ⟨x,dx,w,l,rfl,hx,q⟩:=h
  refine ⟨_,ai (kG (pv 0) (pv 1) rfl)
    (ak (kG (pv 0) (pv 2) rfl)),?_⟩
  refine ⟨_,rfl,_,rfl,x,ca.aG,dx,_,rfl,hx,CA.kL,CA.je,(by show 0 < 1000; decide),?_⟩
  refine ⟨_,rfl,_,rfl,x,ca.aG,dx,_,rfl,ag,CA.kL,CA.iF,(by show 1 < 1000; decide),?_⟩
  exact q _ _ mM (pI w l)
theorem g5 (F:bO K "__init__" "SplitFamily.__init__" aY ca.bK fd) {fd0:FuncData} (dS:bH P w K mg base ["self","word","least"] 1 (dN K ca) ca.cA fd0):aH P w K mg base bM 3 ca.bK fd ["self","word"] (cJ K ca):=by
  refine F.ok g8 (fun vs H Q E h=>?_) (fun cdv A outer s H vs Q E hr h=>?_)
  · obtain ⟨x,dx,w,rfl,hx,q⟩:=h
    rfl
  obtain ⟨x,dx,w,rfl,hx,q⟩:=h
  refine ⟨_,ak (aW (pG CA.nU CA.cm_Family___init___Rooms dS hr (aa (pv 0) (aa (pv 1) (aa au ae))))),?_⟩
  exact ⟨_,rfl,_,rfl,x,dx,w,0,rfl,hx,fun fs H' e f=>q fs H' e f⟩
theorem lU (F:bO K "__init__" "Rooms.__init__" cP ca.eD fd) {fd0:FuncData} (cV:bH P w K mg base ["self","word"] 3 (cJ K ca) ca.bK fd0):aH P w K mg base bM 5 ca.eD fd ["self"] (fQ K ca):=by
  refine F.ok my (fun vs H Q E h=>?_) (fun cdv A outer s H vs Q E hr h=>?_)
  · obtain ⟨x,dx,rfl,hx,q⟩:=h
    rfl
  obtain ⟨x,dx,rfl,hx,q⟩:=h
  refine ⟨_,ak (aW (pG CA.i6 CA.cm_SplitFamily___init___Rooms cV hr (aa (pv 0) (aa bD ae)))),?_⟩
  exact ⟨_,rfl,x,dx,_,rfl,hx,fun fs H' e f=>q fs H' e f⟩
theorem rf (F:bO K "each_once" "each_once" fG f fd) (cE:mg "sorted" = none) (dz:mg "list" = none) (ba:mg "range" = none) (aK:mg "len" = none):aH P w K mg base bM 1 f fd ["numbers"] (gX K ca):=by
  refine F.ok qM (fun vs H Q E h=>?_) (fun cdv A outer s H vs Q E hr h=>?_)
  · obtain ⟨l,ns,rfl,hl,h64,q⟩:=h
    rfl
  obtain ⟨l,ns,rfl,hl,h64,q⟩:=h
  refine ⟨_,ak (aA (gg (uf (zI hr)) (aD nh rfl cE gQ (aa (pv 0) ae)) (yh rfl rfl dz rfl ba (aa (aD aR rfl aK cj (aa (pv 0) ae)) ae)) (aL _))),?_⟩
  have lm:(ns.map V.int).length=ns.length:=List.length_map _
  refine ⟨_,rfl,l,ns,rfl,aq.of hl,h64,fun ps ms hps hp hs=>?_⟩
  have s1:=ao.new (ao.refl H) hps (.lst (ms.map V.int))
  have hm1:upd H ps (.lst (ms.map V.int)) ps=some (.lst (ms.map V.int)):=ag
  generalize upd H ps (.lst (ms.map V.int))=H1 at s1 hm1 |-
  refine ⟨_,rfl,l,_,rfl,.inl (aq.of (s1 _ _ hl)),_,rfl,by lia,by lia,by lia,fun pr hpr=>?_⟩
  have s2:=ao.new (ao.refl H1) hpr (.lst (iL 0 (((ns.map V.int).length:Nat):Int).toNat))
  refine ⟨ps,pr,_,_,rfl,rfl,aq.of (s2 _ _ hm1),aq.of ag,mm ms,?_,?_⟩
  · rw [qb]; exact mm _
  have e:ng (ms.map V.int) (iL 0 (((ns.map V.int).length:Nat):Int).toNat)=eG ns:=by
    rw [qb,nO,rS hp hs,show (((ns.map V.int).length:Nat):Int).toNat=ns.length by lia]
  have last:∀ b:Bool,b=eG ns->Q (.bl b) (upd H1 pr (.lst (iL 0 (((ns.map V.int).length:Nat):Int).toNat))):=fun b z=>by rw [z]; exact q _ (s1.trans s2)
  exact last _ e
theorem xS (F:bO K "flat" "flat" kP f fd):aH P w K mg base bM 1 f fd ["rows"] (kN K ca):=by
  refine F.ok pQ (fun vs H Q E h=>?_) (fun cdv A outer s H vs Q E hr h=>?_)
  · obtain ⟨l,bs,xss,rfl,hl,rw_,hz,q⟩:=h
    rfl
  obtain ⟨l,bs,xss,rfl,hl,rw_,hz,q⟩:=h
  refine ⟨_,ai (aB (i:=1) pQ.nd rfl (Or.inl rfl) (cY ae))
    (ai (cD PassesOwn.never rfl (dk (pv 0)) (aJ (i:=2) pQ.nd rfl (Or.inl rfl)) (ak (aW (cL PySem.F.plainAttrs_list PySem.F.slot_list_extend PySem.F.type_list_extend uO (pv 1) (aa (pv 2) ae)))))
    (ak (aA (pv 1)))),?_⟩
  have lb:=rw_.len
  refine ⟨Nat.zero_le _,fun pf hpf=>?_⟩
  have s1:=ao.new (ao.refl H) hpf (.lst [])
  refine ⟨_,rfl,l,rfl,⟨_,aq.of (s1 _ _ hl)⟩,gG (xs:=bs.map V.ref) (fun i σ H'=>∃ (o1:Option V),σ=[some (.ref l),some (.ref pf),o1]/\ao H H'/\H' pf=some (.lst (xss.take i).flatten)) ⟨_,rfl,s1,ag⟩ (fun i σ H' _ h=>aq.of (h.choose_spec.2.1 _ _ hl)) ?_ ?_⟩
  · rintro i v σ H2 hv ⟨o1,rfl,sm,hf⟩
    obtain ⟨b,xs,rfl,hx,hb⟩:=rw_.get hv
    have et:(xss.take (i+1)).flatten=(xss.take i).flatten++xs:=by
      rw [List.take_add_one,hx,List.flatten_append]
      simp
    have hz2:(xss.take i).flatten.length+xs.length<=1000:=by
      have h1:(xss.take (i+1)).flatten.length<=xss.flatten.length:=by
        conv=>rhs; rw [<- List.take_append_drop (i+1) xss,List.flatten_append,List.length_append]
        lia
      rw [et,List.length_append] at h1
      lia
    have nb:b≠pf:=ay hb hpf
    refine ⟨_,rfl,.inl ⟨rfl,_,aq.of hf⟩,_,rfl,pf,b,_,_,rfl,rfl,hf,sm _ _ hb,sz (by lia),?_⟩
    exact ⟨_,rfl,sm.upd hpf _,by rw [ag,et]⟩
  · rintro σ H2 ⟨o1,rfl,sm,hf⟩
    rw [List.take_of_length_le (by rw [List.length_map]; lia)] at hf
    exact ⟨_,rfl,q pf H2 sm hpf hf⟩
theorem qP (F:bO K "any_cross" "any_cross" fB f fd):aH P w K mg base bM 1 f fd ["pairs"] (jS K ca):=by
  refine F.ok fY (fun vs H Q E h=>?_) (fun cdv A outer s H vs Q E hr h=>?_)
  · obtain ⟨l,ps,rfl,hl,q⟩:=h
    rfl
  obtain ⟨l,ps,rfl,hl,q⟩:=h
  refine ⟨_,ai (cD PassesOwn.never rfl (dk (pv 0)) (rC rfl (iB (aJ (i:=1) fY.nd rfl (Or.inl rfl)) (iB (aJ (i:=2) fY.nd rfl (Or.inl rfl)) o5))) (ak (cD PassesOwn.never rfl (dk (pv 0)) (rC rfl (iB (aJ (i:=3) fY.nd rfl (Or.inl rfl)) (iB (aJ (i:=4) fY.nd rfl (Or.inl rfl)) o5))) (ak (bu (yk mL mL mL (pv 1) (pv 3) (pv 2) (pv 4)) (ak (aA dm)) bh)))))
    (ak (aA dm)),?_⟩
  obtain ⟨xs,el,lxs,pr⟩:=hl.len
  refine ⟨_,rfl,l,rfl,⟨_,aq.of el⟩,gG (xs:=xs) (fun i σ H'=>∃ (o1 o2 o3 o4:Option V),σ=[some (.ref l),o1,o2,o3,o4]/\H=H'/\∀ p∈ps.take i,ps.any (ki p)=false) ⟨_,_,_,_,rfl,rfl,by simp⟩ (fun i σ H' _ h=>by obtain ⟨_,_,_,_,_,rfl,_⟩:=h; exact aq.of el) ?_ ?_⟩
  · rintro i v σ H2 hv ⟨o1,o2,o3,o4,rfl,rfl,al⟩
    obtain ⟨pp,tt,hpp,rfl,htt⟩:=pr.get hv
    refine ⟨tt,_,rfl,jh.of htt,rfl,_,_,rfl,_,_,rfl,rfl,?_⟩
    refine ⟨_,rfl,l,rfl,⟨_,aq.of el⟩,gG (xs:=xs) (fun j σ H'=>∃ (o3 o4:Option V),σ=[some (.ref l),some (.int pp.1),some (.int pp.2),o3,o4]/\H=H'/\∀ r∈ps.take j,ki pp r=false) ⟨_,_,rfl,rfl,by simp⟩ (fun i σ H' _ h=>by obtain ⟨_,_,_,rfl,_⟩:=h; exact aq.of el) ?_ ?_⟩
    · rintro j v σ H3 hv ⟨o3,o4,rfl,rfl,al2⟩
      obtain ⟨rr,t2,hrr,rfl,ht2⟩:=pr.get hv
      refine ⟨t2,_,rfl,jh.of ht2,rfl,_,_,rfl,_,_,rfl,rfl,?_⟩
      have next:ki pp rr=false->∀ r∈ps.take (j+1),ki pp r=false:=fun hc r hr=>by
        rw [List.take_add_one,hrr] at hr
        rcases List.mem_append.mp hr with z | z
        · exact al2 r z
        · have:r=rr:=by simpa using z
          rw [this]; exact hc
      refine ⟨_,rfl,_,rfl,_,_,rfl,rfl,_,rfl,?_⟩
      by_cases c1:pp.1 < rr.1
      · refine eO c1 ⟨_,rfl,_,_,rfl,rfl,_,rfl,?_⟩
        by_cases c2:rr.1 < pp.2
        · refine eO c2 ⟨_,rfl,_,_,rfl,rfl,_,rfl,?_⟩
          by_cases c3:pp.2 < rr.2
          · refine eO c3 ?_
            have:d9 ps=true:=hV.mpr ⟨pp,List.mem_of_getElem? hpp,rr,List.mem_of_getElem? hrr,c1,c2,c3⟩
            rw [this] at q
            exact q
          · exact eJ c3 ⟨_,_,rfl,rfl,next (by unfold ki; simp [c3])⟩
        · exact eJ c2 ⟨_,rfl,cp ⟨_,_,rfl,rfl,next (by unfold ki; simp [c2])⟩⟩
      · exact eJ c1 ⟨_,rfl,cp ⟨_,_,rfl,rfl,next (by unfold ki; simp [c1])⟩⟩
    · rintro σ H3 ⟨o3,o4,rfl,rfl,al2⟩
      rw [List.take_of_length_le (by lia)] at al2
      refine ⟨_,_,_,_,rfl,rfl,fun p hp=>?_⟩
      rw [List.take_add_one,hpp] at hp
      rcases List.mem_append.mp hp with z | z
      · exact al p z
      · have:p=pp:=by simpa using z
        rw [this,List.any_eq_false]
        intro r hr
        rw [al2 r hr]
        decide
  · rintro σ H2 ⟨o1,o2,o3,o4,rfl,rfl,al⟩
    rw [List.take_of_length_le (by lia)] at al
    have:d9 ps=false:=by
      unfold d9
      rw [List.any_eq_false]
      intro p hp
      rw [al p hp]
      decide
    rw [this] at q
    exact q
theorem qB (F:bO K "neighbours" "neighbours" eM f fd) {f0:Addr} {fd0:FuncData} (gW:Def P w K mg base "flat" ["rows"] 1 (kN K ca) f0 fd0) (dz:mg "list" = none) (tG:mg "zip" = none):aH P w K mg base bM 2 f fd ["rooms"] (i5 K ca):=by
  refine F.ok qD (fun vs H Q E h=>?_) (fun cdv A outer s H vs Q E hr h=>?_)
  · obtain ⟨l,H0,rs,rfl,hl,hz,hz2,q⟩:=h
    rfl
  obtain ⟨l,H0,rs,rfl,hl,hz,hz2,q⟩:=h
  refine ⟨_,ak (aA (aS gW hr (aa (gP rfl (dk (pv 0)) rfl rfl rfl rfl (N:=["room"]) (.own .nil) (fun _ _ _ _ _ _=>(aJ (i:=0) (by show List.Nodup (["room"]:List Str); decide +kernel) rfl (Or.inl rfl))) (fun _ _ _ _ _ _=>gN) (fun _ _ _ _ _ _=>(xM (K:=K) rfl rfl rfl dz rfl tG (aa (pv 0) (aa (jE (vU (K:=K) rfl) (pv 0) (kE au) kA) ae))))) ae))),?_⟩
  obtain ⟨xs,el,lxs⟩:=hl.len
  refine ⟨_,rfl,l,rfl,⟨_,aq.of el⟩,fun D hD=>fV (xs:=xs) (fun k ys H'=>∃ (bs:List Addr) (xss:List (List V)),ao H H'/\H' D=some (.lst ys)/\ys=bs.map V.ref/\eC H' bs xss/\(∀ b∈bs,b≠D)/\dZ H' xss.flatten (fq (rs.take k))/\k<=rs.length/\bs.length=k) (sz (by lia)) ⟨[],[],ao.new (ao.refl H) hD _,ag,rfl,.nil,fun b hb=>absurd hb (by simp),.nil,Nat.zero_le _,rfl⟩ (fun k ys H' hk h=>?_) (fun k v ys H' R R0 hx h r r0=>?_) (fun ys H' h=>?_)⟩
  · obtain ⟨bs,xss,sm,_,rfl,_,_,_,_,lb⟩:=h
    exact ⟨aq.of (sm _ _ el),by rw [List.length_map]; lia⟩
  · obtain ⟨bs,xss,sm,hy,rfl,rws,nD,pr,hk,lb⟩:=h
    obtain ⟨b,ns,rfl,hn,hb,_⟩:=hl.at el hx
    have hlt:k < rs.length:=(List.getElem?_eq_some_iff.mp hn).1
    have hb2:=sm _ _ hb
    have ln:ns.length<=rs.flatten.length:=len_one rs ns (List.mem_of_getElem? hn)
    refine ⟨Ext.set rfl,qh (eK ⟨_,rfl,_,rfl,_,rfl,b,_,rfl,aq.of hb2,fun ps hps=>?_⟩)⟩
    have s3:=ao.new (ao.refl H') hps (.lst (fU (ns.map V.int) (some 1) none))
    have e1:fU (ns.map V.int) (some 1) none=(ns.drop 1).map V.int:=by rw [lh,uE]
    refine ⟨b,ps,ns,ns.drop 1,rfl,aq.of (s3 _ _ hb2),aq.of (by rw [ag,e1]),by lia,fun pz H3 s4 f4 h4=>?_⟩
    have s5:=s3.trans s4
    obtain ⟨zs,ez,lz,pz4⟩:=h4.len
    have hy5:=s5 _ _ hy
    have nz:pz≠D:=fun z=>by
      rw [z] at f4
      rw [s3 _ _ hy] at f4
      cases f4
    refine r _ _ hy5 ⟨bs++[pz],xss++[zs],(sm.trans s5).upd hD _,ag,by rw [List.map_append]; rfl,?_,?_,?_,hlt,by rw [List.length_append]; show bs.length+1=k+1; lia⟩
    · have up:∀ {c:Addr} {ws:List V},c≠D->H3 c=some (.lst ws)->upd H3 D (.lst (bs.map V.ref++[.ref pz])) c=some (.lst ws):=fun n e=>(ar n).trans e
      have go:∀ {bs:List Addr} {xss:List (List V)},eC H' bs xss->(∀ b∈bs,b≠D)->eC (upd H3 D (.lst (bs.map V.ref++[.ref pz]))) bs xss->True:=fun _ _ _=>trivial
      have rws5:=rws.same s5
      have g:∀ {cs:List Addr} {wss:List (List V)},eC H3 cs wss->(∀ c∈cs,c≠D)->eC (upd H3 D (.lst (bs.map V.ref++[.ref pz]))) (cs++[pz]) (wss++[zs]):=by
        intro cs wss h hc
        induction h with
        | nil=>exact .cons (up nz ez) .nil
        | cons x _ ih=>exact .cons (up (hc _ (by simp)) x) (ih fun c hc'=>hc c (by simp [hc']))
      exact g rws5 nD
    · intro c hc
      rcases List.mem_append.mp hc with z | z
      · exact nD c z
      · rw [show c=pz by simpa using z]; exact nz
    · have e2:fq (rs.take (k+1))=fq (rs.take k)++ns.zip (ns.drop 1):=by
        unfold fq
        rw [List.take_add_one,hn,List.map_append,List.flatten_append]
        simp
      rw [e2,List.flatten_append]
      have p1:=(pr.same s5).app pz4
      rw [show ([zs]:List (List V)).flatten=zs by simp]
      exact p1.updL hy5 _
  · obtain ⟨bs,xss,sm,hy,rfl,rws,nD,pr,hk,lb⟩:=h
    rw [List.take_of_length_le (by lia)] at pr
    have lf:(fq rs).length<=rs.flatten.length:=by
      unfold fq
      rw [List.length_flatten,List.length_flatten,List.map_map]
      have go:∀ rs:List (List Int),(rs.map (List.length ∘ fun r=>r.zip (r.drop 1))).sum<=(rs.map List.length).sum:=fun rs=>by
        induction rs with
        | nil=>exact Nat.le_refl _
        | cons r rs ih =>
          rw [List.map_cons,List.map_cons,List.sum_cons,List.sum_cons]
          have:(r.zip (r.drop 1)).length<=r.length:=by rw [List.length_zip]; exact Nat.min_le_left _ _
          show (r.zip (r.drop 1)).length+_<=_
          lia
      exact go rs
    refine ⟨D,bs,xss,rfl,hy,rws,by rw [pr.length]; lia,fun pf H3 s3 f3 h3=>q pf H3 (sm.trans s3) (sm.free f3) ⟨_,h3,pr.same s3⟩⟩
theorem nJ (F:bO K "is_one" "Rooms.is_one" dC ca.fP fd) {f0:Addr} {fd0:FuncData} (fw:Def P w K mg base "each_once" ["numbers"] 1 (gX K ca) f0 fd0) {f1:Addr} {fd1:FuncData} (gW:Def P w K mg base "flat" ["rows"] 1 (kN K ca) f1 fd1) {f2:Addr} {fd2:FuncData} (kg:Def P w K mg base "any_cross" ["pairs"] 1 (jS K ca) f2 fd2) {f3:Addr} {fd3:FuncData} (jK:Def P w K mg base "neighbours" ["rooms"] 2 (i5 K ca) f3 fd3) (cE:mg "sorted" = none):aH P w K mg base bM 3 ca.fP fd ["self","thing"] (gv K ca):=by
  refine F.ok nF (fun vs H Q E h=>?_) (fun cdv A outer s H vs Q E hr h=>?_)
  · obtain ⟨x,l,H0,rs,rfl,hl,hz,hz2,hz1,q⟩:=h
    rfl
  obtain ⟨x,l,H0,rs,rfl,hl,hz,hz2,hz1,q⟩:=h
  refine ⟨_,ai (bu (PW.pt (jw (aU (yJ (qL hr)) (cY ae) (pv 1) (by rfl)) (i0 (cW (cG (aS fw hr (aa (aS gW hr (aa (pv 1) ae)) ae))))))) (ak (aA dm)) bh)
    (ak (aA (ou (gg (x8 (qL hr)) (pv 1) (aD (mB (qL hr)) rfl cE gQ (aa (gP rfl (dk (pv 1)) rfl rfl rfl rfl (N:=["room"]) (.own .nil) (fun _ _ _ _ _ _=>(aJ (i:=0) (by show List.Nodup (["room"]:List Str); decide +kernel) rfl (Or.inl rfl))) (fun _ _ _ _ _ _=>gN) (fun _ _ _ _ _ _=>(aD (lW (K:=K) rfl) rfl cE gQ (aa (pv 0) ae)))) ae)) (aL _)) (oB (uv (aS kg hr (aa (aS jK hr (aa (pv 1) ae)) ae))))))),?_⟩
  refine ⟨Nat.zero_le _,fun pe hpe=>?_⟩
  have s1:=ao.new (ao.refl H) hpe (.lst [])
  have hl1:=hl.same s1
  have he1:upd H pe (.lst []) pe=some (.lst []):=ag
  generalize upd H pe (.lst [])=H1 at s1 hl1 he1 |-
  refine ⟨_,rfl,pe,l,H0,rs,rfl,rfl,he1,hl1,_,rfl,?_⟩
  cases hv:rs.any fun r=>decide (r=[]) with
  | true =>
    obtain ⟨r,hr,e⟩:=List.any_eq_true.mp hv
    rw [wt ⟨r,hr,of_decide_eq_true e⟩] at q
    exact eK (eK (q _ s1))
  | false =>
    have hne:∀ r∈rs,r≠[]:=fun r hr e=>by
      have:=List.any_eq_false.mp hv r hr
      exact this (decide_eq_true e)
    obtain ⟨bs,el,rws⟩:=hl1.rws
    refine cp ⟨_,rfl,l,bs,_,rfl,el,rws,by rw [sd,List.length_map]; lia,fun pf H2 s2 f2 h2=>?_⟩
    rw [sd] at h2
    refine ⟨pf,rs.flatten,rfl,h2,hz2,fun H3 s3=>⟨_,rfl,?_⟩⟩
    have s13:=s1.trans (s2.trans s3)
    have hl3:=hl.same s13
    cases hE:eG rs.flatten with
    | false =>
      rw [v8 hE] at q
      exact eK (q _ s13)
    | true =>
      rw [rG hne hE] at q
      obtain ⟨xs,ex,lxs⟩:=hl3.len
      refine cp ⟨_,rfl,_,rfl,l,rfl,⟨_,aq.of ex⟩,fun D hD=>fV (xs:=xs) (fun k ys H'=>∃ ts:List (List Int),ao H3 H'/\H' D=some (.lst ys)/\aZ H3 H' D ts/\Paired (fun (r t:List Int)=>t.Perm r/\t.Pairwise (·<=·)) (rs.take k) ts/\k<=rs.length) (sz (by lia)) ⟨[],ao.new (ao.refl H3) hD _,ag,aZ.nil ag,.nil,Nat.zero_le _⟩ (fun k ys H' hk h=>?_) (fun k v ys H' R R0 hx h r r0=>?_) (fun ys H' h=>?_)⟩
      · obtain ⟨ts,sm,hy,lt,pt,hk'⟩:=h
        obtain ⟨us,eu,lu⟩:=lt.len
        rw [hy] at eu
        cases eu
        refine ⟨aq.of (sm _ _ ex),?_⟩
        rw [lu,<- Paired.length pt,List.length_take]
        lia
      · obtain ⟨ts,sm,hy,lt,pt,hk'⟩:=h
        obtain ⟨b,ns,rfl,hn,hb,_⟩:=hl3.at ex hx
        have hlt:k < rs.length:=(List.getElem?_eq_some_iff.mp hn).1
        refine ⟨Ext.set rfl,qh (eK ⟨_,rfl,b,ns,rfl,aq.of (sm _ _ hb),hz1 ns (List.mem_of_getElem? hn),fun c ms hc hp hs=>?_⟩)⟩
        have k9:=ao.new (ao.refl H') hc (.lst (ms.map V.int))
        refine r _ _ (k9 _ _ hy) ⟨ts++[ms],(sm.trans k9).upd hD _,ag,lt.push hy k9 hc ag (sm.free hc),?_,hlt⟩
        rw [List.take_add_one,hn]
        exact kX pt (.cons ⟨hp,hs⟩ .nil)
      · obtain ⟨ts,sm,hy,lt,pt,hk'⟩:=h
        rw [List.take_of_length_le (by lia)] at pt
        have ltl:=Paired.length pt
        refine ⟨D,_,ts,rfl,lt,by lia,fun pq ss H5 s5 f5 l5 hp hs _=>?_⟩
        have s15:=s13.trans (sm.trans s5)
        have hl5:=hl.same s15
        have ne:l≠pq:=by
          obtain ⟨_,e,_⟩:=hl3.same sm
          exact ay e f5
        refine ⟨2,_,by decide,dI.rooms hl5 l5 ne,⟨l,pq,rfl,rfl,ne⟩,_,rfl,?_⟩
        rw [rp pt hp hs hne hE]
        cases hR:lI rs with
        | false =>
          rw [hR,Bool.false_and] at q
          exact cp (q _ s15)
        | true =>
          rw [hR,Bool.true_and] at q
          exact eK ⟨_,rfl,l,H0,rs,rfl,hl5,by lia,by lia,fun pn H6 s6 f6 h6=>⟨pn,fq rs,rfl,h6,_,rfl,q _ (s15.trans s6)⟩⟩
theorem ik (F:bO K "refuse_other" "Family.refuse_other" bc ca.bS fd) {fd0:FuncData} (gT:bH P w K mg base ["self","thing"] 3 (gv K ca) ca.fP fd0):aH P w K mg base bM 4 ca.bS fd ["self","thing"] (cT K ca):=by
  refine F.ok iq (fun vs H Q E h=>?_) (fun cdv A outer s H vs Q E hr h=>?_)
  · obtain ⟨x,dx,fs,l,H0,rs,rfl,hx,fo,hl,z1,z2,z3,hB,q⟩:=h
    rfl
  obtain ⟨x,dx,fs,l,H0,rs,rfl,hx,fo,hl,z1,z2,z3,hB,q⟩:=h
  refine ⟨_,ak (bu (cW (cG (jY (pv 0) CA.kL CA.mt_Rooms_is_one gT hr (aa (pv 1) ae)))) (ak nR) bh),?_⟩
  exact ⟨_,rfl,x,dx,fs,rfl,hx,fo,_,rfl,x,l,H0,rs,rfl,hl,z1,z2,z3,fun H1 s1=>⟨_,rfl,by rw [hB]; exact cp (q H1 s1)⟩⟩
theorem mU (F:bO K "size_of" "Rooms.size_of" dj ca.eW fd) (tJ:mg "sum" = none) (aK:mg "len" = none):aH P w K mg base bM 1 ca.eW fd ["self","thing"] (gj K ca):=by
  refine F.ok mW (fun vs H Q E h=>?_) (fun cdv A outer s H vs Q E hr h=>?_)
  · obtain ⟨x,l,Ha,ls,rfl,hl,hz,q⟩:=h
    rfl
  obtain ⟨x,l,Ha,ls,rfl,hl,hz,q⟩:=h
  refine ⟨_,ak (aA (aD (vC rfl) rfl tJ yc (aa (gP rfl (dk (pv 1)) rfl rfl rfl rfl (N:=["room"]) (.own .nil) (fun _ _ _ _ _ _=>(aJ (i:=0) (by show List.Nodup (["room"]:List Str); decide +kernel) rfl (Or.inl rfl))) (fun _ _ _ _ _ _=>gN) (fun _ _ _ _ _ _=>(aD (qF (K:=K) rfl) rfl aK cj (aa (pv 0) ae)))) ae))),?_⟩
  obtain ⟨xs,el,lxs⟩:=hl.len
  refine ⟨_,rfl,l,rfl,⟨_,aq.of el⟩,fun D hD=>fV (xs:=xs) (fun k ys H'=>ao H H'/\H' D=some (.lst ys)/\ys=((ls.take k).map fun r=>(r.length:Int)).map V.int/\k<=ls.length) (sz (by lia)) ⟨ao.new (ao.refl H) hD _,ag,rfl,Nat.zero_le _⟩ (fun k ys H' hk h=>⟨aq.of (h.1 _ _ el),?_⟩) (fun k v ys H' R R0 hx h r r0=>?_) (fun ys H' h=>?_)⟩
  · rw [h.2.2.1,List.length_map,List.length_map,List.length_take]; lia
  · obtain ⟨sm,hy,ey,hk⟩:=h
    obtain ⟨b,ns,rfl,hn,hb,_⟩:=hl.at el hx
    have hlt:k < ls.length:=(List.getElem?_eq_some_iff.mp hn).1
    refine ⟨Ext.set rfl,qh (eK ⟨_,rfl,b,_,rfl,.inl (aq.of (sm _ _ hb)),r _ _ hy ⟨sm.upd hD _,ag,?_,hlt⟩⟩)⟩
    rw [List.take_add_one,hn,List.map_append,List.map_append,<- ey,List.length_map]
    rfl
  · obtain ⟨sm,hy,ey,hk⟩:=h
    rw [List.take_of_length_le (by lia)] at ey
    rw [ey] at hy
    refine ⟨D,_,rfl,aq.of hy,?_⟩
    rw [rT]
    exact q _ sm
theorem kW (F:bO K "rooms_to_brackets" "rooms_to_brackets" bY f fd) {fd0:FuncData} (eF:bH P w K mg base ["self"] 5 (fQ K ca) ca.eD fd0) {fd1:FuncData} (df:bH P w K mg base ["self","thing"] 4 (cT K ca) ca.bS fd1) {fd2:FuncData} (gF:bH P w K mg base ["self","thing"] 1 (gj K ca) ca.eW fd2) (aK:mg "len" = none):aH P w K mg base bM 7 f fd ["thing"] (eZ K ca):=by
  refine F.ok eU (fun vs H Q E h=>?_) (fun cdv A outer s H vs Q E hr h=>?_)
  · obtain ⟨l,H0,rs,n,rfl,hl,gd,hn,q⟩:=h
    rfl
  obtain ⟨l,H0,rs,n,rfl,hl,gd,hn,q⟩:=h
  refine ⟨_,ai (aW (jY (mz CA.mk_Rooms CA.sU eF hr) CA.kL CA.mt_Rooms_refuse_other df hr (aa (pv 0) ae)))
    (ai (aB (i:=1) eU.nd rfl (Or.inl rfl) (aC yI (cY (aa bD ae)) (jY (mz CA.mk_Rooms CA.sU eF hr) CA.kL CA.mt_Rooms_size_of gF hr (aa (pv 0) ae))))
    (ai (cD PassesOwn.never rfl (dk (pv 0)) (aJ (i:=2) eU.nd rfl (Or.inl rfl)) (ak (uL (aC oQ bD (aC og bD (aD aR rfl aK cj (aa (pv 2) ae)))) (uA (pv 1) (bX bJ (pv 2) (qK ox au) (fun _ _=>rfl)) set_list))))
    (ak (aA (cL PySem.F.plainAttrs_str PySem.F.slot_str_join PySem.F.type_str_join pH bD (aa (pv 1) ae)))))),?_⟩
  have fl:rs.flatten.length=n:=by rw [gd.flat.length_eq,gO]
  have lr:∀ r∈rs,r.length<=n:=fun r hr=>by
    have:=(List.sublist_flatten_of_mem hr).length_le
    lia
  have ln:rs.length<=n:=j5 gd.ne fl
  intro x dx nx ndx nex
  refine ⟨x,dx,rfl,ag,fun fsx Hx1 ex fx=>⟨rfl,?_⟩⟩
  have sx:ao H Hx1:=by rw [ex]; exact ((ao.new (ao.refl H) ndx _).upd nx _).upd nx _
  have hx:Hx1 x=some (.ins ca.aG dx fsx):=by rw [ex]; exact ag
  refine ⟨x,dx,fsx,rfl,hx,fx.no "refuse_other" (by decide) (by decide),_,rfl,x,dx,fsx,l,H0,rs,rfl,hx,fx.no "is_one" (by decide) (by decide),hl.same sx,by lia,by lia,fun r hr=>by have:=lr r hr; lia,gd.is,fun H2 s2=>?_⟩
  have t2:=sx.trans s2
  refine ⟨(by show 1<=sizeLine; decide),fun p1 hp1=>?_⟩
  have s3:=ao.new t2 hp1 (.lst [.str (Str.ofString "(")])
  have hp3:upd H2 p1 (.lst [.str (Str.ofString "(")]) p1=some (.lst [.str (Str.ofString "(")]):=ag
  generalize upd H2 p1 (.lst [.str (Str.ofString "(")])=H3 at s3 hp3 |-
  intro y dy ny ndy ney
  refine ⟨y,dy,rfl,ag,fun fsy Hy1 ey fy=>⟨rfl,?_⟩⟩
  have sy:ao H3 Hy1:=by rw [ey]; exact ((ao.new (ao.refl H3) ndy _).upd ny _).upd ny _
  have hy:Hy1 y=some (.ins ca.aG dy fsy):=by rw [ey]; exact ag
  have t4:=s3.trans sy
  refine ⟨y,dy,fsy,rfl,hy,fy.no "size_of" (by decide) (by decide),_,rfl,y,l,H0,rs,rfl,hl.same t4,by lia,fun H5 s5=>?_⟩
  have t5:=t4.trans s5
  rw [fl]
  refine ⟨p1,_,_,rfl,rfl,(sy.trans s5) _ _ hp3,by lia,by lia,sz (by simp; lia),fun pf hpf=>?_⟩
  have s6:=ao.new t5 hpf (.lst (List.replicate ((n:Nat):Int).toNat [V.str (Str.ofString "(")]).flatten)
  have fpf:=t5.free hpf
  have hf6:upd H5 pf (.lst (List.replicate ((n:Nat):Int).toNat [V.str (Str.ofString "(")]).flatten) pf=some (.lst ((kB (rs.take 0) n).map V.str)):=by
    rw [ag,xk,List.take_zero,wj,show ((n:Nat):Int).toNat=n by lia]
  have hl6:=hl.same s6
  generalize upd H5 pf (.lst (List.replicate ((n:Nat):Int).toNat [V.str (Str.ofString "(")]).flatten)=H6 at s6 hf6 hl6 |-
  obtain ⟨xs,ex,lxs⟩:=hl.len
  refine ⟨_,rfl,l,rfl,⟨_,aq.of (s6 _ _ ex)⟩,gG (xs:=xs) (fun i σ H'=>∃ (o1:Option V),σ=[some (.ref l),some (.ref pf),o1]/\ao H H'/\H' pf=some (.lst ((kB (rs.take i) n).map V.str))) ⟨_,rfl,s6,hf6⟩ (fun i σ H' _ h=>by obtain ⟨_,_,sm,_⟩:=h; exact aq.of (sm _ _ ex)) ?_ ?_⟩
  · rintro i v σ H7 hv ⟨o1,rfl,sm,hf⟩
    obtain ⟨b,r,rfl,hr,hb,_⟩:=hl.at ex hv
    have hm:=List.mem_of_getElem? hr
    have bd:=gd.bd hm (cu (gd.ne r hm))
    have hb7:=sm _ _ hb
    have l1:=lr r hm
    have lS:((kB (rs.take i) n).map V.str).length=n:=by unfold kB; simp
    have lmr:(r.map V.int).length=r.length:=List.length_map _
    have mulc:(Txt.mul (Str.ofString ")") (((r.map V.int).length:Nat):Int)).cps.toList=List.replicate r.length 41:=by
      rw [show Str.ofString ")" = ⟨#[41]⟩ by decide +kernel,qq,lmr,Int.toNat_natCast]
    have lmu:=bU (Txt.mul (Str.ofString ")") (((r.map V.int).length:Nat):Int))
    rw [mulc,List.length_replicate] at lmu
    have l40:(Str.ofString "(").length=1:=by decide +kernel
    refine ⟨_,rfl,b,_,rfl,.inl (aq.of hb7),_,_,rfl,rfl,qX (by lia) (by lia),_,_,rfl,rfl,sz (by lia),_,rfl,_,rfl,_,rfl,b,_,_,_,rfl,rfl,aq.of hb7,u9 (gd.ne r hm),pf,_,_,_,rfl,rfl,hf,sV bd.1 (by rw [lS]; exact bd.2),?_⟩
    have es:Str.ofString "("++Txt.mul (Str.ofString ")") (((r.map V.int).length:Nat):Int)=⟨(iW r.length).toArray⟩:=pk (by
      rw [ql,mulc,show (Str.ofString "(").cps.toList=[40] by decide +kernel]
      simp [iW])
    refine ⟨_,rfl,sm.upd fpf _,?_⟩
    rw [ag,es]
    show some (HO.lst (((kB (rs.take i) n).map V.str).set (lst r).toNat (V.str ⟨(iW r.length).toArray⟩)))=_
    rw [<- List.map_set,wq gd hr]
  · rintro σ H7 ⟨o1,rfl,sm,hf⟩
    rw [List.take_of_length_le (by lia)] at hf
    refine ⟨rfl,_,rfl,_,pf,_,rfl,rfl,aq.of hf,?_,q _ H7 sm (by rw [lA _ mr,qt])⟩
    rw [show (Str.ofString "").length=0 by decide +kernel,Nat.mul_zero,xh gd]
    lia
theorem nC (F:bO K "_law_turns_of" "_law_turns_of" dD f fd) {f0:Addr} {fd0:FuncData} (fu:Def P w K mg base "_law_mate" ["_law_text_here","_law_at"] 1 (gZ K ca) f0 fd0) (cE:mg "sorted" = none) (ba:mg "range" = none) (aK:mg "len" = none):aH P w K mg base bM 2 f fd ["_law_text_here"] (gH K ca):=by
  refine F.ok jJ (fun vs H Q E h=>?_) (fun cdv A outer s H vs Q E hr h=>?_)
  · obtain ⟨t,rfl,hz,h40,q⟩:=h
    rfl
  obtain ⟨t,rfl,hz,h40,q⟩:=h
  refine ⟨_,ai (aB (i:=1) jJ.nd rfl (Or.inl rfl) (aD qZ rfl cE gQ (aa (gP rfl (eg rfl ba (aa (aD hG rfl aK cj (aa (pv 0) ae)) ae)) rfl rfl rfl rfl (N:=["_law_k","_law_text_here"]) (.own (.cap (j:=0) rfl rfl rfl .nil)) (fun _ _ _ _ _ _=>(aJ (i:=0) (by show List.Nodup (["_law_k","_law_text_here"]:List Str); decide +kernel) rfl (Or.inl rfl))) (fun _ _ _ _ _ _=>(tq (aU cM (bX oW (pv 1) (pv 0) (fun _ _=>rfl)) bD (aL _)))) (fun _ _ _ _ _ _=>(yK (aa (aS fu hr (aa (pv 1) (aa (pv 0) ae))) (aa (pv 0) ae))))) ae)))
    (ak (aA (gP rfl (dk (pv 1)) rfl rfl rfl rfl (N:=["_law_pair","_law_text_here"]) (.own (.cap (j:=0) rfl rfl rfl .nil)) (fun _ _ _ _ _ _=>(aJ (i:=0) (by show List.Nodup (["_law_pair","_law_text_here"]:List Str); decide +kernel) rfl (Or.inl rfl))) (fun _ _ _ _ _ _=>gN) (fun _ _ _ _ _ _=>(yt (K:=K) rfl PySem.F.plainAttrs_str PySem.F.slot_str_count PySem.F.type_str_count vy (jE yC (pv 1) kA (kE (bX (xI (K:=K) rfl) (pv 0) au (fun _ _=>rfl)))) (aa bD ae)))))),?_⟩
  have lc:=bU t
  have lz:t.length<=sizeLine:=sz (by lia)
  refine ⟨_,rfl,t,rfl,lz,_,rfl,by lia,by lia,fun D hD=>m6 (lo:=0) (n:=((t.length:Nat):Int).toNat) (fun i ys H'=>ao H H'/\H' D=some (.lst ys)/\dZ H' ys ((a8 t.cps.toList i).map m7)/\ys.length<=i) (sz (by lia)) ⟨ao.new (ao.refl H) hD _,ag,.nil,Nat.le_refl _⟩ (fun i ys H' _ h=>h.2.2.2) ?_ ?_⟩
  · rintro i ys H5 R R0 hi ⟨s5,hD5,pr,ly⟩ hR hR0
    have hk:i < t.cps.toList.length:=by lia
    have hat:=mO (x:=t) (i:=(0:Int)+(i:Int)) (by lia) (by rw [show ((0:Int)+(i:Int)).toNat=i by lia]; exact List.getElem?_eq_getElem hk)
    have bs:=congrArg (List.map m7) (gw t.cps.toList i)
    rw [show t.cps.toList.getD i 0=t.cps.toList[i] by rw [List.getD_eq_getElem?_getD,List.getElem?_eq_getElem hk]; rfl,List.map_append] at bs
    generalize t.cps.toList[i]=c at hat bs
    refine ⟨Ext.set rfl,⟨_,rfl,_,rfl,t,_,c,rfl,rfl,lz,hat,rfl,_,rfl,?_⟩⟩
    refine mv (oh c) ?_
    by_cases hc:c=40
    · rw [if_pos hc] at bs
      refine eO hc ⟨_,rfl,_,rfl,t,i,(by rw [show (0:Int)+(i:Int)=(i:Int) by lia]; rfl),hz,by lia,_,rfl,(by show 2<=sizeLine; decide),fun t1 ht1=>?_⟩
      have n1:D≠t1:=ay hD5 ht1
      have hy1:=(ar (o:=.tup [.int (bN t.cps.toList i),.int ((0:Int)+(i:Int))]) n1).trans hD5
      refine hR _ _ hy1 ⟨(ao.new s5 ht1 _).upd hD _,ag,?_,by rw [List.length_append]; exact Nat.succ_le_succ ly⟩
      have:=((pr.updN ht1 (.tup [.int (bN t.cps.toList i),.int ((0:Int)+(i:Int))])).snoc (t:=t1) (p:=(bN t.cps.toList i,(0:Int)+(i:Int))) ag).updL hy1 (.lst (ys++[.ref t1]))
      rw [bs]
      have e0:(bN t.cps.toList i,(0:Int)+(i:Int))=m7 ((i:Int),bN t.cps.toList i):=by rw [show (0:Int)+(i:Int)=(i:Int) by lia]; rfl
      rw [e0] at this
      exact this
    · rw [if_neg hc,List.map_nil,List.append_nil] at bs
      exact eJ hc (hR0 _ ⟨s5,hD5,by rw [bs]; exact pr,by lia⟩)
  · rintro ys H5 ⟨s5,hD5,pr,_⟩
    rw [show ((t.length:Nat):Int).toNat=t.length by lia] at pr
    refine ⟨D,_,rfl,⟨ys,hD5,pr⟩,by rw [List.length_map]; lia,fun pq qs H6 s6 f6 h6 pm rs=>?_⟩
    have lq:qs.length<=40:=by rw [pm.length_eq,List.length_map]; exact h40
    have s56:=s5.trans s6
    obtain ⟨xs,el,lxs,pr6⟩:=h6.len
    have bnd:∀ p∈qs,0<=p.2:=fun p hp=>by
      obtain ⟨r,hr,rfl⟩:=List.mem_map.mp (pm.mem_iff.mp hp)
      exact (yU hr).1
    refine ⟨_,rfl,pq,rfl,⟨_,aq.of el⟩,fun D2 hD2=>fV (xs:=xs) (fun i ys H'=>ao H6 H'/\H' D2=some (.lst ys)/\ys=((qs.take i).map fun q=>d7 t.cps.toList q.2).map V.int/\i<=qs.length) (sz (by lia)) ⟨ao.new (ao.refl H6) hD2 _,ag,rfl,Nat.zero_le _⟩ (fun i ys H' hi h=>⟨aq.of (h.1 _ _ el),?_⟩) (fun i x ys H' R R0 hx h r r0=>?_) (fun ys H' h=>?_)⟩
    · rw [h.2.2.1,List.length_map,List.length_map,List.length_take]
      lia
    · obtain ⟨sm,hy,ey,hi⟩:=h
      obtain ⟨pp,tt,hpp,rfl,htt⟩:=pr6.get hx
      have hlt:i < qs.length:=(List.getElem?_eq_some_iff.mp hpp).1
      have b0:=bnd pp (List.mem_of_getElem? hpp)
      have ec:Txt.count (Txt.slice t none (some pp.2)) (Str.ofString "(")=d7 t.cps.toList pp.2:=by
        rw [uQ,uz,vJ b0]
        rfl
      refine ⟨Ext.set rfl,qh (eK ⟨_,rfl,_,rfl,tt,_,_,_,rfl,rfl,jh.of (sm _ _ htt),rfl,_,rfl,t,rfl,lz,rfl,_,_,rfl,rfl,?_⟩)⟩
      rw [ec]
      refine r _ _ hy ⟨sm.upd hD2 _,ag,?_,hlt⟩
      rw [List.take_add_one,hpp,List.map_append,List.map_append,<- ey]
      rfl
    · obtain ⟨sm,hy,ey,hi⟩:=h
      rw [List.take_of_length_le (by lia)] at ey
      rw [ey] at hy
      exact q _ qs _ (s56.trans sm) (s56.free hD2) pm rs hy
theorem lE (F:bO K "brackets_to_turns" "brackets_to_turns" cc f fd) {fd0:FuncData} (bP:bH P w K mg base ["self"] 5 (dE K ca) ca.cI fd0) {fd1:FuncData} (aP:bH P w K mg base ["self","thing"] 3 (bB K ca) ca.bp fd1) {f2:Addr} {fd2:FuncData} (gW:Def P w K mg base "flat" ["rows"] 1 (kN K ca) f2 fd2) {f3:Addr} {fd3:FuncData} (dh:Def P w K mg base "closed_in_runs" ["text"] 1 (eE K ca) f3 fd3):aH P w K mg base bM 7 f fd ["thing"] (e8 K ca):=by
  refine F.ok kZ (fun vs H Q E h=>?_) (fun cdv A outer s H vs Q E hr h=>?_)
  · obtain ⟨t,n,rfl,hB,lt2,hn,q⟩:=h
    rfl
  obtain ⟨t,n,rfl,hB,lt2,hn,q⟩:=h
  refine ⟨_,ai (aW (jY (mz CA.mk_Brackets CA.oO bP hr) CA.hJ CA.mt_Brackets_refuse_other aP hr (aa (pv 0) ae)))
    (ak (aA (aS gW hr (aa (aS dh hr (aa (pv 0) ae)) ae)))),?_⟩
  intro x dx nx ndx nex
  refine ⟨x,dx,rfl,ag,fun fsx Hx1 ex fx=>⟨rfl,?_⟩⟩
  have sx:ao H Hx1:=by rw [ex]; exact ((ao.new (ao.refl H) ndx _).upd nx _).upd nx _
  have hx:Hx1 x=some (.ins ca.ax dx fsx):=by rw [ex]; exact ag
  refine ⟨x,dx,fsx,rfl,hx,fx.no "refuse_other" (by decide) (by decide),_,rfl,x,dx,fsx,t,rfl,hx,fx.no "is_one" (by decide) (by decide),hB,fun H2 s2=>?_⟩
  have t2:=sx.trans s2
  have hfl:=vM hB
  have lc:=bU t
  refine ⟨_,rfl,t,rfl,hB,by lia,fun p H3 s3 f3 h3 z1 z2=>?_⟩
  obtain ⟨bs,hp,rw_⟩:=h3.rws
  have ef:((aT t.cps.toList).2.2.1.map fun r=>r.map V.int).flatten=(aT t.cps.toList).2.2.1.flatten.map V.int:=by rw [List.map_flatten]
  refine ⟨p,bs,_,rfl,hp,rw_,by rw [ef,List.length_map]; lia,fun r H4 s4 f4 h4=>?_⟩
  have t3:=t2.trans s3
  rw [ef] at h4
  exact q r H4 (t3.trans s4) (t3.free f4) h4
theorem jj (F:bO K "__init__" "Family.__init__" bz ca.cK fd):aH P w K mg base bM 1 ca.cK fd ["self","word","least"] (dJ K ca):=by
  refine F.ok ji (fun vs H Q E h=>?_) (fun cdv A outer s H vs Q E hr h=>?_)
  · obtain ⟨x,dx,w,l,rfl,hx,q⟩:=h
    rfl
  obtain ⟨x,dx,w,l,rfl,hx,q⟩:=h
  refine ⟨_,ai (kG (pv 0) (pv 1) rfl)
    (ak (kG (pv 0) (pv 2) rfl)),?_⟩
  refine ⟨_,rfl,_,rfl,x,ca.aM,dx,_,rfl,hx,CA.mQ,CA.ja,(by show 0 < 1000; decide),?_⟩
  refine ⟨_,rfl,_,rfl,x,ca.aM,dx,_,rfl,ag,CA.mQ,CA.iN,(by show 1 < 1000; decide),?_⟩
  exact q _ _ mM (pI w l)
theorem hW (F:bO K "__init__" "SplitFamily.__init__" aX ca.bL fd) {fd0:FuncData} (dW:bH P w K mg base ["self","word","least"] 1 (dJ K ca) ca.cK fd0):aH P w K mg base bM 3 ca.bL fd ["self","word"] (cH K ca):=by
  refine F.ok gY (fun vs H Q E h=>?_) (fun cdv A outer s H vs Q E hr h=>?_)
  · obtain ⟨x,dx,w,rfl,hx,q⟩:=h
    rfl
  obtain ⟨x,dx,w,rfl,hx,q⟩:=h
  refine ⟨_,ak (aW (pG CA.nU CA.cm_Family___init___Turns dW hr (aa (pv 0) (aa (pv 1) (aa au ae))))),?_⟩
  exact ⟨_,rfl,_,rfl,x,dx,w,0,rfl,hx,fun fs H' e f=>q fs H' e f⟩
theorem lX (F:bO K "__init__" "Turns.__init__" cN ca.eB fd) {fd0:FuncData} (cS:bH P w K mg base ["self","word"] 3 (cH K ca) ca.bL fd0):aH P w K mg base bM 5 ca.eB fd ["self"] (fW K ca):=by
  refine F.ok mw (fun vs H Q E h=>?_) (fun cdv A outer s H vs Q E hr h=>?_)
  · obtain ⟨x,dx,rfl,hx,q⟩:=h
    rfl
  obtain ⟨x,dx,rfl,hx,q⟩:=h
  refine ⟨_,ak (aW (pG CA.i6 CA.cm_SplitFamily___init___Turns cS hr (aa (pv 0) (aa bD ae)))),?_⟩
  exact ⟨_,rfl,x,dx,_,rfl,hx,fun fs H' e f=>q fs H' e f⟩
theorem lG (F:bO K "comes_off_a_stack" "comes_off_a_stack" cb f fd):aH P w K mg base bM 1 f fd ["numbers"] (eX K ca):=by
  refine F.ok cC (fun vs H Q E h=>?_) (fun cdv A outer s H vs Q E hr h=>?_)
  · obtain ⟨l,row,rfl,hl,h64,hB,q⟩:=h
    rfl
  obtain ⟨l,row,rfl,hl,h64,hB,q⟩:=h
  refine ⟨_,ai (aB (i:=1) cC.nd rfl (Or.inl rfl) (cY ae))
    (ai (aB (i:=2) cC.nd rfl (Or.inl rfl) au)
    (ai (cD PassesOwn.never rfl (dk (pv 0)) (aJ (i:=3) cC.nd rfl (Or.inl rfl)) (ai (qW PassesOwn.never (aU zD (pv 2) (pv 3) (aL _)) (ai (aW (cL PySem.F.plainAttrs_list PySem.F.slot_list_append PySem.F.type_list_append bt (pv 1) (aa (pv 2) ae)))
    (ak (oH (i:=2) cC.nd rfl (Or.inl rfl) au qN))))
    (ak (bu (aU oa (uK PySem.F.plainAttrs_list PySem.F.slot_list_pop PySem.F.type_list_pop vb (pv 1)) (pv 3) (aL _)) (ak (aA dm)) bh))))
    (ak (aA dm)))),?_⟩
  have hperm:=(du row).mp hB
  have lm:(row.map V.int).length=row.length:=List.length_map _
  refine ⟨Nat.zero_le _,fun ps hps=>?_⟩
  have s1:=ao.new (ao.refl H) hps (.lst [])
  have hs1:upd H ps (.lst []) ps=some (.lst ((stk row 0 0).map V.int)):=ag
  generalize upd H ps (.lst [])=H1 at s1 hs1 |-
  refine ⟨_,rfl,l,rfl,⟨_,aq.of (s1 _ _ hl)⟩,gG (xs:=row.map V.int) (fun i σ H'=>∃ (o1:Option V) (p:Nat),σ=[some (.ref l),some (.ref ps),some (.int p),o1]/\ao H H'/\H' ps=some (.lst ((stk row i p).map V.int))/\Off row i p/\p<=100) ⟨_,0,rfl,s1,hs1,Off.start row,by lia⟩ (fun i σ H' _ h=>aq.of (h.choose_spec.choose_spec.2.1 _ _ hl)) ?_ ?_⟩
  · rintro i v σ H2 hv ⟨o1,p,rfl,sm,hst,off,p100⟩
    obtain ⟨x,rfl⟩:=jx hv
    have hx:row[i]? = some x:=by
      rw [List.getElem?_map] at hv
      cases h:row[i]? with
      | none=>rw [h] at hv; cases hv
      | some d=>rw [h] at hv; injection hv with hv; injection hv with hv; rw [hv]
    have hi:i < row.length:=(List.getElem?_eq_some_iff.mp hx).1
    have xr:=gS.mp (hperm.mem_iff.mp (List.mem_of_getElem? hx))
    refine ⟨fun m σ H'=>∃ (d:Nat),σ=[some (.ref l),some (.ref ps),some (.int ((p+d:Nat):Int)),some (.int x)]/\ao H H'/\H' ps=some (.lst ((stk row i (p+d)).map V.int))/\m=(x+1 - (p:Int) - (d:Int)).toNat/\(d=0\/((p+d:Nat):Int)<=x+1),⟨_,0,rfl,sm,hst,rfl,.inl rfl⟩,?_⟩
    rintro m σ H3 ⟨d,rfl,sm3,hst3,hm,hd⟩
    have lst:∀ k p:Nat,((stk row k p).map V.int).length<=p:=fun k p=>by
      rw [List.length_map]
      unfold stk
      exact Nat.le_trans (List.length_filter_le _ _) (by rw [gO]; exact Nat.le_refl _)
    refine ⟨_,rfl,_,rfl,_,_,rfl,rfl,_,rfl,?_⟩
    by_cases hle:((p+d:Nat):Int)<=x
    · refine eO hle ⟨fun σ' H'=>σ'=[some (.ref l),some (.ref ps),some (.int ((p+d:Nat)+1:Int)),some (.int x)]/\ao H H'/\H' ps=some (.lst ((stk row i (p+d+1)).map V.int)),?_,?_⟩
      · rintro σ' H' ⟨rfl,a1,a2⟩
        exact ⟨(x+1 - (p:Int) - ((d+1:Nat):Int)).toNat,by lia,d+1,by rw [show ((p+d:Nat):Int)+1=((p+(d+1):Nat):Int) by lia],a1,a2,rfl,.inr (by lia)⟩
      · have hn:((p+d:Nat):Int)∉row.take i:=fun z=>by have:=off.below _ z; lia
        have:=lst i (p+d)
        refine ⟨_,rfl,.inl ⟨rfl,_,aq.of hst3⟩,_,rfl,ps,_,_,rfl,rfl,hst3,iy (by lia),?_⟩
        refine ⟨_,rfl,_,_,rfl,rfl,rfl,sm3.upd hps _,?_⟩
        rw [ag,vw hn,List.map_append]
        rfl
    · have hp':(((p+d:Nat):Nat):Int)=if (p:Int)<=x then x+1 else (p:Int):=by
        split<;>lia
      obtain ⟨l0,t,el,good,bad⟩:=off.step hperm hx hp'
      have lt:=lst i (p+d)
      rw [el] at hst3 lt
      have hlast:((l0++[t]).map V.int)[((l0++[t]).map V.int).length - 1]? = some (.int t):=by
        rw [List.length_map,List.length_append,List.map_append]
        show (l0.map V.int++[V.int t])[l0.length+1 - 1]? = _
        rw [Nat.add_sub_cancel,List.getElem?_append_right (by simp)]
        simp
      have hdl:((l0++[t]).map V.int).dropLast=l0.map V.int:=by rw [List.map_append]; exact List.dropLast_concat
      refine eJ hle ⟨_,rfl,.inl ⟨rfl,_,aq.of hst3⟩,ps,_,_,rfl,rfl,hst3,hlast,?_⟩
      rw [hdl]
      refine ⟨_,rfl,rfl,_,rfl,?_⟩
      by_cases e:t=x
      · obtain ⟨g1,g2⟩:=good e
        refine oM (by rw [e]) ⟨_,p+d,rfl,sm3.upd hps _,by rw [ag,g1],g2,by lia⟩
      · refine zf (ne_int e) ?_
        have:=tI hi (bad e)
        rw [this] at q
        exact q _ (sm3.upd hps _)
  · rintro σ H2 ⟨o1,p,rfl,sm,hst,off,_⟩
    have:nE row=true:=qv fun k hk=>off.fine k (by rw [lm]; exact hk)
    rw [this] at q
    exact q _ sm
theorem nV (F:bO K "is_one" "Turns.is_one" dG ca.fO fd) {f0:Addr} {fd0:FuncData} (fw:Def P w K mg base "each_once" ["numbers"] 1 (gX K ca) f0 fd0) {f1:Addr} {fd1:FuncData} (fJ:Def P w K mg base "comes_off_a_stack" ["numbers"] 1 (eX K ca) f1 fd1):aH P w K mg base bM 2 ca.fO fd ["self","thing"] (gD K ca):=by
  refine F.ok nH (fun vs H Q E h=>?_) (fun cdv A outer s H vs Q E hr h=>?_)
  · obtain ⟨x,l,ns,rfl,hl,h64,q⟩:=h
    rfl
  obtain ⟨x,l,ns,rfl,hl,h64,q⟩:=h
  refine ⟨_,ak (aA (ou (aS fw hr (aa (pv 1) ae)) (oB (aS fJ hr (aa (pv 1) ae))))),?_⟩
  refine ⟨_,rfl,l,ns,rfl,hl,h64,fun H1 s1=>⟨_,rfl,?_⟩⟩
  unfold g9 at q
  cases hB:eG ns with
  | false =>
    rw [hB,Bool.false_and] at q
    exact cp (q _ s1)
  | true =>
    rw [hB,Bool.true_and] at q
    exact eK ⟨_,rfl,l,ns,rfl,s1 _ _ hl,h64,hB,fun H2 s2=>q _ (s1.trans s2)⟩
theorem iu (F:bO K "refuse_other" "Family.refuse_other" a9 ca.bR fd) {fd0:FuncData} (h8:bH P w K mg base ["self","thing"] 2 (gD K ca) ca.fO fd0):aH P w K mg base bM 3 ca.bR fd ["self","thing"] (cU K ca):=by
  refine F.ok il (fun vs H Q E h=>?_) (fun cdv A outer s H vs Q E hr h=>?_)
  · obtain ⟨x,dx,fs,l,ns,rfl,hx,fo,hl,h64,hB,q⟩:=h
    rfl
  obtain ⟨x,dx,fs,l,ns,rfl,hx,fo,hl,h64,hB,q⟩:=h
  refine ⟨_,ak (bu (cW (cG (jY (pv 0) CA.mQ CA.mt_Turns_is_one h8 hr (aa (pv 1) ae)))) (ak nR) bh),?_⟩
  exact ⟨_,rfl,x,dx,fs,rfl,hx,fo,_,rfl,x,l,ns,rfl,hl,h64,fun H1 s1=>⟨_,rfl,by rw [hB]; exact cp (q H1 s1)⟩⟩
theorem kS (F:bO K "turns_to_brackets" "turns_to_brackets" bZ f fd) {fd0:FuncData} (gh:bH P w K mg base ["self"] 5 (fW K ca) ca.eB fd0) {fd1:FuncData} (de:bH P w K mg base ["self","thing"] 3 (cU K ca) ca.bR fd1) (t7:mg "max" = none):aH P w K mg base bM 7 f fd ["thing"] (eV K ca):=by
  refine F.ok cB (fun vs H Q E h=>?_) (fun cdv A outer s H vs Q E hr h=>?_)
  · obtain ⟨l,ns,rfl,hl,hz,hT,q⟩:=h
    rfl
  obtain ⟨l,ns,rfl,hl,hz,hT,q⟩:=h
  refine ⟨_,ai (aW (jY (mz CA.mk_Turns CA.xi gh hr) CA.mQ CA.mt_Turns_refuse_other de hr (aa (pv 0) ae)))
    (ai (aB (i:=1) cB.nd rfl (Or.inl rfl) (cY ae))
    (ai (aB (i:=2) cB.nd rfl (Or.inl rfl) au)
    (ai (cD PassesOwn.never rfl (dk (pv 0)) (aJ (i:=3) cB.nd rfl (Or.inl rfl)) (ai (aW (cL PySem.F.plainAttrs_list PySem.F.slot_list_append PySem.F.type_list_append bt (pv 1) (aa (aC oQ (aC og bD (aC jV (aC ft (pv 3) au) (pv 2))) bD) ae)))
    (ak (aB (i:=2) cB.nd rfl (Or.inl rfl) (aD (uZ rfl) rfl t7 yj (aa (pv 2) (aa (aC ft (pv 3) au) ae)))))))
    (ak (aA (cL PySem.F.plainAttrs_str PySem.F.slot_str_join PySem.F.type_str_join pH bD (aa (pv 1) ae))))))),?_⟩
  intro x dx nx ndx nex
  refine ⟨x,dx,rfl,ag,fun fsx Hx1 ex fx=>⟨rfl,?_⟩⟩
  have sx:ao H Hx1:=by rw [ex]; exact ((ao.new (ao.refl H) ndx _).upd nx _).upd nx _
  have hx:Hx1 x=some (.ins ca.aM dx fsx):=by rw [ex]; exact ag
  refine ⟨x,dx,fsx,rfl,hx,fx.no "refuse_other" (by decide) (by decide),_,rfl,x,dx,fsx,l,ns,rfl,hx,fx.no "is_one" (by decide) (by decide),sx _ _ hl,by lia,hT,fun H2 s2=>?_⟩
  have t2:=sx.trans s2
  have hl2:=t2 _ _ hl
  have hp:=uV hT
  have lm:(ns.map V.int).length=ns.length:=List.length_map _
  have s40:Str.ofString "(" = ⟨#[40]⟩:=by decide +kernel
  have s41:(Str.ofString ")").cps.toList=[41]:=by decide +kernel
  have l41:(Str.ofString ")").length=1:=by decide +kernel
  have l40:(Str.ofString "(").length=1:=by decide +kernel
  have mulc:∀ n:Int,(Txt.mul (Str.ofString "(") n).cps.toList=List.replicate n.toNat 40:=fun n=>by rw [s40]; exact qq 40 n
  refine ⟨Nat.zero_le _,fun pf hpf=>?_⟩
  have fpf:=t2.free hpf
  refine ⟨_,rfl,l,rfl,⟨_,aq.of ((ao.new t2 hpf (.lst [])) _ _ hl)⟩,gG (xs:=ns.map V.int) (fun i σ H'=>∃ (o1:Option V) (ys:List Str),σ=[some (.ref l),some (.ref pf),some (.int (dv (ns.take i)).2),o1]/\ao H H'/\H' pf=some (.lst (ys.map V.str))/\(ys.map (·.cps.toList)).flatten=(dv (ns.take i)).1/\ys.length<=i/\(ys.map (·.length)).sum<=50*i/\0<=(dv (ns.take i)).2/\(dv (ns.take i)).2<=40) ⟨_,[],rfl,ao.new t2 hpf _,ag,rfl,Nat.le_refl _,Nat.le_refl _,by show (0:Int)<=0; lia,by show (0:Int)<=40; lia⟩ (fun i σ H' _ h=>by obtain ⟨_,_,_,sm,_⟩:=h; exact aq.of (sm _ _ hl)) ?_ ?_⟩
  · rintro i v σ H3 hv ⟨o1,ys,rfl,sm,hf,e,ly,ls,b0,b1⟩
    obtain ⟨n,rfl⟩:=jx hv
    have hn:ns[i]? = some n:=by
      rw [List.getElem?_map] at hv
      cases h:ns[i]? with
      | none=>rw [h] at hv; cases hv
      | some d=>rw [h] at hv; injection hv with hv; injection hv with hv; rw [hv]
    have hi:i < ns.length:=(List.getElem?_eq_some_iff.mp hn).1
    have bn:=(xF hp).mp (List.mem_of_getElem? hn)
    have tk:dv (ns.take (i+1))=ra (dv (ns.take i)) n:=by rw [List.take_add_one,hn]; exact jF _ _
    generalize dv (ns.take i)=z at *
    obtain ⟨zt,zb⟩:=z
    simp only at e b0 b1 |-
    have lmu:=bU (Txt.mul (Str.ofString "(") (n+1 - zb))
    rw [mulc,List.length_replicate] at lmu
    refine ⟨_,rfl,.inl ⟨rfl,_,aq.of hf⟩,_,rfl,_,_,rfl,rfl,_,rfl,_,_,rfl,rfl,_,_,rfl,rfl,ur l40 (by lia) (by lia),_,_,rfl,rfl,sz (by lia),pf,_,_,rfl,rfl,hf,by rw [List.length_map]; exact iy (by lia),?_⟩
    refine ⟨_,rfl,_,rfl,_,_,rfl,rfl,_,_,rfl,?_⟩
    refine ⟨some (.int n),ys++[Txt.mul (Str.ofString "(") (n+1 - zb)++Str.ofString ")"],?_,sm.upd fpf _,by rw [ag,List.map_append]; rfl,?_,by rw [List.length_append]; exact Nat.succ_le_succ ly,?_,?_,?_⟩
    · rw [tk]
      rfl
    · rw [tk,List.map_append,List.flatten_append,e]
      show zt++[(Txt.mul (Str.ofString "(") (n+1 - zb)++Str.ofString ")").cps.toList].flatten=zt++(List.replicate (n+1 - zb).toNat 40++[41])
      rw [ql,mulc,s41]
      simp
    · rw [List.map_append,List.sum_append]
      show _+((Txt.mul (Str.ofString "(") (n+1 - zb)++Str.ofString ")").length+0)<=_
      rw [tY]
      lia
    · rw [tk]
      show 0<=if n+1 > zb then n+1 else zb
      split<;>lia
    · rw [tk]
      show (if n+1 > zb then n+1 else zb)<=40
      split<;>lia
  · rintro σ H3 ⟨o1,ys,rfl,sm,hf,e,ly,ls,b0,b1⟩
    rw [lm] at ly ls e
    rw [List.take_length] at e
    refine ⟨rfl,_,rfl,_,pf,ys,rfl,rfl,aq.of hf,?_,q _ H3 sm ?_⟩
    · rw [show (Str.ofString "").length=0 by decide +kernel]
      lia
    · rw [lA _ mr,e]
theorem nN (F:bO K "_law_rooms_by" "_law_rooms_by" dH f fd) {f0:Addr} {fd0:FuncData} (eI:Def P w K mg base "_law_draws" ["_law_script","_law_turn","_law_many"] 2 (gr K ca) f0 fd0) (kh:mg "enumerate" = none) (aK:mg "len" = none):aH P w K mg base bM 3 f fd ["_law_script","_law_size","_law_turn"] (gM K ca):=by
  refine F.ok dc (fun vs H Q E h=>?_) (fun cdv A outer s H vs Q E hr h=>?_)
  · obtain ⟨a,ns,n,t,rfl,hS,h63,hn,t0,t1,q⟩:=h
    rfl
  obtain ⟨a,ns,n,t,rfl,hS,h63,hn,t0,t1,q⟩:=h
  refine ⟨_,ai (aB (i:=3) dc.nd rfl (Or.inl rfl) (cY ae))
    (ai (aB (i:=4) dc.nd rfl (Or.inl rfl) (cY ae))
    (ai (cD PassesOwn.never rfl (xB rfl kh (aa (aS eI hr (aa (pv 0) (aa (pv 2) (aa (pv 1) ae)))) ae)) (rC rfl (iB (aJ (i:=5) dc.nd rfl (Or.inl rfl)) (iB (aJ (i:=6) dc.nd rfl (Or.inl rfl)) o5))) (ai (aB (i:=4) dc.nd rfl (Or.inl rfl) (jE mK (pv 4) kA (kE (aC jV (aD aR rfl aK cj (aa (pv 4) ae)) (aC fh (aC dA (pv 6) (aC ft (aD aR rfl aK cj (aa (pv 4) ae)) au)) (aC dA (aC jD (pv 6) au) au))))))
    (ak (bu (PW.pt (rY (aU (tR (zI hr)) (pv 4) (cY ae) (aL _)) (pM (aU cM (aC dA (aC jD (pv 6) au) au) au (aL _))))) (ak (aW (cL PySem.F.plainAttrs_list PySem.F.slot_list_append PySem.F.type_list_append bt (bX bJ (pv 3) (bX bJ (pv 4) (qK ox au) (fun _ _=>rfl)) (fun _ _=>rfl)) (aa (pv 5) ae)))) (ai (aW (cL PySem.F.plainAttrs_list PySem.F.slot_list_append PySem.F.type_list_append bt (pv 4) (aa (aD aR rfl aK cj (aa (pv 3) ae)) ae)))
    (ak (aW (cL PySem.F.plainAttrs_list PySem.F.slot_list_append PySem.F.type_list_append bt (pv 3) (aa (cY (aa (pv 5) ae)) ae)))))))))
    (ak (aA (pv 3))))),?_⟩
  refine ⟨Nat.zero_le _,fun pr hpr=>⟨Nat.zero_le _,fun pp hpp=>?_⟩⟩
  have s1:=ao.new (ao.refl H) hpr (.lst [])
  have nrp:pr≠pp:=ay ag hpp
  have s2:=ao.new s1 hpp (.lst [])
  have er2:upd (upd H pr (.lst [])) pp (.lst []) pr=some (.lst []):=(ar nrp).trans ag
  have hp2:upd (upd H pr (.lst [])) pp (.lst []) pp=some (.lst ((([]:List Nat).map fun m:Nat=>(m:Int)).map V.int)):=ag
  generalize upd (upd H pr (.lst [])) pp (.lst [])=H2 at s2 er2 hp2 |-
  refine ⟨_,rfl,_,rfl,_,rfl,a,ns,t,(n:Int),rfl,s2.seq hS,h63,t0,by lia,by lia,by lia,fun pd xs H3 s3 fd hd' lx bx=>?_⟩
  have t3:=s2.trans s3
  have hr3:aZ H3 H3 pr []:=aZ.nil (s3 _ _ er2)
  have lx':xs.length=n:=by lia
  have lm:(xs.map V.int).length=xs.length:=List.length_map _
  refine ⟨pd,rfl,⟨_,aq.of hd'⟩,vS (xs:=xs.map V.int) (fun i σ H'=>∃ (o1 o2:Option V) (pq:Addr) (rs:List (List Int)) (pl:List Nat),σ=[some (.ref a),some (.int (n:Int)),some (.int t),some (.ref pr),some (.ref pq),o1,o2]/\ao H H'/\H' pd=some (.lst (xs.map V.int))/\fH H3 H'/\aZ H3 H' pr rs/\H' pq=some (.lst ((pl.map fun m:Nat=>(m:Int)).map V.int))/\fX rs pl i) ⟨_,_,pp,[],[],rfl,t3,hd',fH.refl H3,hr3,s3 _ _ hp2,.start⟩ (fun i σ H' _ h=>by obtain ⟨_,_,_,_,_,_,_,e,_⟩:=h; exact aq.of e) ?_ ?_⟩
  · rintro i v σ H4 T hv ⟨o1,o2,pq,rs,pl,rfl,s4,hd4,y4,hr4,hq4,rom⟩ hT
    obtain ⟨c,rfl⟩:=jx hv
    have hi:i < xs.length:=by
      have:=(List.getElem?_eq_some_iff.mp hv).1
      lia
    have lens:=rom.lens
    have k5:=ao.new (ao.refl H4) hT (.tup [.int (i:Int),.int c])
    have s5:=s4.trans k5
    have hd5:=k5 _ _ hd4
    have y5:fH H3 (upd H4 T (.tup [.int (i:Int),.int c])):=y4.new T
    have hr5:=hr4.same k5
    have hq5:=k5 _ _ hq4
    have hT5:upd H4 T (.tup [.int (i:Int),.int c]) T=some (.tup [.int (i:Int),.int c]):=ag
    generalize upd H4 T (.tup [.int (i:Int),.int c])=H5 at k5 s5 hd5 y5 hr5 hq5 hT5 |-
    refine ⟨T,_,rfl,jh.of hT5,rfl,_,_,rfl,_,_,rfl,rfl,?_⟩
    have lpm:((pl.map fun m:Nat=>(m:Int)).map V.int).length=pl.length:=by rw [List.length_map,List.length_map]
    have w0:=Int.emod_nonneg c (show ((((pl.map fun m:Nat=>(m:Int)).map V.int).length:Nat):Int)+1≠0 by lia)
    have w1:=Int.emod_lt_of_pos c (show (0:Int) < ((((pl.map fun m:Nat=>(m:Int)).map V.int).length:Nat):Int)+1 by lia)
    have u0:=Int.emod_nonneg (c / 97) (show (2:Int)≠0 by decide)
    have u1:=Int.emod_lt_of_pos (c / 97) (show (0:Int) < 2 by decide)
    refine ⟨_,rfl,_,rfl,pq,_,rfl,.inl (aq.of hq5),_,rfl,_,rfl,pq,_,rfl,.inl (aq.of hq5),_,_,rfl,rfl,_,_,rfl,rfl,by lia,_,rfl,_,_,rfl,rfl,⟨by decide,by decide +kernel⟩,_,_,rfl,rfl,pm (by decide),_,_,rfl,rfl,.inr ⟨by lia,by lia⟩,_,_,rfl,rfl,?_⟩
    try dsimp only
    obtain ⟨cut,ecut,hcut⟩:∃ cut:Nat,((((pl.map fun m:Nat=>(m:Int)).map V.int).length:Nat):Int) - c % (((((pl.map fun m:Nat=>(m:Int)).map V.int).length:Nat):Int)+1)*(c / 97 % 2)=(cut:Int)/\cut<=pl.length:=by
      rcases (by lia:c / 97 % 2=0\/c / 97 % 2=1) with z | z
      · rw [z,Int.mul_zero]
        exact ⟨pl.length,by lia,Nat.le_refl _⟩
      · rw [z,Int.mul_one]
        exact ⟨(((((pl.map fun m:Nat=>(m:Int)).map V.int).length:Nat):Int) - c % (((((pl.map fun m:Nat=>(m:Int)).map V.int).length:Nat):Int)+1)).toNat,by lia,by lia⟩
    rw [ecut]
    refine ⟨_,rfl,pq,_,rfl,aq.of hq5,fun pn hpn=>?_⟩
    rw [xu,<- List.map_take,<- List.map_take]
    have rom6:fX rs (pl.take cut) i:=fX.shuts (q:=pl.drop cut) (by rw [List.take_append_drop]; exact rom)
    generalize pl.take cut=p6 at rom6 |-
    have k6:=ao.new (ao.refl H5) hpn (.lst ((p6.map fun m:Nat=>(m:Int)).map V.int))
    have s6:=s5.trans k6
    have fpn:H pn=none:=s5.free hpn
    have hd6:=k6 _ _ hd5
    have y6:fH H3 (upd H5 pn (.lst ((p6.map fun m:Nat=>(m:Int)).map V.int))):=y5.new pn
    have hr6:=hr5.same k6
    obtain ⟨zs5,ez5,lz5⟩:=hr5.len
    have nrn:pr≠pn:=ay ez5 hpn
    have ndn:pd≠pn:=ay hd5 hpn
    have ndr:pd≠pr:=fun z=>by rw [z,er2] at fd; cases fd
    have nbs':∀ (j:Nat) (b:Addr),zs5[j]? = some (.ref b)->b≠pn:=fun j b hb=>by
      obtain ⟨b',ns',e,_,h',_⟩:=hr5.at ez5 hb
      cases e
      exact ay h' hpn
    have hn6:upd H5 pn (.lst ((p6.map fun m:Nat=>(m:Int)).map V.int)) pn=some (.lst ((p6.map fun m:Nat=>(m:Int)).map V.int)):=ag
    have ez6:=k6 _ _ ez5
    generalize upd H5 pn (.lst ((p6.map fun m:Nat=>(m:Int)).map V.int))=H6 at k6 s6 hd6 y6 hr6 hn6 ez6 |-
    have lens6:=rom6.lens
    have lp6:((p6.map fun m:Nat=>(m:Int)).map V.int).length=p6.length:=by rw [List.length_map,List.length_map]
    refine ⟨_,rfl,Nat.zero_le _,fun pe hpe=>?_⟩
    have k7:=ao.new (ao.refl H6) hpe (.lst [])
    have s7:=s6.trans k7
    have hd7:=k7 _ _ hd6
    have y7:fH H3 (upd H6 pe (.lst [])):=y6.new pe
    have hr7:=hr6.same k7
    have hn7:=k7 _ _ hn6
    have ez7:=k7 _ _ ez6
    have he7:upd H6 pe (.lst []) pe=some (.lst []):=ag
    generalize upd H6 pe (.lst [])=H7 at k7 s7 hd7 y7 hr7 hn7 ez7 he7 |-
    have nrn7:∀ (j:Nat) (b:Addr),zs5[j]? = some (.ref b)->b≠pn:=nbs'
    refine ⟨pn,pe,_,_,rfl,rfl,aq.of hn7,aq.of he7,mm _,rfl,_,rfl,?_⟩
    rw [show ([]:List V)=([]:List Int).map V.int from rfl,nO]
    rcases List.eq_nil_or_concat p6 with rfl | ⟨pl0,m,rfl⟩
    · refine cp (cp ?_)
      refine ⟨_,rfl,.inl ⟨rfl,_,aq.of hn7⟩,_,rfl,pr,_,rfl,.inl (aq.of ez7),pn,_,_,rfl,rfl,hn7,by rw [lp6]; exact iy (by lia),?_⟩
      have ez8:=(ar (o:=.lst (((([]:List Nat).map fun m:Nat=>(m:Int)).map V.int)++[.int ((zs5.length:Nat):Int)])) nrn).trans ez7
      have hr8:=hr7.updX (o:=.lst (((([]:List Nat).map fun m:Nat=>(m:Int)).map V.int)++[.int ((zs5.length:Nat):Int)])) ez7 nrn nbs'
      refine ⟨_,rfl,.inl ⟨rfl,_,aq.of ez8⟩,_,rfl,(by show 1<=sizeLine; decide),fun b hb=>?_⟩
      refine ⟨pr,_,_,rfl,rfl,(ar (ay ez8 hb)).trans ez8,iy (by lia),?_⟩
      have nbn:pn≠b:=ay ag hb
      have ndb:pd≠b:=ay ((ar ndn).trans hd7) hb
      refine ⟨_,_,pn,rs++[[((i:Nat):Int)]],[]++[rs.length],rfl,((ao.new (s7.upd fpn _) hb _).upd hpr _),(ar ndr).trans ((ar ndb).trans ((ar ndn).trans hd7)),((y7.upd pn _).new b).upd pr _,hr8.snoc ez8 hb ((y7.upd pn _).free' hb) [((i:Nat):Int)],?_,rom6.opn⟩
      rw [ar (Ne.symm nrn),ar nbn,ag,List.map_append,List.map_append,lz5]
      rfl
    · rw [List.concat_eq_append] at hn7 lp6 lens6 rom6 |-
      rw [decide_eq_false (by simp)]
      refine eK ⟨_,rfl,_,_,rfl,rfl,⟨by decide,by decide +kernel⟩,_,_,rfl,rfl,pm (by decide),rfl,_,rfl,pE (fun _=>?_) (fun _=>?_)⟩
      · have hm:m < rs.length:=lens6.2.1 m (by simp)
        obtain ⟨b,hb1,hb2,hb3,hb4⟩:=hr7.get ez7 (List.getElem?_eq_getElem hm)
        have atl:iU (((pl0++[m]).map fun m:Nat=>(m:Int)).map V.int) (-1)=some (.int (m:Int)):=by rw [List.map_append,List.map_append]; exact n5 _ _
        have hml:=lens6.2.2.2 rs[m] (List.getElem_mem hm)
        have ndb:pd≠b:=fun z=>by rw [<- z,hd'] at hb3; cases hb3
        have nbn:pn≠b:=Ne.symm (nbs' m b hb1)
        refine ⟨_,rfl,_,rfl,_,rfl,pn,_,_,_,rfl,rfl,aq.of hn7,atl,pr,_,_,_,rfl,rfl,aq.of ez7,ky hb1,.inl ⟨rfl,_,aq.of hb2⟩,_,rfl,b,_,_,rfl,rfl,hb2,by rw [List.length_map]; exact iy (by lia),?_⟩
        refine ⟨_,_,pn,rs.set m (rs[m]++[((i:Nat):Int)]),pl0++[m],rfl,s7.upd (t3.free hb3) _,(ar ndb).trans hd7,y7.upd b _,?_,(ar nbn).trans hn7,rom6.put (List.getElem?_eq_getElem hm)⟩
        have:=hr7.put ez7 hb1 (rs[m]++[((i:Nat):Int)])
        rw [List.map_append] at this
        exact this
      · refine ⟨_,rfl,.inl ⟨rfl,_,aq.of hn7⟩,_,rfl,pr,_,rfl,.inl (aq.of ez7),pn,_,_,rfl,rfl,hn7,by rw [lp6]; exact iy (by lia),?_⟩
        have ez8:=(ar (o:=.lst ((((pl0++[m]).map fun m:Nat=>(m:Int)).map V.int)++[.int ((zs5.length:Nat):Int)])) nrn).trans ez7
        have hr8:=hr7.updX (o:=.lst ((((pl0++[m]).map fun m:Nat=>(m:Int)).map V.int)++[.int ((zs5.length:Nat):Int)])) ez7 nrn nbs'
        refine ⟨_,rfl,.inl ⟨rfl,_,aq.of ez8⟩,_,rfl,(by show 1<=sizeLine; decide),fun b hb=>?_⟩
        refine ⟨pr,_,_,rfl,rfl,(ar (ay ez8 hb)).trans ez8,iy (by lia),?_⟩
        have nbn:pn≠b:=ay ag hb
        have ndb:pd≠b:=ay ((ar ndn).trans hd7) hb
        refine ⟨_,_,pn,rs++[[((i:Nat):Int)]],(pl0++[m])++[rs.length],rfl,((ao.new (s7.upd fpn _) hb _).upd hpr _),(ar ndr).trans ((ar ndb).trans ((ar ndn).trans hd7)),((y7.upd pn _).new b).upd pr _,hr8.snoc ez8 hb ((y7.upd pn _).free' hb) [((i:Nat):Int)],?_,rom6.opn⟩
        have ea:∀ (zz:List Nat) (k:Nat),(((zz++[k]).map fun m:Nat=>(m:Int)).map V.int)=((zz.map fun m:Nat=>(m:Int)).map V.int)++[V.int ((k:Nat):Int)]:=fun zz k=>by rw [List.map_append,List.map_append]; rfl
        rw [ar (Ne.symm nrn),ar nbn,ag,ea (pl0++[m]) rs.length,lz5]
  · rintro σ H4 ⟨o1,o2,pq,rs,pl,rfl,s4,hd4,y4,hr4,hq4,rom⟩
    rw [lm,lx'] at rom
    exact ⟨_,rfl,q pr rs pl H4 s4 hpr (hr4.since t3) rom⟩
theorem pD (F:bO K "_law_closes" "_law_closes" d5 f fd):aH P w K mg base bM 1 f fd ["_law_text_here"] (iE K ca):=by
  refine F.ok eP (fun vs H Q E h=>?_) (fun cdv A outer s H vs Q E hr h=>?_)
  · obtain ⟨x,rfl,q⟩:=h
    rfl
  obtain ⟨x,rfl,q⟩:=h
  refine ⟨_,ai (aB (i:=1) eP.nd rfl (Or.inl rfl) au)
    (ai (cD PassesOwn.never rfl (r6 (pv 0)) (aJ (i:=2) eP.nd rfl (Or.inl rfl)) (ai (bu (aU cM (pv 2) bD (aL _)) (ak (aB (i:=1) eP.nd rfl (Or.inl rfl) (aC ft (pv 1) au))) (ak (bu (aU cM (pv 2) bD (aL _)) (ak (aB (i:=1) eP.nd rfl (Or.inl rfl) (aC jV (pv 1) au))) (ak (aA dm)))))
    (ak (bu (aU mL (pv 1) au (aL _)) (ak (aA dm)) bh))))
    (ak (aA (gg cM (pv 1) au (aL _))))),?_⟩
  have fin:∀ b,clo 0 x.cps.toList=b->Q (.bl b) H:=fun b h=>by rw [<- h]; exact q
  refine ⟨_,rfl,x,rfl,o9 (x:=x) (fun i σ H'=>H'=H/\∃ (o:Option V) (d:Nat),σ=[some (.str x),some (.int d),o]/\clo 0 x.cps.toList=clo d (x.cps.toList.drop i)) ⟨rfl,none,0,rfl,rfl⟩ ?_ ?_⟩
  · rintro i c σ H' hc ⟨rfl,o,d,rfl,e⟩
    rw [qR hc] at e
    refine ⟨_,rfl,rfl,_,rfl,mv (oh c) ?_⟩
    by_cases h1:c=40
    · refine eO h1 ⟨_,rfl,_,_,rfl,rfl,_,rfl,_,_,rfl,rfl,_,rfl,eJ (by lia) ⟨rfl,_,d+1,rfl,?_⟩⟩
      rw [e,h1,dU]
    · refine eJ h1 ⟨_,rfl,rfl,_,rfl,mv (qJ c) ?_⟩
      by_cases h2:c=41
      · refine eO h2 ⟨_,rfl,_,_,rfl,rfl,_,rfl,_,_,rfl,rfl,_,rfl,?_⟩
        cases d with
        | zero=>exact eO (by lia) (fin false (by rw [e,h2,dw]))
        | succ d =>
          refine eJ (by lia) ⟨rfl,some (.str ⟨#[c]⟩),d,?_,?_⟩
          · show [some (V.str x),some (V.int (((d+1:Nat):Int) - 1)),some (V.str ⟨#[c]⟩)]=_
            rw [show ((d+1:Nat):Int) - 1=(d:Int) by lia]
          · rw [e,h2,cF]
      · exact eJ h2 (fin false (by rw [e,cR h1 h2]))
  · rintro σ H' ⟨rfl,o,d,rfl,e⟩
    refine ⟨_,rfl,rfl,fin _ ?_⟩
    rw [e,qQ,iG]
    cases d with
    | zero=>rfl
    | succ d=>exact (decide_eq_false fun z=>by injection z with z; lia).symm
theorem yS (F:bO K "law" "law" jv f fd) {f0:Addr} {fd0:FuncData} (iI:Def P w K mg base "_law_text_by" ["_law_script","_law_size","_law_turn"] 3 (hZ K ca) f0 fd0) {f1:Addr} {fd1:FuncData} (fZ:Def P w K mg base "_law_cell_at" ["_law_script","_law_k"] 1 (g4 K ca) f1 fd1) {f2:Addr} {fd2:FuncData} (h9:Def P w K mg base "_law_rooms_of" ["_law_text_here"] 2 (gy K ca) f2 fd2) {f3:Addr} {fd3:FuncData} (cX:Def P w K mg base "brackets_to_rooms" ["thing"] 7 (e7 K ca) f3 fd3) {f4:Addr} {fd4:FuncData} (fv:Def P w K mg base "_law_rows" ["_law_found","_law_due"] 3 (jP K ca) f4 fd4) {f5:Addr} {fd5:FuncData} (iQ:Def P w K mg base "_law_text" ["_law_found","_law_due"] 1 (jT K ca) f5 fd5) {f6:Addr} {fd6:FuncData} (dY:Def P w K mg base "rooms_to_brackets" ["thing"] 7 (eZ K ca) f6 fd6) {f7:Addr} {fd7:FuncData} (h7:Def P w K mg base "_law_turns_of" ["_law_text_here"] 2 (gH K ca) f7 fd7) {f8:Addr} {fd8:FuncData} (dX:Def P w K mg base "brackets_to_turns" ["thing"] 7 (e8 K ca) f8 fd8) {f9:Addr} {fd9:FuncData} (cw:Def P w K mg base "_law_numbers" ["_law_found","_law_due"] 2 (fN K ca) f9 fd9) {f10:Addr} {fd10:FuncData} (fL:Def P w K mg base "turns_to_brackets" ["thing"] 7 (eV K ca) f10 fd10) {f11:Addr} {fd11:FuncData} (g6:Def P w K mg base "_law_rooms_by" ["_law_script","_law_size","_law_turn"] 3 (gM K ca) f11 fd11) {f12:Addr} {fd12:FuncData} (jb:Def P w K mg base "_law_closes" ["_law_text_here"] 1 (iE K ca) f12 fd12) (dz:mg "list" = none) (aV:mg "isinstance" = none) (mF:mg "str" = none) (aK:mg "len" = none):aH P w K mg base bM 8 f fd ["_law_script"] (yw K ca):=by
  refine F.ok fm (fun vs H Q E h=>?_) (fun cdv A outer s H vs Q E hr h=>?_)
  · obtain ⟨a,ns,rfl,hS,h63,q⟩:=h
    rfl
  obtain ⟨a,ns,rfl,hS,h63,q⟩:=h
  refine ⟨_,ai (aB (i:=1) fm.nd rfl (Or.inl rfl) (aS iI hr (aa (pv 0) (aa (aC dA (aS fZ hr (aa (pv 0) (aa au ae))) au) (aa au ae)))))
    (ai (aB (i:=2) fm.nd rfl (Or.inl rfl) (aS h9 hr (aa (pv 1) ae)))
    (ai (aB (i:=3) fm.nd rfl (Or.inl rfl) (aS cX hr (aa (pv 1) ae)))
    (ai (bu (cW (cG (aS fv hr (aa (pv 3) (aa (pv 2) ae))))) (ak (aA dm)) bh)
    (ai (cD PassesOwn.never rfl (dk (pv 3)) (aJ (i:=4) fm.nd rfl (Or.inl rfl)) (ak (aW (cL PySem.F.plainAttrs_list PySem.F.slot_list_append PySem.F.type_list_append bt (pv 4) (aa au ae)))))
    (ai (aW (cL PySem.F.plainAttrs_list PySem.F.slot_list_append PySem.F.type_list_append bt (pv 3) (aa (cY (aa au ae)) ae)))
    (ai (bu (cW (cG (aS fv hr (aa (aS cX hr (aa (pv 1) ae)) (aa (pv 2) ae))))) (ak (aA dm)) bh)
    (ai (oq (i:=5) fm.nd rfl (Or.inl rfl) rfl rfl (dk (pv 2)) rfl rfl rfl rfl (N:=["_law_room"]) (.own .nil) (fun _ _ _ _ _ _=>(aJ (i:=0) (by show List.Nodup (["_law_room"]:List Str); decide +kernel) rfl (Or.inl rfl))) (fun _ _ _ _ _ _=>gN) (fun _ _ _ _ _ _=>(j6 (lK (K:=K) rfl) rfl dz iH (aa (pv 0) ae))))
    (ai (bu (PW.pt (jw (cW (cG (aS iQ hr (aa (aS dY hr (aa (pv 5) ae)) (aa (pv 1) ae))))) (i0 (cW (cG (aS fv hr (aa (pv 5) (aa (pv 2) ae)))))))) (ak (aA dm)) bh)
    (ai (aB (i:=6) fm.nd rfl (Or.inl rfl) (aS h7 hr (aa (pv 1) ae)))
    (ai (aB (i:=3) fm.nd rfl (Or.inl rfl) (aS dX hr (aa (pv 1) ae)))
    (ai (bu (cW (cG (aS cw hr (aa (pv 3) (aa (pv 6) ae))))) (ak (aA dm)) bh)
    (ai (aW (cL PySem.F.plainAttrs_list PySem.F.slot_list_append PySem.F.type_list_append bt (pv 3) (aa au ae)))
    (ai (bu (cW (cG (aS cw hr (aa (aS dX hr (aa (pv 1) ae)) (aa (pv 6) ae))))) (ak (aA dm)) bh)
    (ai (aB (i:=5) fm.nd rfl (Or.inl rfl) (j6 ml rfl dz iH (aa (pv 6) ae)))
    (ai (bu (PW.pt (jw (cW (cG (aS iQ hr (aa (aS fL hr (aa (pv 5) ae)) (aa (pv 1) ae))))) (i0 (cW (cG (aS cw hr (aa (pv 5) (aa (pv 6) ae)))))))) (ak (aA dm)) bh)
    (ai (aB (i:=7) fm.nd rfl (Or.inl rfl) (aC dA (aS fZ hr (aa (pv 0) (aa au ae))) au))
    (ai (aB (i:=2) fm.nd rfl (Or.inl rfl) (aS g6 hr (aa (pv 0) (aa (pv 7) (aa au ae)))))
    (ai (aB (i:=3) fm.nd rfl (Or.inl rfl) (aS dY hr (aa (gP rfl (dk (pv 2)) rfl rfl rfl rfl (N:=["_law_room"]) (.own .nil) (fun _ _ _ _ _ _=>(aJ (i:=0) (by show List.Nodup (["_law_room"]:List Str); decide +kernel) rfl (Or.inl rfl))) (fun _ _ _ _ _ _=>gN) (fun _ _ _ _ _ _=>(j6 (lK (K:=K) rfl) rfl dz iH (aa (pv 0) ae)))) ae)))
    (ai (bu (PW.pt (jw (cW (cG (aD fF rfl aV d6 (aa (pv 3) (aa (jz (v:=.ty "str") rfl mF uS rfl) ae))))) (jw (aU oa (aD hG rfl aK cj (aa (pv 3) ae)) (aC fh au (pv 7)) (aL _)) (i0 (cW (cG (aS jb hr (aa (pv 3) ae)))))))) (ak (aA dm)) bh)
    (ak (aA (aS fv hr (aa (aS cX hr (aa (pv 3) ae)) (aa (pv 2) ae)))))))))))))))))))))))),?_⟩
  have hb:∀ x k:Int,0 < k->0<=x % k/\x % k < k:=fun x k hk=>⟨Int.emod_nonneg _ (by lia),Int.emod_lt_of_pos _ hk⟩
  have m0:=hb (ns.getD (0:Int).toNat 0) 41 (by decide)
  have m1:=hb (ns.getD (1:Int).toNat 0) 41 (by decide)
  refine ⟨_,rfl,_,rfl,a,ns,0,rfl,hS,by decide,_,_,rfl,rfl,pm (by decide),?_⟩
  try dsimp only
  generalize ns.getD (0:Int).toNat 0 % 41=z at m0 |-
  obtain ⟨n0,rfl⟩:∃ n:Nat,z=(n:Int):=⟨z.toNat,by lia⟩
  refine ⟨a,ns,(n0:Int),3,rfl,hS,h63,by lia,by lia,by decide,by decide,fun x H1 s1 cx lx=>?_⟩
  have lx1:x.length=2*n0:=by lia
  have lx2:x.cps.toList.length=2*n0:=by rw [bU]; exact lx1
  have cnt:x.cps.toList.count 40=n0:=by have:=jH cx; lia
  obtain ⟨fd,gs,ah,W,em⟩:=kR cx
  have lb:=(ma cx lx2).2
  have gd:=W.gd
  rw [lb] at gd
  have lb':(a8 x.cps.toList x.length).length=n0:=by rw [<- bU]; exact lb
  have srt:∀ {ts ss:List (List Int)},Paired (fun (r t:List Int)=>t.Perm r/\t.Pairwise (·<=·)) (aT x.cps.toList).2.2.1 ts->ss.Perm ts->ss.Pairwise (fun a b=>d3 b a=false)->ss=grp (fM x.cps.toList):=fun pt hp hs=>gd.sort (W.grp (by rw [em] at pt; exact pt)) hp hs
  have txt:∀ {ts:List (List Int)},Paired (fun (r t:List Int)=>t.Perm r/\t.Pairwise (·<=·)) (aT x.cps.toList).2.2.1 ts->jf (grp (fM x.cps.toList)) n0=x.cps.toList:=fun pt=>by
    rw [<- cnt]
    exact ze cx pt (W.grp (by rw [em] at pt; exact pt))
  have rowm:(aT x.cps.toList).2.2.1.flatten=fd.map fun p=>d7 x.cps.toList p.1:=by
    rw [em]
    show (gs.map fun g=>g.map fun p=>d7 x.cps.toList p.1).flatten=_
    rw [<- W.flat,List.map_flatten]
  have fl:(grp (fM x.cps.toList)).flatten.length=n0:=by rw [gd.flat.length_eq,gO]
  have ln:=j5 gd.ne fl
  have lr:∀ r∈grp (fM x.cps.toList),r.length<=n0:=fun r hr=>by
    have:=(List.sublist_flatten_of_mem hr).length_le
    lia
  refine ⟨_,rfl,x,n0,rfl,cx,lx1,by lia,fun pw H2 s2 f2 h2=>?_⟩
  have t2:=s1.trans s2
  refine ⟨_,rfl,x,n0,rfl,cx,lx1,by lia,fun pf ts ss H3 s3 f3 h3 pt hp hs=>?_⟩
  have ess:=srt pt hp hs
  have etx:=txt pt
  subst ess
  clear pt hp hs
  generalize grp (fM x.cps.toList)=R at *
  refine ⟨_,rfl,_,rfl,pf,pw,H2,H1,R,rfl,h3,h2.same s3,by lia,fun r hr=>by have:=lr r hr; lia,_,rfl,cp ?_⟩
  obtain ⟨xs,ex,lxs⟩:=h3.len
  refine ⟨_,rfl,pf,rfl,⟨_,aq.of ex⟩,gG (xs:=xs) (fun i σ H'=>∃ (o1:Option V) (rs':List (List Int)),σ=[some (.ref a),some (.str x),some (.ref pw),some (.ref pf),o1,none,none,none]/\ao H2 H'/\H' pf=some (.lst xs)/\aZ H2 H' pf rs'/\∀ r∈rs',r.length<=50+i) ⟨_,R,rfl,s3,ex,h3,fun r hr=>by have:=lr r hr; lia⟩ (fun i σ H' _ h=>by obtain ⟨_,_,_,_,e,_⟩:=h; exact aq.of e) ?_ ?_⟩
  · rintro i v σ H4 hv ⟨o1,rs',rfl,sm,e4,h4,l4⟩
    obtain ⟨b,r,rfl,hr,hb',fb,nb⟩:=h4.at e4 hv
    have hi:=(List.getElem?_eq_some_iff.mp hv).1
    have l5:=l4 r (List.mem_of_getElem? hr)
    refine ⟨_,rfl,.inl ⟨rfl,_,aq.of hb'⟩,b,_,_,rfl,rfl,hb',by rw [List.length_map]; exact iy (by lia),?_⟩
    have hpu:=h4.put e4 hv (r++[0])
    rw [List.map_append] at hpu
    refine ⟨_,rs'.set i (r++[0]),rfl,sm.upd fb _,(ar (Ne.symm nb)).trans e4,hpu,fun z hz=>?_⟩
    rcases List.mem_or_eq_of_mem_set hz with h | rfl
    · have:=l4 z h
      lia
    · rw [List.length_append]
      show r.length+1<=_
      lia
  rintro σ H4 ⟨o1,rs',rfl,sm4,e4,h4,l4⟩
  refine ⟨_,rfl,.inl ⟨rfl,_,aq.of e4⟩,(by show 1<=sizeLine; decide),fun b hb'=>?_⟩
  refine ⟨pf,_,_,rfl,rfl,(ar (ay e4 hb')).trans e4,iy (by lia),?_⟩
  have sm5:=(ao.new sm4 hb' (.lst [.int 0])).upd f3 (.lst (xs++[.ref b]))
  have h25:=h2.same sm5
  generalize upd (upd H4 b (.lst [.int 0])) pf (.lst (xs++[.ref b]))=H5 at sm5 h25 |-
  refine ⟨_,rfl,x,n0,rfl,cx,lx1,by lia,fun pg us vs H6 s6 f6 h6 pt hp hs=>?_⟩
  have evs:=srt pt hp hs
  subst evs
  refine ⟨_,rfl,pg,pw,H5,H1,vs,rfl,h6,h25.same s6,by lia,fun r hr=>by have:=lr r hr; lia,_,rfl,cp ?_⟩
  have h26:=h25.same s6
  obtain ⟨xm,el,lxm⟩:=h26.len
  refine ⟨_,rfl,pw,rfl,⟨_,aq.of el⟩,fun D hD=>fV (xs:=xm) (fun k ys H'=>ao H6 H'/\H' D=some (.lst ys)/\aZ H6 H' D (vs.take k)/\k<=vs.length) (sz (by lia)) ⟨ao.new (ao.refl H6) hD _,ag,aZ.nil ag,Nat.zero_le _⟩ (fun k ys H' hk h=>⟨aq.of (h.1 _ _ el),?_⟩) (fun k v ys H' Ra Rb hx h r r0=>?_) (fun ys H' h=>?_)⟩
  · obtain ⟨us,eu,lu⟩:=h.2.2.1.len
    rw [h.2.1] at eu
    cases eu
    rw [lu,List.length_take]
    lia
  · obtain ⟨sk,hy,lk,hk⟩:=h
    obtain ⟨b,ns',rfl,hn,hb',_⟩:=h26.at el hx
    have hlt:k < vs.length:=(List.getElem?_eq_some_iff.mp hn).1
    refine ⟨Ext.set rfl,qh (eK ⟨_,rfl,b,_,rfl,.inl (aq.of (sk _ _ hb')),fun c hc=>?_⟩)⟩
    have k9:=ao.new (ao.refl H') hc (.lst (ns'.map V.int))
    refine r _ _ (k9 _ _ hy) ⟨(sk.trans k9).upd hD _,ag,?_,hlt⟩
    rw [List.take_add_one,hn]
    exact lk.push hy k9 hc ag (sk.free hc)
  obtain ⟨s7,hy,l7,_⟩:=h
  rw [List.take_of_length_le (by lia)] at l7
  generalize H'=H7 at *
  refine ⟨_,rfl,D,H6,vs,n0,rfl,l7,gd,by lia,fun y H8 s8 ey=>?_⟩
  rw [show y=x from pk (ey.trans etx)]
  refine ⟨_,rfl,x,rfl,_,rfl,cp ⟨_,rfl,_,rfl,D,pw,H6,H1,vs,rfl,l7.same s8,(h26.same s7).same s8,by lia,fun r hr=>by have:=lr r hr; lia,_,rfl,cp ?_⟩⟩
  have t8:=t2.trans ((sm5.trans s6).trans (s7.trans s8))
  refine ⟨_,rfl,x,rfl,by lia,by lia,fun p qs H9 s9 f9 pmq rsq hp9=>?_⟩
  rw [<- bU] at pmq
  have er:=xg W.wk W.wf pmq rsq
  obtain ⟨tn,ltn⟩:=u6 cx lx2 pmq rsq
  have ntx:=v7 cx
  rw [er,<- rowm] at tn ltn hp9
  refine ⟨_,rfl,x,n0,rfl,cx,lx1,by lia,fun pt2 Ha sa fa ha=>?_⟩
  refine ⟨_,rfl,_,rfl,pt2,p,_,rfl,ha,sa _ _ hp9,by lia,_,rfl,cp ?_⟩
  generalize eN:(aT x.cps.toList).2.2.1.flatten=N at tn ltn hp9 ntx ha
  refine ⟨_,rfl,.inl ⟨rfl,_,aq.of ha⟩,pt2,_,_,rfl,rfl,ha,by rw [List.length_map]; exact iy (by lia),?_⟩
  have kb:=sa.upd fa (.lst (N.map V.int++[.int 0]))
  generalize upd Ha pt2 (.lst (N.map V.int++[.int 0]))=Hb at kb |-
  refine ⟨_,rfl,x,n0,rfl,cx,lx1,by lia,fun pt3 Hc sc fc hc=>?_⟩
  rw [eN] at hc
  have kc:=kb.trans sc
  refine ⟨_,rfl,pt3,p,N,rfl,hc,kc _ _ hp9,by lia,_,rfl,cp ?_⟩
  refine ⟨_,rfl,p,_,rfl,.inl (aq.of (kc _ _ hp9)),fun c hcc=>?_⟩
  have kd:=ao.new kc hcc (.lst (N.map V.int))
  have hd':upd Hc c (.lst (N.map V.int)) c=some (.lst (N.map V.int)):=ag
  generalize upd Hc c (.lst (N.map V.int))=Hd at kd hd' |-
  refine ⟨_,rfl,c,N,rfl,hd',by lia,tn,fun y Hj sj ey=>?_⟩
  rw [show y=x from pk (ey.trans ntx)]
  refine ⟨_,rfl,x,rfl,_,rfl,cp ⟨_,rfl,_,rfl,c,p,N,rfl,sj _ _ hd',sj _ _ (kd _ _ hp9),by lia,_,rfl,cp ?_⟩⟩
  have tz:ao H Hj:=(t8.trans s9).trans (kd.trans sj)
  refine ⟨_,rfl,a,ns,1,rfl,tz.seq hS,by decide,_,_,rfl,rfl,pm (by decide),?_⟩
  try dsimp only
  generalize ns.getD (1:Int).toNat 0 % 41=z at m1 |-
  obtain ⟨n1,rfl⟩:∃ n:Nat,z=(n:Int):=⟨z.toNat,by lia⟩
  refine ⟨_,rfl,_,rfl,a,ns,n1,100,rfl,tz.seq hS,h63,by lia,by decide,by decide,fun pr rs op Hk sk fk hrk rom=>?_⟩
  have good:=yZ rom.rooms
  have fl1:rs.flatten.length=n1:=by
    have:=rom.rms.flat.length_eq
    rw [vZ] at this
    exact this
  rw [fl1] at good
  have ln1:=j5 good.ne fl1
  have lr1:=rom.lens.2.2.2
  obtain ⟨xr,er1,lxr⟩:=hrk.len
  refine ⟨_,rfl,pr,rfl,⟨_,aq.of er1⟩,fun D hD=>fV (xs:=xr) (fun k ys H'=>ao Hk H'/\H' D=some (.lst ys)/\aZ Hk H' D (rs.take k)/\k<=rs.length) (sz (by lia)) ⟨ao.new (ao.refl Hk) hD _,ag,aZ.nil ag,Nat.zero_le _⟩ (fun k ys H' hk h=>⟨aq.of (h.1 _ _ er1),?_⟩) (fun k v ys H' Ra Rb hx h r r0=>?_) (fun ys H' h=>?_)⟩
  · obtain ⟨us,eu,lu⟩:=h.2.2.1.len
    rw [h.2.1] at eu
    cases eu
    rw [lu,List.length_take]
    lia
  · obtain ⟨sk,hy,lk,hk⟩:=h
    obtain ⟨b,ns',rfl,hn,hb',_⟩:=hrk.at er1 hx
    have hlt:k < rs.length:=(List.getElem?_eq_some_iff.mp hn).1
    refine ⟨Ext.set rfl,qh (eK ⟨_,rfl,b,_,rfl,.inl (aq.of (sk _ _ hb')),fun c hc=>?_⟩)⟩
    have k9:=ao.new (ao.refl H') hc (.lst (ns'.map V.int))
    refine r _ _ (k9 _ _ hy) ⟨(sk.trans k9).upd hD _,ag,?_,hlt⟩
    rw [List.take_add_one,hn]
    exact lk.push hy k9 hc ag (sk.free hc)
  obtain ⟨sl,hyl,ll,_⟩:=h
  rw [List.take_of_length_le (by lia)] at ll
  generalize H'=Hl at *
  refine ⟨D,Hk,rs,n1,rfl,ll,good,by lia,fun y Hm sm ey=>?_⟩
  have ly:y.length=2*n1:=by rw [<- bU,ey,tm good]
  obtain ⟨ct,rr,ah2,em2,pr2⟩:=good.text
  rw [<- ey] at ct em2
  refine ⟨_,rfl,_,_,_,_,_,rfl,mH,.str _,nq,_,rfl,cp ⟨_,rfl,y,rfl,sz (by lia),_,rfl,_,_,rfl,rfl,.inl ⟨by decide,by decide⟩,rfl,_,rfl,oM (by rw [ly]; congr 1) ⟨_,rfl,y,rfl,?_⟩⟩⟩
  rw [ct]
  refine ⟨_,rfl,cp ?_⟩
  refine ⟨_,rfl,y,n1,rfl,ct,ly,by lia,fun pz us2 vs2 Hn sn fn hn pt2 hp2 hs2=>?_⟩
  rw [em2] at pt2
  have eus:=@oE [] rr us2 (fun r hr=>good.inc r (pr2.mem_iff.mp hr)) pt2
  have evs2:=good.sort (by rw [eus]; exact pr2) hp2 hs2
  subst evs2
  exact ⟨_,rfl,pz,pr,Hm,Hj,vs2,rfl,hn,((hrk.same sl).same sm).same sn,by lia,fun r hr=>by have:=lr1 r hr; lia,q _⟩
end
noncomputable def yo (K:W.Frag):Sp:=fun vs H Q _=>∃ (a:Addr) (ns:List Int),vs=[.ref a]/\aq K H a (ns.map V.int)/\ns.length<=63/\∀ H',Q (.bl true) H'
theorem cg {P:List Value->Prop} (h:∀ a0:Value,P [a0]):∀ us:List Value,us.length=1->P us
  | [a0],_=>h a0
theorem cO {P:List Value->Prop} (h:∀ a0 a1:Value,P [a0,a1]):∀ us:List Value,us.length=2->P us
  | [a0,a1],_=>h a0 a1
theorem jA {P:List Value->Prop} (h:∀ a0 a1 a2:Value,P [a0,a1,a2]):∀ us:List Value,us.length=3->P us
  | [a0,a1,a2],_=>h a0 a1 a2
theorem all_mk {l:W.OpenLaw} {w:World} {K:W.Frag} {h:Heap} {mg:Str->Option Value} {fa:Addr} (X:K.In h) (G:h.Ns mainGlobals mg) (hfa:mg "law" = some (.ref fa)) {ax:Addr} {aO:Addr} {bV:Addr} {aG:Addr} {aM:Addr}
    {f1:Addr} {od1 an1:Option Addr} {sl1:Array (Option Value)} {oc1 kV1 dc1 pm1 cd1 ct1:Value}
    {f2:Addr} {od2 an2:Option Addr} {sl2:Array (Option Value)} {oc2 kV2 dc2 pm2 cd2 ct2:Value}
    {f3:Addr} {od3 an3:Option Addr} {sl3:Array (Option Value)} {oc3 kV3 dc3 pm3 cd3 ct3:Value}
    {f4:Addr} {od4 an4:Option Addr} {sl4:Array (Option Value)} {oc4 kV4 dc4 pm4 cd4 ct4:Value}
    {f5:Addr} {od5 an5:Option Addr} {sl5:Array (Option Value)} {oc5 kV5 dc5 pm5 cd5 ct5:Value}
    {f6:Addr} {od6 an6:Option Addr} {sl6:Array (Option Value)} {oc6 kV6 dc6 pm6 cd6 ct6:Value}
    {f7:Addr} {od7 an7:Option Addr} {sl7:Array (Option Value)} {oc7 kV7 dc7 pm7 cd7 ct7:Value}
    {f8:Addr} {od8 an8:Option Addr} {sl8:Array (Option Value)} {oc8 kV8 dc8 pm8 cd8 ct8:Value}
    {f9:Addr} {od9 an9:Option Addr} {sl9:Array (Option Value)} {oc9 kV9 dc9 pm9 cd9 ct9:Value}
    {f10:Addr} {od10 an10:Option Addr} {sl10:Array (Option Value)} {oc10 kV10 dc10 pm10 cd10 ct10:Value}
    {f11:Addr} {od11 an11:Option Addr} {sl11:Array (Option Value)} {oc11 kV11 dc11 pm11 cd11 ct11:Value}
    {f12:Addr} {od12 an12:Option Addr} {sl12:Array (Option Value)} {oc12 kV12 dc12 pm12 cd12 ct12:Value}
    {f13:Addr} {od13 an13:Option Addr} {sl13:Array (Option Value)} {oc13 kV13 dc13 pm13 cd13 ct13:Value}
    {f14:Addr} {od14 an14:Option Addr} {sl14:Array (Option Value)} {oc14 kV14 dc14 pm14 cd14 ct14:Value}
    {f15:Addr} {od15 an15:Option Addr} {sl15:Array (Option Value)} {oc15 kV15 dc15 pm15 cd15 ct15:Value}
    {f16:Addr} {od16 an16:Option Addr} {sl16:Array (Option Value)} {oc16 kV16 dc16 pm16 cd16 ct16:Value}
    {f17:Addr} {od17 an17:Option Addr} {sl17:Array (Option Value)} {oc17 kV17 dc17 pm17 cd17 ct17:Value}
    {f18:Addr} {od18 an18:Option Addr} {sl18:Array (Option Value)} {oc18 kV18 dc18 pm18 cd18 ct18:Value}
    {f19:Addr} {od19 an19:Option Addr} {sl19:Array (Option Value)} {oc19 kV19 dc19 pm19 cd19 ct19:Value}
    {f20:Addr} {od20 an20:Option Addr} {sl20:Array (Option Value)} {oc20 kV20 dc20 pm20 cd20 ct20:Value}
    {f21:Addr} {od21 an21:Option Addr} {sl21:Array (Option Value)} {oc21 kV21 dc21 pm21 cd21 ct21:Value}
    {f22:Addr} {od22 an22:Option Addr} {sl22:Array (Option Value)} {oc22 kV22 dc22 pm22 cd22 ct22:Value}
    {f23:Addr} {od23 an23:Option Addr} {sl23:Array (Option Value)} {oc23 kV23 dc23 pm23 cd23 ct23:Value}
    {f24:Addr} {od24 an24:Option Addr} {sl24:Array (Option Value)} {oc24 kV24 dc24 pm24 cd24 ct24:Value}
    {f25:Addr} {od25 an25:Option Addr} {sl25:Array (Option Value)} {oc25 kV25 dc25 pm25 cd25 ct25:Value}
    {f26:Addr} {od26 an26:Option Addr} {sl26:Array (Option Value)} {oc26 kV26 dc26 pm26 cd26 ct26:Value}
    {f27:Addr} {od27 an27:Option Addr} {sl27:Array (Option Value)} {oc27 kV27 dc27 pm27 cd27 ct27:Value}
    {f28:Addr} {od28 an28:Option Addr} {sl28:Array (Option Value)} {oc28 kV28 dc28 pm28 cd28 ct28:Value}
    {f29:Addr} {od29 an29:Option Addr} {sl29:Array (Option Value)} {oc29 kV29 dc29 pm29 cd29 ct29:Value}
    {f30:Addr} {od30 an30:Option Addr} {sl30:Array (Option Value)} {oc30 kV30 dc30 pm30 cd30 ct30:Value}
    {f31:Addr} {od31 an31:Option Addr} {sl31:Array (Option Value)} {oc31 kV31 dc31 pm31 cd31 ct31:Value}
    {f32:Addr} {od32 an32:Option Addr} {sl32:Array (Option Value)} {oc32 kV32 dc32 pm32 cd32 ct32:Value}
    {f33:Addr} {od33 an33:Option Addr} {sl33:Array (Option Value)} {oc33 kV33 dc33 pm33 cd33 ct33:Value}
    {f34:Addr} {od34 an34:Option Addr} {sl34:Array (Option Value)} {oc34 kV34 dc34 pm34 cd34 ct34:Value}
    {f35:Addr} {od35 an35:Option Addr} {sl35:Array (Option Value)} {oc35 kV35 dc35 pm35 cd35 ct35:Value}
    {f36:Addr} {od36 an36:Option Addr} {sl36:Array (Option Value)} {oc36 kV36 dc36 pm36 cd36 ct36:Value}
    {f37:Addr} {od37 an37:Option Addr} {sl37:Array (Option Value)} {oc37 kV37 dc37 pm37 cd37 ct37:Value}
    {f38:Addr} {od38 an38:Option Addr} {sl38:Array (Option Value)} {oc38 kV38 dc38 pm38 cd38 ct38:Value}
    {f39:Addr} {od39 an39:Option Addr} {sl39:Array (Option Value)} {oc39 kV39 dc39 pm39 cd39 ct39:Value}
    {f40:Addr} {od40 an40:Option Addr} {sl40:Array (Option Value)} {oc40 kV40 dc40 pm40 cd40 ct40:Value}
    {f41:Addr} {od41 an41:Option Addr} {sl41:Array (Option Value)} {oc41 kV41 dc41 pm41 cd41 ct41:Value}
    (su:W.nsIn K mainGlobals "Brackets" = some (some (.ref ax)))
    (pJ:W.nsIn K mainGlobals "SplitFamily" = some (some (.ref aO)))
    (vi:W.nsIn K mainGlobals "Family" = some (some (.ref bV)))
    (wo:W.nsIn K mainGlobals "Rooms" = some (some (.ref aG)))
    (v9:W.nsIn K mainGlobals "Turns" = some (some (.ref aM)))
    (jX:W.findIn K (.ref ax) "refuse_other" = some (some (.ref f12)))
    (mX:W.findIn K (.ref ax) "is_one" = some (some (.ref f11)))
    (lp:W.findIn K (.ref aG) "refuse_other" = some (some (.ref f27)))
    (oz:W.findIn K (.ref aG) "size_of" = some (some (.ref f28)))
    (oX:W.findIn K (.ref aG) "is_one" = some (some (.ref f26)))
    (kT:W.findIn K (.ref aM) "refuse_other" = some (some (.ref f37)))
    (pO:W.findIn K (.ref aM) "is_one" = some (some (.ref f36)))
    (sG:W.findIn K (.ref ax) "__init__" = some (some (.ref f9)))
    (wg:W.findIn K (.ref aG) "__init__" = some (some (.ref f21)))
    (vN:W.findIn K (.ref aM) "__init__" = some (some (.ref f34)))
    (gI:W.findCls K (.ref aO) (.type "type") "__init__" = some (.val (.ref f8)))
    (gJ:W.specialIn K (.ref aO) "__getattribute__" = some (some (.builtin "type.__getattribute__")))
    (gE:W.readsIn K aO (.type "type")=true)
    (iR:W.findCls K (.ref bV) (.type "type") "__init__" = some (.val (.ref f7)))
    (iZ:W.specialIn K (.ref bV) "__getattribute__" = some (some (.builtin "type.__getattribute__")))
    (iY:W.readsIn K bV (.type "type")=true)
    (ie:W.findCls K (.ref aO) (.type "type") "__init__" = some (.val (.ref f20)))
    (ic:W.specialIn K (.ref aO) "__getattribute__" = some (some (.builtin "type.__getattribute__")))
    (ip:W.readsIn K aO (.type "type")=true)
    (jI:W.findCls K (.ref bV) (.type "type") "__init__" = some (.val (.ref f19)))
    (jQ:W.specialIn K (.ref bV) "__getattribute__" = some (some (.builtin "type.__getattribute__")))
    (jR:W.readsIn K bV (.type "type")=true)
    (ig:W.findCls K (.ref aO) (.type "type") "__init__" = some (.val (.ref f33)))
    (iw:W.specialIn K (.ref aO) "__getattribute__" = some (some (.builtin "type.__getattribute__")))
    (ir:W.readsIn K aO (.type "type")=true)
    (jL:W.findCls K (.ref bV) (.type "type") "__init__" = some (.val (.ref f32)))
    (jG:W.specialIn K (.ref bV) "__getattribute__" = some (some (.builtin "type.__getattribute__")))
    (jM:W.readsIn K bV (.type "type")=true)
    (a1:W.nsIn K mainGlobals "_law_mix" = some (some (.ref f1)))
    (l1:K.lookup f1=some ⟨oc1,od1,.func (W.fnOf "_law_mix" "_law_mix" (aw gc) (av gc) (aj gc) .none kV1 dc1 pm1 an1 cd1 ct1),sl1⟩)
    (c1:W.codeIn K cd1 "_law_mix" = true)
    (k1:W.keepIn K (.ref f1)=true)
    (a2:W.nsIn K mainGlobals "_law_draws" = some (some (.ref f2)))
    (l2:K.lookup f2=some ⟨oc2,od2,.func (W.fnOf "_law_draws" "_law_draws" (aw eH) (av eH) (aj eH) .none kV2 dc2 pm2 an2 cd2 ct2),sl2⟩)
    (c2:W.codeIn K cd2 "_law_draws" = true)
    (k2:W.keepIn K (.ref f2)=true)
    (a3:W.nsIn K mainGlobals "_law_text_by" = some (some (.ref f3)))
    (l3:K.lookup f3=some ⟨oc3,od3,.func (W.fnOf "_law_text_by" "_law_text_by" (aw dQ) (av dQ) (aj dQ) .none kV3 dc3 pm3 an3 cd3 ct3),sl3⟩)
    (c3:W.codeIn K cd3 "_law_text_by" = true)
    (k3:W.keepIn K (.ref f3)=true)
    (a4:W.nsIn K mainGlobals "_law_cell_at" = some (some (.ref f4)))
    (l4:K.lookup f4=some ⟨oc4,od4,.func (W.fnOf "_law_cell_at" "_law_cell_at" (aw dO) (av dO) (aj dO) .none kV4 dc4 pm4 an4 cd4 ct4),sl4⟩)
    (c4:W.codeIn K cd4 "_law_cell_at" = true)
    (k4:W.keepIn K (.ref f4)=true)
    (a5:W.nsIn K mainGlobals "_law_mate" = some (some (.ref f5)))
    (l5:K.lookup f5=some ⟨oc5,od5,.func (W.fnOf "_law_mate" "_law_mate" (aw fC) (av fC) (aj fC) .none kV5 dc5 pm5 an5 cd5 ct5),sl5⟩)
    (c5:W.codeIn K cd5 "_law_mate" = true)
    (k5:W.keepIn K (.ref f5)=true)
    (a6:W.nsIn K mainGlobals "_law_rooms_of" = some (some (.ref f6)))
    (l6:K.lookup f6=some ⟨oc6,od6,.func (W.fnOf "_law_rooms_of" "_law_rooms_of" (aw dF) (av dF) (aj dF) .none kV6 dc6 pm6 an6 cd6 ct6),sl6⟩)
    (c6:W.codeIn K cd6 "_law_rooms_of" = true)
    (k6:W.keepIn K (.ref f6)=true)
    (l7:K.lookup f7=some ⟨oc7,od7,.func (W.fnOf "__init__" "Family.__init__" (aw bo) (av bo) (aj bo) .none kV7 dc7 pm7 an7 cd7 ct7),sl7⟩)
    (c7:W.codeIn K cd7 "Family.__init__" = true)
    (k7:W.keepIn K (.ref f7)=true)
    (i7:W.isFn K (.ref f7)=true)
    (l8:K.lookup f8=some ⟨oc8,od8,.func (W.fnOf "__init__" "SplitFamily.__init__" (aw aN) (av aN) (aj aN) .none kV8 dc8 pm8 an8 cd8 ct8),sl8⟩)
    (c8:W.codeIn K cd8 "SplitFamily.__init__" = true)
    (k8:W.keepIn K (.ref f8)=true)
    (i8:W.isFn K (.ref f8)=true)
    (l9:K.lookup f9=some ⟨oc9,od9,.func (W.fnOf "__init__" "Brackets.__init__" (aw bQ) (av bQ) (aj bQ) .none kV9 dc9 pm9 an9 cd9 ct9),sl9⟩)
    (c9:W.codeIn K cd9 "Brackets.__init__" = true)
    (k9:W.keepIn K (.ref f9)=true)
    (i9:W.isFn K (.ref f9)=true)
    (a10:W.nsIn K mainGlobals "closes" = some (some (.ref f10)))
    (l10:K.lookup f10=some ⟨oc10,od10,.func (W.fnOf "closes" "closes" (aw iK) (av iK) (aj iK) .none kV10 dc10 pm10 an10 cd10 ct10),sl10⟩)
    (c10:W.codeIn K cd10 "closes" = true)
    (k10:W.keepIn K (.ref f10)=true)
    (l11:K.lookup f11=some ⟨oc11,od11,.func (W.fnOf "is_one" "Brackets.is_one" (aw cy) (av cy) (aj cy) .none kV11 dc11 pm11 an11 cd11 ct11),sl11⟩)
    (c11:W.codeIn K cd11 "Brackets.is_one" = true)
    (k11:W.keepIn K (.ref f11)=true)
    (i11:W.isFn K (.ref f11)=true)
    (l12:K.lookup f12=some ⟨oc12,od12,.func (W.fnOf "refuse_other" "Family.refuse_other" (aw aQ) (av aQ) (aj aQ) .none kV12 dc12 pm12 an12 cd12 ct12),sl12⟩)
    (c12:W.codeIn K cd12 "Family.refuse_other" = true)
    (k12:W.keepIn K (.ref f12)=true)
    (i12:W.isFn K (.ref f12)=true)
    (a13:W.nsIn K mainGlobals "closed_in_runs" = some (some (.ref f13)))
    (l13:K.lookup f13=some ⟨oc13,od13,.func (W.fnOf "closed_in_runs" "closed_in_runs" (aw cZ) (av cZ) (aj cZ) .none kV13 dc13 pm13 an13 cd13 ct13),sl13⟩)
    (c13:W.codeIn K cd13 "closed_in_runs" = true)
    (k13:W.keepIn K (.ref f13)=true)
    (a14:W.nsIn K mainGlobals "brackets_to_rooms" = some (some (.ref f14)))
    (l14:K.lookup f14=some ⟨oc14,od14,.func (W.fnOf "brackets_to_rooms" "brackets_to_rooms" (aw cf) (av cf) (aj cf) .none kV14 dc14 pm14 an14 cd14 ct14),sl14⟩)
    (c14:W.codeIn K cd14 "brackets_to_rooms" = true)
    (k14:W.keepIn K (.ref f14)=true)
    (a15:W.nsIn K mainGlobals "_law_whole" = some (some (.ref f15)))
    (l15:K.lookup f15=some ⟨oc15,od15,.func (W.fnOf "_law_whole" "_law_whole" (aw eL) (av eL) (aj eL) .none kV15 dc15 pm15 an15 cd15 ct15),sl15⟩)
    (c15:W.codeIn K cd15 "_law_whole" = true)
    (k15:W.keepIn K (.ref f15)=true)
    (a16:W.nsIn K mainGlobals "_law_numbers" = some (some (.ref f16)))
    (l16:K.lookup f16=some ⟨oc16,od16,.func (W.fnOf "_law_numbers" "_law_numbers" (aw dP) (av dP) (aj dP) .none kV16 dc16 pm16 an16 cd16 ct16),sl16⟩)
    (c16:W.codeIn K cd16 "_law_numbers" = true)
    (k16:W.keepIn K (.ref f16)=true)
    (a17:W.nsIn K mainGlobals "_law_rows" = some (some (.ref f17)))
    (l17:K.lookup f17=some ⟨oc17,od17,.func (W.fnOf "_law_rows" "_law_rows" (aw fz) (av fz) (aj fz) .none kV17 dc17 pm17 an17 cd17 ct17),sl17⟩)
    (c17:W.codeIn K cd17 "_law_rows" = true)
    (k17:W.keepIn K (.ref f17)=true)
    (a18:W.nsIn K mainGlobals "_law_text" = some (some (.ref f18)))
    (l18:K.lookup f18=some ⟨oc18,od18,.func (W.fnOf "_law_text" "_law_text" (aw fE) (av fE) (aj fE) .none kV18 dc18 pm18 an18 cd18 ct18),sl18⟩)
    (c18:W.codeIn K cd18 "_law_text" = true)
    (k18:W.keepIn K (.ref f18)=true)
    (l19:K.lookup f19=some ⟨oc19,od19,.func (W.fnOf "__init__" "Family.__init__" (aw bA) (av bA) (aj bA) .none kV19 dc19 pm19 an19 cd19 ct19),sl19⟩)
    (c19:W.codeIn K cd19 "Family.__init__" = true)
    (k19:W.keepIn K (.ref f19)=true)
    (i19:W.isFn K (.ref f19)=true)
    (l20:K.lookup f20=some ⟨oc20,od20,.func (W.fnOf "__init__" "SplitFamily.__init__" (aw aY) (av aY) (aj aY) .none kV20 dc20 pm20 an20 cd20 ct20),sl20⟩)
    (c20:W.codeIn K cd20 "SplitFamily.__init__" = true)
    (k20:W.keepIn K (.ref f20)=true)
    (i20:W.isFn K (.ref f20)=true)
    (l21:K.lookup f21=some ⟨oc21,od21,.func (W.fnOf "__init__" "Rooms.__init__" (aw cP) (av cP) (aj cP) .none kV21 dc21 pm21 an21 cd21 ct21),sl21⟩)
    (c21:W.codeIn K cd21 "Rooms.__init__" = true)
    (k21:W.keepIn K (.ref f21)=true)
    (i21:W.isFn K (.ref f21)=true)
    (a22:W.nsIn K mainGlobals "each_once" = some (some (.ref f22)))
    (l22:K.lookup f22=some ⟨oc22,od22,.func (W.fnOf "each_once" "each_once" (aw fG) (av fG) (aj fG) .none kV22 dc22 pm22 an22 cd22 ct22),sl22⟩)
    (c22:W.codeIn K cd22 "each_once" = true)
    (k22:W.keepIn K (.ref f22)=true)
    (a23:W.nsIn K mainGlobals "flat" = some (some (.ref f23)))
    (l23:K.lookup f23=some ⟨oc23,od23,.func (W.fnOf "flat" "flat" (aw kP) (av kP) (aj kP) .none kV23 dc23 pm23 an23 cd23 ct23),sl23⟩)
    (c23:W.codeIn K cd23 "flat" = true)
    (k23:W.keepIn K (.ref f23)=true)
    (a24:W.nsIn K mainGlobals "any_cross" = some (some (.ref f24)))
    (l24:K.lookup f24=some ⟨oc24,od24,.func (W.fnOf "any_cross" "any_cross" (aw fB) (av fB) (aj fB) .none kV24 dc24 pm24 an24 cd24 ct24),sl24⟩)
    (c24:W.codeIn K cd24 "any_cross" = true)
    (k24:W.keepIn K (.ref f24)=true)
    (a25:W.nsIn K mainGlobals "neighbours" = some (some (.ref f25)))
    (l25:K.lookup f25=some ⟨oc25,od25,.func (W.fnOf "neighbours" "neighbours" (aw eM) (av eM) (aj eM) .none kV25 dc25 pm25 an25 cd25 ct25),sl25⟩)
    (c25:W.codeIn K cd25 "neighbours" = true)
    (k25:W.keepIn K (.ref f25)=true)
    (l26:K.lookup f26=some ⟨oc26,od26,.func (W.fnOf "is_one" "Rooms.is_one" (aw dC) (av dC) (aj dC) .none kV26 dc26 pm26 an26 cd26 ct26),sl26⟩)
    (c26:W.codeIn K cd26 "Rooms.is_one" = true)
    (k26:W.keepIn K (.ref f26)=true)
    (i26:W.isFn K (.ref f26)=true)
    (l27:K.lookup f27=some ⟨oc27,od27,.func (W.fnOf "refuse_other" "Family.refuse_other" (aw bc) (av bc) (aj bc) .none kV27 dc27 pm27 an27 cd27 ct27),sl27⟩)
    (c27:W.codeIn K cd27 "Family.refuse_other" = true)
    (k27:W.keepIn K (.ref f27)=true)
    (i27:W.isFn K (.ref f27)=true)
    (l28:K.lookup f28=some ⟨oc28,od28,.func (W.fnOf "size_of" "Rooms.size_of" (aw dj) (av dj) (aj dj) .none kV28 dc28 pm28 an28 cd28 ct28),sl28⟩)
    (c28:W.codeIn K cd28 "Rooms.size_of" = true)
    (k28:W.keepIn K (.ref f28)=true)
    (i28:W.isFn K (.ref f28)=true)
    (a29:W.nsIn K mainGlobals "rooms_to_brackets" = some (some (.ref f29)))
    (l29:K.lookup f29=some ⟨oc29,od29,.func (W.fnOf "rooms_to_brackets" "rooms_to_brackets" (aw bY) (av bY) (aj bY) .none kV29 dc29 pm29 an29 cd29 ct29),sl29⟩)
    (c29:W.codeIn K cd29 "rooms_to_brackets" = true)
    (k29:W.keepIn K (.ref f29)=true)
    (a30:W.nsIn K mainGlobals "_law_turns_of" = some (some (.ref f30)))
    (l30:K.lookup f30=some ⟨oc30,od30,.func (W.fnOf "_law_turns_of" "_law_turns_of" (aw dD) (av dD) (aj dD) .none kV30 dc30 pm30 an30 cd30 ct30),sl30⟩)
    (c30:W.codeIn K cd30 "_law_turns_of" = true)
    (k30:W.keepIn K (.ref f30)=true)
    (a31:W.nsIn K mainGlobals "brackets_to_turns" = some (some (.ref f31)))
    (l31:K.lookup f31=some ⟨oc31,od31,.func (W.fnOf "brackets_to_turns" "brackets_to_turns" (aw cc) (av cc) (aj cc) .none kV31 dc31 pm31 an31 cd31 ct31),sl31⟩)
    (c31:W.codeIn K cd31 "brackets_to_turns" = true)
    (k31:W.keepIn K (.ref f31)=true)
    (l32:K.lookup f32=some ⟨oc32,od32,.func (W.fnOf "__init__" "Family.__init__" (aw bz) (av bz) (aj bz) .none kV32 dc32 pm32 an32 cd32 ct32),sl32⟩)
    (c32:W.codeIn K cd32 "Family.__init__" = true)
    (k32:W.keepIn K (.ref f32)=true)
    (i32:W.isFn K (.ref f32)=true)
    (l33:K.lookup f33=some ⟨oc33,od33,.func (W.fnOf "__init__" "SplitFamily.__init__" (aw aX) (av aX) (aj aX) .none kV33 dc33 pm33 an33 cd33 ct33),sl33⟩)
    (c33:W.codeIn K cd33 "SplitFamily.__init__" = true)
    (k33:W.keepIn K (.ref f33)=true)
    (i33:W.isFn K (.ref f33)=true)
    (l34:K.lookup f34=some ⟨oc34,od34,.func (W.fnOf "__init__" "Turns.__init__" (aw cN) (av cN) (aj cN) .none kV34 dc34 pm34 an34 cd34 ct34),sl34⟩)
    (c34:W.codeIn K cd34 "Turns.__init__" = true)
    (k34:W.keepIn K (.ref f34)=true)
    (i34:W.isFn K (.ref f34)=true)
    (a35:W.nsIn K mainGlobals "comes_off_a_stack" = some (some (.ref f35)))
    (l35:K.lookup f35=some ⟨oc35,od35,.func (W.fnOf "comes_off_a_stack" "comes_off_a_stack" (aw cb) (av cb) (aj cb) .none kV35 dc35 pm35 an35 cd35 ct35),sl35⟩)
    (c35:W.codeIn K cd35 "comes_off_a_stack" = true)
    (k35:W.keepIn K (.ref f35)=true)
    (l36:K.lookup f36=some ⟨oc36,od36,.func (W.fnOf "is_one" "Turns.is_one" (aw dG) (av dG) (aj dG) .none kV36 dc36 pm36 an36 cd36 ct36),sl36⟩)
    (c36:W.codeIn K cd36 "Turns.is_one" = true)
    (k36:W.keepIn K (.ref f36)=true)
    (i36:W.isFn K (.ref f36)=true)
    (l37:K.lookup f37=some ⟨oc37,od37,.func (W.fnOf "refuse_other" "Family.refuse_other" (aw a9) (av a9) (aj a9) .none kV37 dc37 pm37 an37 cd37 ct37),sl37⟩)
    (c37:W.codeIn K cd37 "Family.refuse_other" = true)
    (k37:W.keepIn K (.ref f37)=true)
    (i37:W.isFn K (.ref f37)=true)
    (a38:W.nsIn K mainGlobals "turns_to_brackets" = some (some (.ref f38)))
    (l38:K.lookup f38=some ⟨oc38,od38,.func (W.fnOf "turns_to_brackets" "turns_to_brackets" (aw bZ) (av bZ) (aj bZ) .none kV38 dc38 pm38 an38 cd38 ct38),sl38⟩)
    (c38:W.codeIn K cd38 "turns_to_brackets" = true)
    (k38:W.keepIn K (.ref f38)=true)
    (a39:W.nsIn K mainGlobals "_law_rooms_by" = some (some (.ref f39)))
    (l39:K.lookup f39=some ⟨oc39,od39,.func (W.fnOf "_law_rooms_by" "_law_rooms_by" (aw dH) (av dH) (aj dH) .none kV39 dc39 pm39 an39 cd39 ct39),sl39⟩)
    (c39:W.codeIn K cd39 "_law_rooms_by" = true)
    (k39:W.keepIn K (.ref f39)=true)
    (a40:W.nsIn K mainGlobals "_law_closes" = some (some (.ref f40)))
    (l40:K.lookup f40=some ⟨oc40,od40,.func (W.fnOf "_law_closes" "_law_closes" (aw d5) (av d5) (aj d5) .none kV40 dc40 pm40 an40 cd40 ct40),sl40⟩)
    (c40:W.codeIn K cd40 "_law_closes" = true)
    (k40:W.keepIn K (.ref f40)=true)
    (a41:W.nsIn K mainGlobals "law" = some (some (.ref f41)))
    (l41:K.lookup f41=some ⟨oc41,od41,.func (W.fnOf "law" "law" (aw jv) (av jv) (aj jv) .none kV41 dc41 pm41 an41 cd41 ct41),sl41⟩)
    (c41:W.codeIn K cd41 "law" = true)
    (k41:W.keepIn K (.ref f41)=true)
    (pg_Brackets:W.plainGet K ax Str.empty=true)
    (hd_Brackets:W.hasDictIn K ax=true)
    (po_Brackets:W.plainOver K ax=true)
    (sa_Brackets:W.findIn K (.ref ax) "__setattr__" = some (some (.builtin "object.__setattr__")))
    (pg_Rooms:W.plainGet K aG Str.empty=true)
    (hd_Rooms:W.hasDictIn K aG=true)
    (po_Rooms:W.plainOver K aG=true)
    (sa_Rooms:W.findIn K (.ref aG) "__setattr__" = some (some (.builtin "object.__setattr__")))
    (pg_Turns:W.plainGet K aM Str.empty=true)
    (hd_Turns:W.hasDictIn K aM=true)
    (po_Turns:W.plainOver K aM=true)
    (sa_Turns:W.findIn K (.ref aM) "__setattr__" = some (some (.builtin "object.__setattr__")))
    (mk_Brackets:W.makesIn K ax=true)
    (kc_Brackets:W.keepIn K (.ref ax)=true)
    (mk_Rooms:W.makesIn K aG=true)
    (kc_Rooms:W.keepIn K (.ref aG)=true)
    (mk_Turns:W.makesIn K aM=true)
    (kc_Turns:W.keepIn K (.ref aM)=true)
    (gz:W.findIn K (.ref ax) "word" = some none)
    (gk:W.findIn K (.ref ax) "least" = some none)
    (je:W.findIn K (.ref aG) "word" = some none)
    (iF:W.findIn K (.ref aG) "least" = some none)
    (ja:W.findIn K (.ref aM) "word" = some none)
    (iN:W.findIn K (.ref aM) "least" = some none)
    (z_range:W.nsIn K mainGlobals "range" = some none)
    (z_len:W.nsIn K mainGlobals "len" = some none)
    (z_int:W.nsIn K mainGlobals "int" = some none)
    (z_sorted:W.nsIn K mainGlobals "sorted" = some none)
    (z_isinstance:W.nsIn K mainGlobals "isinstance" = some none)
    (z_bool:W.nsIn K mainGlobals "bool" = some none)
    (z_list:W.nsIn K mainGlobals "list" = some none)
    (z_str:W.nsIn K mainGlobals "str" = some none)
    (z_zip:W.nsIn K mainGlobals "zip" = some none)
    (z_sum:W.nsIn K mainGlobals "sum" = some none)
    (z_max:W.nsIn K mainGlobals "max" = some none)
    (z_enumerate:W.nsIn K mainGlobals "enumerate" = some none) :
    ∃ fd:FuncData,(∀ (s:Shared) (v:Value),BindsTo s fd ⟨[v],[]⟩ [("_law_script",v)])/\∀ base:Heap,K.In base->base.Ns mainGlobals mg->aH l.prog w K mg base bM 8 fa fd ["_law_script"] (yo K):=by
  have e:=hfa.symm.trans (W.mg_of X G a41)
  cases e
  have CA:yz K mg ⟨ax,aO,bV,aG,aM,f7,f8,f9,f11,f12,f19,f20,f21,f26,f27,f28,f32,f33,f34,f36,f37⟩:=⟨W.mg_of X G su,W.mg_of X G pJ,W.mg_of X G vi,W.mg_of X G wo,W.mg_of X G v9,⟨pg_Brackets,hd_Brackets,po_Brackets,sa_Brackets⟩,⟨pg_Rooms,hd_Rooms,po_Rooms,sa_Rooms⟩,⟨pg_Turns,hd_Turns,po_Turns,sa_Turns⟩,⟨jX,i12,k12⟩,⟨mX,i11,k11⟩,⟨lp,i27,k27⟩,⟨oz,i28,k28⟩,⟨oX,i26,k26⟩,⟨kT,i37,k37⟩,⟨pO,i36,k36⟩,⟨mk_Brackets,sG,i9,kc_Brackets⟩,⟨mk_Rooms,wg,i21,kc_Rooms⟩,⟨mk_Turns,vN,i34,kc_Turns⟩,⟨gJ,gE,gI,k8⟩,⟨iZ,iY,iR,k7⟩,⟨ic,ip,ie,k20⟩,⟨jQ,jR,jI,k19⟩,⟨iw,ir,ig,k33⟩,⟨jG,jM,jL,k32⟩,gz,gk,je,iF,ja,iN⟩
  have F1:=aF (st:=gc) l1 c1 k1
  have b1:=F1.binds (ps:=["_law_cell","_law_turn"]) fun _ _ _ _ _ _=>cO (fun _ _=>rfl)
  have F2:=aF (st:=eH) l2 c2 k2
  have b2:=F2.binds (ps:=["_law_script","_law_turn","_law_many"]) fun _ _ _ _ _ _=>jA (fun _ _ _=>rfl)
  have F3:=aF (st:=dQ) l3 c3 k3
  have b3:=F3.binds (ps:=["_law_script","_law_size","_law_turn"]) fun _ _ _ _ _ _=>jA (fun _ _ _=>rfl)
  have F4:=aF (st:=dO) l4 c4 k4
  have b4:=F4.binds (ps:=["_law_script","_law_k"]) fun _ _ _ _ _ _=>cO (fun _ _=>rfl)
  have F5:=aF (st:=fC) l5 c5 k5
  have b5:=F5.binds (ps:=["_law_text_here","_law_at"]) fun _ _ _ _ _ _=>cO (fun _ _=>rfl)
  have F6:=aF (st:=dF) l6 c6 k6
  have b6:=F6.binds (ps:=["_law_text_here"]) fun _ _ _ _ _ _=>cg (fun _=>rfl)
  have F7:=aF (st:=bo) l7 c7 k7
  have b7:=F7.binds (ps:=["self","word","least"]) fun _ _ _ _ _ _=>jA (fun _ _ _=>rfl)
  have F8:=aF (st:=aN) l8 c8 k8
  have b8:=F8.binds (ps:=["self","word"]) fun _ _ _ _ _ _=>cO (fun _ _=>rfl)
  have F9:=aF (st:=bQ) l9 c9 k9
  have b9:=F9.binds (ps:=["self"]) fun _ _ _ _ _ _=>cg (fun _=>rfl)
  have F10:=aF (st:=iK) l10 c10 k10
  have b10:=F10.binds (ps:=["text"]) fun _ _ _ _ _ _=>cg (fun _=>rfl)
  have F11:=aF (st:=cy) l11 c11 k11
  have b11:=F11.binds (ps:=["self","thing"]) fun _ _ _ _ _ _=>cO (fun _ _=>rfl)
  have F12:=aF (st:=aQ) l12 c12 k12
  have b12:=F12.binds (ps:=["self","thing"]) fun _ _ _ _ _ _=>cO (fun _ _=>rfl)
  have F13:=aF (st:=cZ) l13 c13 k13
  have b13:=F13.binds (ps:=["text"]) fun _ _ _ _ _ _=>cg (fun _=>rfl)
  have F14:=aF (st:=cf) l14 c14 k14
  have b14:=F14.binds (ps:=["thing"]) fun _ _ _ _ _ _=>cg (fun _=>rfl)
  have F15:=aF (st:=eL) l15 c15 k15
  have b15:=F15.binds (ps:=["_law_found"]) fun _ _ _ _ _ _=>cg (fun _=>rfl)
  have F16:=aF (st:=dP) l16 c16 k16
  have b16:=F16.binds (ps:=["_law_found","_law_due"]) fun _ _ _ _ _ _=>cO (fun _ _=>rfl)
  have F17:=aF (st:=fz) l17 c17 k17
  have b17:=F17.binds (ps:=["_law_found","_law_due"]) fun _ _ _ _ _ _=>cO (fun _ _=>rfl)
  have F18:=aF (st:=fE) l18 c18 k18
  have b18:=F18.binds (ps:=["_law_found","_law_due"]) fun _ _ _ _ _ _=>cO (fun _ _=>rfl)
  have F19:=aF (st:=bA) l19 c19 k19
  have b19:=F19.binds (ps:=["self","word","least"]) fun _ _ _ _ _ _=>jA (fun _ _ _=>rfl)
  have F20:=aF (st:=aY) l20 c20 k20
  have b20:=F20.binds (ps:=["self","word"]) fun _ _ _ _ _ _=>cO (fun _ _=>rfl)
  have F21:=aF (st:=cP) l21 c21 k21
  have b21:=F21.binds (ps:=["self"]) fun _ _ _ _ _ _=>cg (fun _=>rfl)
  have F22:=aF (st:=fG) l22 c22 k22
  have b22:=F22.binds (ps:=["numbers"]) fun _ _ _ _ _ _=>cg (fun _=>rfl)
  have F23:=aF (st:=kP) l23 c23 k23
  have b23:=F23.binds (ps:=["rows"]) fun _ _ _ _ _ _=>cg (fun _=>rfl)
  have F24:=aF (st:=fB) l24 c24 k24
  have b24:=F24.binds (ps:=["pairs"]) fun _ _ _ _ _ _=>cg (fun _=>rfl)
  have F25:=aF (st:=eM) l25 c25 k25
  have b25:=F25.binds (ps:=["rooms"]) fun _ _ _ _ _ _=>cg (fun _=>rfl)
  have F26:=aF (st:=dC) l26 c26 k26
  have b26:=F26.binds (ps:=["self","thing"]) fun _ _ _ _ _ _=>cO (fun _ _=>rfl)
  have F27:=aF (st:=bc) l27 c27 k27
  have b27:=F27.binds (ps:=["self","thing"]) fun _ _ _ _ _ _=>cO (fun _ _=>rfl)
  have F28:=aF (st:=dj) l28 c28 k28
  have b28:=F28.binds (ps:=["self","thing"]) fun _ _ _ _ _ _=>cO (fun _ _=>rfl)
  have F29:=aF (st:=bY) l29 c29 k29
  have b29:=F29.binds (ps:=["thing"]) fun _ _ _ _ _ _=>cg (fun _=>rfl)
  have F30:=aF (st:=dD) l30 c30 k30
  have b30:=F30.binds (ps:=["_law_text_here"]) fun _ _ _ _ _ _=>cg (fun _=>rfl)
  have F31:=aF (st:=cc) l31 c31 k31
  have b31:=F31.binds (ps:=["thing"]) fun _ _ _ _ _ _=>cg (fun _=>rfl)
  have F32:=aF (st:=bz) l32 c32 k32
  have b32:=F32.binds (ps:=["self","word","least"]) fun _ _ _ _ _ _=>jA (fun _ _ _=>rfl)
  have F33:=aF (st:=aX) l33 c33 k33
  have b33:=F33.binds (ps:=["self","word"]) fun _ _ _ _ _ _=>cO (fun _ _=>rfl)
  have F34:=aF (st:=cN) l34 c34 k34
  have b34:=F34.binds (ps:=["self"]) fun _ _ _ _ _ _=>cg (fun _=>rfl)
  have F35:=aF (st:=cb) l35 c35 k35
  have b35:=F35.binds (ps:=["numbers"]) fun _ _ _ _ _ _=>cg (fun _=>rfl)
  have F36:=aF (st:=dG) l36 c36 k36
  have b36:=F36.binds (ps:=["self","thing"]) fun _ _ _ _ _ _=>cO (fun _ _=>rfl)
  have F37:=aF (st:=a9) l37 c37 k37
  have b37:=F37.binds (ps:=["self","thing"]) fun _ _ _ _ _ _=>cO (fun _ _=>rfl)
  have F38:=aF (st:=bZ) l38 c38 k38
  have b38:=F38.binds (ps:=["thing"]) fun _ _ _ _ _ _=>cg (fun _=>rfl)
  have F39:=aF (st:=dH) l39 c39 k39
  have b39:=F39.binds (ps:=["_law_script","_law_size","_law_turn"]) fun _ _ _ _ _ _=>jA (fun _ _ _=>rfl)
  have F40:=aF (st:=d5) l40 c40 k40
  have b40:=F40.binds (ps:=["_law_text_here"]) fun _ _ _ _ _ _=>cg (fun _=>rfl)
  have F41:=aF (st:=jv) l41 c41 k41
  have ba:=W.mg_none_of X G z_range
  have aK:=W.mg_none_of X G z_len
  have mS:=W.mg_none_of X G z_int
  have cE:=W.mg_none_of X G z_sorted
  have aV:=W.mg_none_of X G z_isinstance
  have rQ:=W.mg_none_of X G z_bool
  have dz:=W.mg_none_of X G z_list
  have mF:=W.mg_none_of X G z_str
  have tG:=W.mg_none_of X G z_zip
  have tJ:=W.mg_none_of X G z_sum
  have t7:=W.mg_none_of X G z_max
  have kh:=W.mg_none_of X G z_enumerate
  refine ⟨W.fnOf "law" "law" (aw jv) (av jv) (aj jv) .none kV41 dc41 pm41 an41 cd41 ct41,fun s v=>.of_eq rfl,fun base _ _=>?_⟩
  have lH:Def l.prog w K mg base "_law_mix" ["_law_cell","_law_turn"] 1 (j8 K _) f1 _:=⟨(sr (P:=l.prog) (w:=w) (base:=base) CA F1).up,b1,k1,W.mg_of X G a1⟩
  have eI:Def l.prog w K mg base "_law_draws" ["_law_script","_law_turn","_law_many"] 2 (gr K _) f2 _:=⟨(qC (P:=l.prog) (w:=w) (base:=base) CA F2 lH ba aK).up,b2,k2,W.mg_of X G a2⟩
  have iI:Def l.prog w K mg base "_law_text_by" ["_law_script","_law_size","_law_turn"] 3 (hZ K _) f3 _:=⟨(oV (P:=l.prog) (w:=w) (base:=base) CA F3 eI ba).up,b3,k3,W.mg_of X G a3⟩
  have fZ:Def l.prog w K mg base "_law_cell_at" ["_law_script","_law_k"] 1 (g4 K _) f4 _:=⟨(oI (P:=l.prog) (w:=w) (base:=base) CA F4 aK).up,b4,k4,W.mg_of X G a4⟩
  have fu:Def l.prog w K mg base "_law_mate" ["_law_text_here","_law_at"] 1 (gZ K _) f5 _:=⟨(rR (P:=l.prog) (w:=w) (base:=base) CA F5 ba aK mS).up,b5,k5,W.mg_of X G a5⟩
  have h9:Def l.prog w K mg base "_law_rooms_of" ["_law_text_here"] 2 (gy K _) f6 _:=⟨(n8 (P:=l.prog) (w:=w) (base:=base) CA F6 fu ba aK).up,b6,k6,W.mg_of X G a6⟩
  have dB:bH l.prog w K mg base ["self","word","least"] 1 (di K _) f7 _:=⟨(iA (P:=l.prog) (w:=w) (base:=base) CA F7).up,b7⟩
  have cn:bH l.prog w K mg base ["self","word"] 3 (ck K _) f8 _:=⟨(gp (P:=l.prog) (w:=w) (base:=base) CA F8 dB).up,b8⟩
  have bP:bH l.prog w K mg base ["self"] 5 (dE K _) f9 _:=⟨(kQ (P:=l.prog) (w:=w) (base:=base) CA F9 cn).up,b9⟩
  have nM:Def l.prog w K mg base "closes" ["text"] 1 (mx K _) f10 _:=⟨(uU (P:=l.prog) (w:=w) (base:=base) CA F10).up,b10,k10,W.mg_of X G a10⟩
  have fR:bH l.prog w K mg base ["self","thing"] 2 (fK K _) f11 _:=⟨(lR (P:=l.prog) (w:=w) (base:=base) CA F11 nM).up,b11⟩
  have aP:bH l.prog w K mg base ["self","thing"] 3 (bB K _) f12 _:=⟨(gC (P:=l.prog) (w:=w) (base:=base) CA F12 fR).up,b12⟩
  have dh:Def l.prog w K mg base "closed_in_runs" ["text"] 1 (eE K _) f13 _:=⟨(mV (P:=l.prog) (w:=w) (base:=base) CA F13).up,b13,k13,W.mg_of X G a13⟩
  have cX:Def l.prog w K mg base "brackets_to_rooms" ["thing"] 7 (e7 K _) f14 _:=⟨(lF (P:=l.prog) (w:=w) (base:=base) CA F14 bP aP dh cE).up,b14,k14,W.mg_of X G a14⟩
  have jO:Def l.prog w K mg base "_law_whole" ["_law_found"] 1 (jc K _) f15 _:=⟨(qy (P:=l.prog) (w:=w) (base:=base) CA F15 aV mS rQ).up,b15,k15,W.mg_of X G a15⟩
  have cw:Def l.prog w K mg base "_law_numbers" ["_law_found","_law_due"] 2 (fN K _) f16 _:=⟨(oC (P:=l.prog) (w:=w) (base:=base) CA F16 jO aV dz aK ba).up,b16,k16,W.mg_of X G a16⟩
  have fv:Def l.prog w K mg base "_law_rows" ["_law_found","_law_due"] 3 (jP K _) f17 _:=⟨(rb (P:=l.prog) (w:=w) (base:=base) CA F17 cw aV dz aK ba).up,b17,k17,W.mg_of X G a17⟩
  have iQ:Def l.prog w K mg base "_law_text" ["_law_found","_law_due"] 1 (jT K _) f18 _:=⟨(rN (P:=l.prog) (w:=w) (base:=base) CA F18 aV mF).up,b18,k18,W.mg_of X G a18⟩
  have dS:bH l.prog w K mg base ["self","word","least"] 1 (dN K _) f19 _:=⟨(jt (P:=l.prog) (w:=w) (base:=base) CA F19).up,b19⟩
  have cV:bH l.prog w K mg base ["self","word"] 3 (cJ K _) f20 _:=⟨(g5 (P:=l.prog) (w:=w) (base:=base) CA F20 dS).up,b20⟩
  have eF:bH l.prog w K mg base ["self"] 5 (fQ K _) f21 _:=⟨(lU (P:=l.prog) (w:=w) (base:=base) CA F21 cV).up,b21⟩
  have fw:Def l.prog w K mg base "each_once" ["numbers"] 1 (gX K _) f22 _:=⟨(rf (P:=l.prog) (w:=w) (base:=base) CA F22 cE dz ba aK).up,b22,k22,W.mg_of X G a22⟩
  have gW:Def l.prog w K mg base "flat" ["rows"] 1 (kN K _) f23 _:=⟨(xS (P:=l.prog) (w:=w) (base:=base) CA F23).up,b23,k23,W.mg_of X G a23⟩
  have kg:Def l.prog w K mg base "any_cross" ["pairs"] 1 (jS K _) f24 _:=⟨(qP (P:=l.prog) (w:=w) (base:=base) CA F24).up,b24,k24,W.mg_of X G a24⟩
  have jK:Def l.prog w K mg base "neighbours" ["rooms"] 2 (i5 K _) f25 _:=⟨(qB (P:=l.prog) (w:=w) (base:=base) CA F25 gW dz tG).up,b25,k25,W.mg_of X G a25⟩
  have gT:bH l.prog w K mg base ["self","thing"] 3 (gv K _) f26 _:=⟨(nJ (P:=l.prog) (w:=w) (base:=base) CA F26 fw gW kg jK cE).up,b26⟩
  have df:bH l.prog w K mg base ["self","thing"] 4 (cT K _) f27 _:=⟨(ik (P:=l.prog) (w:=w) (base:=base) CA F27 gT).up,b27⟩
  have gF:bH l.prog w K mg base ["self","thing"] 1 (gj K _) f28 _:=⟨(mU (P:=l.prog) (w:=w) (base:=base) CA F28 tJ aK).up,b28⟩
  have dY:Def l.prog w K mg base "rooms_to_brackets" ["thing"] 7 (eZ K _) f29 _:=⟨(kW (P:=l.prog) (w:=w) (base:=base) CA F29 eF df gF aK).up,b29,k29,W.mg_of X G a29⟩
  have h7:Def l.prog w K mg base "_law_turns_of" ["_law_text_here"] 2 (gH K _) f30 _:=⟨(nC (P:=l.prog) (w:=w) (base:=base) CA F30 fu cE ba aK).up,b30,k30,W.mg_of X G a30⟩
  have dX:Def l.prog w K mg base "brackets_to_turns" ["thing"] 7 (e8 K _) f31 _:=⟨(lE (P:=l.prog) (w:=w) (base:=base) CA F31 bP aP gW dh).up,b31,k31,W.mg_of X G a31⟩
  have dW:bH l.prog w K mg base ["self","word","least"] 1 (dJ K _) f32 _:=⟨(jj (P:=l.prog) (w:=w) (base:=base) CA F32).up,b32⟩
  have cS:bH l.prog w K mg base ["self","word"] 3 (cH K _) f33 _:=⟨(hW (P:=l.prog) (w:=w) (base:=base) CA F33 dW).up,b33⟩
  have gh:bH l.prog w K mg base ["self"] 5 (fW K _) f34 _:=⟨(lX (P:=l.prog) (w:=w) (base:=base) CA F34 cS).up,b34⟩
  have fJ:Def l.prog w K mg base "comes_off_a_stack" ["numbers"] 1 (eX K _) f35 _:=⟨(lG (P:=l.prog) (w:=w) (base:=base) CA F35).up,b35,k35,W.mg_of X G a35⟩
  have h8:bH l.prog w K mg base ["self","thing"] 2 (gD K _) f36 _:=⟨(nV (P:=l.prog) (w:=w) (base:=base) CA F36 fw fJ).up,b36⟩
  have de:bH l.prog w K mg base ["self","thing"] 3 (cU K _) f37 _:=⟨(iu (P:=l.prog) (w:=w) (base:=base) CA F37 h8).up,b37⟩
  have fL:Def l.prog w K mg base "turns_to_brackets" ["thing"] 7 (eV K _) f38 _:=⟨(kS (P:=l.prog) (w:=w) (base:=base) CA F38 gh de t7).up,b38,k38,W.mg_of X G a38⟩
  have g6:Def l.prog w K mg base "_law_rooms_by" ["_law_script","_law_size","_law_turn"] 3 (gM K _) f39 _:=⟨(nN (P:=l.prog) (w:=w) (base:=base) CA F39 eI kh aK).up,b39,k39,W.mg_of X G a39⟩
  have jb:Def l.prog w K mg base "_law_closes" ["_law_text_here"] 1 (iE K _) f40 _:=⟨(pD (P:=l.prog) (w:=w) (base:=base) CA F40).up,b40,k40,W.mg_of X G a40⟩
  exact yS (P:=l.prog) (w:=w) (base:=base) CA F41 iI fZ h9 cX fv iQ dY h7 dX cw fL g6 jb dz aV mF aK
theorem walk {l:W.OpenLaw} {q:Program} {loose:List Str} {XP:(Str->Option Value)->Heap->Prop} {YP:World->Heap->Prop} {d:DefRec} {K:Params->W.Frag} (hn:l.most=some 63) (hdf:d.params.defaults=[])
    (hY:∀ (w:World) (h:Heap),YP w h->(K w.params).In h)
    (F:∀ (w:World) (mg:Str->Option Value) (fa:Addr) (h:Heap),(K w.params).In h->h.Ns mainGlobals mg->mg d.name=some (.ref fa) ->
      ∃ fd:FuncData,(∀ (s:Shared) (u:Value),BindsTo s fd ⟨[u],[]⟩ [("_law_script",u)])/\∀ base:Heap,(K w.params).In base->base.Ns mainGlobals mg->aH l.prog w (K w.params) mg base bM 8 fa fd ["_law_script"] (yo (K w.params))) :
    W.WalkO q loose XP YP l.row.toRowW d [] (fun f vs=>PySem.call f vs) :=
  L2.walk_of (n:=63) (k:=8) (x:="_law_script") (CX:=fun _=>bM) (sp:=fun w=>yo (K w.params)) hn (by decide) hdf ⟨rfl,by decide,by decide⟩ hY F (fun _ _ a ns hl _ hS=>⟨a,ns,rfl,hS,hl,fun _=>rfl⟩) fun _ _ _ _ _ z=>z
end Ck
open L2
namespace Ck
open PySem PySem.W PySem.Calls PyProof.Rows
noncomputable def hB:List Stmt:=behindTheImports PySem.Challenge.pw_countkin_k26_rooms_and_rows
noncomputable def hE:Env:={ scope:=PySem.Challenge.pw_countkin_k26_rooms_and_rows.main.scope,locals:=mainNs,globals:=mainNs,cells:=[],code:=(.ref 13),frame:=some 14 }
noncomputable def hC:Code:=.body hB hE
noncomputable def hTree (P:Params):BT:=(.node (boot_o_0 P) (.node (boot_o_1 P) (.node (boot_o_3 P) (.node (boot_o_7 P) .nil .nil) (.node ⟨(.type "tuple"),none,(.seq #[] 0),#[]⟩ .nil .nil)) (.node (boot_o_5 P) (.node (boot_o_9 P) .nil .nil) (.node ⟨(.type "code"),none,(.fields #[(.str "<module>" 182),(.str "<module>" 183),(.str "/claim/cut.py" 184),(.int 1 0),(.int 0 0),(.int 0 0),(.int 0 0),(.int 0 0),(.ref 11),(.bool false),(.int 181 0),(.ref 12),.none,.none,.none,.none,(.int 185 0),(.int 1 0),(.str "/claim/cut.py" 186)]),#[]⟩ .nil .nil))) (.node (boot_o_2 P) (.node (boot_o_4 P) (.node (boot_o_8 P) .nil .nil) (.node ⟨.none,none,(.fields #[]),#[]⟩ .nil .nil)) (.node (boot_o_6 P) (.node (boot_o_10 P) .nil .nil) (.node ⟨(.type "frame"),none,.plain,#[(some (.ref 13)),(some (.ref 3)),(some (.ref 3)),none,(some (.str "__main__" 164)),none,(some (.ref 0))]⟩ .nil .nil))))
noncomputable def hS (w:World) (os:OsState):SharedT:=⟨hTree w.params,15,({}:Life),Array.mk [],⟨0,0,0,0⟩,187,os⟩
noncomputable def hQ:Program:={ PySem.Challenge.pw_countkin_k26_rooms_and_rows with main:={ PySem.Challenge.pw_countkin_k26_rooms_and_rows.main with body:=[top 41] } }
noncomputable def hL:List Str:=(Str.ofString "_wall"::Str.ofString "flat"::Str.ofString "each_once"::Str.ofString "any_cross"::Str.ofString "KinError"::Str.ofString "NoThing"::Str.ofString "Family"::Str.ofString "SplitFamily"::Str.ofString "Rooms"::Str.ofString "neighbours"::Str.ofString "Turns"::Str.ofString "comes_off_a_stack"::Str.ofString "closes"::Str.ofString "Brackets"::Str.ofString "closed_in_runs"::Str.ofString "brackets_to_rooms"::Str.ofString "rooms_to_brackets"::Str.ofString "brackets_to_turns"::Str.ofString "turns_to_brackets"::Str.ofString "_law_cell_at"::Str.ofString "_law_whole"::Str.ofString "_law_mix"::Str.ofString "_law_closes"::Str.ofString "_law_draws"::Str.ofString "_law_text_by"::Str.ofString "_law_rooms_by"::Str.ofString "_law_numbers"::Str.ofString "_law_rows"::Str.ofString "_law_mate"::Str.ofString "_law_rooms_of"::Str.ofString "_law_turns_of"::Str.ofString "_law_text"::[])
noncomputable def kD (P:Params) (x:Str) (n:Tok) (v:Value):DictEntry:=⟨PyData.keyHash P x,.str x n,v⟩
noncomputable def kF (a b:Str) (s:Stmt) (m:Str) (n:Tok) (c:Addr):Obj:=⟨.type "function",none,.func (fnOf a b (aw s) (av s) (aj s) .none .none .none (.str m n) none (.ref c) .none),#[]⟩
noncomputable def kC (a b:Str) (t:Nat) (l n:Int) (r q x y z w:Value) (e:Nat):Obj:=⟨.type "code",none,.fields #[.str a t,.str b (t+1),.str "/claim/cut.py" (t+2),.int l 0,.int n 0,.int 0 0,.int 0 0,.int 3 0,r,.bool true,.int 181 0,q,x,y,z,w,.int (Int.ofNat e) 0,.int l 0,.str "/claim/cut.py" (e+1)],#[]⟩
noncomputable def hK:Params->Frag:=fun P=>(nat_lit 2,⟨.none,none,(.dict #[] 0),#[]⟩)::(nat_lit 3,⟨(.type "dict"),none,(.dict (List.toArray (kD P "__name__" 165 (.str "law_countkin_k26_rooms_and_rows" 730)::kD P "__doc__" 166 .none::kD P "__package__" 167 .none::kD P "__loader__" 168 (.builtin "__main__.__loader__#opaque")::kD P "__spec__" 169 .none::kD P "__annotations__" 170 (.ref 6)::kD P "__builtins__" 171 (.ref 4)::kD P "__file__" 173 (.str "/claim/cut.py" 172)::kD P "__cached__" 174 .none::kD P "_wall" 193 (.ref 21)::kD P "flat" 204 (.ref 28)::kD P "each_once" 211 (.ref 35)::kD P "any_cross" 222 (.ref 42)::kD P "KinError" 242 (.ref 52)::kD P "NoThing" 258 (.ref 65)::kD P "Family" 373 (.ref 154)::kD P "SplitFamily" 465 (.ref 231)::kD P "Rooms" 526 (.ref 281)::kD P "neighbours" 532 (.ref 288)::kD P "Turns" 597 (.ref 340)::kD P "comes_off_a_stack" 607 (.ref 349)::kD P "closes" 618 (.ref 356)::kD P "Brackets" 683 (.ref 408)::kD P "closed_in_runs" 697 (.ref 417)::kD P "brackets_to_rooms" 703 (.ref 422)::kD P "rooms_to_brackets" 712 (.ref 429)::kD P "brackets_to_turns" 719 (.ref 436)::kD P "turns_to_brackets" 729 (.ref 443)::kD P "_law_cell_at" 739 (.ref 450)::kD P "_law_whole" 746 (.ref 457)::kD P "_law_mix" 755 (.ref 464)::kD P "_law_closes" 764 (.ref 471)::kD P "_law_draws" 770 (.ref 476)::kD P "_law_text_by" 786 (.ref 483)::kD P "_law_rooms_by" 799 (.ref 490)::kD P "_law_numbers" 808 (.ref 497)::kD P "_law_rows" 817 (.ref 504)::kD P "_law_mate" 827 (.ref 511)::kD P "_law_rooms_of" 833 (.ref 516)::kD P "_law_turns_of" 839 (.ref 521)::kD P "_law_text" 847 (.ref 528)::kD P "law" 853 (.ref 533)::[])) 42),#[]⟩)::(nat_lit 27,(kC "flat" "flat" 196 5 1 (.ref 22) (.ref 23) .none (.ref 24) (.ref 25) (.ref 26) 202))::(nat_lit 28,(kF "flat" "flat" (top 2) "countkin.common" 194 27))::(nat_lit 34,(kC "each_once" "each_once" 205 10 1 (.ref 29) (.ref 30) .none (.ref 31) (.ref 32) (.ref 33) 209))::(nat_lit 35,(kF "each_once" "each_once" (top 3) "countkin.common" 194 34))::(nat_lit 41,(kC "any_cross" "any_cross" 212 12 1 (.ref 36) (.ref 37) .none (.ref 38) (.ref 39) (.ref 40) 220))::(nat_lit 42,(kF "any_cross" "any_cross" (top 4) "countkin.common" 194 41))::(nat_lit 51,⟨(.type "dict"),none,(.dict #[kD P "__module__" 232 (.str "countkin.errors" 223),kD P "__firstlineno__" 236 (.int 19 235),kD P "__static_attributes__" 237 (.ref 50),kD P "__weakref__" 239 (.ref 53),kD P "__doc__" 240 .none] 3),#[]⟩)::(nat_lit 52,⟨(.type "type"),none,(.cls ⟨"KinError",[(.type "ValueError")],[(.ref 52),(.type "ValueError"),(.type "Exception"),(.type "BaseException"),(.type "object")],51,"KinError",true,[],[(.ref 65)],false,none,false⟩),#[(some (.ref 43)),none,(some (.str "KinError" 225)),(some (.str "KinError" 233)),(some (.builtin "ValueError.__new__")),(some (.bool true))]⟩)::(nat_lit 53,⟨(.type "getset_descriptor"),none,(.fields #[(.str "__weakref__" 238),(.ref 52),(.builtin "ExceptionGroup.__weakref__"),.none]),#[]⟩)::(nat_lit 64,⟨(.type "dict"),none,(.dict #[kD P "__module__" 250 (.str "countkin.errors" 223),kD P "__firstlineno__" 254 (.int 21 253),kD P "__static_attributes__" 255 (.ref 63),kD P "__doc__" 256 .none] 2),#[]⟩)::(nat_lit 65,⟨(.type "type"),none,(.cls ⟨"NoThing",[(.ref 52)],[(.ref 65),(.ref 52),(.type "ValueError"),(.type "Exception"),(.type "BaseException"),(.type "object")],64,"NoThing",true,[],[],false,none,false⟩),#[(some (.ref 56)),none,(some (.str "NoThing" 243)),(some (.str "NoThing" 251)),(some (.builtin "ValueError.__new__")),(some (.bool true))]⟩)::(nat_lit 80,(kC "__init__" "Family.__init__" 273 26 3 (.ref 75) (.ref 76) .none (.ref 77) (.ref 78) (.ref 79) 279))::(nat_lit 81,(kF "__init__" "Family.__init__" (inClass (top 9) 0) "countkin.kin" 259 80))::(nat_lit 129,(kC "refuse_other" "Family.refuse_other" 331 48 2 (.ref 124) (.ref 125) .none (.ref 126) (.ref 127) (.ref 128) 336))::(nat_lit 130,(kF "refuse_other" "Family.refuse_other" (inClass (top 9) 7) "countkin.kin" 259 129))::(nat_lit 153,⟨(.type "dict"),none,(.dict #[kD P "__module__" 268 (.str "countkin.kin" 259),kD P "__firstlineno__" 272 (.int 24 271),kD P "__init__" 281 (.ref 81),kD P "size_of" 289 (.ref 88),kD P "is_one" 297 (.ref 95),kD P "unchecked_many" 305 (.ref 102),kD P "unchecked_number" 313 (.ref 109),kD P "unchecked_thing" 322 (.ref 116),kD P "many" 330 (.ref 123),kD P "refuse_other" 338 (.ref 130),kD P "number_of" 346 (.ref 137),kD P "thing_of" 355 (.ref 144),kD P "next_of" 363 (.ref 151),kD P "__static_attributes__" 366 (.ref 152),kD P "__dict__" 368 (.ref 155),kD P "__weakref__" 370 (.ref 156),kD P "__doc__" 371 .none] 4),#[]⟩)::(nat_lit 154,⟨(.type "type"),none,(.cls ⟨"Family",[(.type "object")],[(.ref 154),(.type "object")],153,"Family",true,[],[(.ref 231)],false,none,false⟩),#[none,none,(some (.str "Family" 261)),(some (.str "Family" 269)),(some (.builtin "object.__new__")),(some (.bool true))]⟩)::(nat_lit 155,⟨(.type "getset_descriptor"),none,(.fields #[(.str "__dict__" 367),(.ref 154),(.builtin "function.__dict__"),(.builtin "function.__dict__#set")]),#[]⟩)::(nat_lit 156,⟨(.type "getset_descriptor"),none,(.fields #[(.str "__weakref__" 369),(.ref 154),(.builtin "ExceptionGroup.__weakref__"),.none]),#[]⟩)::(nat_lit 171,(kC "__init__" "SplitFamily.__init__" 386 62 2 (.ref 166) (.ref 167) .none (.ref 168) (.ref 169) (.ref 170) 391))::(nat_lit 172,(kF "__init__" "SplitFamily.__init__" (inClass (top 10) 0) "countkin.kin" 259 171))::(nat_lit 230,⟨(.type "dict"),none,(.dict #[kD P "__module__" 381 (.str "countkin.kin" 259),kD P "__firstlineno__" 385 (.int 60 384),kD P "__init__" 393 (.ref 172),kD P "bare" 400 (.ref 179),kD P "parted" 408 (.ref 186),kD P "joined" 417 (.ref 193),kD P "unchecked_many" 425 (.ref 200),kD P "unchecked_number" 433 (.ref 207),kD P "unchecked_thing" 442 (.ref 214),kD P "number_by_parts" 451 (.ref 221),kD P "thing_by_parts" 461 (.ref 228),kD P "__static_attributes__" 462 (.ref 229),kD P "__doc__" 463 .none] 2),#[]⟩)::(nat_lit 231,⟨(.type "type"),none,(.cls ⟨"SplitFamily",[(.ref 154)],[(.ref 231),(.ref 154),(.type "object")],230,"SplitFamily",true,[],[(.ref 281),(.ref 340),(.ref 408)],false,none,false⟩),#[(some (.ref 159)),none,(some (.str "SplitFamily" 374)),(some (.str "SplitFamily" 382)),(some (.builtin "object.__new__")),(some (.bool true))]⟩)::(nat_lit 246,(kC "__init__" "Rooms.__init__" 480 91 1 (.ref 241) (.ref 242) .none (.ref 243) (.ref 244) (.ref 245) 484))::(nat_lit 247,(kF "__init__" "Rooms.__init__" (inClass (top 12) 0) "countkin.bends" 466 246))::(nat_lit 251,(kC "size_of" "Rooms.size_of" 487 94 2 (.ref 248) (.ref 249) .none .none .none (.ref 250) 490))::(nat_lit 252,(kF "size_of" "Rooms.size_of" (inClass (top 12) 1) "countkin.bends" 466 251))::(nat_lit 256,(kC "is_one" "Rooms.is_one" 493 97 2 (.ref 253) (.ref 254) .none .none .none (.ref 255) 496))::(nat_lit 257,(kF "is_one" "Rooms.is_one" (inClass (top 12) 2) "countkin.bends" 466 256))::(nat_lit 280,⟨(.type "dict"),none,(.dict #[kD P "__module__" 475 (.str "countkin.bends" 466),kD P "__firstlineno__" 479 (.int 89 478),kD P "__init__" 486 (.ref 247),kD P "size_of" 492 (.ref 252),kD P "is_one" 498 (.ref 257),kD P "bare" 505 (.ref 264),kD P "parted" 513 (.ref 271),kD P "joined" 522 (.ref 278),kD P "__static_attributes__" 523 (.ref 279),kD P "__doc__" 524 .none] 2),#[]⟩)::(nat_lit 281,⟨(.type "type"),none,(.cls ⟨"Rooms",[(.ref 231)],[(.ref 281),(.ref 231),(.ref 154),(.type "object")],280,"Rooms",true,[],[],false,none,false⟩),#[(some (.ref 234)),none,(some (.str "Rooms" 468)),(some (.str "Rooms" 476)),(some (.builtin "object.__new__")),(some (.bool true))]⟩)::(nat_lit 287,(kC "neighbours" "neighbours" 527 110 1 (.ref 284) (.ref 285) .none .none .none (.ref 286) 530))::(nat_lit 288,(kF "neighbours" "neighbours" (top 13) "countkin.bends" 466 287))::(nat_lit 301,(kC "__init__" "Turns.__init__" 547 115 1 (.ref 296) (.ref 297) .none (.ref 298) (.ref 299) (.ref 300) 551))::(nat_lit 302,(kF "__init__" "Turns.__init__" (inClass (top 15) 0) "countkin.rows" 533 301))::(nat_lit 315,(kC "is_one" "Turns.is_one" 562 121 2 (.ref 310) (.ref 311) .none (.ref 312) (.ref 313) (.ref 314) 567))::(nat_lit 316,(kF "is_one" "Turns.is_one" (inClass (top 15) 2) "countkin.rows" 533 315))::(nat_lit 339,⟨(.type "dict"),none,(.dict #[kD P "__module__" 542 (.str "countkin.rows" 533),kD P "__firstlineno__" 546 (.int 113 545),kD P "__init__" 553 (.ref 302),kD P "size_of" 561 (.ref 309),kD P "is_one" 569 (.ref 316),kD P "bare" 576 (.ref 323),kD P "parted" 584 (.ref 330),kD P "joined" 593 (.ref 337),kD P "__static_attributes__" 594 (.ref 338),kD P "__doc__" 595 .none] 2),#[]⟩)::(nat_lit 340,⟨(.type "type"),none,(.cls ⟨"Turns",[(.ref 231)],[(.ref 340),(.ref 231),(.ref 154),(.type "object")],339,"Turns",true,[],[],false,none,false⟩),#[(some (.ref 289)),none,(some (.str "Turns" 535)),(some (.str "Turns" 543)),(some (.builtin "object.__new__")),(some (.bool true))]⟩)::(nat_lit 348,(kC "comes_off_a_stack" "comes_off_a_stack" 598 132 1 (.ref 343) (.ref 344) .none (.ref 345) (.ref 346) (.ref 347) 605))::(nat_lit 349,(kF "comes_off_a_stack" "comes_off_a_stack" (top 16) "countkin.rows" 533 348))::(nat_lit 355,(kC "closes" "closes" 610 143 1 (.ref 350) (.ref 351) .none (.ref 352) (.ref 353) (.ref 354) 616))::(nat_lit 356,(kF "closes" "closes" (top 18) "countkin.steps" 608 355))::(nat_lit 369,(kC "__init__" "Brackets.__init__" 633 156 1 (.ref 364) (.ref 365) .none (.ref 366) (.ref 367) (.ref 368) 637))::(nat_lit 370,(kF "__init__" "Brackets.__init__" (inClass (top 20) 0) "countkin.signs" 619 369))::(nat_lit 383,(kC "is_one" "Brackets.is_one" 648 162 2 (.ref 378) (.ref 379) .none (.ref 380) (.ref 381) (.ref 382) 653))::(nat_lit 384,(kF "is_one" "Brackets.is_one" (inClass (top 20) 2) "countkin.signs" 619 383))::(nat_lit 407,⟨(.type "dict"),none,(.dict #[kD P "__module__" 628 (.str "countkin.signs" 619),kD P "__firstlineno__" 632 (.int 154 631),kD P "__init__" 639 (.ref 370),kD P "size_of" 647 (.ref 377),kD P "is_one" 655 (.ref 384),kD P "bare" 662 (.ref 391),kD P "parted" 670 (.ref 398),kD P "joined" 679 (.ref 405),kD P "__static_attributes__" 680 (.ref 406),kD P "__doc__" 681 .none] 2),#[]⟩)::(nat_lit 408,⟨(.type "type"),none,(.cls ⟨"Brackets",[(.ref 231)],[(.ref 408),(.ref 231),(.ref 154),(.type "object")],407,"Brackets",true,[],[],false,none,false⟩),#[(some (.ref 357)),none,(some (.str "Brackets" 621)),(some (.str "Brackets" 629)),(some (.builtin "object.__new__")),(some (.bool true))]⟩)::(nat_lit 416,(kC "closed_in_runs" "closed_in_runs" 686 174 1 (.ref 411) (.ref 412) .none (.ref 413) (.ref 414) (.ref 415) 695))::(nat_lit 417,(kF "closed_in_runs" "closed_in_runs" (top 22) "countkin.ways" 684 416))::(nat_lit 421,(kC "brackets_to_rooms" "brackets_to_rooms" 698 189 1 (.ref 418) (.ref 419) .none .none .none (.ref 420) 701))::(nat_lit 422,(kF "brackets_to_rooms" "brackets_to_rooms" (top 23) "countkin.ways" 684 421))::(nat_lit 428,(kC "rooms_to_brackets" "rooms_to_brackets" 704 192 1 (.ref 423) (.ref 424) .none (.ref 425) (.ref 426) (.ref 427) 710))::(nat_lit 429,(kF "rooms_to_brackets" "rooms_to_brackets" (top 24) "countkin.ways" 684 428))::(nat_lit 435,(kC "brackets_to_turns" "brackets_to_turns" 713 198 1 (.ref 430) (.ref 431) .none (.ref 432) (.ref 433) (.ref 434) 717))::(nat_lit 436,(kF "brackets_to_turns" "brackets_to_turns" (top 25) "countkin.ways" 684 435))::(nat_lit 442,(kC "turns_to_brackets" "turns_to_brackets" 720 201 1 (.ref 437) (.ref 438) .none (.ref 439) (.ref 440) (.ref 441) 727))::(nat_lit 443,(kF "turns_to_brackets" "turns_to_brackets" (top 26) "countkin.ways" 684 442))::(nat_lit 449,(kC "_law_cell_at" "_law_cell_at" 732 210 2 (.ref 444) (.ref 445) .none (.ref 446) (.ref 447) (.ref 448) 737))::(nat_lit 450,(kF "_law_cell_at" "_law_cell_at" (top 28) "law_countkin_k26_rooms_and_rows" 730 449))::(nat_lit 456,(kC "_law_whole" "_law_whole" 740 214 1 (.ref 451) (.ref 452) .none (.ref 453) (.ref 454) (.ref 455) 744))::(nat_lit 457,(kF "_law_whole" "_law_whole" (top 29) "law_countkin_k26_rooms_and_rows" 730 456))::(nat_lit 463,(kC "_law_mix" "_law_mix" 747 216 2 (.ref 458) (.ref 459) .none (.ref 460) (.ref 461) (.ref 462) 753))::(nat_lit 464,(kF "_law_mix" "_law_mix" (top 30) "law_countkin_k26_rooms_and_rows" 730 463))::(nat_lit 470,(kC "_law_closes" "_law_closes" 756 219 1 (.ref 465) (.ref 466) .none (.ref 467) (.ref 468) (.ref 469) 762))::(nat_lit 471,(kF "_law_closes" "_law_closes" (top 31) "law_countkin_k26_rooms_and_rows" 730 470))::(nat_lit 475,(kC "_law_draws" "_law_draws" 765 231 3 (.ref 472) (.ref 473) .none .none .none (.ref 474) 768))::(nat_lit 476,(kF "_law_draws" "_law_draws" (top 32) "law_countkin_k26_rooms_and_rows" 730 475))::(nat_lit 482,(kC "_law_text_by" "_law_text_by" 771 245 3 (.ref 477) (.ref 478) .none (.ref 479) (.ref 480) (.ref 481) 784))::(nat_lit 483,(kF "_law_text_by" "_law_text_by" (top 33) "law_countkin_k26_rooms_and_rows" 730 482))::(nat_lit 489,(kC "_law_rooms_by" "_law_rooms_by" 787 263 3 (.ref 484) (.ref 485) .none (.ref 486) (.ref 487) (.ref 488) 797))::(nat_lit 490,(kF "_law_rooms_by" "_law_rooms_by" (top 34) "law_countkin_k26_rooms_and_rows" 730 489))::(nat_lit 496,(kC "_law_numbers" "_law_numbers" 800 274 2 (.ref 491) (.ref 492) .none (.ref 493) (.ref 494) (.ref 495) 806))::(nat_lit 497,(kF "_law_numbers" "_law_numbers" (top 35) "law_countkin_k26_rooms_and_rows" 730 496))::(nat_lit 503,(kC "_law_rows" "_law_rows" 809 281 2 (.ref 498) (.ref 499) .none (.ref 500) (.ref 501) (.ref 502) 815))::(nat_lit 504,(kF "_law_rows" "_law_rows" (top 36) "law_countkin_k26_rooms_and_rows" 730 503))::(nat_lit 510,(kC "_law_mate" "_law_mate" 818 288 2 (.ref 505) (.ref 506) .none (.ref 507) (.ref 508) (.ref 509) 825))::(nat_lit 511,(kF "_law_mate" "_law_mate" (top 37) "law_countkin_k26_rooms_and_rows" 730 510))::(nat_lit 515,(kC "_law_rooms_of" "_law_rooms_of" 828 295 1 (.ref 512) (.ref 513) .none .none .none (.ref 514) 831))::(nat_lit 516,(kF "_law_rooms_of" "_law_rooms_of" (top 38) "law_countkin_k26_rooms_and_rows" 730 515))::(nat_lit 520,(kC "_law_turns_of" "_law_turns_of" 834 308 1 (.ref 517) (.ref 518) .none .none .none (.ref 519) 837))::(nat_lit 521,(kF "_law_turns_of" "_law_turns_of" (top 39) "law_countkin_k26_rooms_and_rows" 730 520))::(nat_lit 527,(kC "_law_text" "_law_text" 840 311 2 (.ref 522) (.ref 523) .none (.ref 524) (.ref 525) (.ref 526) 845))::(nat_lit 528,(kF "_law_text" "_law_text" (top 40) "law_countkin_k26_rooms_and_rows" 730 527))::(nat_lit 532,(kC "law" "law" 848 313 1 (.ref 529) (.ref 530) .none .none .none (.ref 531) 851))::(nat_lit 533,(kF "law" "law" (top 41) "law_countkin_k26_rooms_and_rows" 730 532))::[]
noncomputable def bT:Bool:=true
noncomputable def bF:Bool:=false
noncomputable def hM:List Bool:=(bF::bF::bT::bT::bF::bF::bF::bF::bF::bF::bF::bF::bF::bF::bF::bF::bF::bF::bF::bF::bF::bF::bF::bF::bF::bF::bF::bT::bT::bF::bF::bF::bF::bF::bT::bT::bF::bF::bF::bF::bF::bT::bT::bF::bF::bF::bF::bF::bF::bF::bF::bT::bT::bT::bF::bF::bF::bF::bF::bF::bF::bF::bF::bF::bT::bT::bF::bF::bF::bF::bF::bF::bF::bF::bF::bF::bF::bF::bF::bF::bT::bT::bF::bF::bF::bF::bF::bF::bF::bF::bF::bF::bF::bF::bF::bF::bF::bF::bF::bF::bF::bF::bF::bF::bF::bF::bF::bF::bF::bF::bF::bF::bF::bF::bF::bF::bF::bF::bF::bF::bF::bF::bF::bF::bF::bF::bF::bF::bF::bT::bT::bF::bF::bF::bF::bF::bF::bF::bF::bF::bF::bF::bF::bF::bF::bF::bF::bF::bF::bF::bF::bF::bF::bT::bT::bT::bT::bF::bF::bF::bF::bF::bF::bF::bF::bF::bF::bF::bF::bF::bF::bT::bT::bF::bF::bF::bF::bF::bF::bF::bF::bF::bF::bF::bF::bF::bF::bF::bF::bF::bF::bF::bF::bF::bF::bF::bF::bF::bF::bF::bF::bF::bF::bF::bF::bF::bF::bF::bF::bF::bF::bF::bF::bF::bF::bF::bF::bF::bF::bF::bF::bF::bF::bF::bF::bF::bF::bF::bF::bF::bT::bT::bF::bF::bF::bF::bF::bF::bF::bF::bF::bF::bF::bF::bF::bF::bT::bT::bF::bF::bF::bT::bT::bF::bF::bF::bT::bT::bF::bF::bF::bF::bF::bF::bF::bF::bF::bF::bF::bF::bF::bF::bF::bF::bF::bF::bF::bF::bF::bF::bT::bT::bF::bF::bF::bF::bF::bT::bT::bF::bF::bF::bF::bF::bF::bF::bF::bF::bF::bF::bF::bT::bT::bF::bF::bF::bF::bF::bF::bF::bF::bF::bF::bF::bF::bT::bT::bF::bF::bF::bF::bF::bF::bF::bF::bF::bF::bF::bF::bF::bF::bF::bF::bF::bF::bF::bF::bF::bF::bT::bT::bF::bF::bF::bF::bF::bF::bF::bT::bT::bF::bF::bF::bF::bF::bT::bT::bF::bF::bF::bF::bF::bF::bF::bF::bF::bF::bF::bF::bT::bT::bF::bF::bF::bF::bF::bF::bF::bF::bF::bF::bF::bF::bT::bT::bF::bF::bF::bF::bF::bF::bF::bF::bF::bF::bF::bF::bF::bF::bF::bF::bF::bF::bF::bF::bF::bF::bT::bT::bF::bF::bF::bF::bF::bF::bF::bT::bT::bF::bF::bF::bT::bT::bF::bF::bF::bF::bF::bT::bT::bF::bF::bF::bF::bF::bT::bT::bF::bF::bF::bF::bF::bT::bT::bF::bF::bF::bF::bF::bT::bT::bF::bF::bF::bF::bF::bT::bT::bF::bF::bF::bF::bF::bT::bT::bF::bF::bF::bF::bF::bT::bT::bF::bF::bF::bT::bT::bF::bF::bF::bF::bF::bT::bT::bF::bF::bF::bF::bF::bT::bT::bF::bF::bF::bF::bF::bT::bT::bF::bF::bF::bF::bF::bT::bT::bF::bF::bF::bF::bF::bT::bT::bF::bF::bF::bT::bT::bF::bF::bF::bT::bT::bF::bF::bF::bF::bF::bT::bT::bF::bF::bF::bT::bT::[])
noncomputable def hA:List Addr:=mh hM 0
theorem hAM:hA=mh hM 0:=rfl
noncomputable abbrev hX:Shared->Bool:=(fun s=>xlAt hQ [] s&&recOk (RowW.records (OpenRow.toRowW (OpenLaw.row PySem.Challenge.rw_countkin_k26_rooms_and_rows))) s)
theorem hKA:∀ P:Params,hA=(hK P).map (·.1):=fun _=>by kernel_rfl
noncomputable abbrev hH:Hook:=kHook hK hA hKA
noncomputable def hLook (P:Params) (s:Shared):=((staticsOk (importedModules PySem.Challenge.pw_countkin_k26_rooms_and_rows.main.body) (boot_heap P) s.heap&&namesBound PySem.Challenge.pw_countkin_k26_rooms_and_rows s.heap&&gensDone s&&laidKept (boot_heap P) s.heap),openSeen hQ hL (importedModules PySem.Challenge.pw_countkin_k26_rooms_and_rows.main.body) hX true s,iO s.heap.objs.toList hM)
noncomputable def hPreF (w:World) (os:OsState):=topGo treeTable PySem.Challenge.pw_countkin_k26_rooms_and_rows w 11 (some (.ref 6)) 12 ⟨boot_heap w.params,Array.mk [],boot_drawn,boot_toks,os⟩ (topStub PySem.Challenge.pw_countkin_k26_rooms_and_rows)
noncomputable def hPreG (w:World) (os:OsState):Option (Shared × Thread):=some ((hS w os).abs,⟨denote treeTable hC,hC,⟨0,0,0,0⟩,[topFrame ⟨0,0,0,0⟩]⟩)
noncomputable def hBlkF (w:World) (os:OsState):=segRun treeTable PySem.Challenge.pw_countkin_k26_rooms_and_rows w 11 (some (.ref 6)) 1 1 (hS w os).abs (blockOf hB hE hC ⟨0,0,0,0⟩ [topFrame ⟨0,0,0,0⟩])
noncomputable def hBlkG (w:World) (os:OsState):Option (Flow × Shared × Code × Pos):=some (.next,(hS w os).abs,hC,⟨0,0,0,0⟩)
noncomputable def hRunF (w:World) (os:OsState):=(segRunT treeTable PySem.Challenge.pw_countkin_k26_rooms_and_rows w 11 (some (.ref 6)) 1 3559 (hS w os) (piecesOf hB hE hC ⟨0,0,0,0⟩ [topFrame ⟨0,0,0,0⟩])).map (pK treeTable PySem.Challenge.pw_countkin_k26_rooms_and_rows w 11 (some (.ref 6)) ⟨0,0,0,0⟩ hC 2 (hLook w.params))
noncomputable def hRunG (w:World) (_:OsState):=some (Flow.next,hC,some (true,openGood hQ hL,(hK w.params).map fun p=>some p.2))
noncomputable def hSizF (w:World):=((boot_heap w.params).isNs mainGlobals&&(Array.mk []:Array GenState).size == 0,(boot_heap w.params).objs.size,(boot_heap w.params).nsMap mainGlobals "__annotations__")
noncomputable def hSizG (_:World):Bool × Nat × Option Value:=(true,11,(some (.ref 6)))
theorem hSeed:(fun _ _ _ _ _ _ _ _=>true) hPreF hPreG hBlkF hBlkG hRunF hRunG hSizF hSizG=true:=by k_qdec
theorem hPre:hPreF=hPreG:=Eq.trans PySem.W.Fast.te5317814654954331368 (Eq.trans (by kernel_rfl) (Eq.symm PySem.W.Fast.te14277440360295502494))
theorem hBlk:hBlkF=hBlkG:=Eq.trans PySem.W.Fast.te2033988648308832629 (Eq.trans (by kernel_rfl) (Eq.symm PySem.W.Fast.te1798457917166677164))
theorem hRun:hRunF=hRunG:=Eq.trans PySem.W.Fast.te6412348297585774662 (Eq.trans (by kernel_rfl) (Eq.symm PySem.W.Fast.te15447895654253735931))
theorem hSiz:hSizF=hSizG:=Eq.trans PySem.W.Fast.te13693962943478796877 (by kernel_rfl)
theorem hLeft:LeftO PySem.Challenge.pw_countkin_k26_rooms_and_rows hQ hL hX (Hook.obs hH) (Hook.val hH) 7242 :=
  t9 (boot_open (by kernel_rfl) (by decide) (fun _=>by kernel_rfl)) (fun w=>congrFun hSiz w)
    (fun w os=>by
      obtain ⟨e,r,l⟩:=uw (b:=hB) (env:=hE) (L:=hLook w.params) rfl (congrFun (congrFun hPre w) os) (congrFun (congrFun hBlk w) os) (congrFun (congrFun hRun w) os)
      exact ⟨e,r,(congrArg (fun z=>(_,_,z)) (xG hAM e.heap)).trans l⟩) (by decide)
end Ck
open PySem PySem.W PyProof.Rows
set_option maxRecDepth 100000 in
set_option maxHeartbeats 0 in
theorem PySem.Challenge.cw_countkin_k26_rooms_and_rows_holds : PySem.Challenge.rw_countkin_k26_rooms_and_rows.Holds := by
  w_on; o_law
  refine holds_open (q:=Ck.hQ) (loose:=Ck.hL) (Xt:=Ck.hX) (XP:=XL Ck.hQ []) (Yf:=Hook.obs (kHook Ck.hK Ck.hA Ck.hKA)) (Ya:=Hook.val (kHook Ck.hK Ck.hA Ck.hKA)) (YP:=Hook.says (kHook Ck.hK Ck.hA Ck.hKA)) (N:=7242) Ck.hLeft (Hook.of (kHook Ck.hK Ck.hA Ck.hKA)) (Hook.keeps (kHook Ck.hK Ck.hA Ck.hKA))
    (fun s e=>xl_of s (Bool.and_eq_true_iff.mp e).1) XL.keeps (by rfl) (by rfl) (by rfl) (fun s e=>recFacts_of (Bool.and_eq_true_iff.mp e).2) (by rfl) (by first | assumption | decide +kernel) (by decide +kernel) ⟨rfl,rfl,rfl,rfl,rfl,by decide +kernel⟩ ?hw ?hc
  case hw=>w_witness2
  k_fill
  refine Ck.walk (l:=PySem.Challenge.rw_countkin_k26_rooms_and_rows) rfl rfl (fun w h Y=>W.kIn_of Y) ?F
  case F =>
    intro w mg fa h KX G hmg
    refine' Ck.all_mk KX G hmg ?_ ?_ ?_ ?_ ?_ ?_ ?_ ?_ ?_ ?_ ?_ ?_ ?_ ?_ ?_ ?_ ?_ ?_ ?_ ?_ ?_ ?_ ?_ ?_ ?_ ?_ ?_ ?_ ?_ ?_ ?_ ?_ ?_ ?_ ?_ ?_ ?_ ?_ ?_ ?_ ?_ ?_ ?_ ?_ ?_ ?_ ?_ ?_ ?_ ?_ ?_ ?_ ?_ ?_ ?_ ?_ ?_ ?_ ?_ ?_ ?_ ?_ ?_ ?_ ?_ ?_ ?_ ?_ ?_ ?_ ?_ ?_ ?_ ?_ ?_ ?_ ?_ ?_ ?_ ?_ ?_ ?_ ?_ ?_ ?_ ?_ ?_ ?_ ?_ ?_ ?_ ?_ ?_ ?_ ?_ ?_ ?_ ?_ ?_ ?_ ?_ ?_ ?_ ?_ ?_ ?_ ?_ ?_ ?_ ?_ ?_ ?_ ?_ ?_ ?_ ?_ ?_ ?_ ?_ ?_ ?_ ?_ ?_ ?_ ?_ ?_ ?_ ?_ ?_ ?_ ?_ ?_ ?_ ?_ ?_ ?_ ?_ ?_ ?_ ?_ ?_ ?_ ?_ ?_ ?_ ?_ ?_ ?_ ?_ ?_ ?_ ?_ ?_ ?_ ?_ ?_ ?_ ?_ ?_ ?_ ?_ ?_ ?_ ?_ ?_ ?_ ?_ ?_ ?_ ?_ ?_ ?_ ?_ ?_ ?_ ?_ ?_ ?_ ?_ ?_ ?_ ?_ ?_ ?_ ?_ ?_ ?_ ?_ ?_ ?_ ?_ ?_ ?_ ?_ ?_ ?_ ?_ ?_ ?_ ?_ ?_ ?_ ?_ ?_ ?_ ?_ ?_ ?_ ?_ ?_ ?_ ?_ ?_ ?_ ?_ ?_ ?_ ?_ ?_ ?_ ?_ ?_ ?_ ?_ ?_ ?_ ?_ ?_ ?_ ?_ ?_ ?_ ?_
    any_goals k_is
