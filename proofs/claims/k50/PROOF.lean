import PyProof.Rows.All
import Wide.All
import OpenK.AllK
import Wide.FinOn
import Lean
import PyProof.EqAt
import PyProof.EqKinds
import PyProof.TupleCall
import KE.KMinBuiltin
import KE.KRevSl
import KE.KSortTup
import KE.KTryMore
import Open.Pieces
import OpenK.KQuick
import OpenK.KWalk
import PyProof.CollectWalk
import PyProof.DictWalks
import PyProof.ExcAttrAll.ValueError
import PyProof.FitsBits
import PyProof.ListRange
import PyProof.NeKinds
import PyProof.Rows.SetFrom
import PyProof.Rows.SortRuns
import PyProof.Rows.StrInSeq3
import PyProof.SetRoads
import PyProof.TupleKey
import PySem.Challenge.RW_countkin_k50_marks_of_floors
set_option Elab.async false
set_option linter.all false
set_option maxRecDepth 100000
namespace L2
open PySem PySem.Spec PyProof.Rows
noncomputable abbrev Key:=Sum Int Str
noncomputable def keyIs:Key→Value→Bool
  | .inl k,v=>Value.isInt k v
  | .inr x,v=>Value.isStrOf x v
noncomputable def keyH (w:World):Key→Int
  | .inl k=>hashInt k
  | .inr x=>hashStr w x
theorem keyIs_shape:∀ {k:Key} {v:Value},keyIs k v=true→(∃ i t,k=Sum.inl i∧v=Value.int i t)∨(∃ x t,k=Sum.inr x∧v=Value.str x t)
  | .inl i,v,h=>by
    obtain ⟨t,e⟩:=Value.isInt_shape (k:=i) (v:=v) h
    exact .inl ⟨i,t,rfl,e⟩
  | .inr x,v,h=>by
    obtain ⟨t,e⟩:=Value.isStrOf_shape (x:=x) (v:=v) h
    exact .inr ⟨x,t,rfl,e⟩
theorem keyIs_int (i:Int) (t:Tok):keyIs (.inl i) (.int i t)=true:=by simp [keyIs,Value.isInt]
theorem keyIs_str (x:Str) (t:Tok):keyIs (.inr x) (.str x t)=true:=by simp [keyIs,Value.isStrOf]
theorem key_ll (a b:Int):decide ((Sum.inl a:Key)=Sum.inl b)=(a == b):=by
  by_cases e:a=b
  · subst e; simp
  · have h:¬ (Sum.inl a:Key)=Sum.inl b:=fun q=>e (Sum.inl.inj q)
    rw [decide_eq_false h]
    exact (beq_eq_false_iff_ne.mpr e).symm
theorem key_rr (a b:Str):decide ((Sum.inr a:Key)=Sum.inr b)=decide (a=b):=by
  by_cases e:a=b
  · subst e; simp
  · have h:¬ (Sum.inr a:Key)=Sum.inr b:=fun q=>e (Sum.inr.inj q)
    rw [decide_eq_false h,decide_eq_false e]
theorem key_lr (a:Int) (b:Str):decide ((Sum.inl a:Key)=Sum.inr b)=false:=decide_eq_false (fun q=>nomatch q)
theorem key_rl (a:Str) (b:Int):decide ((Sum.inr a:Key)=Sum.inl b)=false:=decide_eq_false (fun q=>nomatch q)
noncomputable def mixKind (prog:Program) (w:World):PySem.KeyKind prog w Key where
  is:=keyIs
  hash:=keyH w
  inj:=fun v a b ha hb=>by
    rcases keyIs_shape ha with ⟨i,t,rfl,rfl⟩ | ⟨x,t,rfl,rfl⟩
    · rcases keyIs_shape hb with ⟨j,u,rfl,e⟩ | ⟨y,u,rfl,e⟩
      · injection e with e1 _; rw [e1]
      · exact nomatch e
    · rcases keyIs_shape hb with ⟨j,u,rfl,e⟩ | ⟨y,u,rfl,e⟩
      · exact nomatch e
      · injection e with e1 _; rw [e1]
  byValue:=fun k v h=>by
    rcases keyIs_shape h with ⟨i,t,rfl,rfl⟩ | ⟨x,t,rfl,rfl⟩<;>rfl
  pyHash:=fun hv h=>by
    rcases keyIs_shape hv with ⟨i,t,rfl,rfl⟩ | ⟨x,t,rfl,rfl⟩
    · exact wpAny_pyHash_int h
    · exact wpAny_pyHash_str h
  eqBool:=fun hu hv h=>by
    rcases keyIs_shape hu with ⟨i,t,rfl,rfl⟩ | ⟨x,t,rfl,rfl⟩
    · rcases keyIs_shape hv with ⟨j,u,rfl,rfl⟩ | ⟨y,u,rfl,rfl⟩
      · rw [key_ll] at h; exact wpAny_eqBool_int h
      · rw [key_lr] at h; exact SeqAt.EqAt.int_str i t y u _ _ _ _ h
    · rcases keyIs_shape hv with ⟨j,u,rfl,rfl⟩ | ⟨y,u,rfl,rfl⟩
      · rw [key_rl] at h; exact SeqAt.EqAt.str_int x t j u _ _ _ _ h
      · rw [key_rr] at h; exact wpAny_eqBool_str h
  «strs»:=fun k x t v h=>by
    rcases keyIs_shape h with ⟨i,u,rfl,e⟩ | ⟨y,u,rfl,e⟩
    · exact nomatch e
    · injection e with e1 _
      subst e1
      cases v<;>rfl
theorem mixKind_int (prog:Program) (w:World) (i:Int) (t:Tok):(mixKind prog w).is (.inl i) (.int i t)=true:=keyIs_int i t
theorem mixKind_str (prog:Program) (w:World) (x:Str) (t:Tok):(mixKind prog w).is (.inr x) (.str x t)=true:=keyIs_str x t
end L2
namespace L2
open PySem PySem.Spec PyProof.Rows
inductive V where
  | non | bl (b:Bool) | int (i:Int) | str (x:Str) | byt (b:Array UInt8) | flt (b:UInt64) | ref (a:Addr) | ty (n:String)
  deriving DecidableEq
noncomputable def RelV:V→Value→Prop
  | .non,u=>u=Value.none
  | .bl b,u=>u=Value.bool b
  | .int i,u=>∃ t,u=Value.int i t
  | .str x,u=>∃ t,u=Value.str x t
  | .byt b,u=>∃ t,u=Value.bytes b t
  | .flt b,u=>∃ t,u=Value.float b t
  | .ref a,u=>u=Value.ref a
  | .ty n,u=>u=Value.type n
noncomputable abbrev Vals:List V→List Value→Prop:=Paired RelV
theorem Vals.length {xs:List V} {us:List Value} (r:Vals xs us):xs.length=us.length:=Paired.length r
theorem Vals.get:∀ {xs:List V} {us:List Value} {i:Nat} {x:V},Vals xs us→xs[i]? = some x→∃ u,us[i]? = some u∧RelV x u
  | _,_,_,_,.nil,e=>by simp at e
  | _,_,0,_,.cons r _,e=>by simp at e; subst e; exact ⟨_,rfl,r⟩
  | _,_,i+1,x,.cons _ t,e=>by
    obtain ⟨u,h1,h2⟩:=Vals.get (i:=i) (x:=x) t (by simpa using e)
    exact ⟨u,by simpa using h1,h2⟩
theorem Vals.set {x:V} {u:Value} (r:RelV x u):∀ {xs:List V} {us:List Value} (i:Nat),Vals xs us→Vals (xs.set i x) (us.set i u)
  | _,_,_,.nil=>.nil
  | _,_,0,.cons _ t=>.cons r t
  | _,_,i+1,.cons q t=>.cons q (Vals.set r i t)
theorem Vals.append:∀ {xs ys:List V} {us ws:List Value},Vals xs us→Vals ys ws→Vals (xs++ys) (us++ws)
  | _,_,_,_,.nil,s=>s
  | _,_,_,_,.cons r t,s=>.cons r (Vals.append t s)
theorem Vals.take:∀ {xs:List V} {us:List Value} (n:Nat),Vals xs us→Vals (xs.take n) (us.take n)
  | _,_,0,_=>.nil
  | _,_,_+1,.nil=>.nil
  | _,_,n+1,.cons r t=>.cons r (Vals.take n t)
theorem Vals.drop:∀ {xs:List V} {us:List Value} (n:Nat),Vals xs us→Vals (xs.drop n) (us.drop n)
  | _,_,0,r=>r
  | _,_,_+1,.nil=>.nil
  | _,_,n+1,.cons _ t=>Vals.drop n t
noncomputable def RelO:Option V→Option Value→Prop
  | some v,some u=>RelV v u
  | none,none=>True
  | _,_=>False
noncomputable def KV {κ:Type}:List (κ × V)→List (κ × Value)→Prop:=Paired fun (p:κ × V) (q:κ × Value)=>p.1=q.1∧RelV p.2 q.2
noncomputable def kV:Key→V
  | .inl i=>.int i
  | .inr x=>.str x
inductive HO where
  | lst (xs:List V)
  | tup (xs:List V)
  | dK (kvs:List (Key × V)) | dT (kvs:List (List Key × V))
  | set (S:Int→Bool) (n:Nat)
  | ins (C dx:Addr) (fs:List (Str × V))
  | own (x:Addr)
  | xd (fs:List (Str × V))
  | met (f x:Addr)
  | rng (lo hi:Int)
  | frz (o:Obj) (u:HO)
  | tbl (ps:Array Value)
  | ext (φ:Heap→Prop)
noncomputable abbrev Hp:=Addr→Option HO
noncomputable def upd (H:Hp) (a:Addr) (o:HO):Hp:=fun b=>if b=a then some o else H b
theorem upd_same {H:Hp} {a:Addr} {o:HO}:upd H a o a=some o:=by unfold upd; rw [if_pos rfl]
theorem upd_ne {H:Hp} {a b:Addr} {o:HO} (h:b≠a):upd H a o b=H b:=by unfold upd; rw [if_neg h]
theorem upd_upd {H:Hp} {a:Addr} {o u:HO}:upd (upd H a o) a u=upd H a u:=by
  funext b; unfold upd; split<;>rfl
theorem ne_of {H:Hp} {a b:Addr} {o u:HO} (h:H a=some o) (h':H b=some u) (d:o≠u):a≠b:=by
  intro e; subst e; rw [h] at h'; exact d (Option.some.inj h')
theorem ne_of_none {H:Hp} {a b:Addr} {o:HO} (h:H a=some o) (h':H b=none):a≠b:=by
  intro e; subst e; rw [h] at h'; cases h'
section
variable (P:Program) (w:World)
noncomputable def ObjOk (H:Hp) (h:Heap) (a:Addr):HO→Prop
  | .lst xs=>xs.length≤sizeLine∧∃ (its:List Value) (n:Nat),Vals xs its∧h.get? a=some { cls:=.type "list",data:=.seq its.toArray n }
  | .tup xs=>xs.length≤sizeLine∧∃ its:List Value,Vals xs its∧IsTup h a its.toArray
  | .dK kvs=>kvs.length≤sizeLine∧(a == sysModules)=false∧∃ vs,KV kvs vs∧h.DictOf (mixKind P w) a vs
  | .dT kvs=>kvs.length≤sizeLine∧(a == sysModules)=false∧∃ xs:List (List Key × Addr × Value),
      Paired (fun (p:List Key × V) (q:List Key × Addr × Value)=>p.1=q.1∧H q.2.1=some (.tup (p.1.map kV))∧RelV p.2 q.2.2) kvs xs ∧
      ∃ o es ep,h.get? a=some o∧o.ExactDict∧o.data = .dict es ep∧es.toList=xs.map (entryOfKey (tupleKind (mixKind P w)))∧(xs.map (·.1)).Nodup
  | .set S n=>h.SetOf (intKind P w) a S n
  | .ins C dx fs=>H dx=some (.own a)∧fs.length≤1000∧dx≠a∧h.get? a=some (PySem.W.instObj C dx) ∧
      ∃ mA,h.Ns1 dx mA∧(∀ f,RelO (fs.lookup f) (mA f))∧PySem.Within mA (fs.map (·.1))
  | .own _=>∃ o,h.get? a=some o
  | .xd fs=>∃ mA,h.Ns1 a mA∧∀ f,RelO (fs.lookup f) (mA f)
  | .rng lo hi=>∃ t u v,h.get? a=some { cls:=.type "range",data:=.fields #[.int lo t,.int hi u,.int 1 v] }
  | .frz o u=>h.get? a=some o∧ObjOk H h a u
  | .tbl ps=>h.get? a=some { cls:=.none,data:=.fields ps }
  | .met f x=>h.get? a=some (PySem.W.methodObj (.ref f) (.ref x))
  | .ext φ=>φ h∧(∃ o,h.get? a=some o)∧∀ h1 h2:Heap,φ h1→(∀ o,h1.get? a=some o→h2.get? a=some o)→φ h2
noncomputable def HOk (H:Hp) (h:Heap):Prop:=∀ a o,H a=some o→ObjOk P w H h a o
end
section
variable {P:Program} {w:World} {H H':Hp} {h h':Heap} {a:Addr} {o:HO}
theorem ObjOk.lt (x:ObjOk P w H h a o):a < h.objs.size:=by
  cases o with
  | lst xs=>obtain ⟨_,_,_,_,e⟩:=x; exact Heap.lt_size e
  | tup xs=>obtain ⟨_,_,_,p⟩:=x; exact p.lt
  | dK kvs=>obtain ⟨_,_,_,_,o,_,_,e,_⟩:=x; exact Heap.lt_size e
  | dT kvs=>obtain ⟨_,_,_,_,o,_,_,e,_⟩:=x; exact Heap.lt_size e
  | set S n=>obtain ⟨o,_,_,_,e,_⟩:=x; exact Heap.lt_size e
  | ins C dx fs=>obtain ⟨_,_,_,e,_⟩:=x; exact Heap.lt_size e
  | own y=>obtain ⟨_,e⟩:=x; exact Heap.lt_size e
  | xd fs=>obtain ⟨_,⟨_,_,_,e,_⟩,_⟩:=x; exact Heap.lt_size e
  | rng lo hi=>obtain ⟨_,_,_,e⟩:=x; exact Heap.lt_size e
  | frz ob u=>obtain ⟨e,_⟩:=x; exact Heap.lt_size e
  | tbl ps=>exact Heap.lt_size (show h.get? a=some _ from x)
  | met f y=>exact Heap.lt_size (show h.get? a=some _ from x)
  | ext φ=>obtain ⟨_,⟨_,e⟩,_⟩:=x; exact Heap.lt_size e
theorem Paired.mapP {α β:Type} {F G:α→β→Prop}:∀ {l₁:List α} {l₂:List β},Paired F l₁ l₂→(∀ a b,F a b→G a b)→Paired G l₁ l₂
  | _,_,.nil,_=>.nil
  | _,_,.cons r t,f=>.cons (f _ _ r) (Paired.mapP t f)
theorem ObjOk.stay (x:ObjOk P w H h a o) (k:∀ b u,(b=a∨H b=some (.own a))→h.get? b=some u→h'.get? b=some u)
    (ho:∀ b,H b=some (.own a)→H' b=some (.own a)) (ht:∀ b xs,H b=some (.tup xs)→H' b=some (.tup xs)):ObjOk P w H' h' a o:=by
  induction o with
  | lst xs=>obtain ⟨z,its,n,r,e⟩:=x; exact ⟨z,its,n,r,k _ _ (.inl rfl) e⟩
  | tup xs=>obtain ⟨z,its,r,ob,e,c⟩:=x; exact ⟨z,its,r,ob,k _ _ (.inl rfl) e,c⟩
  | dK kvs=>obtain ⟨z,y,vs,r,ob,es,ep,e,c⟩:=x; exact ⟨z,y,vs,r,ob,es,ep,k _ _ (.inl rfl) e,c⟩
  | dT kvs =>
    obtain ⟨z,y,xs,r,ob,es,ep,e,c⟩:=x
    exact ⟨z,y,xs,Paired.mapP r fun p q z=>⟨z.1,ht _ _ z.2.1,z.2.2⟩,ob,es,ep,k _ _ (.inl rfl) e,c⟩
  | set S n=>obtain ⟨ob,es,ep,t,e,c⟩:=x; exact ⟨ob,es,ep,t,k _ _ (.inl rfl) e,c⟩
  | ins C dx fs =>
    obtain ⟨d,z,ne,e,mA,⟨od,es,ep,e2,c⟩,r⟩:=x
    exact ⟨ho _ d,z,ne,k _ _ (.inl rfl) e,mA,⟨od,es,ep,k _ _ (.inr d) e2,c⟩,r⟩
  | own y=>obtain ⟨ob,e⟩:=x; exact ⟨ob,k _ _ (.inl rfl) e⟩
  | xd fs=>obtain ⟨mA,⟨od,es,ep,e,c⟩,r⟩:=x; exact ⟨mA,⟨od,es,ep,k _ _ (.inl rfl) e,c⟩,r⟩
  | rng lo hi=>obtain ⟨t,u,v,e⟩:=x; exact ⟨t,u,v,k _ _ (.inl rfl) e⟩
  | frz ob u ih=>obtain ⟨e,q⟩:=x; exact ⟨k _ _ (.inl rfl) e,ih q⟩
  | tbl ps =>
    have e:h.get? a=some { cls:=.none,data:=.fields ps }:=x
    show h'.get? a=some { cls:=.none,data:=.fields ps }
    exact k a _ (.inl rfl) e
  | met f y =>
    have e:h.get? a=some (PySem.W.methodObj (.ref f) (.ref y)):=x
    show h'.get? a=some (PySem.W.methodObj (.ref f) (.ref y))
    exact k a _ (.inl rfl) e
  | ext φ=>obtain ⟨p,⟨o,e⟩,st⟩:=x; exact ⟨st _ _ p fun o q=>k _ _ (.inl rfl) q,⟨o,k _ _ (.inl rfl) e⟩,st⟩
theorem HOk.lt (x:HOk P w H h) (e:H a=some o):a < h.objs.size:=(x a o e).lt
theorem HOk.fresh (x:HOk P w H h) (e:h.objs.size≤a):H a=none:=by
  cases q:H a with
  | none=>rfl
  | some u=>exact absurd (Nat.lt_of_lt_of_le (x.lt q) e) (Nat.lt_irrefl _)
theorem HOk.kept (x:HOk P w H h) (k:∀ b u,h.get? b=some u→h'.get? b=some u):HOk P w H h':=fun a o e =>
  (x a o e).stay (fun b u _ q=>k b u q) (fun _ q=>q) fun _ _ q=>q
theorem HOk.laid (x:HOk P w H h) (k:∀ b u,h.get? b=some u→h'.get? b=some u) (hp:h.objs.size≤a) (new:ObjOk P w (upd H a o) h' a o):HOk P w (upd H a o) h':=fun b u e=>by
  have hn:=x.fresh hp
  by_cases hb:b=a
  · subst hb; rw [upd_same] at e; cases e; exact new
  · rw [upd_ne hb] at e
    exact (x b u e).stay (fun c v _ q=>k c v q) (fun c q=>by rw [upd_ne (ne_of_none q hn)]; exact q) fun c xs q=>by rw [upd_ne (ne_of_none q hn)]; exact q
end
noncomputable def Rd (H:Hp) (a:Addr) (u:HO):Prop:=H a=some u∨∃ o,H a=some (.frz o u)
theorem Rd.ok {P:Program} {w:World} {H:Hp} {h:Heap} {a:Addr} {u:HO} (r:Rd H a u) (x:HOk P w H h):ObjOk P w H h a u:=by
  rcases r with r | ⟨o,r⟩
  · exact x a u r
  · obtain ⟨_,q⟩:=x a _ r
    exact q
noncomputable def Mut:Option HO→Prop
  | some (.lst _)=>True
  | some (.dK _)=>True
  | some (.dT _)=>True
  | some (.set _ _)=>True
  | some (.ins _ _ _)=>True
  | some (.ext _)=>True
  | _=>False
section
variable {P:Program} {w:World} {H:Hp} {h h':Heap} {x e:Addr} {o':HO}
theorem HOk.write (ok:HOk P w H h) (mu:Mut (H x)) (he:e=x∨H e=some (.own x)) (k:∀ b u,b≠e→h.get? b=some u→h'.get? b=some u) (heo:∃ u,h'.get? e=some u)
    (new:ObjOk P w (upd H x o') h' x o'):HOk P w (upd H x o') h':=fun b u q=>by
  have nown:∀ c y,H c=some (.own y)→c≠x:=fun c y r z=>by subst z; rw [r] at mu; exact mu
  have ntup:∀ c xs,H c=some (.tup xs)→c≠x:=fun c xs r z=>by subst z; rw [r] at mu; exact mu
  by_cases hb:b=x
  · subst hb; rw [upd_same] at q; cases q; exact new
  · rw [upd_ne hb] at q
    by_cases hbe:b=e
    · have q':H b=some (.own x):=by
        rcases he with z | z
        · exact absurd (hbe.trans z) hb
        · rw [hbe]; exact z
      rw [q] at q'; cases q'
      obtain ⟨v,hv⟩:=heo
      exact ⟨v,by rw [hbe]; exact hv⟩
    · refine (ok b u q).stay (fun c v hc r=>k c v ?_ r) (fun c r=>by rw [upd_ne (nown c b r)]; exact r) fun c xs r=>by rw [upd_ne (ntup c xs r)]; exact r
      rcases hc with rfl | hc
      · exact hbe
      · rintro rfl
        rcases he with z | z
        · exact nown c b hc z
        · rw [hc] at z; cases z; exact hb rfl
end
structure Un (fs ex:List Addr) (H H':Hp) (h h':Heap):Prop where
  keep:∀ b o,h.get? b=some o→H b=none→b∉fs→b∉ex→h'.get? b=some o
  slot:∀ b o,h.get? b=some o→H b=none→b∈fs→b∉ex→∃ sl,h'.get? b=some { o with slots:=sl }
  free:∀ b o,h.get? b=some o→H b=none→b∉ex→H' b=none
  there:∀ b o,h.get? b=some o→b∉ex→∃ o',h'.get? b=some o'
  tups:∀ b xs,H b=some (.tup xs)→H' b=some (.tup xs)
  frzs:∀ b o u,H b=some (.frz o u)→H' b=some (.frz o u)
  tbls:∀ b ps,H b=some (.tbl ps)→∃ more,H' b=some (.tbl (ps++more))
section
variable {fs fs' ex ex':List Addr} {H H1 H2:Hp} {h h1 h2 h':Heap} {a x e:Addr} {o:HO}
theorem Un.any (u:Un fs ex H H1 h h1) {b:Addr} {ob:Obj} (q:h.get? b=some ob) (n:H b=none) (hx:b∉ex):∃ sl,h1.get? b=some { ob with slots:=sl }:=by
  by_cases hb:b∈fs
  · exact u.slot b ob q n hb hx
  · exact ⟨ob.slots,u.keep b ob q n hb hx⟩
theorem Un.kept (k:∀ b u,h.get? b=some u→h'.get? b=some u):Un fs ex H H h h' :=
  ⟨fun b ob q _ _ _=>k b ob q,fun b ob q _ _ _=>⟨ob.slots,k b ob q⟩,fun _ _ _ n _=>n,fun b ob q _=>⟨ob,k b ob q⟩,fun _ _ q=>q,fun _ _ _ q=>q,fun _ ps q=>⟨#[],by rw [q]; simp⟩⟩
theorem Un.refl:Un fs ex H H h h:=Un.kept fun _ _ q=>q
theorem Un.laid (k:∀ b u,h.get? b=some u→h'.get? b=some u) (hp:h.objs.size≤a) (hn:H a=none):Un fs ex H (upd H a o) h h' where
  keep:=fun b u q _ _ _=>k b u q
  slot:=fun b u q _ _ _=>⟨u.slots,k b u q⟩
  free:=fun b u q n _=>by rw [upd_ne (Nat.ne_of_lt (Nat.lt_of_lt_of_le (Heap.lt_size q) hp))]; exact n
  there:=fun b u q _=>⟨u,k b u q⟩
  tups:=fun b xs q=>by rw [upd_ne (ne_of_none q hn)]; exact q
  frzs:=fun b u xs q=>by rw [upd_ne (ne_of_none q hn)]; exact q
  tbls:=fun b ps q=>⟨#[],by rw [upd_ne (ne_of_none q hn),q]; simp⟩
theorem Un.write (mu:Mut (H x)) (he:e=x∨H e=some (.own x)) (k:∀ b u,b≠e→h.get? b=some u→h'.get? b=some u) (heo:∃ u,h'.get? e=some u):Un fs ex H (upd H x o) h h':=by
  have hx:∀ b,H b=none→b≠x:=fun b n z=>by subst z; rw [n] at mu; exact mu
  have hb:∀ b,H b=none→b≠e:=fun b n z=>by
    subst z
    rcases he with r | r
    · exact hx b n r
    · rw [n] at r; cases r
  have hm:∀ b u,H b=some u→¬ Mut (some u)→b≠x:=fun b u q nm z=>by subst z; rw [q] at mu; exact nm mu
  refine ⟨fun b u q n _ _=>k b u (hb b n) q,fun b u q n _ _=>⟨u.slots,k b u (hb b n) q⟩,fun b u q n _=>by rw [upd_ne (hx b n)]; exact n,fun b u q _=>?_,
    fun b xs q=>by rw [upd_ne (hm b _ q fun z=>z)]; exact q,fun b u xs q=>by rw [upd_ne (hm b _ q fun z=>z)]; exact q,fun b ps q=>⟨#[],by rw [upd_ne (hm b _ q fun z=>z),q]; simp⟩⟩
  by_cases hbe:b=e
  · subst hbe; exact heo
  · exact ⟨u,k b u hbe q⟩
end
noncomputable def trk (h:Heap) (H:Hp):List Addr:=(List.range h.objs.size).filter fun a=>(H a).isSome
noncomputable def hidT (h:Heap) (H:Hp):Heap:=PySem.W.hideAll h (trk h H)
theorem hidT_size (h:Heap) (H:Hp):(hidT h H).objs.size=h.objs.size:=PySem.W.hideAll_size _ _
theorem hidT_get {h:Heap} {H:Hp} {b:Addr} {o:Obj} (e:h.get? b=some o) (n:H b=none):(hidT h H).get? b=some o :=
  PySem.W.hideAll_get _ e fun hm=>by
    have q:(H b).isSome=true:=(List.mem_filter.mp hm).2
    rw [n] at q; simp at q
theorem of_hidT {h:Heap} {H:Hp} {b:Addr} {o:Obj} (e:(hidT h H).get? b=some o):h.get? b=some o∧H b=none:=by
  have e':h.get? b=some o:=PySem.W.of_hideAll (trk h H) e
  refine ⟨e',?_⟩
  cases q:H b with
  | none=>rfl
  | some x =>
    have hm:b∈trk h H:=List.mem_filter.mpr ⟨List.mem_range.mpr (Heap.lt_size e'),by simp [q]⟩
    have z:(hidT h H).get? b=none:=PySem.W.hideAll_none (trk h H) hm
    rw [z] at e; cases e
noncomputable def allNews (g h:Heap) (L:Addr):List (Addr × Obj):=(List.range h.objs.size).filterMap fun a=>if a=L∨(g.get? a).isSome=true then none else (h.get? a).map fun o=>(a,o)
noncomputable def rest (g h:Heap) (L d:Addr):List (Addr × Obj):=(allNews g h L).filter fun p=>decide (p.1≠d)
end L2
namespace L2
open PySem PySem.Spec PyProof.Rows
structure Mod (K:PySem.W.Frag) (mg:Str→Option Value) (base:Heap):Prop where
  kin:K.In base
  glob:base.Ns mainGlobals mg
  blt:∃ mb,base.Ns builtinsNs mb∧∀ x:Str,x≠"__name__"→mb x=bootBuiltins x
  nolimit:base.NoLimit
structure Cx where
  prog:Program
  w:World
  K:PySem.W.Frag
  mg:Str→Option Value
  base:Heap
  A:Around
  N:List Str
  s₀:Shared
  H₀:Hp
  env:Env
  outer:List Env
  stack:List Env
  ex:List Addr
  fn:Str→Bool
  calm:Bool
  pn:List (Addr × Obj)
  xe:Value→Shared→Prop
noncomputable def frs (l:List Env):List Addr:=l.filterMap (·.frame)
noncomputable abbrev Cx.fs (X:Cx):List Addr:=frs X.outer
noncomputable def Vis (sc:Scope) (x:Str):Prop:=sc.names.lookup x=some .local∨sc.names.lookup x=some .cell∨sc.names.lookup x=some .free
noncomputable def Loc (sc:Scope) (x:Str):Prop:=sc.names.lookup x=some .local∨sc.names.lookup x=some .cell
noncomputable def Look (env:Env) (h:Heap) (m:Str→Option Value) (x:Str) (u:Value):Prop :=
  (env.kindOf x=some .local∧m x=some u)∨((env.kindOf x=some .cell∨env.kindOf x=some .free)∧∃ c,env.cells.lookup x=some c∧h.IsCell c (some u))
structure Cx.Ok (X:Cx):Prop where
  mod:Mod X.K X.mg X.base
  kind:X.env.scope.kind = .function
  glob:X.env.globals=mainGlobals
  blt:X.env.builtins=builtinsNs
  above:X.s₀.heap.objs.size≤X.env.locals
  inj:∀ x y c,X.env.cells.lookup x=some c→X.env.cells.lookup y=some c→x=y
  has:∀ x,(X.env.kindOf x=some .cell∨X.env.kindOf x=some .free)→∃ c,X.env.cells.lookup x=some c
  cab:∀ x c,X.fn x=true→X.env.cells.lookup x=some c→X.s₀.heap.objs.size≤c
  hd:X.calm=true→X.A.handled=none
  frames:X.A.frames=some X.stack
  stk:X.stack=X.outer∨(X.stack=X.env::X.outer∧X.env.frame=some X.env.locals)
  exf:∀ b∈X.ex,b≠X.env.locals∧∀ x c,X.env.cells.lookup x=some c→c≠b
  bs:∀ b o,X.base.get? b=some o→X.s₀.heap.get? b=some o∧X.H₀ b=none
  bsz:X.base.objs.size≤X.s₀.heap.objs.size
  noex:∀ b o,X.base.get? b=some o→b∉X.ex
  exfs:∀ b∈X.ex,b∉X.fs
  funs:X.s₀.heap.FunFrames X.base X.outer
  frf:∀ b∈X.fs,X.H₀ b=none
structure Inv (X:Cx) (pins:List (Addr × Obj)) (σ:List (Option V)) (H:Hp) (s:Shared):Prop where
  ok:X.Ok
  os:s.os=X.s₀.os
  bare:AllBare s.gens
  base:Un X.fs X.ex X.H₀ H X.s₀.heap s.heap
  loc:∃ m,s.heap.Ns X.env.locals m∧∀ (i:Nat) (x:Str) (v:V),X.N[i]? = some x→σ[i]? = some (some v)→Vis X.env.scope x→∃ u,RelV v u∧Look X.env s.heap m x u
  cell:∀ x c,X.env.cells.lookup x=some c→∃ v,s.heap.IsCell c v
  free:H X.env.locals=none
  freeC:∀ x c,X.env.cells.lookup x=some c→H c=none
  pin:∀ p∈X.pn++pins,s.heap.get? p.1=some p.2∧H p.1=none∧p.1≠X.env.locals∧p.1∉X.fs∧∀ v,p.2.data≠.cell v
  hok:HOk X.prog X.w H s.heap
  len:σ.length=X.N.length
section
variable {X:Cx} {pins:List (Addr × Obj)} {σ:List (Option V)} {H H':Hp} {s:Shared} {h':Heap}
theorem Cx.Ok.nofr (ok:X.Ok) {b:Addr} {o:Obj} (e:X.base.get? b=some o):b∉X.fs:=fun hb=>by
  have:=(ok.funs.mem hb).1
  rw [e] at this; cases this
theorem Inv.bs (I:Inv X pins σ H s):∀ b o,X.base.get? b=some o→s.heap.get? b=some o∧H b=none:=fun b o e =>
  ⟨I.base.keep b o (I.ok.bs b o e).1 (I.ok.bs b o e).2 (I.ok.nofr e) (I.ok.noex b o e),I.base.free b o (I.ok.bs b o e).1 (I.ok.bs b o e).2 (I.ok.noex b o e)⟩
theorem Inv.bk (I:Inv X pins σ H s):∀ b o,X.base.get? b=some o→s.heap.get? b=some o:=fun b o e=>(I.bs b o e).1
theorem Inv.mod (I:Inv X pins σ H s):Mod X.K X.mg X.base:=I.ok.mod
theorem Inv.kIn (I:Inv X pins σ H s):X.K.In s.heap:=I.ok.mod.kin.keeps I.bk
theorem Inv.fr (I:Inv X pins σ H s):∃ m,Fr X.base X.env.locals s.heap m :=
  let ⟨m,hn,_⟩:=I.loc
  ⟨m,hn,I.bk,Nat.le_trans I.ok.bsz I.ok.above⟩
theorem Inv.lt (I:Inv X pins σ H s):X.env.locals < s.heap.objs.size:=let ⟨_,hn,_⟩:=I.loc; hn.lt
theorem Inv.sz (I:Inv X pins σ H s):X.s₀.heap.objs.size≤s.heap.objs.size:=Nat.le_trans I.ok.above (Nat.le_of_lt I.lt)
theorem Inv.nofs (I:Inv X pins σ H s) {a:Addr} (h:s.heap.objs.size≤a):a∉X.fs:=fun hb=>by
  obtain ⟨_,o,ho,_⟩:=I.ok.funs.mem hb
  exact absurd (Nat.lt_of_lt_of_le (Heap.lt_size ho) (Nat.le_trans I.sz h)) (Nat.lt_irrefl _)
theorem Inv.cne (I:Inv X pins σ H s):∀ x c,X.env.cells.lookup x=some c→c≠X.env.locals:=fun x c e z=>by
  obtain ⟨v,o,ho,hd⟩:=I.cell x c e
  obtain ⟨m,⟨o',es,ep,ho',hd',_⟩,_⟩:=I.loc
  rw [z,ho'] at ho; cases ho; rw [hd'] at hd; cases hd
theorem Inv.funs (I:Inv X pins σ H s):s.heap.FunFrames X.base X.outer:=by
  have all:∀ (l:List Env),(∀ b∈frs l,b∈X.fs)→X.s₀.heap.FunFrames X.base l→s.heap.FunFrames X.base l:=by
    intro l
    induction l with
    | nil=>intro _ _; trivial
    | cons env r ih =>
      intro hs hl
      obtain ⟨hk,⟨L,o,hf,hn,ho,hd⟩,hr⟩:=hl
      have hL:L∈X.fs:=hs L (by unfold frs; rw [List.filterMap_cons,hf]; exact List.mem_cons_self)
      obtain ⟨sl,e⟩:=I.base.slot L o ho (I.ok.frf L hL) hL fun z=>I.ok.exfs L z hL
      exact ⟨hk,⟨L,_,hf,hn,e,hd⟩,ih (fun b hb=>hs b (by unfold frs; rw [List.filterMap_cons,hf]; exact List.mem_cons_of_mem _ hb)) hr⟩
  exact all X.outer (fun _ hb=>hb) I.ok.funs
theorem Inv.stack (I:Inv X pins σ H s):s.heap.FunFrames X.base X.stack:=by
  rcases I.ok.stk with e | ⟨e,hf⟩
  · rw [e]; exact I.funs
  · rw [e]
    obtain ⟨m,hn,_⟩:=I.loc
    refine .cons (by rw [I.ok.kind]; decide) hf hn ?_ I.funs
    exact Heap.get?_none_of_le (Nat.le_trans I.ok.bsz I.ok.above)
theorem Inv.stkSub (I:Inv X pins σ H s):∀ b∈frs X.stack,b∈X.env.locals::X.fs:=fun b hb=>by
  rcases I.ok.stk with e | ⟨e,hf⟩
  · rw [e] at hb; exact List.mem_cons_of_mem _ hb
  · rw [e] at hb
    unfold frs at hb
    rw [List.filterMap_cons,hf] at hb
    exact hb
theorem Inv.stkFree (I:Inv X pins σ H s):∀ b∈frs X.stack,H b=none:=fun b hb=>by
  rcases List.mem_cons.mp (I.stkSub b hb) with e | hb
  · rw [e]; exact I.free
  · obtain ⟨_,o,ho,_⟩:=I.ok.funs.mem hb
    exact I.base.free b o ho (I.ok.frf b hb) fun z=>I.ok.exfs b z hb
theorem Inv.step {g':Array GenState} {t':Nat} {d':Drawn} {ch:List Addr} (I:Inv X pins σ H s)
    (hch:∀ b∈ch,(b∈X.ex∨X.s₀.heap.objs.size≤b)∧b≠X.env.locals∧(∀ x c,X.env.cells.lookup x=some c→c≠b)∧∀ p∈X.pn++pins,p.1≠b)
    (keep:∀ b o,b≠X.env.locals→b∉X.fs→b∉ch→s.heap.get? b=some o→H b=none→h'.get? b=some o)
    (slot:∀ b o,b≠X.env.locals→b∈X.fs→b∉ch→s.heap.get? b=some o→H b=none→∃ sl,h'.get? b=some { o with slots:=sl }) (free:∀ b o,b∉ch→s.heap.get? b=some o→H b=none→H' b=none)
    (there:∀ b o,b∉ch→s.heap.get? b=some o→∃ o',h'.get? b=some o')
    (tups:∀ b xs,H b=some (.tup xs)→H' b=some (.tup xs)) (frzs:∀ b o u,H b=some (.frz o u)→H' b=some (.frz o u)) (tbls:∀ b ps,H b=some (.tbl ps)→∃ more,H' b=some (.tbl (ps++more)))
    (ns:∀ m,s.heap.Ns X.env.locals m→h'.Ns X.env.locals m) (hok:HOk X.prog X.w H' h') (hg:AllBare g') :
    Inv X pins σ H' { s with heap:=h',gens:=g',drawn:=d',toks:=t' }:=by
  have neL:∀ b o,X.s₀.heap.get? b=some o→b≠X.env.locals:=fun b o e=>Nat.ne_of_lt (Nat.lt_of_lt_of_le (Heap.lt_size e) I.ok.above)
  have neC:∀ b o,X.s₀.heap.get? b=some o→b∉X.ex→b∉ch:=fun b o e hx hb=>by
    rcases (hch b hb).1 with z | z
    · exact hx z
    · exact absurd (Nat.lt_of_lt_of_le (Heap.lt_size e) z) (Nat.lt_irrefl _)
  have cellK:∀ x c,X.env.cells.lookup x=some c→∀ v,s.heap.IsCell c v→h'.IsCell c v:=fun x c e v ⟨o,ho,hd⟩=>by
    have nch:c∉ch:=fun z=>(hch c z).2.2.1 x c e rfl
    by_cases hc:c∈X.fs
    · obtain ⟨sl,q⟩:=slot c o (I.cne x c e) hc nch ho (I.freeC x c e)
      exact ⟨_,q,hd⟩
    · exact ⟨o,keep c o (I.cne x c e) hc nch ho (I.freeC x c e),hd⟩
  refine ⟨I.ok,I.os,hg,⟨fun b o e n hb hx=>?_,fun b o e n hb hx=>?_,fun b o e n hx=>?_,fun b o e hx=>?_,fun b xs e=>tups b xs (I.base.tups b xs e),fun b o xs e=>frzs b o xs (I.base.frzs b o xs e),fun b ps e=>?_⟩,?_,fun x c e=>?_,?_,fun x c e=>?_,fun p hp=>?_,hok,I.len⟩
  · exact keep b o (neL b o e) hb (neC b o e hx) (I.base.keep b o e n hb hx) (I.base.free b o e n hx)
  · obtain ⟨sl,e1⟩:=I.base.slot b o e n hb hx
    obtain ⟨sl',e2⟩:=slot b _ (neL b o e) hb (neC b o e hx) e1 (I.base.free b o e n hx)
    exact ⟨sl',e2⟩
  · obtain ⟨o',e1⟩:=I.base.there b o e hx
    exact free b o' (neC b o e hx) e1 (I.base.free b o e n hx)
  · obtain ⟨o',e1⟩:=I.base.there b o e hx
    exact there b o' (neC b o e hx) e1
  · obtain ⟨m1,e1⟩:=I.base.tbls b ps e
    obtain ⟨m2,e2⟩:=tbls b _ e1
    exact ⟨m1++m2,by rw [e2,Array.append_assoc]⟩
  · obtain ⟨m,hn,hl⟩:=I.loc
    refine ⟨m,ns m hn,fun i x v e1 e2 e3=>?_⟩
    obtain ⟨u,r,l⟩:=hl i x v e1 e2 e3
    refine ⟨u,r,?_⟩
    rcases l with l | ⟨k,c,e,z⟩
    · exact .inl l
    · exact .inr ⟨k,c,e,cellK x c e _ z⟩
  · obtain ⟨v,z⟩:=I.cell x c e
    exact ⟨v,cellK x c e v z⟩
  · obtain ⟨m,⟨o,_,_,ho,_⟩,_⟩:=I.loc
    exact free _ o (fun z=>(hch _ z).2.1 rfl) ho I.free
  · obtain ⟨v,o,ho,hd⟩:=I.cell x c e
    exact free c o (fun z=>(hch c z).2.2.1 x c e rfl) ho (I.freeC x c e)
  · obtain ⟨e,n,ne,nf,d⟩:=I.pin p hp
    have nch:p.1∉ch:=fun z=>(hch p.1 z).2.2.2 p hp rfl
    exact ⟨keep p.1 p.2 ne nf nch e n,free p.1 p.2 nch e n,ne,nf,d⟩
theorem Inv.un {t':Nat} (I:Inv X pins σ H s) (u:Un X.fs [] H H' s.heap h') (hok:HOk X.prog X.w H' h'):Inv X pins σ H' { s with heap:=h',toks:=t' }:=by
  obtain ⟨m,⟨o,es,ep,ho,r⟩,_⟩:=id I.loc
  obtain ⟨sl,hL⟩:=u.any ho I.free (by simp)
  exact I.step (g':=s.gens) (d':=s.drawn) (ch:=[]) (fun _ z=>nomatch z) (fun b o _ hb _ e n=>u.keep b o e n hb (by simp)) (fun b o _ hb _ e n=>u.slot b o e n hb (by simp)) (fun b o _ e n=>u.free b o e n (by simp)) (fun b o _ e=>u.there b o e (by simp)) u.tups u.frzs u.tbls (fun m' hm=>by
    obtain ⟨o',es',ep',ho',r'⟩:=hm
    rw [ho] at ho'; cases ho'
    exact ⟨_,es',ep',hL,r'⟩) hok I.bare
theorem Inv.call {g':Array GenState} {t':Nat} {d':Drawn} {ch:List Addr} (I:Inv X pins σ H s) (u:Un (frs X.stack) ch H H' s.heap h') (hok:HOk X.prog X.w H' h') (hg:AllBare g')
    (hch:∀ b∈ch,(b∈X.ex∨X.s₀.heap.objs.size≤b)∧b≠X.env.locals∧(∀ x c,X.env.cells.lookup x=some c→c≠b)∧∀ p∈X.pn++pins,p.1≠b) :
    Inv X pins σ H' { s with heap:=h',gens:=g',drawn:=d',toks:=t' }:=by
  obtain ⟨m,⟨o,es,ep,ho,r⟩,_⟩:=id I.loc
  obtain ⟨sl,hL⟩:=u.any ho I.free fun z=>(hch _ z).2.1 rfl
  exact I.step (ch:=ch) hch (fun b o hL hb hc e n=>u.keep b o e n (fun z=>(List.mem_cons.mp (I.stkSub b z)).elim hL hb) hc) (fun b o _ _ hc e n=>u.any e n hc) (fun b o hc e n=>u.free b o e n hc) (fun b o hc e=>u.there b o e hc) u.tups u.frzs u.tbls (fun m' hm=>by
    obtain ⟨o',es',ep',ho',r'⟩:=hm
    rw [ho] at ho'; cases ho'
    exact ⟨_,es',ep',hL,r'⟩) hok hg
theorem Inv.turned {t':Nat} {it:Addr} (I:Inv X pins σ H s) (k:∀ b o,b≠it→s.heap.get? b=some o→h'.get? b=some o) (hn:H it=none) (hL:it≠X.env.locals)
    (h1:it∈X.ex∨X.s₀.heap.objs.size≤it) (h2:∀ x c,X.env.cells.lookup x=some c→c≠it) (h3:∀ p∈X.pn++pins,p.1≠it):Inv X pins σ H { s with heap:=h',toks:=t' }:=by
  have nit:∀ b u,H b=some u→b≠it:=fun b u e z=>by rw [z,hn] at e; cases e
  refine I.step (g':=s.gens) (d':=s.drawn) (ch:=[it]) (fun b hb=>?_) (fun b o _ _ hc e _=>k b o (fun z=>hc (by simp [z])) e) (fun b o _ _ hc e _=>⟨o.slots,k b o (fun z=>hc (by simp [z])) e⟩) (fun _ _ _ _ n=>n)
    (fun b o hc e=>⟨o,k b o (fun z=>hc (by simp [z])) e⟩) (fun _ _ e=>e) (fun _ _ _ e=>e) (fun b ps e=>⟨#[],by rw [e]; simp⟩) (fun m hm=>?_) (fun b u e=>?_) I.bare
  · have e:b=it:=by simpa using hb
    subst e
    exact ⟨h1,hL,h2,h3⟩
  · obtain ⟨o,es,ep,ho,r⟩:=hm
    exact ⟨o,es,ep,k _ o (Ne.symm hL) ho,r⟩
  · refine (I.hok b u e).stay (fun c v hc q=>k c v ?_ q) (fun _ q=>q) fun _ _ q=>q
    rcases hc with z | z
    · rw [z]; exact nit b u e
    · exact nit c _ z
theorem Inv.tok (I:Inv X pins σ H s) (t:Nat):Inv X pins σ H { s with toks:=t }:=I.un (h':=s.heap) (t':=t) Un.refl I.hok
theorem Inv.kept {t':Nat} (I:Inv X pins σ H s) (k:∀ b u,s.heap.get? b=some u→h'.get? b=some u):Inv X pins σ H { s with heap:=h',toks:=t' }:=I.un (Un.kept k) (I.hok.kept k)
theorem Inv.laid {a:Addr} {o:HO} {t':Nat} (I:Inv X pins σ H s) (k:∀ b u,s.heap.get? b=some u→h'.get? b=some u) (hp:s.heap.objs.size≤a) (new:ObjOk X.prog X.w (upd H a o) h' a o) :
    Inv X pins σ (upd H a o) { s with heap:=h',toks:=t' }:=I.un (Un.laid k hp (I.hok.fresh hp)) (I.hok.laid k hp new)
theorem Inv.write {x e:Addr} {o:HO} {t':Nat} (I:Inv X pins σ H s) (mu:Mut (H x)) (he:e=x∨H e=some (.own x)) (k:∀ b u,b≠e→s.heap.get? b=some u→h'.get? b=some u) (heo:∃ u,h'.get? e=some u)
    (new:ObjOk X.prog X.w (upd H x o) h' x o):Inv X pins σ (upd H x o) { s with heap:=h',toks:=t' }:=I.un (Un.write mu he k heo) (I.hok.write mu he k heo new)
theorem Inv.weak {σ':List (Option V)} (I:Inv X pins σ H s) (hl:σ'.length=σ.length) (w:∀ (i:Nat) v,σ'[i]? = some (some v)→σ[i]? = some (some v)):Inv X pins σ' H s :=
  ⟨I.ok,I.os,I.bare,I.base,let ⟨m,hn,hl'⟩:=I.loc; ⟨m,hn,fun i x v e1 e2 e3=>hl' i x v e1 (w i v e2) e3⟩,I.cell,I.free,I.freeC,I.pin,I.hok,hl.trans I.len⟩
theorem Inv.pins_of {pins':List (Addr × Obj)} (I:Inv X pins σ H s) (h:∀ p∈pins',s.heap.get? p.1=some p.2∧H p.1=none∧p.1≠X.env.locals∧p.1∉X.fs∧∀ v,p.2.data≠.cell v):Inv X pins' σ H s :=
  ⟨I.ok,I.os,I.bare,I.base,I.loc,I.cell,I.free,I.freeC,fun p hp=>(List.mem_append.mp hp).elim (fun z=>I.pin p (List.mem_append_left _ z)) (h p),I.hok,I.len⟩
theorem nodup_ix {N:List Str} (hN:N.Nodup) {i j:Nat} {x:Str} (a:N[i]? = some x) (b:N[j]? = some x):i=j:=by
  obtain ⟨h1,e1⟩:=List.getElem?_eq_some_iff.mp a
  obtain ⟨h2,e2⟩:=List.getElem?_eq_some_iff.mp b
  exact (List.getElem_inj hN).mp (e1.trans e2.symm)
theorem store_ok2 {M:Model} {A:Around} {E:Value→Shared→Prop} {i:Nat} {x:Str} {v:V} {u:Value} {Q:Unit→Shared→Prop} (I:Inv X pins σ H s) (hN:X.N.Nodup) (hi:X.N[i]? = some x) (hx:Loc X.env.scope x) (r:RelV v u)
    (h:∀ s',Inv X pins (σ.set i (some v)) H s'→(∃ a,Heap.SameBut a s.heap s'.heap∧(a=X.env.locals∨X.env.cells.lookup x=some a))→Q () s') (hf:X.fn x=true∨X.env.scope.names.lookup x=some .local:=by first | exact .inl rfl | exact .inr rfl | assumption):wpAny M A (storeName X.env x u) Q E s:=by
  obtain ⟨m,hn,hl⟩:=id I.loc
  have hcls:(X.env.scope.kind == .class || (X.env.scope.kind == .module&&X.env.locals != X.env.globals))=false:=by rw [I.ok.kind]; rfl
  have hiσ:i < σ.length:=by rw [I.len]; exact (List.getElem?_eq_some_iff.mp hi).1
  have cne:=I.cne
  have tracked:∀ {a:Addr} {h':Heap},(∃ o,s.heap.get? a=some o∧H a=none)→Heap.SameBut a s.heap h'→HOk X.prog X.w H h':=fun {a h'} ha hs b ob e=>by
    obtain ⟨_,_,hfree⟩:=ha
    refine (I.hok b ob e).stay (fun c w' hc q=>(hs.2 c ?_).trans q) (fun _ q=>q) fun _ _ q=>q
    rintro rfl
    rcases hc with rfl | hc
    · rw [hfree] at e; cases e
    · rw [hfree] at hc; cases hc
  rcases hx with hk | hk
  · refine wpAny_storeName_local hk hn (fun h' hn' hs=>?_) hcls
    obtain ⟨oL,_,_,hoL,_⟩:=id hn
    refine h _ ⟨I.ok,I.os,I.bare,⟨fun b o e n hb hx=>?_,fun b o e n hb hx=>?_,I.base.free,fun b o e hx=>?_,I.base.tups,I.base.frzs,I.base.tbls⟩,⟨_,hn',fun j y v' e1 e2 e3=>?_⟩,fun y c e=>?_,I.free,I.freeC,fun p hp=>?_,tracked ⟨oL,hoL,I.free⟩ hs,by simpa using I.len⟩ ⟨_,hs,.inl rfl⟩
    · exact (hs.2 b (Nat.ne_of_lt (Nat.lt_of_lt_of_le (Heap.lt_size e) I.ok.above))).trans (I.base.keep b o e n hb hx)
    · obtain ⟨sl,e1⟩:=I.base.slot b o e n hb hx
      exact ⟨sl,(hs.2 b (Nat.ne_of_lt (Nat.lt_of_lt_of_le (Heap.lt_size e) I.ok.above))).trans e1⟩
    · obtain ⟨o',e1⟩:=I.base.there b o e hx
      exact ⟨o',(hs.2 b (Nat.ne_of_lt (Nat.lt_of_lt_of_le (Heap.lt_size e) I.ok.above))).trans e1⟩
    · by_cases hj:j=i
      · subst hj
        rw [hi] at e1; cases e1
        rw [List.getElem?_set_self hiσ] at e2
        cases e2
        exact ⟨u,r,.inl ⟨hk,by simp⟩⟩
      · rw [List.getElem?_set_ne (Ne.symm hj)] at e2
        obtain ⟨u',r',q⟩:=hl j y v' e1 e2 e3
        refine ⟨u',r',?_⟩
        rcases q with ⟨k,e⟩ | ⟨k,c,e,z⟩
        · refine .inl ⟨k,?_⟩
          have:y≠x:=fun e=>hj (nodup_ix hN e1 (e▸hi))
          simp [this,e]
        · exact .inr ⟨k,c,e,z.sameBut hs (cne y c e)⟩
    · obtain ⟨w',z⟩:=I.cell y c e
      exact ⟨w',z.sameBut hs (cne y c e)⟩
    · obtain ⟨e,n,ne,nf,d⟩:=I.pin p hp
      exact ⟨(hs.2 p.1 ne).trans e,n,ne,nf,d⟩
  · have hfn:X.fn x=true:=by
      rcases hf with z | z
      · exact z
      · rw [z] at hk; cases hk
    obtain ⟨c,hc⟩:=I.ok.has x (.inl hk)
    obtain ⟨w',z⟩:=I.cell x c hc
    refine wpAny_storeName_cell I.ok.kind hk hc z (fun h' hc' hs=>?_)
    obtain ⟨oc,hoc,hocd⟩:=id z
    refine h { s with heap:=h' } ⟨I.ok,I.os,I.bare,⟨fun b o e n hb hx=>?_,fun b o e n hb hx=>?_,I.base.free,fun b o e hx=>?_,I.base.tups,I.base.frzs,I.base.tbls⟩,⟨m,hn.sameBut hs (Ne.symm (cne x c hc)),fun j y v' e1 e2 e3=>?_⟩,fun y c' e=>?_,I.free,I.freeC,fun p hp=>?_,tracked ⟨oc,hoc,I.freeC x c hc⟩ hs,by simpa using I.len⟩ ⟨c,hs,.inr hc⟩
    · exact (hs.2 b (Nat.ne_of_lt (Nat.lt_of_lt_of_le (Heap.lt_size e) (I.ok.cab x c hfn hc)))).trans (I.base.keep b o e n hb hx)
    · obtain ⟨sl,e1⟩:=I.base.slot b o e n hb hx
      exact ⟨sl,(hs.2 b (Nat.ne_of_lt (Nat.lt_of_lt_of_le (Heap.lt_size e) (I.ok.cab x c hfn hc)))).trans e1⟩
    · obtain ⟨o',e1⟩:=I.base.there b o e hx
      exact ⟨o',(hs.2 b (Nat.ne_of_lt (Nat.lt_of_lt_of_le (Heap.lt_size e) (I.ok.cab x c hfn hc)))).trans e1⟩
    · by_cases hj:j=i
      · subst hj
        rw [hi] at e1; cases e1
        rw [List.getElem?_set_self hiσ] at e2
        cases e2
        exact ⟨u,r,.inr ⟨.inl hk,c,hc,hc'⟩⟩
      · rw [List.getElem?_set_ne (Ne.symm hj)] at e2
        obtain ⟨u',r',q⟩:=hl j y v' e1 e2 e3
        refine ⟨u',r',?_⟩
        rcases q with q | ⟨k,c',e,z'⟩
        · exact .inl q
        · refine .inr ⟨k,c',e,z'.sameBut hs ?_⟩
          rintro rfl
          exact hj (nodup_ix hN e1 (I.ok.inj _ _ _ e hc▸hi))
    · by_cases hcc:c'=c
      · subst hcc; exact ⟨_,hc'⟩
      · obtain ⟨w2,z2⟩:=I.cell y c' e
        exact ⟨w2,z2.sameBut hs hcc⟩
    · obtain ⟨e,n,ne,nf,d⟩:=I.pin p hp
      refine ⟨(hs.2 p.1 ?_).trans e,n,ne,nf,d⟩
      intro q
      rw [q,hoc] at e
      have q':oc=p.2:=Option.some.inj e
      exact d w' (by rw [← q']; exact hocd)
theorem store_ok {M:Model} {A:Around} {E:Value→Shared→Prop} {i:Nat} {x:Str} {v:V} {u:Value} {Q:Unit→Shared→Prop} (I:Inv X pins σ H s) (hN:X.N.Nodup) (hi:X.N[i]? = some x) (hx:Loc X.env.scope x) (r:RelV v u)
    (h:∀ s',Inv X pins (σ.set i (some v)) H s'→Q () s') (hf:X.fn x=true∨X.env.scope.names.lookup x=some .local:=by first | exact .inl rfl | exact .inr rfl | assumption):wpAny M A (storeName X.env x u) Q E s :=
  store_ok2 I hN hi hx r (fun s' I' _=>h s' I') hf
theorem Inv.call' {s':Shared} {ch:List Addr} (I:Inv X pins σ H s) (ho:s'.os=s.os) (u:Un (frs X.stack) ch H H' s.heap s'.heap) (hok:HOk X.prog X.w H' s'.heap) (hg:AllBare s'.gens)
    (hch:∀ b∈ch,(b∈X.ex∨X.s₀.heap.objs.size≤b)∧b≠X.env.locals∧(∀ x c,X.env.cells.lookup x=some c→c≠b)∧∀ p∈X.pn++pins,p.1≠b):Inv X pins σ H' s':=by
  obtain ⟨h',g',d',t',o'⟩:=s'
  have e:o'=s.os:=ho
  subst e
  exact I.call (g':=g') (t':=t') (d':=d') u hok hg hch
end
noncomputable abbrev XK:=Value→Option Addr→Hp→Prop
noncomputable abbrev St:=List (Option V)
noncomputable abbrev VK:=V→Hp→Prop
noncomputable abbrev TE:=St→Hp→VK→Prop
noncomputable abbrev TT:=St→Hp→(Bool→Hp→Prop)→Prop
noncomputable abbrev TA:=St→Hp→(List V→Hp→Prop)→Prop
structure Ends where
  nx:St→Hp→Prop
  rt:VK
  bk:St→Hp→Prop:=fun _ _=>False
  ct:St→Hp→Prop:=fun _ _=>False
noncomputable abbrev TS:=Ends→St→Hp→Prop
noncomputable def EP (X:Cx) (pins:List (Addr × Obj)) (σ:St) (Q:VK) (u:Value) (s':Shared):Prop:=∃ v H',Inv X pins σ H' s'∧RelV v u∧Q v H'
noncomputable def TP (X:Cx) (pins:List (Addr × Obj)) (σ:St) (Q:Bool→Hp→Prop) (b:Bool) (s':Shared):Prop:=∃ H',Inv X pins σ H' s'∧Q b H'
noncomputable def AP (X:Cx) (pins:List (Addr × Obj)) (σ:St) (Q:List V→Hp→Prop) (us:List Value) (s':Shared):Prop:=∃ vs H',Inv X pins σ H' s'∧Vals vs us∧Q vs H'
noncomputable def SP (X:Cx) (pins:List (Addr × Obj)) (D:Ends) (f:Flow) (s':Shared):Prop :=
  match f with
  | .next=>∃ σ' H',Inv X pins σ' H' s'∧D.nx σ' H'
  | .brk=>∃ σ' H',Inv X pins σ' H' s'∧D.bk σ' H'
  | .cont=>∃ σ' H',Inv X pins σ' H' s'∧D.ct σ' H'
  | .ret u=>∃ v σ' H',Inv X pins σ' H' s'∧RelV v u∧D.rt v H'
noncomputable def PE (X:Cx) (e:Expr) (t:TE):Prop :=
  ∀ (pins:List (Addr × Obj)) (s:Shared) (σ:St) (H:Hp) (Q:VK),Inv X pins σ H s→t σ H Q→wpAny (model X.prog X.w) X.A (eval e X.env) (EP X pins σ Q) X.xe s
noncomputable def PT (X:Cx) (e:Expr) (t:TT):Prop :=
  ∀ (pins:List (Addr × Obj)) (s:Shared) (σ:St) (H:Hp) (Q:Bool→Hp→Prop),Inv X pins σ H s→t σ H Q→wpAny (model X.prog X.w) X.A (isTrue e X.env (eval e X.env)) (TP X pins σ Q) X.xe s
noncomputable def PW (X:Cx) (e:Expr) (t:TT):Prop :=
  ∀ (whole:Sem Value) (pins:List (Addr × Obj)) (s:Shared) (σ:St) (H:Hp) (Q:Bool→Hp→Prop),Inv X pins σ H s→t σ H Q→wpAny (model X.prog X.w) X.A (isTrue e X.env whole) (TP X pins σ Q) X.xe s
theorem PW.pt {X:Cx} {e:Expr} {t:TT} (h:PW X e t):PT X e t:=h _
noncomputable def PA (X:Cx) (es:List Expr) (t:TA):Prop :=
  ∀ (pos:Pos) (pins:List (Addr × Obj)) (s:Shared) (σ:St) (H:Hp) (Q:List V→Hp→Prop),Inv X pins σ H s→t σ H Q→wpAny (model X.prog X.w) X.A (spliced (backTo pos (starEach es X.env))) (AP X pins σ Q) X.xe s
noncomputable def PS (X:Cx) (st:Stmt) (t:TS):Prop :=
  ∀ (pins:List (Addr × Obj)) (s:Shared) (σ:St) (H:Hp) (D:Ends),Inv X pins σ H s→t D σ H→wpAny (model X.prog X.w) X.A (exec st X.env) (SP X pins D) X.xe s
noncomputable def PSs (X:Cx) (st:List Stmt) (t:TS):Prop :=
  ∀ (pins:List (Addr × Obj)) (s:Shared) (σ:St) (H:Hp) (D:Ends),Inv X pins σ H s→t D σ H→wpAny (model X.prog X.w) X.A (execs st X.env) (SP X pins D) X.xe s
theorem thn {α:Type} {t:Sem α} {Q Q':α→Shared→Prop} {M:Model} {A:Around} {E:Value→Shared→Prop} {s:Shared} (h:wpAny M A t Q E s) (hQ:∀ a s,Q a s→Q' a s):wpAny M A t Q' E s:=wpAny_mono h hQ fun _ _ x=>x
end L2
namespace L2
open PySem PySem.Spec PyProof.Rows
section
variable {X:Cx}
theorem bin {a b:Expr} {ta tb:TE} (ha:PE X a ta) (hb:PE X b tb) {pins:List (Addr × Obj)} {s:Shared} {σ:St} {H:Hp} {R:V→V→Hp→Prop} (I:Inv X pins σ H s) (h:ta σ H fun x H1=>tb σ H1 fun y H2=>R x y H2)
    {α:Type} {Q:α→Shared→Prop} {f:Value→Value→Sem α}
    (hf:∀ v u s2 x y H2,Inv X pins σ H2 s2→RelV x v→RelV y u→R x y H2→wpAny (model X.prog X.w) X.A (f v u) Q X.xe s2) :
    wpAny (model X.prog X.w) X.A (eval a X.env) (fun v s₁=>wpAny (model X.prog X.w) X.A (eval b X.env) (fun u s₂=>wpAny (model X.prog X.w) X.A (f v u) Q X.xe s₂) X.xe s₁) X.xe s:=by
  refine thn (ha pins s σ H _ I h) fun v s1 ⟨x,H1,I1,r1,q1⟩=>?_
  refine thn (hb pins s1 σ H1 _ I1 q1) fun u s2 ⟨y,H2,I2,r2,q2⟩=>?_
  exact hf v u s2 x y H2 I2 r1 r2 q2
noncomputable def tVar (i:Nat):TE:=fun σ H Q=>∃ v,σ[i]? = some (some v)∧Q v H
noncomputable def tC (v:V):TE:=fun _ H Q=>Q v H
theorem pe_var {i:Nat} {x:Str} {pos:Pos} (hN:X.N[i]? = some x) (hv:Vis X.env.scope x) (hd:(x == ("__debug__" : Str))=false:=by decide) (hcd:(x == ("__classdict__" : Str))=false:=by decide):PE X (.Name x pos) (tVar i):=by
  intro pins s σ H Q I h
  obtain ⟨v,e,h⟩:=h
  obtain ⟨m,hn,hl⟩:=I.loc
  obtain ⟨u,r,l⟩:=hl i x v hN e hv
  have fin:EP X pins σ Q u s:=⟨v,H,I,r,h⟩
  rcases l with ⟨hk,hm⟩ | ⟨hk,c,hc,hcell⟩
  · exact wpAny_Name (wpAny_loadName_local I.ok.kind hk hn hm fin) hd
  · rcases hk with hk | hk
    · exact wpAny_Name (wpAny_loadName_cell I.ok.kind hk hc hcell fin) hd
    · exact wpAny_Name (wpAny_loadName_free I.ok.kind hk hc hcell fin hcd) hd
theorem pe_int {i j pos}:PE X (.Constant (.int i) j pos) (tC (.int i)):=fun _ _ _ H _ I h=>wpAny_Constant_int ⟨.int i,H,I.tok _,⟨_,rfl⟩,h⟩
theorem pe_bl {b j pos}:PE X (.Constant (.bool b) j pos) (tC (.bl b)):=fun _ _ _ H _ I h=>Constant_bool ⟨.bl b,H,I,rfl,h⟩
theorem pe_str {x j pos}:PE X (.Constant (.str x) j pos) (tC (.str x)):=fun _ _ _ H _ I h=>Calls.Constant_str ⟨.str x,H,I.tok _,⟨_,rfl⟩,h⟩
noncomputable def Gl (X:Cx) (x:Str):Prop:=X.env.kindOf x=some .globalImplicit
theorem ld_glob {E:Value→Shared→Prop} {pins:List (Addr × Obj)} {s:Shared} {σ:St} {H:Hp} {x:Str} {u:Value} {pos:Pos} {Q:Value→Shared→Prop} (I:Inv X pins σ H s) (hg:Gl X x) (hm:X.mg x=some u) (h:Q u s)
    (hd:(x == ("__debug__" : Str))=false:=by decide):wpAny (model X.prog X.w) X.A (eval (.Name x pos) X.env) Q E s :=
  Calls.Name_function_global I.ok.kind hg (Calls.loadGlobal_global (by rw [I.ok.glob]; exact I.mod.glob.keeps I.bk) hm h) hd
theorem ld_blt {E:Value→Shared→Prop} {pins:List (Addr × Obj)} {s:Shared} {σ:St} {H:Hp} {x:Str} {u:Value} {pos:Pos} {Q:Value→Shared→Prop} (I:Inv X pins σ H s) (hg:Gl X x) (hm:X.mg x=none) (hv:bootBuiltins x=some u) (h:Q u s)
    (hn:x≠"__name__":=by decide) (hd:(x == ("__debug__" : Str))=false:=by decide):wpAny (model X.prog X.w) X.A (eval (.Name x pos) X.env) Q E s:=by
  obtain ⟨mb,h1,h2⟩:=I.mod.blt
  exact Calls.Name_function_global I.ok.kind hg (Calls.loadGlobal_builtin (by rw [I.ok.glob]; exact I.mod.glob.keeps I.bk) hm (by rw [I.ok.blt]; exact h1.keeps I.bk) ((h2 x hn).trans hv) h) hd
theorem pe_glob {x:Str} {v:V} {u:Value} {pos:Pos} (hg:Gl X x) (hm:X.mg x=some u) (r:RelV v u) (hd:(x == ("__debug__" : Str))=false:=by decide):PE X (.Name x pos) (tC v) :=
  fun _ _ _ H _ I h=>ld_glob I hg hm ⟨v,H,I,r,h⟩ hd
theorem pe_bltn {x:Str} {v:V} {u:Value} {pos:Pos} (hg:Gl X x) (hm:X.mg x=none) (hv:bootBuiltins x=some u) (r:RelV v u) (hn:x≠"__name__":=by decide) (hd:(x == ("__debug__" : Str))=false:=by decide):PE X (.Name x pos) (tC v) :=
  fun _ _ _ H _ I h=>ld_blt I hg hm hv ⟨v,H,I,r,h⟩ hn hd
variable {a b:Expr} {ta tb:TE} {pos:Pos}
noncomputable def PC (X:Cx) (op:CmpOp) (a b:Expr) (t:TE):Prop :=
  ∀ (pins:List (Addr × Obj)) (s:Shared) (σ:St) (H:Hp) (Q:VK),Inv X pins σ H s→t σ H Q →
    wpAny (model X.prog X.w) X.A (eval a X.env) (fun v s₁=>wpAny (model X.prog X.w) X.A (eval b X.env) (fun u s₂=>wpAny (model X.prog X.w) X.A (compareOp op v u) (EP X pins σ Q) X.xe s₂) X.xe s₁) X.xe s
theorem nobehind (b:Expr) {op:CmpOp} (h:op≠.In) (h2:op≠.NotIn):behindInMarks op b=false:=by
  have e1:(op == CmpOp.In)=false:=by cases op<;>first | rfl | exact absurd rfl h
  have e2:(op == CmpOp.NotIn)=false:=by cases op<;>first | rfl | exact absurd rfl h2
  cases b<;>simp [behindInMarks,e1,e2]
noncomputable def tB (t:TE):TT:=fun σ H Q=>t σ H fun x H1=>∃ c,x = .bl c∧Q c H1
theorem pt_cmp {op:CmpOp} {t:TE} (h:PC X op a b t) (h1:behindInMarks op b=false:=by first | exact nobehind _ (by decide) (by decide) | rfl):PT X (.Compare a [op] [b] pos) (tB t):=by
  intro pins s σ H Q I hw
  refine wpAny_isTrue_Compare1 (thn (h pins s σ H _ I hw) fun v s1 h1=>thn h1 fun u s2 h2=>thn h2 fun c s3 ⟨x,H1,I1,r1,q1⟩=>?_) h1
  obtain ⟨d,rfl,q⟩:=q1
  cases r1
  exact wpAny_truthy_bool ⟨H1,I1,q⟩
theorem pt_val {e:Expr} {t:TE} (h:PE X e t) (he:∀ whole,isTrue e X.env whole=(do let v ← whole; standAt e.pos; holding [v] (truthy v)):=by intro _; rfl):PT X e (tB t):=by
  intro pins s σ H Q I hw
  refine isTrue_plain (thn (h pins s σ H _ I hw) fun v s1 ⟨x,H1,I1,r1,q1⟩=>?_) (he _)
  obtain ⟨d,rfl,q⟩:=q1
  cases r1
  exact wpAny_truthy_bool ⟨H1,I1,q⟩
variable {tA tB':TT} {rest:List Expr}
noncomputable def tAnd (t u:TT):TT:=fun σ H Q=>t σ H fun c H1=>if c=true then u σ H1 Q else Q false H1
noncomputable def tOr (t u:TT):TT:=fun σ H Q=>t σ H fun c H1=>if c=true then Q true H1 else u σ H1 Q
noncomputable def tNot (t:TT):TT:=fun σ H Q=>t σ H fun c H1=>Q (!c) H1
theorem pw_and1 (ha:PT X a tA):PW X (.BoolOp .And [a] pos) tA:=by
  intro wh pins s σ H Q I h
  refine isTrue_and (thn (ha pins s σ H Q I h) fun c s1 e=>?_)
  cases c with
  | true=>exact isTrue_and_nil e
  | false=>exact e
theorem pw_or1 (ha:PT X a tA):PW X (.BoolOp .Or [a] pos) tA:=by
  intro wh pins s σ H Q I h
  refine isTrue_or (thn (ha pins s σ H Q I h) fun c s1 e=>?_)
  cases c with
  | false=>exact isTrue_or_nil e
  | true=>exact e
theorem pw_and (ha:PT X a tA) (hb:PW X (.BoolOp .And (b::rest) pos) tB'):PW X (.BoolOp .And (a::b::rest) pos) (tAnd tA tB'):=by
  intro wh pins s σ H Q I h
  refine isTrue_and (thn (ha pins s σ H _ I h) fun c s1 ⟨H1,I1,q1⟩=>?_)
  cases c with
  | true=>exact hb wh pins s1 σ H1 Q I1 q1
  | false=>exact ⟨H1,I1,q1⟩
theorem pw_or (ha:PT X a tA) (hb:PW X (.BoolOp .Or (b::rest) pos) tB'):PW X (.BoolOp .Or (a::b::rest) pos) (tOr tA tB'):=by
  intro wh pins s σ H Q I h
  refine isTrue_or (thn (ha pins s σ H _ I h) fun c s1 ⟨H1,I1,q1⟩=>?_)
  cases c with
  | true=>exact ⟨H1,I1,q1⟩
  | false=>exact hb wh pins s1 σ H1 Q I1 q1
theorem pt_not (ha:PT X a tA):PT X (.UnaryOp .Not a pos) (tNot tA):=by
  intro pins s σ H Q I h
  exact isTrue_not (ha pins s σ H (fun c H1=>Q (!c) H1) I h)
noncomputable def tAndV (ta tb:TE):TE:=fun σ H Q=>ta σ H fun x H1=>∃ c,x = .bl c∧if c=true then tb σ H1 Q else Q (.bl false) H1
theorem pe_one {op} {t:TE} (h:PE X a t):PE X (.BoolOp op [a] pos) t:=fun pins s σ H Q I hw=>BoolOp_one (h pins s σ H Q I hw)
theorem pe_and (ha:PE X a ta) (hb:PE X (.BoolOp .And (b::rest) pos) tb):PE X (.BoolOp .And (a::b::rest) pos) (tAndV ta tb):=by
  intro pins s σ H Q I h
  refine BoolOp_and (thn (ha pins s σ H _ I h) fun v s1 ⟨x,H1,I1,r1,q1⟩=>?_)
  obtain ⟨c,rfl,q1⟩:=q1
  cases r1
  refine wpAny_truthy_bool ?_
  cases c with
  | true=>exact hb pins s1 σ H1 Q I1 q1
  | false=>exact ⟨.bl false,H1,I1,rfl,q1⟩
noncomputable def tIf (t:TT) (ta tb:TE):TE:=fun σ H Q=>t σ H fun c H1=>if c=true then ta σ H1 Q else tb σ H1 Q
theorem pe_ifExp {c:Expr} (hc:PT X c tA) (ha:PE X a ta) (hb:PE X b tb):PE X (.IfExp c a b pos) (tIf tA ta tb):=by
  intro pins s σ H Q I h
  refine wpAny_IfExp (thn (hc pins s σ H _ I h) fun d s1 ⟨H1,I1,q1⟩=>?_)
  cases d with
  | true=>exact ha pins s1 σ H1 Q I1 q1
  | false=>exact hb pins s1 σ H1 Q I1 q1
end
end L2
namespace L2
open PySem PySem.Spec PyProof.Rows
noncomputable def SqL (K:PySem.W.Frag) (H:Hp) (a:Addr) (xs:List V):Prop :=
  Rd H a (.lst xs) ∨
    ∃ (o:Obj) (its:Array Value) (n:Nat),K.lookup a=some o∧o.cls = .type "list"∧o.dict=none∧o.data = .seq its n∧its.size≤sizeLine∧Vals xs its.toList
noncomputable def SqT (K:PySem.W.Frag) (H:Hp) (a:Addr) (xs:List V):Prop :=
  Rd H a (.tup xs) ∨
    ∃ (o:Obj) (its:Array Value) (n:Nat),K.lookup a=some o∧o.cls = .type "tuple"∧o.data = .seq its n∧its.size≤sizeLine∧Vals xs its.toList
noncomputable def absV:Value→Option V
  | .none=>some .non
  | .bool b=>some (.bl b)
  | .int i _=>some (.int i)
  | .str x _=>some (.str x)
  | .bytes b _=>some (.byt b)
  | .float b _=>some (.flt b)
  | .ref a=>some (.ref a)
  | .type n=>some (.ty n)
  | _=>none
theorem RelV.abs {x:V} {u:Value} (r:RelV x u):absV u=some x:=by
  cases x with
  | non=>cases r; rfl
  | bl _=>cases r; rfl
  | int _=>obtain ⟨t,rfl⟩:=r; rfl
  | str _=>obtain ⟨t,rfl⟩:=r; rfl
  | byt _=>obtain ⟨t,rfl⟩:=r; rfl
  | flt _=>obtain ⟨t,rfl⟩:=r; rfl
  | ref _=>cases r; rfl
  | ty _=>cases r; rfl
theorem RelV.inj {x y:V} {u:Value} (r:RelV x u) (q:RelV y u):x=y:=Option.some.inj (r.abs.symm.trans q.abs)
theorem Vals.inj:∀ {xs ys:List V} {us:List Value},Vals xs us→Vals ys us→xs=ys
  | _,_,_,.nil,.nil=>rfl
  | _,_,_,.cons r t,.cons r' t'=>by rw [r.inj r',Vals.inj t t']
section
variable {X:Cx} {pins:List (Addr × Obj)} {σ:St} {H:Hp} {s:Shared} {a:Addr} {xs ys:List V}
theorem SqL.of {K:PySem.W.Frag} (h:H a=some (.lst xs)):SqL K H a xs:=.inl (.inl h)
theorem SqT.of {K:PySem.W.Frag} (h:H a=some (.tup xs)):SqT K H a xs:=.inl (.inl h)
theorem Inv.list (I:Inv X pins σ H s) (h:SqL X.K H a xs):∃ its:List Value,Vals xs its∧PlainL s.heap a its.toArray∧xs.length≤sizeLine:=by
  rcases h with h | ⟨o,its,n,hk,hc,hd,hs,hz,r⟩
  · obtain ⟨z,its,n,r,e⟩:=h.ok I.hok
    exact ⟨its,r,⟨_,n,e,rfl,rfl,rfl⟩,z⟩
  · refine ⟨its.toList,r,⟨o,n,I.kIn a o hk,hc,hd,by simpa using hs⟩,?_⟩
    have e:=r.length
    simp only [Array.length_toList] at e
    omega
theorem Inv.tuple (I:Inv X pins σ H s) (h:SqT X.K H a xs):∃ its:List Value,Vals xs its∧IsTup s.heap a its.toArray∧xs.length≤sizeLine:=by
  rcases h with h | ⟨o,its,n,hk,hc,hs,hz,r⟩
  · obtain ⟨z,its,r,p⟩:=h.ok I.hok
    exact ⟨its,r,p,z⟩
  · refine ⟨its.toList,r,⟨o,I.kIn a o hk,hc,n,by simpa using hs⟩,?_⟩
    have e:=r.length
    simp only [Array.length_toList] at e
    omega
theorem Inv.list_inj (I:Inv X pins σ H s) (h:SqL X.K H a xs) (h':SqL X.K H a ys):xs=ys:=by
  obtain ⟨its,r,⟨o,n,e,_,_,d⟩,_⟩:=I.list h
  obtain ⟨its',r',⟨o',n',e',_,_,d'⟩,_⟩:=I.list h'
  rw [e] at e'; cases e'
  rw [d] at d'
  injection d' with d1 _
  have:its=its':=by simpa using congrArg Array.toList d1
  subst this
  exact r.inj r'
end
noncomputable abbrev Cx.wish (X:Cx) (E:Value→Shared→Prop):Cx:={ X with xe:=E }
noncomputable abbrev Cx.nox (X:Cx):Cx:=X.wish fun _ _=>False
theorem Cx.Ok.wish {X:Cx} (ok:X.Ok) (E:Value→Shared→Prop):(X.wish E).Ok :=
  ⟨ok.mod,ok.kind,ok.glob,ok.blt,ok.above,ok.inj,ok.has,ok.cab,ok.hd,ok.frames,ok.stk,ok.exf,ok.bs,ok.bsz,ok.noex,ok.exfs,ok.funs,ok.frf⟩
theorem Cx.Ok.unwish {X:Cx} {E:Value→Shared→Prop} (ok:(X.wish E).Ok):X.Ok :=
  ⟨ok.mod,ok.kind,ok.glob,ok.blt,ok.above,ok.inj,ok.has,ok.cab,ok.hd,ok.frames,ok.stk,ok.exf,ok.bs,ok.bsz,ok.noex,ok.exfs,ok.funs,ok.frf⟩
section
variable {X:Cx} {pins:List (Addr × Obj)} {σ:St} {H:Hp} {s:Shared} {E:Value→Shared→Prop}
theorem Inv.wish (I:Inv X pins σ H s) (E:Value→Shared→Prop):Inv (X.wish E) pins σ H s:=⟨I.ok.wish E,I.os,I.bare,I.base,I.loc,I.cell,I.free,I.freeC,I.pin,I.hok,I.len⟩
theorem Inv.unwish (I:Inv (X.wish E) pins σ H s):Inv X pins σ H s:=⟨I.ok.unwish,I.os,I.bare,I.base,I.loc,I.cell,I.free,I.freeC,I.pin,I.hok,I.len⟩
theorem SP.unwish {D:Ends} {f:Flow} {s':Shared} (h:SP (X.wish E) pins D f s'):SP X pins D f s':=by
  cases f with
  | next=>obtain ⟨σ',H',I,q⟩:=h; exact ⟨σ',H',I.unwish,q⟩
  | brk=>obtain ⟨σ',H',I,q⟩:=h; exact ⟨σ',H',I.unwish,q⟩
  | cont=>obtain ⟨σ',H',I,q⟩:=h; exact ⟨σ',H',I.unwish,q⟩
  | ret u=>obtain ⟨v,σ',H',I,r,q⟩:=h; exact ⟨v,σ',H',I.unwish,r,q⟩
theorem PSs.nox {st:List Stmt} {t:TS} (h:PSs X.nox st t):PSs X st t:=fun pins s σ H D I hw =>
  wpAny_mono (h pins s σ H D (I.wish _) hw) (fun _ _ q=>q.unwish) fun _ _ z=>False.elim z
end
section
variable {X:Cx} {st:Stmt} {rest:List Stmt} {t u:TS} {e:Expr} {te:TE} {pos:Pos}
noncomputable def tNext:TS:=fun D σ H=>D.nx σ H
noncomputable def tSeq (t u:TS):TS:=fun D σ H=>t { D with nx:=u D } σ H
theorem pss_nil:PSs X [] tNext:=fun _ _ σ H _ I h=>wpAny_execs_nil ⟨σ,H,I,h⟩
theorem pss_cons (h1:PS X st t) (h2:PSs X rest u):PSs X (st::rest) (tSeq t u):=by
  intro pins s σ H D I h
  refine wpAny_execs_cons (thn (h1 pins s σ H { D with nx:=u D } I h) fun f s1 q=>?_)
  cases f with
  | next =>
    obtain ⟨σ',H',I',q⟩:=q
    exact h2 pins s1 σ' H' D I' q
  | ret v=>exact q
  | brk=>exact q
  | cont=>exact q
theorem pss_one (h1:PS X st t):PSs X [st] t:=by
  intro pins s σ H D I h
  refine wpAny_execs_cons (thn (h1 pins s σ H D I h) fun f s1 q=>?_)
  cases f with
  | next=>exact wpAny_execs_nil q
  | ret v=>exact q
  | brk=>exact q
  | cont=>exact q
theorem Inv.quiet {pins:List (Addr × Obj)} {σ:St} {H:Hp} {s:Shared} (I:Inv X pins σ H s):interactive X.env=false:=by simp [interactive,I.ok.kind]
noncomputable def tDrop (te:TE):TS:=fun D σ H=>te σ H fun _ H1=>D.nx σ H1
theorem ps_expr (he:PE X e te) (hs:swapsWith e none pos.line X.env=pure false:=by rfl):PS X (.Expr e pos) (tDrop te):=by
  intro pins s σ H D I h
  exact wpAny_Expr_any (thn (he pins s σ H _ I h) fun v s1 ⟨x,H1,I1,r1,q1⟩=>⟨σ,H1,I1,q1⟩) I.quiet hs
noncomputable def tRet (te:TE):TS:=fun D σ H=>te σ H D.rt
theorem ps_ret (he:PE X e te):PS X (.Return (some e) pos) (tRet te):=by
  intro pins s σ H D I h
  exact wpAny_Return_some (thn (he pins s σ H _ I h) fun v s1 ⟨x,H1,I1,r1,q1⟩=>⟨x,σ,H1,I1,r1,q1⟩)
noncomputable def tIfS (c:TT) (t u:TS):TS:=fun D σ H=>c σ H fun b H1=>if b=true then t D σ H1 else u D σ H1
theorem ps_if {c:Expr} {a b:List Stmt} {tc:TT} (hc:PT X c tc) (ha:PSs X a t) (hb:PSs X b u):PS X (.If c a b pos) (tIfS tc t u):=by
  intro pins s σ H D I h
  refine wpAny_If (thn (hc pins s σ H _ I h) fun d s1 ⟨H1,I1,q1⟩=>?_)
  cases d with
  | true=>exact ha pins s1 σ H1 D I1 q1
  | false=>exact hb pins s1 σ H1 D I1 q1
noncomputable def tNever:TS:=fun _ _ _=>False
theorem ps_never:PS X st tNever:=fun _ _ _ _ _ _ h=>h.elim
theorem pss_never {sts:List Stmt}:PSs X sts tNever:=fun _ _ _ _ _ _ h=>h.elim
end
noncomputable abbrev TG:=V→St→Hp→(St→Hp→Prop)→Prop
noncomputable abbrev TGs:=List V→St→Hp→(St→Hp→Prop)→Prop
noncomputable def PG (X:Cx) (target:Expr) (t:TG):Prop :=
  ∀ (pins:List (Addr × Obj)) (s:Shared) (σ:St) (H:Hp) (v:V) (u:Value) (Q:St→Hp→Prop),Inv X pins σ H s→RelV v u→t v σ H Q →
    wpAny (model X.prog X.w) X.A (assign target X.env u) (fun _ s'=>∃ σ' H',Inv X pins σ' H' s'∧Q σ' H') X.xe s
noncomputable def PGs (X:Cx) (ts:List Expr) (t:TGs):Prop :=
  ∀ (pins:List (Addr × Obj)) (s:Shared) (σ:St) (H:Hp) (vs:List V) (us:List Value) (Q:St→Hp→Prop),Inv X pins σ H s→Vals vs us→t vs σ H Q →
    wpAny (model X.prog X.w) X.A (assignInOrder ((assignEach ts X.env).map (·.2)) us) (fun _ s'=>∃ σ' H',Inv X pins σ' H' s'∧Q σ' H') X.xe s
noncomputable abbrev TSet:=V→V→V→Hp→(Hp→Prop)→Prop
noncomputable def PSet (X:Cx) (t:TSet):Prop :=
  ∀ (pins:List (Addr × Obj)) (s:Shared) (σ:St) (H:Hp) (o i v:V) (ov iv u:Value) (Q:Hp→Prop),Inv X pins σ H s→RelV o ov→RelV i iv→RelV v u→t o i v H Q →
    wpAny (model X.prog X.w) X.A (setItem ov iv u) (fun _ s'=>∃ H',Inv X pins σ H' s'∧Q H') X.xe s
section
variable {X:Cx} {pos:Pos}
noncomputable def gName (i:Nat):TG:=fun v σ H Q=>Q (σ.set i (some v)) H
theorem pg_name {i:Nat} {x:Str} (hN:X.N.Nodup) (hi:X.N[i]? = some x) (hx:Loc X.env.scope x) (hf:X.fn x=true∨X.env.scope.names.lookup x=some .local:=by first | exact .inl rfl | exact .inr rfl | assumption):PG X (.Name x pos) (gName i):=by
  intro pins s σ H v u Q I r h
  exact wpAny_assign_Name (store_ok I hN hi hx r (fun s' I'=>⟨_,H,I',h⟩) hf)
noncomputable def gNil:TGs:=fun vs σ H Q=>vs=[]∧Q σ H
noncomputable def gCons (t:TG) (u:TGs):TGs:=fun vs σ H Q=>∃ v r,vs=v::r∧t v σ H fun σ' H'=>u r σ' H' Q
theorem pgs_nil:PGs X [] gNil:=by
  intro pins s σ H vs us Q I r h
  obtain ⟨e,h⟩:=h
  subst e
  cases r
  exact assignInOrder_nil ⟨σ,H,I,h⟩
theorem pgs_cons {e:Expr} {es:List Expr} {t:TG} {u:TGs} (h1:PG X e t) (h2:PGs X es u)
    (hs:(assignEach (e::es) X.env).map (·.2)=assign e X.env::(assignEach es X.env).map (·.2):=by rfl):PGs X (e::es) (gCons t u):=by
  intro pins s σ H vs us Q I r h
  obtain ⟨v,vr,e1,h⟩:=h
  subst e1
  cases r with
  | cons r rr =>
    rw [hs]
    refine assignInOrder_cons (thn (h1 pins s σ H _ _ _ I r h) fun _ s1 ⟨σ1,H1,I1,q1⟩=>?_)
    exact h2 pins s1 σ1 H1 _ _ Q I1 rr q1
noncomputable def gTup (K:PySem.W.Frag) (n:Nat) (t:TGs):TG:=fun v σ H Q=>∃ a xs,v = .ref a∧SqT K H a xs∧xs.length=n∧t xs σ H Q
theorem pg_tup {es:List Expr} {k:Nat} {t:TGs} {n:Nat} (hc:X.calm=true) (h:PGs X es t)
    (hn:(assignEach es X.env).length=n:=by rfl) (hst:(assignEach es X.env).findIdx? (·.1)=none:=by rfl):PG X (.Tuple es k pos) (gTup X.K n t):=by
  intro pins s σ H v u Q I r hw
  obtain ⟨a,xs,e1,hq,hl,hw⟩:=hw
  subst e1
  cases r
  obtain ⟨its,rv,ht,hz⟩:=I.tuple hq
  refine assign_Tuple_tuple (I.ok.hd hc) ht (by simp [hn,← hl,rv.length]) hst fun h' hx=>?_
  have I1:Inv X pins σ H { s with heap:=h' }:=I.kept (t':=s.toks) fun b o e=>hx b o (Nat.ne_of_lt (Heap.lt_size e)) e
  exact h pins _ σ H xs _ Q I1 (by simpa using rv) hw
noncomputable def gSub (to ti:TE) (t:TSet):TG:=fun v σ H Q=>to σ H fun o H1=>ti σ H1 fun i H2=>t o i v H2 fun H3=>Q σ H3
theorem pg_sub {o i:Expr} {to ti:TE} {t:TSet} (ho:PE X o to) (hi:PE X i ti) (hs:PSet X t)
    (ha:∀ v,assign (.Subscript o i pos) X.env v=(do
      let ov ← holding [v] (eval o X.env)
      let iv ← holding [v,ov] (eval i X.env)
      standAt pos
      holding [v,ov,iv] (setItem ov iv v)
      release [v,ov,iv] []):=by intro _; rfl):PG X (.Subscript o i pos) (gSub to ti t):=by
  intro pins s σ H v u Q I r h
  rw [ha]
  refine wpAny_bind (wpAny_holding (thn (ho pins s σ H _ I h) fun ov s1 ⟨x,H1,I1,r1,q1⟩=>?_))
  refine wpAny_bind (wpAny_holding (thn (hi pins s1 σ H1 _ I1 q1) fun iv s2 ⟨y,H2,I2,r2,q2⟩=>?_))
  refine wpAny_bind (wpAny_standAt (wpAny_bind (wpAny_holding (thn (hs pins s2 σ H2 x y v ov iv u _ I2 r1 r2 r q2) fun _ s3 ⟨H3,I3,q3⟩=>?_))))
  exact wpAny_release ⟨σ,H3,I3,q3⟩
noncomputable def tAsg (te:TE) (g:TG):TS:=fun D σ H=>te σ H fun x H1=>g x σ H1 D.nx
theorem ps_asg {tg e:Expr} {te:TE} {g:TG} (he:PE X e te) (hg:PG X tg g) (hs:swapsWithSole [tg] e pos.line X.env=pure false:=by rfl) (hw:swappedStores [tg] e X.env=pure none:=by rfl)
    (h1:(assignEach [tg] X.env).map (·.2)=[assign tg X.env]:=by rfl):PS X (.Assign [tg] e pos) (tAsg te g):=by
  intro pins s σ H D I h
  refine wpAny_Assign_stores (thn (he pins s σ H _ I h) fun v s1 ⟨x,H1,I1,r1,q1⟩=>?_) hs hw
  rw [h1]
  exact thn (hg pins s1 σ H1 x v _ I1 r1 q1) fun _ s2 q=>q
theorem ps_set {i:Nat} {x:Str} {e:Expr} {te:TE} {pos':Pos} (hN:X.N.Nodup) (hi:X.N[i]? = some x) (hx:Loc X.env.scope x) (he:PE X e te) (hs:swapsWith e (some (.Name x pos')) pos.line X.env=pure false:=by rfl) (hf:X.fn x=true∨X.env.scope.names.lookup x=some .local:=by first | exact .inl rfl | exact .inr rfl | assumption) :
    PS X (.Assign [.Name x pos'] e pos) (tAsg te (gName i)):=by
  intro pins s σ H D I h
  refine wpAny_Assign_Name (thn (he pins s σ H _ I h) fun v s1 ⟨y,H1,I1,r1,q1⟩=>?_) hs
  exact store_ok I1 hN hi hx r1 (fun s2 I2=>⟨_,H1,I2,q1⟩) hf
end
section
variable {X:Cx} {pos:Pos}
noncomputable def tWhile (c:TT) (tb:TS):TS:=fun D σ H=>∃ W:Nat→St→Hp→Prop,(∃ m,W m σ H)∧∀ m σ H,W m σ H →
  c σ H fun b H1=>if b=true then ∃ N:St→Hp→Prop,(∀ σ' H',N σ' H'→∃ m',m' < m∧W m' σ' H')∧tb { D with nx:=N,ct:=N,bk:=D.nx } σ H1 else D.nx σ H1
theorem ps_while {c:Expr} {body:List Stmt} {tc:TT} {tb:TS} (hp:PassesOwn (model X.prog X.w) X.A X.env X.xe) (hc:PT X c tc) (hb:PSs X body tb):PS X (.While c body [] pos) (tWhile tc tb):=by
  intro pins s σ H D I h
  obtain ⟨W,⟨m0,w0⟩,turn⟩:=h
  refine wpAny_While (codeAny_whileLoop (fun n s'=>∃ σ' H',Inv X pins σ' H' s'∧W n σ' H') ?_ m0 ⟨σ,H,I,w0⟩)
  rintro n s1 ⟨σ1,H1,I1,w1⟩
  refine wpAny_passesOwn hp (thn (hc pins s1 σ1 H1 _ I1 (turn n σ1 H1 w1)) fun b s2 ⟨H2,I2,q2⟩=>?_)
  cases b with
  | true =>
    obtain ⟨N,hN,q2⟩:=q2
    rw [if_pos rfl]
    refine wpAny_passesOwn hp (thn (hb pins s2 σ1 H2 _ I2 q2) fun f s3 q3=>?_)
    cases f with
    | next =>
      obtain ⟨σ3,H3,I3,n3⟩:=q3
      obtain ⟨m',hm,w3⟩:=hN σ3 H3 n3
      exact ⟨m',hm,σ3,H3,I3,w3⟩
    | cont =>
      obtain ⟨σ3,H3,I3,n3⟩:=q3
      obtain ⟨m',hm,w3⟩:=hN σ3 H3 n3
      exact ⟨m',hm,σ3,H3,I3,w3⟩
    | brk=>exact q3
    | ret v=>exact q3
  | false =>
    rw [if_neg Bool.false_ne_true]
    exact wpAny_execs_nil ⟨σ1,H2,I2,q2⟩
end
structure It where
  go:Nat→Hp→Prop
  yld:Nat→Hp→V→Hp→Prop
  stop:Nat→Hp→Prop
noncomputable def FpOk (X:Cx) (pins:List (Addr × Obj)) (H:Hp) (b:Addr):Prop :=
  H b=none∧b≠X.env.locals∧b∉X.fs∧(b∈X.ex∨X.s₀.heap.objs.size≤b)∧(∀ x c,X.env.cells.lookup x=some c→c≠b)∧∀ p∈X.pn++pins,p.1≠b
theorem Inv.fpOk {X:Cx} {pins:List (Addr × Obj)} {σ:St} {H H':Hp} {s:Shared} {b:Addr} (I:Inv X pins σ H s) (hb:s.heap.objs.size≤b) (hn:H' b=none):FpOk X pins H' b:=by
  refine ⟨hn,Nat.ne_of_gt (Nat.lt_of_lt_of_le I.lt hb),I.nofs hb,.inr (Nat.le_trans I.sz hb),fun x c e z=>?_,fun p hp z=>?_⟩
  · obtain ⟨v,q⟩:=I.cell x c e
    exact absurd (Nat.lt_of_lt_of_le q.lt (by rw [z]; exact hb)) (Nat.lt_irrefl _)
  · exact absurd (Nat.lt_of_lt_of_le (Heap.lt_size (I.pin p hp).1) (by rw [z]; exact hb)) (Nat.lt_irrefl _)
structure Turn (P:Program) (w:World) (K:PySem.W.Frag) (tg:Expr) (J:It) (fp:List Addr) (it:Addr) (tn:Nat→Heap→Prop):Prop where
  mem:it∈fp
  obj:∀ i h,tn i h→∀ b∈fp,∃ o,h.get? b=some o∧∀ v,o.data≠.cell v
  keep:∀ i h h',tn i h→(∀ b∈fp,∀ o,h.get? b=some o→h'.get? b=some o)→tn i h'
  item:∀ (X:Cx),X.prog=P→X.w=w→X.K=K→X.calm=true→∀ (i:Nat) (pins:List (Addr × Obj)) (s:Shared) (σ:St) (H:Hp) (E:Value→Shared→Prop),Inv X pins σ H s→(∀ b∈fp,FpOk X pins H b)→tn i s.heap→J.go i H →
    wpAny (model P w) X.A (pyNext (.ref it)) (fun r s1=>∃ u,r=some u ∧
      wpAny (model P w) X.A (letOwnedTupleGo tg (.ref it) u) (fun _ s2=>∃ x H',Inv X pins σ H' s2∧RelV x u∧J.yld i H x H'∧tn (i+1) s2.heap∧∀ b∈fp,H' b=none) E s1) E s
  done:∀ (X:Cx),X.prog=P→X.w=w→X.K=K→X.calm=true→∀ (i:Nat) (pins:List (Addr × Obj)) (s:Shared) (σ:St) (H:Hp) (E:Value→Shared→Prop),Inv X pins σ H s→(∀ b∈fp,FpOk X pins H b)→tn i s.heap→J.stop i H →
    wpAny (model P w) X.A (pyNext (.ref it)) (fun r s1=>r=none∧Inv X pins σ H s1) E s
  self:∀ (A:Around) (i:Nat) (s:Shared) (Q:Value→Shared→Prop) (E:Value→Shared→Prop),tn i s.heap→Q (.ref it) s→wpAny (model P w) A (pyIter (.ref it)) Q E s
noncomputable abbrev TI:=St→Hp→(It→Hp→Prop)→Prop
noncomputable def PIE (X:Cx) (pins:List (Addr × Obj)) (σ:St) (tg:Expr) (R:It→Hp→Prop) (itv:Value) (s2:Shared):Prop :=
  ∃ (it:Addr) (fp:List Addr) (tn:Nat→Heap→Prop) (J:It) (H':Hp),itv = .ref it∧Inv X pins σ H' s2∧Turn X.prog X.w X.K tg J fp it tn∧tn 0 s2.heap∧(∀ b∈fp,FpOk X pins H' b)∧R J H'
noncomputable def PI (X:Cx) (tg iter:Expr) (wi:TI):Prop :=
  ∀ (pins:List (Addr × Obj)) (s:Shared) (σ:St) (H:Hp) (R:It→Hp→Prop),Inv X pins σ H s→wi σ H R →
    wpAny (model X.prog X.w) X.A (eval iter X.env) (fun v s1=>wpAny (model X.prog X.w) X.A (pyIter v) (PIE X pins σ tg R) X.xe s1) X.xe s
theorem go_of {M:Model} {A:Around} {E:Value→Shared→Prop} {s:Shared} {tg:Expr} {it:Addr} {u:Value} {o:Obj} {n:String} {vs:Array Value} {Q:Unit→Shared→Prop} (ho:s.heap.get? it=some o) (hc:o.cls = .type n) (hd:o.data = .fields vs)
    (hn:["enumerate","zip","dict_itemiterator","dict_reverseitemiterator","odict_iterator","itertools.zip_longest","itertools.pairwise"].contains n=false) (hQ:Q () s):wpAny M A (letOwnedTupleGo tg (.ref it) u) Q E s:=by
  unfold letOwnedTupleGo
  cases tg<;>first
    | exact wpAny_pure hQ
    | (cases u<;>first
        | exact wpAny_pure hQ
        | (refine wpAny_bind (wpAny_load ho ?_)
           rw [hc,hd]
           show wpAny M A (if (["enumerate","zip","dict_itemiterator","dict_reverseitemiterator","odict_iterator","itertools.zip_longest","itertools.pairwise"].contains n&&vs[0]? == some (rawInt _))=true then _ else _) Q E s
           rw [if_neg (by intro h; rw [hn,Bool.false_and] at h; cases h)]
           exact wpAny_pure hQ))
noncomputable def Itl (K:PySem.W.Frag) (a:Addr):It :=
  ⟨fun i H=>∃ xs x,SqL K H a xs∧xs[i]? = some x,fun i H x H'=>H'=H∧∀ xs,SqL K H a xs→xs[i]? = some x,fun i H=>∃ xs,SqL K H a xs∧xs.length≤i⟩
noncomputable def Itr (lo:Int) (n:Nat):It:=⟨fun i _=>i < n,fun i H x H'=>H'=H∧x = .int (lo+i),fun i _=>n≤i⟩
theorem turn_list {P:Program} {w:World} {K:PySem.W.Frag} {tg:Expr} (a it:Addr):Turn P w K tg (Itl K a) [it] it (fun i h=>h.IsListIter it a i) where
  mem:=by simp
  obj:=fun i h st b hb=>by
    have e:b=it:=by simpa using hb
    subst e
    obtain ⟨o,e,c,d⟩:=st
    exact ⟨o,e,fun v z=>by rw [d] at z; cases z⟩
  keep:=fun i h h' st k=>st.at fun o e=>k it (by simp) o e
  item:=by
    intro X hP hw hK hc i pins s σ H E I hf st hg
    subst hP hw hK
    obtain ⟨xs,x,hq,hx⟩:=hg
    obtain ⟨its,rv,p,hz⟩:=I.list hq
    obtain ⟨u,hu,ru⟩:=rv.get hx
    obtain ⟨f0,f1,f2,f3,f4,f5⟩:=hf it (by simp)
    refine wpAny_pyNext_list_item st p.isList (x:=u) (by simpa using hu) fun h' st' sb=>?_
    have I1:Inv X pins σ H { s with heap:=h' }:=I.turned (t':=s.toks) (fun b o hb e=>(sb.2 b hb).trans e) f0 f1 f3 f4 f5
    obtain ⟨o,e,c,d⟩:=id st'
    exact ⟨u,rfl,go_of (s:={ s with heap:=h' }) e c d (by decide) ⟨x,H,I1,ru,⟨rfl,fun ys hy=>by rw [I.list_inj hy hq]; exact hx⟩,st',fun b hb=>(hf b hb).1⟩⟩
  done:=by
    intro X hP hw hK hc i pins s σ H E I hf st hg
    subst hP hw hK
    obtain ⟨xs,hq,hx⟩:=hg
    obtain ⟨its,rv,p,hz⟩:=I.list hq
    obtain ⟨f0,f1,f2,f3,f4,f5⟩:=hf it (by simp)
    have hl:=rv.length
    exact wpAny_pyNext_list_end (I.ok.hd hc) st p.isList (by simp; omega) fun h' eb=>⟨rfl,I.turned (t':=s.toks) (fun b o hb e=>eb b o hb e) f0 f1 f3 f4 f5⟩
  self:=fun _ _ _ _ _ st h=>wpAny_pyIter_listiter st h
theorem turn_range {P:Program} {w:World} {K:PySem.W.Frag} {tg:Expr} (it:Addr) (lo:Int) (n:Nat):Turn P w K tg (Itr lo n) [it] it (fun i h=>IsRangeIter h it (lo+(i:Nat)*1) ((n:Int) - (i:Nat)) 1) where
  mem:=by simp
  obj:=fun i h st b hb=>by
    have e:b=it:=by simpa using hb
    subst e
    exact ⟨_,st,fun v z=>by
      have z':Data.fields _=Data.cell v:=z
      cases z'⟩
  keep:=fun i h h' st k=>k it (by simp) _ st
  item:=by
    intro X hP hw hK hc i pins s σ H E I hf st hg
    subst hP hw hK
    obtain ⟨f0,f1,f2,f3,f4,f5⟩:=hf it (by simp)
    have W:=Walks.range (prog:=X.prog) (w:=X.w) (I.ok.hd hc) it lo 1 n
    refine W.item i s _ _ hg st fun v h' tk hv st' kk=>?_
    obtain ⟨t,rfl⟩:=hv
    have I1:Inv X pins σ H { s with heap:=h',toks:=tk }:=I.turned (fun b o hb e=>kk b o (by simpa using hb) e) f0 f1 f3 f4 f5
    refine ⟨_,rfl,go_of (s:={ s with heap:=h',toks:=tk }) (n:="range_iterator") st' rfl rfl (by decide) ⟨.int (lo+i),H,I1,⟨t,?_⟩,⟨rfl,rfl⟩,st',fun b hb=>(hf b hb).1⟩⟩
    rw [Int.mul_one]
  done:=by
    intro X hP hw hK hc i pins s σ H E I hf st hg
    subst hP hw hK
    obtain ⟨f0,f1,f2,f3,f4,f5⟩:=hf it (by simp)
    exact wpAny_pyNext_range_end (I.ok.hd hc) st (by have:n≤i:=hg; omega) fun h' eb=>⟨rfl,I.turned (t':=s.toks) (fun b o hb e=>eb b o hb e) f0 f1 f3 f4 f5⟩
  self:=fun _ _ _ _ _ st h=>wpAny_pyIter_rangeiter st h
end L2
namespace L2
open PySem PySem.Spec PyProof.Rows
section
variable {X:Cx} {tg:Expr}
noncomputable def iList (K:PySem.W.Frag) (tl:TE):TI:=fun σ H R=>tl σ H fun x H1=>∃ a,x = .ref a∧(∃ xs,SqL K H1 a xs)∧R (Itl K a) H1
theorem pi_list {l:Expr} {tl:TE} (hl:PE X l tl):PI X tg l (iList X.K tl):=by
  intro pins s σ H R I h
  refine thn (hl pins s σ H _ I h) fun v s1 ⟨x,H1,I1,r1,q1⟩=>?_
  obtain ⟨a,e,⟨xs,hq⟩,q⟩:=q1
  subst e
  cases r1
  obtain ⟨its,rv,p,hz⟩:=I1.list hq
  refine wpAny_pyIter_list p.isList ?_
  refine ⟨s1.heap.objs.size,[s1.heap.objs.size],_,_,H1,rfl,I1.kept (t':=s1.toks) fun b o e=>Heap.get?_push_of_some _ e,turn_list a _,⟨_,Heap.get?_push_size _ rfl,rfl,rfl⟩,fun b hb=>?_,q⟩
  have e:b=s1.heap.objs.size:=by simpa using hb
  subst e
  exact I1.fpOk (Nat.le_refl _) (I1.hok.fresh (Nat.le_refl _))
theorem range_it {pins:List (Addr × Obj)} {σ:St} {H:Hp} {s:Shared} {R:It→Hp→Prop} {E:Value→Shared→Prop} {lo hi:Int} {t u v:Tok} {tk:Nat} (I:Inv X pins σ H s) (h1 : -(2 ^ 62)≤lo) (h2:lo < 2 ^ 62) (h3 : -(2 ^ 62)≤hi) (h4:hi < 2 ^ 62)
    (q:R (Itr lo (hi - lo).toNat) H):wpAny (model X.prog X.w) X.A (pyIter (.ref s.heap.objs.size)) (PIE X pins σ tg R) E { s with heap:=s.heap.push { cls:=.type "range",data:=.fields #[.int lo t,.int hi u,.int 1 v] },toks:=tk }:=by
  refine wpAny_pyIter_range (IsRange.new ..) (small_one h1 h2 h3 h4) ?_
  have I1:Inv X pins σ H { s with heap:=s.heap.push { cls:=.type "range",data:=.fields #[.int lo t,.int hi u,.int 1 v] },toks:=tk }:=I.kept fun b o e=>Heap.get?_push_of_some _ e
  refine ⟨(s.heap.push { cls:=.type "range",data:=.fields #[.int lo t,.int hi u,.int 1 v] }).objs.size,[(s.heap.push { cls:=.type "range",data:=.fields #[.int lo t,.int hi u,.int 1 v] }).objs.size],_,_,H,rfl,
    I1.kept (t':=tk) fun b o e=>Heap.get?_push_of_some _ e,turn_range _ lo (hi - lo).toNat,?_,fun b hb=>?_,q⟩
  · have e1:lo+((0:Nat):Int)*1=lo:=by simp
    have e2:(((hi - lo).toNat:Nat):Int) - ((0:Nat):Int)=Builtin.Range.rangeSize lo hi 1:=by rw [rangeSize_one]; split<;>omega
    show IsRangeIter _ _ (lo+((0:Nat):Int)*1) ((((hi - lo).toNat:Nat):Int) - ((0:Nat):Int)) 1
    rw [e1,e2]
    exact Heap.get?_push_size _ rfl
  · have e:b=(s.heap.push { cls:=.type "range",data:=.fields #[.int lo t,.int hi u,.int 1 v] }).objs.size:=by simpa using hb
    subst e
    exact I1.fpOk (Nat.le_refl _) (I1.hok.fresh (Nat.le_refl _))
noncomputable def iRng1 (ta:TA):TI:=fun σ H R=>ta σ H fun vs H1=>∃ j:Int,vs=[.int j]∧-(2 ^ 62)≤j∧j < 2 ^ 62∧R (Itr 0 j.toNat) H1
noncomputable def iRng2 (ta:TA):TI:=fun σ H R=>ta σ H fun vs H1=>∃ i j:Int,vs=[.int i,.int j]∧(-(2 ^ 62)≤i∧i < 2 ^ 62∧-(2 ^ 62)≤j∧j < 2 ^ 62)∧R (Itr i (j - i).toNat) H1
theorem pi_range1 {a:Expr} {ta:TA} {p pos:Pos} (hg:Gl X "range") (hm:X.mg "range" = none) (ha:PA X [a] ta) (hs:starEach [a] X.env=[(false,eval a X.env)]:=by rfl):PI X tg (.Call (.Name "range" p) [a] [] pos) (iRng1 ta):=by
  intro pins s σ H R I h
  refine Call_ (ld_blt I hg hm boot_range (PyProof.Rows.callWith_type1 (thn (ha pos pins s σ H _ I h) fun us s1 ⟨vs,H1,I1,r1,q1⟩=>?_) hs rfl))
  obtain ⟨j,e,q1,q2,q⟩:=q1
  subst e
  cases r1 with
  | cons r rr =>
    cases rr
    obtain ⟨t,rfl⟩:=r
    exact call_range_1 (range_it I1 (by omega) (by omega) q1 q2 (by simpa using q))
theorem pi_range2 {a b:Expr} {ta:TA} {p pos:Pos} (hg:Gl X "range") (hm:X.mg "range" = none) (ha:PA X [a,b] ta) (hs:starEach [a,b] X.env=[(false,eval a X.env),(false,eval b X.env)]:=by rfl) (hs2:starEach [b] X.env=[(false,eval b X.env)]:=by rfl) :
    PI X tg (.Call (.Name "range" p) [a,b] [] pos) (iRng2 ta):=by
  intro pins s σ H R I h
  refine Call_ (ld_blt I hg hm boot_range (PyProof.Rows.callWith_type1 (thn (ha pos pins s σ H _ I h) fun us s1 ⟨vs,H1,I1,r1,q1⟩=>?_) (by rw [hs,hs2]) (by rw [hs2]; rfl)))
  obtain ⟨i,j,e,⟨q1,q2,q3,q4⟩,q⟩:=q1
  subst e
  cases r1 with
  | cons r rr =>
    cases rr with
    | cons r' rr =>
      cases rr
      obtain ⟨t,rfl⟩:=r
      obtain ⟨t',rfl⟩:=r'
      exact call_range_2 (range_it I1 q1 q2 q3 q4 q)
noncomputable def tFor (wi:TI) (g:TG) (tb:TS):TS:=fun D σ H=>wi σ H fun J H1=>∃ W:Nat→Nat→St→Hp→Prop,(∃ m,W 0 m σ H1)∧∀ i m σ H,W i m σ H →
  (J.stop i H∧D.nx σ H)∨(J.go i H∧∃ N:St→Hp→Prop,(∀ σ' H',N σ' H'→∃ m',m' < m∧W (i+1) m' σ' H')∧∀ x H',J.yld i H x H'→g x σ H' fun σ2 H2=>tb { D with nx:=N,ct:=N,bk:=D.nx } σ2 H2)
noncomputable def pinsAt (fp:List Addr) (h:Heap):List (Addr × Obj):=fp.filterMap fun b=>(h.get? b).map fun o=>(b,o)
theorem mem_pinsAt {fp:List Addr} {h:Heap} {b:Addr} {o:Obj} (hb:b∈fp) (e:h.get? b=some o):(b,o)∈pinsAt fp h:=List.mem_filterMap.mpr ⟨b,hb,by rw [e]; rfl⟩
theorem of_pinsAt {fp:List Addr} {h:Heap} {p:Addr × Obj} (hp:p∈pinsAt fp h):p.1∈fp∧h.get? p.1=some p.2:=by
  obtain ⟨b,hb,e⟩:=List.mem_filterMap.mp hp
  cases q:h.get? b with
  | none=>rw [q] at e; cases e
  | some o =>
    rw [q] at e
    have e':(b,o)=p:=Option.some.inj e
    subst e'
    exact ⟨hb,q⟩
theorem Inv.pinned {pins:List (Addr × Obj)} {σ:St} {H:Hp} {s:Shared} {fp:List Addr} (I:Inv X pins σ H s) (hf:∀ b∈fp,FpOk X pins H b) (ho:∀ b∈fp,∃ o,s.heap.get? b=some o∧∀ v,o.data≠.cell v):Inv X (pins++pinsAt fp s.heap) σ H s :=
  I.pins_of fun p hp=>(List.mem_append.mp hp).elim (fun z=>I.pin p (List.mem_append_right _ z)) fun z=>by
    obtain ⟨hb,e⟩:=of_pinsAt z
    obtain ⟨f0,f1,f2,_⟩:=hf p.1 hb
    obtain ⟨o,e',d⟩:=ho p.1 hb
    rw [e] at e'; cases e'
    exact ⟨e,f0,f1,f2,d⟩
theorem Inv.unpinned {pins pl:List (Addr × Obj)} {σ:St} {H:Hp} {s:Shared} (I:Inv X (pins++pl) σ H s):Inv X pins σ H s:=I.pins_of fun p hp=>I.pin p (List.mem_append_right _ (List.mem_append_left _ hp))
theorem ps_for {iter:Expr} {body:List Stmt} {wi:TI} {g:TG} {tb:TS} {pos:Pos} (hp:PassesOwn (model X.prog X.w) X.A X.env X.xe) (hc:X.calm=true) (hi:PI X tg iter wi) (hg:PG X tg g) (hb:PSs X body tb)
    (hs:∀ x,foldedSetIterable iter X.env x=pure x:=by intro _; rfl):PS X (.For tg iter body [] pos) (tFor wi g tb):=by
  intro pins s σ H D I h
  refine wpAny_For (thn (hi pins s σ H _ I h) fun v s1 h1=>thn h1 fun itv s2 h2=>?_) hs
  obtain ⟨it,fp,tn,J,H2,e,I2,T,st2,f2,W,⟨m0,w0⟩,turn⟩:=h2
  subst e
  -- what stays true of the iterator's objects through the loop
  have stat:∀ {H':Hp},(∀ b∈fp,H' b=none)→∀ b∈fp,FpOk X pins H' b:=fun hn b hb=>⟨hn b hb,(f2 b hb).2⟩
  refine codeAny_forLoop_any (fun n s'=>∃ i σ' H',Inv X pins σ' H' s'∧tn i s'.heap∧(∀ b∈fp,H' b=none)∧W i n σ' H') ?_ m0 ⟨0,σ,H2,I2,st2,fun b hb=>(f2 b hb).1,w0⟩
  rintro n s3 ⟨i,σ3,H3,I3,st3,fr3,w3⟩
  rcases turn i n σ3 H3 w3 with ⟨stop,qn⟩ | ⟨go,N,hN,step⟩
  · refine wpAny_passesOwn hp (thn (T.done X rfl rfl rfl hc i pins s3 σ3 H3 X.xe I3 (stat fr3) st3 stop) fun r s4 ⟨hr,I4⟩=>?_)
    subst hr
    exact wpAny_execs_nil ⟨σ3,H3,I4,qn⟩
  · refine wpAny_passesOwn hp (thn (T.item X rfl rfl rfl hc i pins s3 σ3 H3 X.xe I3 (stat fr3) st3 go) fun r s4 ⟨u,hr,h4⟩=>?_)
    subst hr
    refine wpAny_passesOwn hp (thn h4 fun _ s5 ⟨x,H5,I5,r5,y5,st5,fr5⟩=>?_)
    have I5':=I5.pinned (stat fr5) (T.obj _ _ st5)
    refine wpAny_passesOwn hp (thn (hg _ s5 σ3 H5 x u _ I5' r5 (step x H5 y5)) fun _ s6 ⟨σ6,H6,I6,q6⟩=>?_)
    refine wpAny_passesOwn hp (thn (hb _ s6 σ6 H6 _ I6 q6) fun f s7 q7=>?_)
    have again:∀ {σ7:St} {H7:Hp},Inv X (pins++pinsAt fp s5.heap) σ7 H7 s7→N σ7 H7→∃ m,m < n∧∃ i σ' H',Inv X pins σ' H' s7∧tn i s7.heap∧(∀ b∈fp,H' b=none)∧W i m σ' H':=fun {σ7 H7} I7 n7=>by
      obtain ⟨m',hm,w7⟩:=hN σ7 H7 n7
      refine ⟨m',hm,i+1,σ7,H7,I7.unpinned,T.keep _ _ _ st5 fun b hb o e=>(I7.pin (b,o) (List.mem_append_right _ (List.mem_append_right _ (mem_pinsAt hb e)))).1,fun b hb=>?_,w7⟩
      obtain ⟨o,e,d⟩:=T.obj _ _ st5 b hb
      exact (I7.pin (b,o) (List.mem_append_right _ (List.mem_append_right _ (mem_pinsAt hb e)))).2.1
    cases f with
    | next=>obtain ⟨σ7,H7,I7,n7⟩:=q7; exact again I7 n7
    | cont=>obtain ⟨σ7,H7,I7,n7⟩:=q7; exact again I7 n7
    | brk=>obtain ⟨σ7,H7,I7,q7⟩:=q7; exact ⟨σ7,H7,I7.unpinned,q7⟩
    | ret v=>obtain ⟨x7,σ7,H7,I7,r7,q7⟩:=q7; exact ⟨x7,σ7,H7,I7.unpinned,r7,q7⟩
end
theorem for_list {K:PySem.W.Frag} {a:Addr} {xs:List V} {g:TG} {tb:TS} {D:Ends} {σ:St} {H:Hp} (Pv:Nat→St→Hp→Prop) (h0:Pv 0 σ H) (hl:∀ i σ H,i≤xs.length→Pv i σ H→SqL K H a xs)
    (hs:∀ i x σ H,xs[i]? = some x→Pv i σ H→g x σ H fun σ2 H2=>tb { D with nx:=Pv (i+1),ct:=Pv (i+1),bk:=D.nx } σ2 H2) (hd:∀ σ H,Pv xs.length σ H→D.nx σ H) :
    ∃ W:Nat→Nat→St→Hp→Prop,(∃ m,W 0 m σ H)∧∀ i m σ H,W i m σ H →
      ((Itl K a).stop i H∧D.nx σ H)∨((Itl K a).go i H∧∃ N:St→Hp→Prop,(∀ σ' H',N σ' H'→∃ m',m' < m∧W (i+1) m' σ' H')∧∀ x H',(Itl K a).yld i H x H'→g x σ H' fun σ2 H2=>tb { D with nx:=N,ct:=N,bk:=D.nx } σ2 H2):=by
  refine ⟨fun i m σ H=>m=xs.length - i∧i≤xs.length∧Pv i σ H,⟨xs.length,by simp,Nat.zero_le _,h0⟩,?_⟩
  rintro i m σ H ⟨rfl,hi,p⟩
  have q:=hl i σ H hi p
  by_cases hlt:i < xs.length
  · refine .inr ⟨⟨xs,xs[i],q,by simp [hlt]⟩,Pv (i+1),fun σ' H' p'=>⟨xs.length - (i+1),by omega,rfl,hlt,p'⟩,fun x H' y=>?_⟩
    obtain ⟨e,y⟩:=y
    subst e
    exact hs i x σ _ (y xs q) p
  · have e:i=xs.length:=by omega
    subst e
    exact .inl ⟨⟨xs,q,Nat.le_refl _⟩,hd σ H p⟩
theorem for_range {lo:Int} {n:Nat} {g:TG} {tb:TS} {D:Ends} {σ:St} {H:Hp} (Pv:Nat→St→Hp→Prop) (h0:Pv 0 σ H)
    (hs:∀ i σ H,i < n→Pv i σ H→g (.int (lo+i)) σ H fun σ2 H2=>tb { D with nx:=Pv (i+1),ct:=Pv (i+1),bk:=D.nx } σ2 H2) (hd:∀ σ H,Pv n σ H→D.nx σ H) :
    ∃ W:Nat→Nat→St→Hp→Prop,(∃ m,W 0 m σ H)∧∀ i m σ H,W i m σ H →
      ((Itr lo n).stop i H∧D.nx σ H)∨((Itr lo n).go i H∧∃ N:St→Hp→Prop,(∀ σ' H',N σ' H'→∃ m',m' < m∧W (i+1) m' σ' H')∧∀ x H',(Itr lo n).yld i H x H'→g x σ H' fun σ2 H2=>tb { D with nx:=N,ct:=N,bk:=D.nx } σ2 H2):=by
  refine ⟨fun i m σ H=>m=n - i∧i≤n∧Pv i σ H,⟨n,by simp,Nat.zero_le _,h0⟩,?_⟩
  rintro i m σ H ⟨rfl,hi,p⟩
  by_cases hlt:i < n
  · refine .inr ⟨hlt,Pv (i+1),fun σ' H' p'=>⟨n - (i+1),by omega,rfl,hlt,p'⟩,fun x H' y=>?_⟩
    obtain ⟨e,y⟩:=y
    subst e y
    exact hs i σ _ hlt p
  · have e:i=n:=by omega
    subst e
    exact .inl ⟨Nat.le_refl _,hd σ H p⟩
end L2
namespace L2
open PySem PySem.Spec PyProof.Rows
noncomputable abbrev R2:=V→V→Hp→VK→Prop
noncomputable def OpR (X:Cx) (f:Value→Value→Sem Value) (r:R2):Prop :=
  ∀ (pins:List (Addr × Obj)) (s:Shared) (σ:St) (H:Hp) (x y:V) (v u:Value) (Q:VK),Inv X pins σ H s→RelV x v→RelV y u→r x y H Q →
    wpAny (model X.prog X.w) X.A (f v u) (EP X pins σ Q) X.xe s
noncomputable def CallR (X:Cx) (f:Value) (r:List V→Hp→VK→Prop):Prop :=
  ∀ (pins:List (Addr × Obj)) (s:Shared) (σ:St) (H:Hp) (xs:List V) (us:List Value) (Q:VK),Inv X pins σ H s→Vals xs us→r xs H Q →
    wpAny (model X.prog X.w) X.A (call f us) (EP X pins σ Q) X.xe s
noncomputable def tOp (r:R2) (ta tb:TE):TE:=fun σ H Q=>ta σ H fun x H1=>tb σ H1 fun y H2=>r x y H2 Q
noncomputable def rI (C:Int→Int→Prop) (g:Int→Int→V):R2:=fun x y H Q=>∃ i j,x = .int i∧y = .int j∧C i j∧Q (g i j) H
noncomputable def rI0 (g:Int→Int→V):R2:=fun x y H Q=>∃ i j,x = .int i∧y = .int j∧Q (g i j) H
section
variable {X:Cx} {a b c:Expr} {ta tb tc:TE} {pos:Pos}
theorem binT (ha:PE X a ta) (hb:PE X b tb) {pins:List (Addr × Obj)} {s:Shared} {σ:St} {H:Hp} {R:V→V→Hp→Prop} (I:Inv X pins σ H s)
    (h:ta σ H fun x H1=>tb σ H1 fun y H2=>R x y H2) {Q:Value→Shared→Prop} {f:Value→Value→Sem Value}
    (hf:∀ v u s2 x y H2,Inv X pins σ H2 s2→RelV x v→RelV y u→R x y H2→wpAny (model X.prog X.w) X.A (f v u) Q X.xe s2) :
    wpAny (model X.prog X.w) X.A (eval a X.env) (fun v s₁=>wpAny (model X.prog X.w) X.A (eval b X.env) (fun u s₂=>wpAny (model X.prog X.w) X.A (f v u) Q X.xe s₂) X.xe s₁) X.xe s:=by
  refine thn (ha pins s σ H _ I h) fun v s1 ⟨x,H1,I1,r1,q1⟩=>?_
  refine thn (hb pins s1 σ H1 _ I1 q1) fun u s2 ⟨y,H2,I2,r2,q2⟩=>?_
  exact hf v u s2 x y H2 I2 r1 r2 q2
theorem pe_op {op:Operator} {r:R2} (ho:OpR X (binaryOp op) r) (ha:PE X a ta) (hb:PE X b tb):PE X (.BinOp a op b pos) (tOp r ta tb):=by
  intro pins s σ H Q I h
  exact wpAny_BinOp (binT ha hb I h fun v u s2 x y H2 I2 rx ry q=>ho pins s2 σ H2 x y v u Q I2 rx ry q)
theorem opI {f:Value→Value→Sem Value} {C:Int→Int→Prop} {g:Int→Int→Int}
    (rule:∀ (i j:Int) (t u:Tok) (s:Shared) (Q:Value→Shared→Prop) (E:Value→Shared→Prop),C i j→Q (.int (g i j) s.toks) { s with toks:=s.toks+1 }→wpAny (model X.prog X.w) X.A (f (.int i t) (.int j u)) Q E s) :
    OpR X f (rI C fun i j=>.int (g i j)):=by
  intro pins s σ H x y v u Q I rx ry h
  obtain ⟨i,j,rfl,rfl,hc,q⟩:=h
  obtain ⟨t,rfl⟩:=rx
  obtain ⟨t',rfl⟩:=ry
  exact rule i j t t' s _ _ hc ⟨.int (g i j),H,I.tok _,⟨_,rfl⟩,q⟩
theorem opI0 {f:Value→Value→Sem Value} {g:Int→Int→Int}
    (rule:∀ (i j:Int) (t u:Tok) (s:Shared) (Q:Value→Shared→Prop) (E:Value→Shared→Prop),Q (.int (g i j) s.toks) { s with toks:=s.toks+1 }→wpAny (model X.prog X.w) X.A (f (.int i t) (.int j u)) Q E s) :
    OpR X f (rI0 fun i j=>.int (g i j)):=by
  intro pins s σ H x y v u Q I rx ry h
  obtain ⟨i,j,rfl,rfl,q⟩:=h
  obtain ⟨t,rfl⟩:=rx
  obtain ⟨t',rfl⟩:=ry
  exact rule i j t t' s _ _ ⟨.int (g i j),H,I.tok _,⟨_,rfl⟩,q⟩
theorem opB0 {f:Value→Value→Sem Value} {g:Int→Int→Bool}
    (rule:∀ (i j:Int) (t u:Tok) (s:Shared) (Q:Value→Shared→Prop) (E:Value→Shared→Prop),Q (.bool (g i j)) s→wpAny (model X.prog X.w) X.A (f (.int i t) (.int j u)) Q E s) :
    OpR X f (rI0 fun i j=>.bl (g i j)):=by
  intro pins s σ H x y v u Q I rx ry h
  obtain ⟨i,j,rfl,rfl,q⟩:=h
  obtain ⟨t,rfl⟩:=rx
  obtain ⟨t',rfl⟩:=ry
  exact rule i j t t' s _ _ ⟨.bl (g i j),H,I,rfl,q⟩
noncomputable def CMul (i j:Int):Prop:=(-(2 ^ 64) < i∧i < 2 ^ 64)∨(-(2 ^ 64) < j∧j < 2 ^ 64)
theorem CMul.ok {i j:Int} (h:CMul i j):IntMulOk i j:=by
  rcases h with ⟨h1,h2⟩ | ⟨h1,h2⟩
  · exact .of_left (intBits_le_64 h1 h2)
  · exact .of_right (intBits_le_64 h1 h2)
theorem op_add:OpR X (binaryOp .Add) (rI0 fun i j=>.int (i+j)):=opI0 fun _ _ _ _ _ _ _ q=>add_int q
theorem op_sub:OpR X (binaryOp .Sub) (rI0 fun i j=>.int (i - j)):=opI0 fun _ _ _ _ _ _ _ q=>sub_int q
theorem op_mul:OpR X (binaryOp .Mult) (rI CMul fun i j=>.int (i*j)):=opI fun _ _ _ _ _ _ _ hc q=>mul_int q hc.ok
theorem op_mod:OpR X (binaryOp .Mod) (rI (fun _ j=>0 < j) fun i j=>.int (i % j)):=opI fun i j _ _ _ _ _ hc q=>by
  have h1:(0:Int) < j:=hc
  exact mod_int' (by omega) (by rw [Int.fmod_eq_emod_of_nonneg i (by omega)]; exact q)
end
noncomputable def scal:V→V→Bool
  | .non,.non=>true | .non,.int _=>true | .int _,.non=>true | .non,.bl _=>true | .bl _,.non=>true | .non,.str _=>true | .str _,.non=>true
  | .int _,.int _=>true | .bl _,.bl _=>true | .str _,.str _=>true | .byt _,.byt _=>true
  | .int _,.str _=>true | .str _,.int _=>true | .bl _,.str _=>true | .str _,.bl _=>true
  | _,_=>false
noncomputable def rEq:R2:=fun x y H Q=>scal x y=true∧Q (.bl (decide (x=y))) H
noncomputable def rNe:R2:=fun x y H Q=>scal x y=true∧Q (.bl (!decide (x=y))) H
theorem dec_int {i j:Int}:decide (V.int i=V.int j)=(i == j):=by
  rw [Bool.eq_iff_iff]
  simp
theorem dec_bl {i j:Bool}:decide (V.bl i=V.bl j)=(i == j):=by
  rw [Bool.eq_iff_iff]
  simp
theorem dec_str {i j:Str}:decide (V.str i=V.str j)=(i == j):=by
  rw [Bool.eq_iff_iff]
  simp
theorem dec_byt {i j:Array UInt8}:decide (V.byt i=V.byt j)=(i.toList == j.toList):=by
  rw [Bool.eq_iff_iff]
  cases i
  cases j
  simp
section
variable {X:Cx} {a b c:Expr} {ta tb tc:TE} {pos:Pos}
theorem fin_bl {pins:List (Addr × Obj)} {σ:St} {H:Hp} {s:Shared} {Q:VK} {k k':Bool} (I:Inv X pins σ H s) (q:Q (.bl k) H) (e:k=k'):EP X pins σ Q (.bool k') s:=by
  subst e
  exact ⟨.bl k,H,I,rfl,q⟩
theorem op_eq:OpR X (compareOp .Eq) rEq:=by
  intro pins s σ H x y v u Q I rx ry h
  obtain ⟨hs,q⟩:=h
  cases x with
  | non =>
    cases rx
    cases y with
    | non=>cases ry; exact PySem.EqNone.eq_none_none (fin_bl I q (by simp))
    | bl j=>cases ry; exact PySem.EqNone.eq_none_bool (fin_bl I q (by simp))
    | int j=>obtain ⟨t',rfl⟩:=ry; exact PySem.EqNone.eq_none_int (fin_bl I q (by simp))
    | str j=>obtain ⟨t',rfl⟩:=ry; exact PySem.EqNone.eq_none_str (fin_bl I q (by simp))
    | _=>exact absurd (show false=true from hs) Bool.false_ne_true
  | bl i =>
    cases rx
    cases y with
    | non=>cases ry; exact PySem.EqNone.eq_bool_none (fin_bl I q (by simp))
    | bl j=>cases ry; exact eq_bool (fin_bl I q dec_bl)
    | str j=>obtain ⟨t',rfl⟩:=ry; exact PySem.EqMixed.eq_bool_str (fin_bl I q (by simp))
    | _=>exact absurd (show false=true from hs) Bool.false_ne_true
  | int i =>
    obtain ⟨t,rfl⟩:=rx
    cases y with
    | non=>cases ry; exact PySem.EqNone.eq_int_none (fin_bl I q (by simp))
    | int j=>obtain ⟨t',rfl⟩:=ry; exact eq_int (fin_bl I q dec_int)
    | str j=>obtain ⟨t',rfl⟩:=ry; exact PySem.EqMixed.eq_int_str (fin_bl I q (by simp))
    | _=>exact absurd (show false=true from hs) Bool.false_ne_true
  | str i =>
    obtain ⟨t,rfl⟩:=rx
    cases y with
    | non=>cases ry; exact PySem.EqNone.eq_str_none (fin_bl I q (by simp))
    | bl j=>cases ry; exact PySem.EqMixed.eq_str_bool (fin_bl I q (by simp))
    | int j=>obtain ⟨t',rfl⟩:=ry; exact PySem.EqMixed.eq_str_int (fin_bl I q (by simp))
    | str j=>obtain ⟨t',rfl⟩:=ry; exact eq_str (fin_bl I q dec_str)
    | _=>exact absurd (show false=true from hs) Bool.false_ne_true
  | byt i =>
    obtain ⟨t,rfl⟩:=rx
    cases y with
    | byt j=>obtain ⟨t',rfl⟩:=ry; exact PySem.W.eq_bytes (fin_bl I q dec_byt)
    | _=>exact absurd (show false=true from hs) Bool.false_ne_true
  | _=>cases y<;>exact absurd (show false=true from hs) Bool.false_ne_true
theorem op_ne:OpR X (compareOp .NotEq) rNe:=by
  intro pins s σ H x y v u Q I rx ry h
  obtain ⟨hs,q⟩:=h
  cases x with
  | non =>
    cases rx
    cases y with
    | non=>cases ry; exact PySem.EqNone.ne_none_none (fin_bl I q (by simp))
    | bl j=>cases ry; exact PySem.EqNone.ne_none_bool (fin_bl I q (by simp))
    | int j=>obtain ⟨t',rfl⟩:=ry; exact PySem.EqNone.ne_none_int (fin_bl I q (by simp))
    | str j=>obtain ⟨t',rfl⟩:=ry; exact PySem.EqNone.ne_none_str (fin_bl I q (by simp))
    | _=>exact absurd (show false=true from hs) Bool.false_ne_true
  | bl i =>
    cases rx
    cases y with
    | non=>cases ry; exact PySem.EqNone.ne_bool_none (fin_bl I q (by simp))
    | bl j=>cases ry; exact ne_bool (fin_bl I q (congrArg not dec_bl))
    | str j=>obtain ⟨t',rfl⟩:=ry; exact PySem.EqMixed.ne_bool_str (fin_bl I q (by simp))
    | _=>exact absurd (show false=true from hs) Bool.false_ne_true
  | int i =>
    obtain ⟨t,rfl⟩:=rx
    cases y with
    | non=>cases ry; exact PySem.EqNone.ne_int_none (fin_bl I q (by simp))
    | int j=>obtain ⟨t',rfl⟩:=ry; exact ne_int (fin_bl I q (congrArg not dec_int))
    | str j=>obtain ⟨t',rfl⟩:=ry; exact PySem.EqMixed.ne_int_str (fin_bl I q (by simp))
    | _=>exact absurd (show false=true from hs) Bool.false_ne_true
  | str i =>
    obtain ⟨t,rfl⟩:=rx
    cases y with
    | non=>cases ry; exact PySem.EqNone.ne_str_none (fin_bl I q (by simp))
    | bl j=>cases ry; exact PySem.EqMixed.ne_str_bool (fin_bl I q (by simp))
    | int j=>obtain ⟨t',rfl⟩:=ry; exact PySem.EqMixed.ne_str_int (fin_bl I q (by simp))
    | str j=>obtain ⟨t',rfl⟩:=ry; exact ne_str (fin_bl I q (congrArg not dec_str))
    | _=>exact absurd (show false=true from hs) Bool.false_ne_true
  | byt i =>
    obtain ⟨t,rfl⟩:=rx
    cases y with
    | byt j=>obtain ⟨t',rfl⟩:=ry; exact PySem.W.ne_bytes (fin_bl I q (congrArg not dec_byt))
    | _=>exact absurd (show false=true from hs) Bool.false_ne_true
  | _=>cases y<;>exact absurd (show false=true from hs) Bool.false_ne_true
theorem op_lt:OpR X (compareOp .Lt) (rI0 fun i j=>.bl (decide (i < j))):=opB0 fun _ _ _ _ _ _ _ q=>lt_int q
theorem op_le:OpR X (compareOp .LtE) (rI0 fun i j=>.bl (decide (i≤j))):=opB0 fun _ _ _ _ _ _ _ q=>le_int q
theorem op_gt:OpR X (compareOp .Gt) (rI0 fun i j=>.bl (decide (j < i))):=opB0 fun _ _ _ _ _ _ _ q=>gt_int q
theorem op_ge:OpR X (compareOp .GtE) (rI0 fun i j=>.bl (decide (j≤i))):=opB0 fun _ _ _ _ _ _ _ q=>ge_int q
theorem nomark (b:Expr) {op:CmpOp} (h:op≠.In:=by decide) (h2:op≠.NotIn:=by decide):behindInMarks op b=false:=by
  have e1:(op == CmpOp.In)=false:=by cases op<;>first | rfl | exact absurd rfl h
  have e2:(op == CmpOp.NotIn)=false:=by cases op<;>first | rfl | exact absurd rfl h2
  cases b<;>simp [behindInMarks,e1,e2]
theorem pe_cmpR {op:CmpOp} {r:R2} (ho:OpR X (compareOp op) r) (ha:PE X a ta) (hb:PE X b tb) (hm:behindInMarks op b=false):PE X (.Compare a [op] [b] pos) (tOp r ta tb):=by
  intro pins s σ H Q I h
  exact wpAny_Compare1 (binT ha hb I h fun v u s2 x y H2 I2 rx ry q=>ho pins s2 σ H2 x y v u Q I2 rx ry q) hm
noncomputable def tTest (t:TE):TT:=fun σ H Q=>t σ H fun x H'=>∃ k,x = .bl k∧Q k H'
theorem pt_cmpR {op:CmpOp} {r:R2} (ho:OpR X (compareOp op) r) (ha:PE X a ta) (hb:PE X b tb) (hm:behindInMarks op b=false):PT X (.Compare a [op] [b] pos) (tTest (tOp r ta tb)):=by
  intro pins s σ H Q I h
  refine wpAny_isTrue_Compare1 (thn (ha pins s σ H _ I h) fun v s1 ⟨x,H1,I1,r1,q1⟩=>thn (hb pins s1 σ H1 _ I1 q1) fun u s2 ⟨y,H2,I2,r2,q2⟩ =>
    thn (ho pins s2 σ H2 x y v u _ I2 r1 r2 q2) fun c s3 ⟨z,H3,I3,r3,k,e,q3⟩=>?_) hm
  subst e
  cases r3
  exact wpAny_truthy_bool ⟨H3,I3,q3⟩
noncomputable def tChain (r r':R2) (ta tb tc:TE):TE:=fun σ H Q=>ta σ H fun x H1=>tb σ H1 fun y H2=>r x y H2 fun z H3=>∃ k,z = .bl k ∧
  (if k=true then tc σ H3 fun w' H4=>r' y w' H4 Q else Q (.bl false) H3)
theorem pe_chain {op op':CmpOp} {r r':R2} (ho:OpR X (compareOp op) r) (ho':OpR X (compareOp op') r') (ha:PE X a ta) (hb:PE X b tb) (hc:PE X c tc)
    (hm:lastMarks [op,op'] [b,c]=false:=by with_unfolding_all rfl):PE X (.Compare a [op,op'] [b,c] pos) (tChain r r' ta tb tc):=by
  intro pins s σ H Q I h
  refine Compare_chain (thn (ha pins s σ H _ I h) fun v s1 ⟨x,H1,I1,r1,q1⟩=>chain_link (thn (hb pins s1 σ H1 _ I1 q1) fun u s2 ⟨y,H2,I2,r2,q2⟩ =>
    thn (ho pins s2 σ H2 x y v u _ I2 r1 r2 q2) fun d s3 ⟨z,H3,I3,r3,k,e,q3⟩=>?_)) hm
  subst e
  cases r3
  refine wpAny_truthy_bool ?_
  cases k with
  | false=>exact ite_ff ⟨.bl false,H3,I3,rfl,q3⟩
  | true=>exact ite_tt (chain_last (thn (hc pins s3 σ H3 _ I3 q3) fun w' s4 ⟨z',H4,I4,r4,q4⟩=>ho' pins s4 σ H4 y z' u w' Q I4 r2 r4 q4))
theorem line63:(sizeLine:Nat) < 2 ^ 63:=by rw [sizeLine_eq]; decide
theorem vals1 {x:V} {us:List Value} (r:Vals [x] us):∃ u,us=[u]∧RelV x u:=by
  cases r with
  | cons r1 r2=>cases r2; exact ⟨_,rfl,r1⟩
theorem vals2 {x y:V} {us:List Value} (r:Vals [x,y] us):∃ u w',us=[u,w']∧RelV x u∧RelV y w':=by
  cases r with
  | cons r1 r2 =>
    cases r2 with
    | cons r3 r4=>cases r4; exact ⟨_,_,rfl,r1,r3⟩
theorem call_max2 (hc:X.calm=true):CallR X (.builtin "max") (fun xs H Q=>∃ i j,xs=[.int i,.int j]∧Q (.int (if j > i then j else i)) H):=by
  intro pins s σ H xs us Q I r h
  obtain ⟨i,j,rfl,q⟩:=h
  obtain ⟨u,w',rfl,⟨t,rfl⟩,⟨t',rfl⟩⟩:=vals2 r
  refine max_two_ints (I.ok.hd hc) fun h' tk k=>⟨_,H,I.kept k,?_,q⟩
  by_cases hj:j > i
  · rw [if_pos hj,if_pos hj]; exact ⟨_,rfl⟩
  · rw [if_neg hj,if_neg hj]; exact ⟨_,rfl⟩
theorem call_int1:CallR X (.type "int") (fun xs H Q=>(∃ i,xs=[.int i]∧Q (.int i) H)∨∃ k,xs=[.bl k]∧Q (.int (if k then 1 else 0)) H):=by
  intro pins s σ H xs us Q I r h
  rcases h with ⟨i,rfl,q⟩ | ⟨k,rfl,q⟩
  · obtain ⟨u,rfl,t,rfl⟩:=vals1 r
    exact call_int_int ⟨.int i,H,I,⟨_,rfl⟩,q⟩
  · obtain ⟨u,rfl,r1⟩:=vals1 r
    cases r1
    exact call_int_bool ⟨.int (if k then 1 else 0),H,I.tok _,⟨_,rfl⟩,q⟩
end
end L2
namespace L2
open PySem PySem.Spec PyProof.Rows
structure ObjM (h:Heap) (x dx C:Addr) (mA:Str→Option Value):Prop where
  obj:h.get? x=some (PySem.W.instObj C dx)
  ns:h.Ns1 dx mA
  ne:dx≠x
theorem lookIn_ns {h:Heap} {dx:Addr} {mA:Str→Option Value} (n:h.Ns1 dx mA):∃ od,h.get? dx=some od∧∀ name,PySem.W.lookIn name od=some (mA name):=by
  obtain ⟨o,es,ep,ho,hd,hk,_,hm⟩:=n
  refine ⟨o,ho,fun name=>?_⟩
  have e:=hm name
  unfold nsFind findBy at e
  rw [← Array.find?_toList] at e
  unfold PySem.W.lookIn
  rw [hd]
  dsimp only
  split
  · rename_i y q
    rw [q] at e
    exact congrArg some e
  · rename_i q
    rw [q] at e
    have a:es.toList.any (·.refKey)=false:=by
      rw [List.any_eq_false]
      intro y hy
      obtain ⟨z,t,hkey⟩:=hk y (Array.mem_toList_iff.mp hy)
      simp [DictEntry.refKey,hkey]
    have a':¬ es.toList.any (·.refKey)=true:=by rw [a]; exact Bool.false_ne_true
    rw [if_neg a']
    exact congrArg some e
theorem ObjM.look {h:Heap} {x dx C:Addr} {mA:Str→Option Value} (I:ObjM h x dx C mA):∃ od,PySem.W.InstAt h x (PySem.W.instObj C dx) C (some od)∧∀ name,PySem.W.lookIn name od=some (mA name) :=
  let ⟨od,ho,hl⟩:=lookIn_ns I.ns
  ⟨od,⟨I.obj,rfl,rfl,ho⟩,hl⟩
section
variable {prog:Program} {w:World} {A:Around} {E:Value→Shared→Prop} {s:Shared} {K:PySem.W.Frag} {x dx C f:Addr} {mA:Str→Option Value} {name:Str} {v:Value}
theorem get_map {expr:Bool} {Q:Value→Shared→Prop} (X:K.In s.heap) (I:ObjM s.heap x dx C mA) (hg:PySem.W.plainGet K C name=true) (hh:PySem.W.hasDictIn K C=true)
    (ha:PySem.W.findIn K (.ref C) name=some none) (hv:mA name=some v) (hv':PySem.W.handedIn v=true) (h:Q v { s with toks:=s.toks+1 }) :
    wpAny (model prog w) A (getAttr (.ref x) name expr) Q E s:=by
  obtain ⟨od,J,hl⟩:=I.look
  exact PySem.W.get_value X J (PySem.W.plainGet_of hg).1 (PySem.W.findObj_own hh ha rfl (by rw [hl,hv])) hv' h
theorem get_meth {pl:Sem Bool} {Q:Value × List Value→Shared→Prop} (X:K.In s.heap) (I:ObjM s.heap x dx C mA) (hg:PySem.W.plainGet K C name=true)
    (hf:PySem.W.findIn K (.ref C) name=some (some (.ref f))) (ht:PySem.W.isFn K (.ref f)=true) (hv:mA name=none) (h:Q (.ref f,[.ref x]) s) :
    wpAny (model prog w) A (getMethod (.ref x) name pl) Q E s:=by
  obtain ⟨od,J,hl⟩:=I.look
  exact PySem.W.method_fn X J (PySem.W.plainGet_of hg).1 (PySem.W.plainGet_of hg).2 hf (beq_iff_eq.mp ht) (by show (PySem.W.lookIn name od).map (·.isSome)=some false; rw [hl,hv]; rfl) h
theorem set_map {ns:List Str} {Q:Unit→Shared→Prop} (X:K.In s.heap) (I:ObjM s.heap x dx C mA)
    (hs:PySem.W.findIn K (.ref C) "__setattr__" = some (some (.builtin "object.__setattr__"))) (hp:PySem.W.plainOver K C=true) (ht:PySem.W.takerIn K C name=some none) (hh:PySem.W.hasDictIn K C=true)
    (hw:PySem.Within mA ns) (hsz:ns.length≤sizeLine)
    (h:∀ h',ObjM h' x dx C (fun y=>if y=name then some v else mA y)→Heap.SameBut dx s.heap h'→Q () { s with heap:=h',toks:=s.toks+2 }) :
    wpAny (model prog w) A (setAttr (.ref x) name v) Q E s:=by
  obtain ⟨od,J,hl⟩:=I.look
  refine PySem.W.set_plain X J hs (PySem.W.osa_open (s:={ s with toks:=s.toks+1 }) (r:=none) X J hp ht fun b=>?_)
  obtain ⟨cd,hc,hd'⟩:=PySem.W.any_some hh
  have hx:s.heap.get? x=some ⟨.ref C,some dx,.plain,#[]⟩:=I.obj
  refine wpAny_bind (wpAny_pure (wpAny_bind (wpAny_bind (wpAny_loadPart hx (wpAny_bind (PySem.W.Looks.here (s:={ s with toks:=s.toks+1 }) (PySem.W.looks_clsIn X hc) ?_))))))
  rw [hd']
  refine wpAny_pure (a:=some dx) (wpAny_bind (wpAny_pure (wpAny_bind ?_)))
  refine wpAny_nsSet1 (s:={ s with toks:=s.toks+1 }) I.ns fun h' hn2 hs2=>?_
  obtain ⟨oD,esD,epD,hoD,hdD,hcD⟩:=hn2.count (PySem.Within.cons name v hw)
  refine wpAny_bind (wpAny_lookBehind hoD (by rw [hdD]; exact pastItsLine_dict (Nat.le_trans hcD (by rw [List.length_cons]; omega))) ?_)
  exact wpAny_pure (h _ ⟨(hs2.2 _ (Ne.symm I.ne)).trans I.obj,hn2,I.ne⟩ hs2)
theorem make_map {R:Result→Shared→Prop} {vs:List Value} {kw:List (Str × Value)} (X:K.In s.heap) (hm:PySem.W.makesIn K C=true)
    (hi:PySem.W.findIn K (.ref C) "__init__" = some (some (.ref f))) (hf:PySem.W.typeIn K (.ref f)=some (.type "function"))
    (h:codeAny (model prog w) (A.under (.builtin "type.__call__" ⟨.ref C::vs,kw⟩)) (.call (.ref f) ⟨.ref (s.heap.objs.size+1)::vs,kw⟩) (PySem.W.InitBack (s.heap.objs.size+1) R)
      { s with heap:=(s.heap.push PySem.W.emptyDict).push (PySem.W.instObj C s.heap.objs.size) }) :
    codeAny (model prog w) A (.call (.ref C) ⟨vs,kw⟩) R s:=by
  obtain ⟨hh,g,d,t,os⟩:=s
  exact PySem.W.make_core (PySem.W.makes_of X hm) (PySem.W.looks_findIn X hi) (fun self=>PySem.W.bind_fn X self hf) (.inl rfl) h
end
noncomputable def putF (f:Str) (v:V):List (Str × V)→List (Str × V)
  | []=>[(f,v)]
  | (g,x)::r=>if g=f then (g,v)::r else (g,x)::putF f v r
theorem lookup_putF (f g:Str) (v:V):∀ fs:List (Str × V),(putF f v fs).lookup g=if g=f then some v else fs.lookup g
  | []=>by
    show List.lookup g [(f,v)]=_
    by_cases h:g=f
    · have hb:(g == f)=true:=beq_iff_eq.mpr h
      simp only [List.lookup,hb,if_pos h]
    · have hb:(g == f)=false:=beq_eq_false_iff_ne.mpr h
      simp only [List.lookup,hb,if_neg h]
  | (k,x)::r=>by
    have ih:=lookup_putF f g v r
    rw [show putF f v ((k,x)::r)=(if k=f then (k,v)::r else (k,x)::putF f v r) from rfl]
    by_cases hk:k=f
    · rw [if_pos hk]
      by_cases h:g=k
      · have hb:(g == k)=true:=beq_iff_eq.mpr h
        simp only [List.lookup,hb,if_pos (h.trans hk)]
      · have hb:(g == k)=false:=beq_eq_false_iff_ne.mpr h
        simp only [List.lookup,hb,if_neg (fun e:g=f=>h (e.trans hk.symm))]
    · rw [if_neg hk]
      by_cases h:g=k
      · have hb:(g == k)=true:=beq_iff_eq.mpr h
        simp only [List.lookup,hb,if_neg (fun e:g=f=>hk (h.symm.trans e))]
      · have hb:(g == k)=false:=beq_eq_false_iff_ne.mpr h
        simp only [List.lookup,hb]
        exact ih
theorem keys_putF (f:Str) (v:V):∀ fs:List (Str × V),f∈(putF f v fs).map (·.1)∧∀ g,g∈fs.map (·.1)→g∈(putF f v fs).map (·.1)
  | []=>⟨by simp [putF],fun g h=>by simp at h⟩
  | (k,x)::r=>by
    obtain ⟨i1,i2⟩:=keys_putF f v r
    rw [show putF f v ((k,x)::r)=(if k=f then (k,v)::r else (k,x)::putF f v r) from rfl]
    by_cases hk:k=f
    · rw [if_pos hk]
      subst hk
      exact ⟨by simp,fun g h=>by simpa using h⟩
    · rw [if_neg hk]
      refine ⟨?_,fun g h=>?_⟩
      · rw [List.map_cons]
        exact List.mem_cons_of_mem _ i1
      · rw [List.map_cons] at h ⊢
        rcases List.mem_cons.mp h with e | e
        · exact List.mem_cons.mpr (.inl e)
        · exact List.mem_cons_of_mem _ (i2 g e)
theorem length_putF (f:Str) (v:V):∀ fs:List (Str × V),(putF f v fs).length≤fs.length+1
  | []=>by simp [putF]
  | (k,x)::r=>by
    have ih:=length_putF f v r
    rw [show putF f v ((k,x)::r)=(if k=f then (k,v)::r else (k,x)::putF f v r) from rfl]
    by_cases hk:k=f
    · rw [if_pos hk,List.length_cons,List.length_cons]; omega
    · rw [if_neg hk,List.length_cons,List.length_cons]; omega
theorem RelO.some_of {v:V} {o:Option Value} (r:RelO (some v) o):∃ u,o=some u∧RelV v u:=by
  cases o with
  | none=>exact (show False from r).elim
  | some u=>exact ⟨u,rfl,r⟩
theorem RelO.none_of {o:Option Value} (r:RelO none o):o=none:=by
  cases o with
  | none=>rfl
  | some u=>exact (show False from r).elim
theorem handed_of {v:V} {u:Value} (r:RelV v u):PySem.W.handedIn u=true:=by
  cases v with
  | non=>cases (show u=Value.none from r); rfl
  | bl b=>cases (show u=Value.bool b from r); rfl
  | int i=>obtain ⟨t,e⟩:=(show ∃ t,u=Value.int i t from r); cases e; rfl
  | str x=>obtain ⟨t,e⟩:=(show ∃ t,u=Value.str x t from r); cases e; rfl
  | byt b=>obtain ⟨t,e⟩:=(show ∃ t,u=Value.bytes b t from r); cases e; rfl
  | flt b=>obtain ⟨t,e⟩:=(show ∃ t,u=Value.float b t from r); cases e; rfl
  | ref a=>cases (show u=Value.ref a from r); rfl
  | ty n=>cases (show u=Value.type n from r); rfl
section
variable {P:Program} {w:World} {H H':Hp} {h h':Heap} {a C dx:Addr} {fs fs':List (Str × V)}
theorem ins_get (hok:HOk P w H h) (e:H a=some (.ins C dx fs)):∃ mA,ObjM h a dx C mA∧(∀ f,RelO (fs.lookup f) (mA f))∧PySem.Within mA (fs.map (·.1))∧fs.length≤1000∧H dx=some (.own a):=by
  obtain ⟨d,z,ne,ob,mA,n,r,q⟩:=(show ObjOk P w H h a (.ins C dx fs) from hok a _ e)
  exact ⟨mA,⟨ob,n,ne⟩,r,q,z,d⟩
end
structure Cls (K:PySem.W.Frag) (C:Addr):Prop where
  pg:PySem.W.plainGet K C Str.empty=true
  hd:PySem.W.hasDictIn K C=true
  po:PySem.W.plainOver K C=true
  sa:PySem.W.findIn K (.ref C) "__setattr__" = some (some (.builtin "object.__setattr__"))
theorem Cls.get {K:PySem.W.Frag} {C:Addr} (c:Cls K C) (f:Str):PySem.W.plainGet K C f=true:=c.pg
noncomputable def NoAttr (K:PySem.W.Frag) (C:Addr) (f:Str):Prop:=PySem.W.findIn K (.ref C) f=some none
theorem NoAttr.taker {K:PySem.W.Frag} {C:Addr} {f:Str} (n:NoAttr K C f):PySem.W.takerIn K C f=some none:=by
  unfold PySem.W.takerIn
  rw [show PySem.W.findIn K (.ref C) f=some none from n]
  rfl
structure Meth (K:PySem.W.Frag) (C:Addr) (m:Str) (f:Addr):Prop where
  at_:PySem.W.findIn K (.ref C) m=some (some (.ref f))
  fn:PySem.W.isFn K (.ref f)=true
  kp:PySem.W.keepIn K (.ref f)=true
section
variable {X:Cx} {pins:List (Addr × Obj)} {σ:St} {H:Hp} {s:Shared} {a C dx:Addr} {fs:List (Str × V)} {f:Str} {v:V} {A:Around} {E:Value→Shared→Prop}
theorem getattr_ok {b:Bool} {Q:Value→Shared→Prop} (I:Inv X pins σ H s) (e:H a=some (.ins C dx fs)) (c:Cls X.K C) (n:NoAttr X.K C f) (l:fs.lookup f=some v)
    (h:∀ u s',Inv X pins σ H s'→RelV v u→Q u s'):wpAny (model X.prog X.w) A (getAttr (.ref a) f b) Q E s:=by
  obtain ⟨mA,O,r,_,_,_⟩:=ins_get I.hok e
  obtain ⟨u,hu,ru⟩:=RelO.some_of (v:=v) (o:=mA f) (by rw [← l]; exact r f)
  exact get_map I.kIn O (c.get f) c.hd n hu (handed_of ru) (h u _ (I.tok _) ru)
theorem getmeth_ok {m:Str} {g:Addr} {pl:Sem Bool} {Q:Value × List Value→Shared→Prop} (I:Inv X pins σ H s) (e:H a=some (.ins C dx fs)) (c:Cls X.K C) (k:Meth X.K C m g) (l:fs.lookup m=none)
    (h:Q (.ref g,[.ref a]) s):wpAny (model X.prog X.w) A (getMethod (.ref a) m pl) Q E s:=by
  obtain ⟨mA,O,r,_,_,_⟩:=ins_get I.hok e
  have hn:mA m=none:=RelO.none_of (by rw [← l]; exact r m)
  exact get_meth I.kIn O (c.get m) k.at_ k.fn hn h
theorem setattr_ok {y:V} {u:Value} {Q:Unit→Shared→Prop} (I:Inv X pins σ H s) (e:H a=some (.ins C dx fs)) (c:Cls X.K C) (n:NoAttr X.K C f) (hl:fs.length < 1000) (ry:RelV y u)
    (h:∀ s',Inv X pins σ (upd H a (.ins C dx (putF f y fs))) s'→Q () s'):wpAny (model X.prog X.w) A (setAttr (.ref a) f u) Q E s:=by
  obtain ⟨mA,O,r,wi,_,ho⟩:=ins_get I.hok e
  have hz:(fs.map (·.1)).length≤sizeLine:=by rw [List.length_map,sizeLine_eq]; omega
  refine set_map I.kIn O c.sa c.po n.taker c.hd wi hz fun h' O' sb=>h _ ?_
  have hd:∃ o,h'.get? dx=some o:=let ⟨o,_,_,e',_⟩:=O'.ns; ⟨o,e'⟩
  refine I.write (x:=a) (e:=dx) (by rw [e]; exact True.intro) (.inr ho) (fun b q hb z=>(sb.2 b hb).trans z) hd ?_
  refine ⟨by rw [upd_ne O.ne]; exact ho,?_,O.ne,O'.obj,_,O'.ns,fun g=>?_,fun g hg=>?_⟩
  · have:=length_putF f y fs; omega
  · show RelO ((putF f y fs).lookup g) (if g=f then some u else mA g)
    rw [lookup_putF]
    by_cases q:g=f
    · rw [if_pos q,if_pos q]; exact ry
    · rw [if_neg q,if_neg q]; exact r g
  · by_cases q:g=f
    · rw [q]; exact (keys_putF f y fs).1
    · refine (keys_putF f y fs).2 g (wi g fun z=>hg ?_)
      show (if g=f then some u else mA g)=none
      rw [if_neg q]; exact z
theorem Inv.made (I:Inv X pins σ H s):Inv X pins σ (upd (upd H s.heap.objs.size (.own (s.heap.objs.size+1))) (s.heap.objs.size+1) (.ins C s.heap.objs.size []))
    { s with heap:=(s.heap.push PySem.W.emptyDict).push (PySem.W.instObj C s.heap.objs.size) }:=by
  have e1:(s.heap.push PySem.W.emptyDict).get? s.heap.objs.size=some PySem.W.emptyDict:=Heap.get?_push_size s.heap rfl
  have e2:((s.heap.push PySem.W.emptyDict).push (PySem.W.instObj C s.heap.objs.size)).get? (s.heap.objs.size+1)=some (PySem.W.instObj C s.heap.objs.size):=by
    have:=Heap.get?_push_size (s.heap.push PySem.W.emptyDict) (o:=PySem.W.instObj C s.heap.objs.size) rfl
    rwa [Heap.size_push] at this
  have e3:(s.heap.push PySem.W.emptyDict).Ns s.heap.objs.size (fun _=>none):=⟨PySem.W.emptyDict,#[],_,e1,rfl,(fun e he=>absurd he (by simp)),fun _=>rfl⟩
  have I1:=I.laid (a:=s.heap.objs.size) (o:=.own (s.heap.objs.size+1)) (h':=s.heap.push PySem.W.emptyDict) (t':=s.toks) (fun b u q=>Heap.get?_push_of_some _ q) (Nat.le_refl _) ⟨_,e1⟩
  refine I1.laid (a:=s.heap.objs.size+1) (o:=.ins C s.heap.objs.size []) (t':=s.toks) (fun b u q=>Heap.get?_push_of_some _ q) (Nat.le_of_eq (Heap.size_push _ _)) ?_
  have ne:s.heap.objs.size≠s.heap.objs.size+1:=Nat.ne_of_lt (Nat.lt_succ_self _)
  refine ⟨by rw [upd_ne ne,upd_same],Nat.zero_le _,ne,e2,fun _=>none,(Heap.Ns1.of_empty e3).at fun o q=>Heap.get?_push_of_some _ q,fun _=>True.intro,fun y hy=>absurd rfl hy⟩
theorem attr_of {prog:Program} {w:World} {env:Env} {e:Expr} {f:Str} {pos:Pos} {s:Shared} {Q:Value→Shared→Prop} (hb:attributeBase e f env (eval e env)=eval e env)
    (h:wpAny (model prog w) A (eval e env) (fun o s₁=>wpAny (model prog w) A (getAttr o f true) Q E s₁) E s):wpAny (model prog w) A (eval (.Attribute e f pos) env) Q E s :=
  Attribute_any_ h (by rw [arm_eval_Attribute,hb])
end
noncomputable def tFld (K:PySem.W.Frag) (ta:TE) (f:Str):TE:=fun σ H Q=>ta σ H fun x H1=>∃ a C dx fs v,x = .ref a∧H1 a=some (.ins C dx fs)∧Cls K C∧NoAttr K C f∧fs.lookup f=some v∧Q v H1
noncomputable def sFld (K:PySem.W.Frag) (ta tv:TE) (f:Str):TS:=fun D σ H=>tv σ H fun y H1=>ta σ H1 fun x H2=>∃ a C dx fs,x = .ref a∧H2 a=some (.ins C dx fs)∧Cls K C∧NoAttr K C f∧fs.length < 1000 ∧
  D.nx σ (upd H2 a (.ins C dx (putF f y fs)))
section
variable {X:Cx} {o e value:Expr} {f:Str} {pos pos' tpos:Pos} {ta tv:TE}
theorem pe_fld (he:PE X e ta) (hb:attributeBase e f X.env (eval e X.env)=eval e X.env):PE X (.Attribute e f pos) (tFld X.K ta f):=by
  intro pins s σ H Q I h
  refine attr_of hb (thn (he pins s σ H _ I h) fun u s1 ⟨x,H1,I1,rx,a,C,dx,fs,v,ex,ea,c,n,l,q⟩=>?_)
  subst ex
  obtain rfl:u=Value.ref a:=rx
  exact getattr_ok I1 ea c n l fun u' s2 I2 ru=>⟨v,H1,I2,ru,q⟩
theorem ps_fld (ha:PE X o ta) (hv:PE X value tv) (hs:swapsWith value (some (.Attribute o f pos')) pos.line X.env=pure false):PS X (.Assign [.Attribute o f pos'] value pos) (sFld X.K ta tv f):=by
  intro pins s σ H D I h
  refine plainObj_wpAny_Assign_Attribute (thn (hv pins s σ H _ I h) fun u s1 ⟨y,H1,I1,ry,q⟩=>thn (ha pins s1 σ H1 _ I1 q) fun ov s2 ⟨x,H2,I2,rx,a,C,dx,fs,ex,ea,c,n,l,q2⟩=>?_) hs
  subst ex
  obtain rfl:ov=Value.ref a:=rx
  exact setattr_ok I2 ea c n l ry fun s3 I3=>⟨σ,_,I3,q2⟩
theorem methcall_of {pl:Sem Bool} {m:Str} {apos:Pos} {args:List Expr} {pins:List (Addr × Obj)} {s:Shared} {σ:St} {H:Hp} {Q:Value→Shared→Prop} {te:TE} (he:PE X e te) (I:Inv X pins σ H s)
    (h:te σ H fun x H1=>∃ a C dx fs g,x = .ref a∧H1 a=some (.ins C dx fs)∧Cls X.K C∧Meth X.K C m g∧fs.lookup m=none ∧
      ∀ s1,Inv X pins σ H1 s1→wpAny (model X.prog X.w) X.A (callWith pos (.ref g) [.ref a] (backTo pos (starEach args X.env)) (backToKw pos (keywordEach [] X.env))) Q X.xe s1)
    (ht:eval (.Call (.Attribute e m apos) args [] pos) X.env=(do
      let ov ← eval e X.env
      standAt apos.atName
      let (f,first) ← holding [ov] (getMethod ov m pl)
      callWith pos f first (backTo pos (starEach args X.env)) (backToKw pos (keywordEach [] X.env)))) :
    wpAny (model X.prog X.w) X.A (eval (.Call (.Attribute e m apos) args [] pos) X.env) Q X.xe s:=by
  refine PySem.W.methodCall_KW (pl:=pl) (thn (he pins s σ H _ I h) fun u s1 ⟨x,H1,I1,rx,a,C,dx,fs,g,ex,ea,c,k,l,q⟩=>?_) ht
  subst ex
  obtain rfl:u=Value.ref a:=rx
  exact getmeth_ok I1 ea c k l (q s1 I1)
end
section
variable {X:Cx} {pins:List (Addr × Obj)} {σ:St} {H:Hp} {s:Shared} {A:Around} {E:Value→Shared→Prop} {Q:Value→Shared→Prop} {c:Value} {b:Bool}
inductive TyOf (K:PySem.W.Frag) (H:Hp):V→Value→Prop where
  | non:TyOf K H .non (.type "NoneType")
  | bl (x:Bool):TyOf K H (.bl x) (.type "bool")
  | int (i:Int):TyOf K H (.int i) (.type "int")
  | str (x:Str):TyOf K H (.str x) (.type "str")
  | flt (x:UInt64):TyOf K H (.flt x) (.type "float")
  | lst {a:Addr} {xs:List V} (e:H a=some (.lst xs)):TyOf K H (.ref a) (.type "list")
  | frz {a:Addr} {o:Obj} {xs:List V} (e:H a=some (.frz o (.lst xs))):TyOf K H (.ref a) (.type "list")
  | tup {a:Addr} {xs:List V} (e:H a=some (.tup xs)):TyOf K H (.ref a) (.type "tuple")
  | dK {a:Addr} {kvs:List (Key × V)} (e:H a=some (.dK kvs)):TyOf K H (.ref a) (.type "dict")
  | dT {a:Addr} {kvs:List (List Key × V)} (e:H a=some (.dT kvs)):TyOf K H (.ref a) (.type "dict")
  | ins {a C dx:Addr} {fs:List (Str × V)} (e:H a=some (.ins C dx fs)) (cl:Cls K C) (ha:PySem.W.findIn K (.ref C) "__class__" = some (some (.builtin "object.__class__")))
      (hn:PySem.W.specialIn K (.builtin "object.__class__") "__get__" = some (some (.builtin "getset_descriptor.__get__"))) (htk:PySem.W.takesIn K (.builtin "object.__class__")=some true)
      (hm:PySem.W.mroIn K C (.type "object")=some true):TyOf K H (.ref a) (.ref C)
theorem isinst_ok {x:V} {u t:Value} (I:Inv X pins σ H s) (rx:RelV x u) (ty:TyOf X.K H x t) (e:PySem.W.kitOne X.K t c=some b) (h:∀ tk,Q (.bool b) { s with toks:=tk }) :
    wpAny (model X.prog X.w) A (call (.builtin "isinstance") [u,c]) Q E s:=by
  cases ty with
  | non=>cases (show u=Value.none from rx); exact PySem.W.kia_one PySem.W.kitx_none I.kIn True.intro e (fun z=>nomatch z) h
  | bl y=>cases (show u=Value.bool y from rx); exact PySem.W.kia_one PySem.W.kitx_bool I.kIn True.intro e (fun z=>nomatch z) h
  | int i=>obtain ⟨t,q⟩:=(show ∃ t,u=Value.int i t from rx); cases q; exact PySem.W.kia_one PySem.W.kitx_int I.kIn True.intro e (fun z=>nomatch z) h
  | str y=>obtain ⟨t,q⟩:=(show ∃ t,u=Value.str y t from rx); cases q; exact PySem.W.kia_one PySem.W.kitx_str I.kIn True.intro e (fun z=>nomatch z) h
  | flt y=>obtain ⟨t,q⟩:=(show ∃ t,u=Value.float y t from rx); cases q; exact PySem.W.kia_one PySem.W.kitx_float I.kIn True.intro e (fun z=>nomatch z) h
  | @lst a xs ea =>
    cases (show u=Value.ref a from rx)
    obtain ⟨_,_,n,_,h1⟩:=(show ObjOk X.prog X.w H s.heap a (.lst xs) from I.hok a _ ea)
    exact PySem.W.kia_one PySem.W.kitx_list I.kIn ⟨_,h1,rfl⟩ e (fun z=>nomatch z) h
  | @frz a ob xs ea =>
    cases (show u=Value.ref a from rx)
    obtain ⟨_,_,_,n,_,h1⟩:=(show ObjOk X.prog X.w H s.heap a (.frz ob (.lst xs)) from I.hok a _ ea)
    exact PySem.W.kia_one PySem.W.kitx_list I.kIn ⟨_,h1,rfl⟩ e (fun z=>nomatch z) h
  | @tup a xs ea =>
    cases (show u=Value.ref a from rx)
    obtain ⟨_,_,_,p⟩:=(show ObjOk X.prog X.w H s.heap a (.tup xs) from I.hok a _ ea)
    obtain ⟨o,h1,h2,_⟩:=p
    exact PySem.W.kia_one PySem.W.kitx_tuple I.kIn ⟨o,h1,h2⟩ e (fun z=>nomatch z) h
  | @dK a kvs ea =>
    cases (show u=Value.ref a from rx)
    obtain ⟨_,_,vs,_,p⟩:=(show ObjOk X.prog X.w H s.heap a (.dK kvs) from I.hok a _ ea)
    obtain ⟨o,es,ep,h1,h2,_⟩:=p
    exact PySem.W.kia_one PySem.W.kitx_dict I.kIn ⟨o,h1,h2.1⟩ e (fun z=>nomatch z) h
  | @dT a kvs ea =>
    cases (show u=Value.ref a from rx)
    obtain ⟨_,_,xs,_,o,es,ep,h1,h2,_⟩:=(show ObjOk X.prog X.w H s.heap a (.dT kvs) from I.hok a _ ea)
    exact PySem.W.kia_one PySem.W.kitx_dict I.kIn ⟨o,h1,h2.1⟩ e (fun z=>nomatch z) h
  | @ins a C dx fs ea cl ha hn htk hm =>
    cases (show u=Value.ref a from rx)
    obtain ⟨mA,O,_⟩:=ins_get I.hok ea
    obtain ⟨od,J,_⟩:=O.look
    exact PySem.W.kia_one (PySem.W.kitx_own (cl.get _) cl.hd ha hn htk hm) I.kIn J e (fun z=>nomatch z) h
end
end L2
namespace L2
open PySem PySem.Spec PyProof.Rows
structure Room (k:Nat) (A:Around):Prop where
  hd:A.handled=none
  dp:A.depth+3*k+5 < recursionLimit
  un:A.units+16*k+200 < cLine
theorem Room.mono {j k:Nat} {A:Around} (r:Room k A) (h:j≤k):Room j A:=⟨r.hd,by have:=r.dp; omega,by have:=r.un; omega⟩
theorem Room.deeper {k:Nat} {A:Around} (r:Room (k+1) A) (env:Env):Room k (A.deeper env) :=
  ⟨r.hd,by have:=r.dp; show A.depth+1+3*k+5 < _; omega,by have:=r.un; show A.units+3+16*k+200 < _; omega⟩
theorem make_depth {A:Around} {C:Addr} {us:List Value} {kw:List (Str × Value)}:(A.under (.builtin "type.__call__" ⟨.ref C::us,kw⟩)).depth=A.depth+1:=by
  first | rfl | simp [Around.under,Code.weight,Code.isCreation,Code.isGuard,Code.isCaller,Code.frames,Code.isFrame,guardIds]
theorem make_units {A:Around} {C:Addr} {us:List Value} {kw:List (Str × Value)}:(A.under (.builtin "type.__call__" ⟨.ref C::us,kw⟩)).units=A.units+1:=by
  first | rfl | simp [Around.under,Code.cUnits,Code.frames,Code.isFrame]
theorem Room.make {k:Nat} {A:Around} (r:Room (k+1) A) (C:Addr) (us:List Value) (kw:List (Str × Value)):Room k (A.under (.builtin "type.__call__" ⟨.ref C::us,kw⟩)) :=
  ⟨r.hd,by have:=r.dp; rw [make_depth]; omega,by have:=r.un; rw [make_units]; omega⟩
theorem Room.depth {k:Nat} {A:Around} (r:Room k A):A.depth < recursionLimit:=by have:=r.dp; omega
noncomputable def tNil:TA:=fun _ H Q=>Q [] H
noncomputable def tCons (ta:TE) (tr:TA):TA:=fun σ H Q=>ta σ H fun x H1=>tr σ H1 fun xs H2=>Q (x::xs) H2
section
variable {X:Cx} {e:Expr} {es:List Expr} {te:TE} {t:TA} {pos:Pos}
theorem pa_nil:PA X [] tNil:=fun _ _ _ _ H Q I h=>Calls.spliced_nil ⟨[],H,I,.nil,h⟩
theorem pa_cons (ha:PE X e te) (hr:PA X es t) (hs:starEach (e::es) X.env=(false,eval e X.env)::starEach es X.env:=by rfl):PA X (e::es) (tCons te t):=by
  intro pos pins s σ H Q I h
  rw [hs]
  show wpAny _ _ (spliced ((false,eval e X.env)::backTo pos (starEach es X.env))) _ _ s
  refine Calls.spliced_cons (thn (ha pins s σ H _ I h) fun u s1 ⟨x,H1,I1,r1,q1⟩=>?_)
  exact thn (hr pos pins s1 σ H1 _ I1 q1) fun us s2 ⟨xs,H2,I2,r2,q2⟩=>⟨x::xs,H2,I2,.cons r1 r2,q2⟩
noncomputable def tTup (t:TA):TE:=fun σ H Q=>t σ H fun xs H1=>xs.length≤sizeLine∧∀ p,H1 p=none→Q (.ref p) (upd H1 p (.tup xs))
noncomputable def tLst (t:TA):TE:=fun σ H Q=>t σ H fun xs H1=>xs.length≤sizeLine∧∀ p,H1 p=none→Q (.ref p) (upd H1 p (.lst xs))
theorem pe_tup {x1} (h:PA X es t):PE X (.Tuple es x1 pos) (tTup t):=by
  intro pins s σ H Q I hq
  refine wpAny_Tuple_spliced (thn (h pos pins s σ H _ I hq) fun us s1 ⟨xs,H1,I1,r,z,q⟩=>⟨by rw [← r.length]; exact z,?_⟩)
  have hf:H1 s1.heap.objs.size=none:=I1.hok.fresh (Nat.le_refl _)
  refine ⟨.ref s1.heap.objs.size,upd H1 s1.heap.objs.size (.tup xs),I1.laid (t':=s1.toks) (fun b u e=>Heap.get?_push_of_some _ e) (Nat.le_refl _) ?_,rfl,q _ hf⟩
  exact ⟨z,us,r,⟨_,Heap.get?_push_size _ rfl,rfl,_,rfl⟩⟩
theorem pe_lst (h:PA X es t):PE X (.List es pos) (tLst t):=by
  intro pins s σ H Q I hq
  refine wpAny_List_spliced (thn (h pos pins s σ H _ I hq) fun us s1 ⟨xs,H1,I1,r,z,q⟩=>⟨by rw [← r.length]; exact z,?_⟩)
  have hf:H1 s1.heap.objs.size=none:=I1.hok.fresh (Nat.le_refl _)
  refine ⟨.ref s1.heap.objs.size,upd H1 s1.heap.objs.size (.lst xs),I1.laid (t':=s1.toks) (fun b u e=>Heap.get?_push_of_some _ e) (Nat.le_refl _) ?_,rfl,q _ hf⟩
  exact ⟨z,us,0,r,Heap.get?_push_size _ rfl⟩
end
noncomputable abbrev Sp:=List V→Hp→VK→XK→Prop
noncomputable abbrev CXT:=List Env→Hp→Shared→XK→Value→Shared→Prop
structure Env0 (P:Program) (w:World) (K:PySem.W.Frag) (mg:Str→Option Value) (base:Heap) (A:Around) (outer:List Env) (s:Shared) (H:Hp):Prop where
  frames:A.frames=some outer
  mod:Mod K mg base
  bs:∀ b o,base.get? b=some o→s.heap.get? b=some o∧H b=none
  bsz:base.objs.size≤s.heap.objs.size
  funs:s.heap.FunFrames base outer
  frf:∀ b∈frs outer,H b=none
  hok:HOk P w H s.heap
  bare:AllBare s.gens
noncomputable def CE (outer:List Env) (P:Program) (w:World) (H:Hp) (s:Shared) (Q:VK) (u:Value) (s':Shared):Prop :=
  ∃ v H',s'.os=s.os∧AllBare s'.gens∧Un (frs outer) [] H H' s.heap s'.heap∧HOk P w H' s'.heap∧RelV v u∧Q v H'
noncomputable def CR (CX:CXT) (outer:List Env) (P:Program) (w:World) (H:Hp) (s:Shared) (Q:VK) (E:XK) (r:Result) (s':Shared):Prop :=
  match r with
  | .ok (.ret u)=>CE outer P w H s Q u s'
  | .ok _=>False
  | .error e=>CX outer H s E e s'
structure FnOk (P:Program) (w:World) (K:PySem.W.Frag) (mg:Str→Option Value) (base:Heap) (CX:CXT) (k:Nat) (f:Addr) (fd:FuncData) (ps:List Str) (sp:Sp):Prop where
  len:∀ vs H Q E,sp vs H Q E→vs.length=ps.length
  run:∀ (A:Around) (outer:List Env) (s:Shared) (H:Hp) (args:Args) (us:List Value) (vs:List V) (Q:VK) (E:XK),Room k A→Env0 P w K mg base A outer s H→BindsTo s fd args (ps.zip us)→Vals vs us→sp vs H Q E →
    codeAny (model P w) A (.call (.ref f) args) (CR CX outer P w H s Q E) s
theorem Env0.make {P:Program} {w:World} {K:PySem.W.Frag} {mg:Str→Option Value} {base:Heap} {A:Around} {outer:List Env} {s:Shared} {H:Hp} (e:Env0 P w K mg base A outer s H) (C:Addr) (us:List Value) (kw:List (Str × Value)) :
    Env0 P w K mg base (A.under (.builtin "type.__call__" ⟨.ref C::us,kw⟩)) outer s H:=⟨by first | exact e.frames | (simpa [Around.under,Code.envs,Code.isFrame,pushEnvs] using e.frames),e.mod,e.bs,e.bsz,e.funs,e.frf,e.hok,e.bare⟩
section
variable {X:Cx} {pins:List (Addr × Obj)} {σ:St} {H:Hp} {s s':Shared}
theorem Inv.env0 (I:Inv X pins σ H s):Env0 X.prog X.w X.K X.mg X.base X.A X.stack s H :=
  ⟨I.ok.frames,I.ok.mod,I.bs,Nat.le_trans I.ok.bsz I.sz,I.stack,I.stkFree,I.hok,I.bare⟩
theorem Inv.after {Q:VK} {u:Value} (I:Inv X pins σ H s) (h:CE X.stack X.prog X.w H s Q u s'):EP X pins σ Q u s':=by
  obtain ⟨v,H',os,bare,un,hok,r,q⟩:=h
  obtain ⟨hh,g,d,t,os'⟩:=s'
  obtain rfl:os'=s.os:=os
  exact ⟨v,H',I.call (h':=hh) (g':=g) (d':=d) (t':=t) (ch:=[]) un hok bare (fun b z=>absurd z (by simp)),r,q⟩
end
noncomputable def tCall (sp:Sp) (dvs:List V) (E:XK) (t:TA):TE:=fun σ H Q=>t σ H fun vs H1=>sp (vs++dvs) H1 Q E
noncomputable def tMeth (C:Addr) (m:Str) (sp:Sp) (dvs:List V) (E:XK) (ta:TE) (t:TA):TE:=fun σ H Q=>ta σ H fun x H1=>∃ a dx fs,x = .ref a∧H1 a=some (.ins C dx fs)∧fs.lookup m=none ∧
  t σ H1 fun vs H2=>sp (x::(vs++dvs)) H2 Q E
noncomputable def tMake (C:Addr) (sp:Sp) (dvs:List V) (E:XK) (t:TA):TE:=fun σ H Q=>t σ H fun vs H1=>∀ x dx,H1 x=none→H1 dx=none→dx≠x →
  sp (.ref x::(vs++dvs)) (upd (upd H1 dx (.own x)) x (.ins C dx [])) (fun v H2=>v = .non∧Q (.ref x) H2) E
noncomputable def Binds (K:PySem.W.Frag) (fd:FuncData) (ps:List Str) (ds:List Value):Prop :=
  ∀ (s:Shared) (us:List Value),K.In s.heap→(us++ds).length=ps.length→BindsTo s fd ⟨us,[]⟩ (ps.zip (us++ds))
theorem Binds.all {K:PySem.W.Frag} {fd:FuncData} {ps:List Str} (h:∀ us:List Value,us.length=ps.length→bindArgs fd ⟨us,[]⟩=pure (ps.zip us)):Binds K fd ps []:=fun s us _ hl=>by
  rw [List.append_nil] at hl ⊢
  exact .of_eq (h us hl)
noncomputable def Passes (CX:CXT) (X:Cx) (E:XK):Prop:=∀ (pins:List (Addr × Obj)) (σ:St) (H:Hp) (s:Shared) (e:Value) (s':Shared),Inv X pins σ H s→CX X.stack H s E e s'→X.xe e s'
section
variable {X:Cx} {CX:CXT} {k:Nat} {f C:Addr} {fd:FuncData} {ps:List Str} {sp:Sp} {dvs:List V} {ds:List Value} {E:XK} {x m:Str} {p pos apos:Pos} {e o:Expr} {es:List Expr} {ta:TE} {t:TA}
theorem run_fn {pins:List (Addr × Obj)} {σ:St} {H:Hp} {s:Shared} {Q:VK} {us:List Value} {vs:List V} (F:FnOk X.prog X.w X.K X.mg X.base CX k f fd ps sp) (hr:Room k X.A) (hb:Binds X.K fd ps ds) (hd:Vals dvs ds) (hx:Passes CX X E)
    (I:Inv X pins σ H s) (r:Vals vs us) (h:sp (vs++dvs) H Q E):wpAny (model X.prog X.w) X.A (call (.ref f) us) (EP X pins σ Q) X.xe s:=by
  have r2:Vals (vs++dvs) (us++ds):=r.append hd
  have hl:(us++ds).length=ps.length:=by rw [← r2.length]; exact F.len _ _ _ _ h
  refine wpAny_call (codeAny_mono (F.run X.A X.stack s H ⟨us,[]⟩ (us++ds) (vs++dvs) Q E hr I.env0 (hb s us I.kIn hl) r2 h) fun r s' hq=>?_)
  cases r with
  | error e=>exact hx pins σ H s e s' I hq
  | ok fl =>
    cases fl with
    | ret u=>exact I.after hq
    | next=>exact False.elim hq
    | brk=>exact False.elim hq
    | cont=>exact False.elim hq
theorem pe_call (F:FnOk X.prog X.w X.K X.mg X.base CX k f fd ps sp) (hr:Room k X.A) (hg:Gl X x) (hm:X.mg x=some (.ref f)) (hk:PySem.W.keepIn X.K (.ref f)=true) (hb:Binds X.K fd ps ds) (hd:Vals dvs ds) (hx:Passes CX X E)
    (ha:PA X (e::es) t) (hdb:(x == ("__debug__" : Str))=false:=by decide) (he:starEach (e::es) X.env=(false,eval e X.env)::starEach es X.env:=by rfl) (hpl:(backTo pos (starEach es X.env)).any (·.1)=false:=by rfl) :
    PE X (.Call (.Name x p) (e::es) [] pos) (tCall sp dvs E t):=by
  intro pins s σ H Q I h
  refine wpAny_Call_Name_kw (ld_glob I hg hm ?_ hdb)
  refine PySem.W.callWith_K (h₀:=X.base) I.ok.mod.kin hk (thn (ha pos pins s σ H _ I h) fun us s1 ⟨vs,H1,I1,r,q⟩=>⟨I1.kIn,?_⟩) he hpl
  exact run_fn F hr hb hd hx I1 r q
theorem pe_call0 (F:FnOk X.prog X.w X.K X.mg X.base CX k f fd ps sp) (hr:Room k X.A) (hg:Gl X x) (hm:X.mg x=some (.ref f)) (hk:PySem.W.keepIn X.K (.ref f)=true) (hb:Binds X.K fd ps ds) (hd:Vals dvs ds) (hx:Passes CX X E)
    (hdb:(x == ("__debug__" : Str))=false:=by decide):PE X (.Call (.Name x p) [] [] pos) (tCall sp dvs E tNil):=by
  intro pins s σ H Q I h
  refine wpAny_Call_Name_kw (ld_glob I hg hm ?_ hdb)
  exact PySem.W.callWith_K0 I.kIn hk (run_fn (us:=[]) F hr hb hd hx I .nil h)
theorem pe_meth {pl:Sem Bool} (he:PE X o ta) (c:Cls X.K C) (hm:Meth X.K C m f) (F:FnOk X.prog X.w X.K X.mg X.base CX k f fd ps sp) (hr:Room k X.A) (hb:Binds X.K fd ps ds) (hd:Vals dvs ds) (hx:Passes CX X E) (ha:PA X (e::es) t)
    (hst:starEach (e::es) X.env=(false,eval e X.env)::starEach es X.env:=by rfl) (hpl:(backTo pos (starEach es X.env)).any (·.1)=false:=by rfl)
    (ht:eval (.Call (.Attribute o m apos) (e::es) [] pos) X.env=(do
      let ov ← eval o X.env
      standAt apos.atName
      let (f,first) ← holding [ov] (getMethod ov m pl)
      callWith pos f first (backTo pos (starEach (e::es) X.env)) (backToKw pos (keywordEach [] X.env))):=by rfl) :
    PE X (.Call (.Attribute o m apos) (e::es) [] pos) (tMeth C m sp dvs E ta t):=by
  intro pins s σ H Q I h
  refine PySem.W.methodCall_KW (pl:=pl) (thn (he pins s σ H _ I h) fun u s1 ⟨x,H1,I1,rx,a,dx,fs,ex,ea,l,q⟩=>?_) ht
  subst ex
  obtain rfl:u=Value.ref a:=rx
  refine getmeth_ok I1 ea c hm l ?_
  refine PySem.W.callWith_K (first:=[.ref a]) (h₀:=X.base) I.ok.mod.kin hm.kp (thn (ha pos pins s1 σ H1 _ I1 q) fun us s2 ⟨vs,H2,I2,r,q2⟩=>⟨I2.kIn,?_⟩) hst hpl
  exact run_fn (us:=.ref a::us) (vs:=.ref a::vs) F hr hb hd hx I2 (.cons rfl r) q2
structure Mk (K:PySem.W.Frag) (C f:Addr):Prop where
  makes:PySem.W.makesIn K C=true
  init:PySem.W.findIn K (.ref C) "__init__" = some (some (.ref f))
  fn:PySem.W.isFn K (.ref f)=true
  kp:PySem.W.keepIn K (.ref C)=true
theorem run_make {pins:List (Addr × Obj)} {σ:St} {H:Hp} {s:Shared} {Q:VK} {us:List Value} {vs:List V} (M:Mk X.K C f) (F:FnOk X.prog X.w X.K X.mg X.base CX k f fd ps sp) (hr:Room (k+1) X.A) (hb:Binds X.K fd ps ds) (hd:Vals dvs ds)
    (hx:Passes CX X E) (I:Inv X pins σ H s) (r:Vals vs us)
    (h:∀ x dx,H x=none→H dx=none→dx≠x→sp (.ref x::(vs++dvs)) (upd (upd H dx (.own x)) x (.ins C dx [])) (fun v H2=>v = .non∧Q (.ref x) H2) E) :
    wpAny (model X.prog X.w) X.A (call (.ref C) us) (EP X pins σ Q) X.xe s:=by
  have hq:=h (s.heap.objs.size+1) s.heap.objs.size (I.hok.fresh (Nat.le_succ _)) (I.hok.fresh (Nat.le_refl _)) (Nat.ne_of_lt (Nat.lt_succ_self _))
  have I2:=Inv.made (C:=C) I
  have r2:Vals (V.ref (s.heap.objs.size+1)::(vs++dvs)) (Value.ref (s.heap.objs.size+1)::(us++ds)):=.cons rfl (r.append hd)
  have hl:(Value.ref (s.heap.objs.size+1)::us++ds).length=ps.length:=by
    have e:=r2.length
    rw [F.len _ _ _ _ hq] at e
    exact e.symm
  refine wpAny_call (make_map (f:=f) I.kIn M.makes M.init (beq_iff_eq.mp M.fn) (codeAny_mono (F.run _ X.stack _ _ ⟨Value.ref (s.heap.objs.size+1)::us,[]⟩ (Value.ref (s.heap.objs.size+1)::(us++ds)) _ _ E (hr.make C us [])
    (I2.env0.make C us []) (hb _ (Value.ref (s.heap.objs.size+1)::us) I2.kIn hl) r2 hq) fun r s' hq'=>?_))
  cases r with
  | error e=>exact hx pins σ _ _ e s' I2 hq'
  | ok fl =>
    cases fl with
    | ret u =>
      obtain ⟨v,H',I3,rv,ev,q3⟩:=I2.after hq'
      subst ev
      exact ⟨rv,⟨V.ref (s.heap.objs.size+1),H',I3,rfl,q3⟩⟩
    | next=>exact False.elim hq'
    | brk=>exact False.elim hq'
    | cont=>exact False.elim hq'
theorem pe_make0 (M:Mk X.K C f) (F:FnOk X.prog X.w X.K X.mg X.base CX k f fd ps sp) (hr:Room (k+1) X.A) (hg:Gl X x) (hm:X.mg x=some (.ref C)) (hb:Binds X.K fd ps ds) (hd:Vals dvs ds) (hx:Passes CX X E)
    (hdb:(x == ("__debug__" : Str))=false:=by decide):PE X (.Call (.Name x p) [] [] pos) (tMake C sp dvs E tNil):=by
  intro pins s σ H Q I h
  refine wpAny_Call_Name_kw (ld_glob I hg hm ?_ hdb)
  exact PySem.W.callWith_K0 I.kIn M.kp (run_make (us:=[]) M F hr hb hd hx I .nil h)
end
noncomputable def PK (X:Cx) (kws:List Keyword) (t:TA):Prop :=
  ∀ (pos:Pos) (pins:List (Addr × Obj)) (s:Shared) (σ:St) (H:Hp) (Q:List V→Hp→Prop),Inv X pins σ H s→t σ H Q→wpAny (model X.prog X.w) X.A (evalAll ((backToKw pos (keywordEach kws X.env)).map (·.2))) (AP X pins σ Q) X.xe s
section
variable {X:Cx} {CX:CXT} {k:Nat} {f C:Addr} {fd:FuncData} {ps ks:List Str} {sp:Sp} {E:XK} {x m:Str} {p pos apos kpos:Pos} {e o:Expr} {es:List Expr} {kws:List Keyword} {te ta:TE} {t tk:TA} {nm:Option Str}
theorem pk_nil:PK X [] tNil:=fun _ _ _ _ H Q I h=>wpAny_evalAll_nil ⟨[],H,I,.nil,h⟩
theorem pk_cons (ha:PE X e te) (hr:PK X kws t):PK X (⟨nm,e,kpos⟩::kws) (tCons te t):=by
  intro pos pins s σ H Q I h
  show wpAny _ _ (evalAll ((do let v ← eval e X.env; standAt pos; pure v)::(backToKw pos (keywordEach kws X.env)).map (·.2))) _ _ s
  refine wpAny_evalAll_cons (wpAny_bind (thn (ha pins s σ H _ I h) fun u s1 ⟨x,H1,I1,r1,q1⟩=>wpAny_bind (wpAny_standAt (wpAny_pure ?_))))
  exact thn (hr pos pins s1 σ H1 _ I1 q1) fun us s2 ⟨xs,H2,I2,r2,q2⟩=>⟨x::xs,H2,I2,.cons r1 r2,q2⟩
variable {g:List Value→List Value→List Value} {gV:List V→List V→List V}
end
structure FnScope (N P:List Str) (sc:Scope):Prop where
  kind:sc.kind = .function
  co:sc.isCoroutine=false
  gen:sc.isGenerator=false
  nd:N.Nodup
  pre:N.take P.length=P
  par:∀ x∈P,sc.names.lookup x=some .local∨sc.names.lookup x=some .cell
  nofree:∀ y∈sc.names,y.2≠.free
theorem bindL_out {kindOf:Str→Option NameKind} {x:Str}:∀ {binds:List (Str × Value)} {m:Str→Option Value},(∀ v,(x,v)∉binds)→bindL kindOf binds m x=m x
  | [],_,_=>rfl
  | (n,v)::r,m,h=>by
    unfold bindL
    rw [bindL_out fun w hw=>h w (List.mem_cons_of_mem _ hw)]
    split
    · have:x≠n:=by rintro rfl; exact h v List.mem_cons_self
      simp [this]
    · rfl
theorem bindC_out {kindOf:Str→Option NameKind} {x:Str}:∀ {binds:List (Str × Value)} {m:Str→Option Value},(∀ v,(x,v)∉binds)→bindC kindOf binds m x=m x
  | [],_,_=>rfl
  | (n,v)::r,m,h=>by
    unfold bindC
    rw [bindC_out fun w hw=>h w (List.mem_cons_of_mem _ hw)]
    split
    · rfl
    · have:x≠n:=by rintro rfl; exact h v List.mem_cons_self
      simp [this]
theorem bindL_get {kindOf:Str→Option NameKind} {x:Str} {v:Value}:∀ {P:List Str} {vs:List Value} {i:Nat} {m:Str→Option Value},P.Nodup→P[i]? = some x→vs[i]? = some v→kindOf x=some .local →
    bindL kindOf (P.zip vs) m x=some v
  | [],_,_,_,_,h,_,_=>by simp at h
  | _::_,[],_,_,_,_,h,_=>by simp at h
  | p::P,w::vs,0,m,nd,h1,h2,hk=>by
    simp at h1 h2; subst h1; subst h2
    show bindL kindOf ((p,w)::P.zip vs) m p=_
    unfold bindL
    rw [bindL_out fun v hv=>(List.nodup_cons.mp nd).1 (List.of_mem_zip hv).1,if_pos hk]
    simp
  | p::P,w::vs,i+1,m,nd,h1,h2,hk=>by
    show bindL kindOf ((p,w)::P.zip vs) m x=_
    unfold bindL
    exact bindL_get (i:=i) (List.nodup_cons.mp nd).2 (by simpa using h1) (by simpa using h2) hk
theorem bindC_get {kindOf:Str→Option NameKind} {x:Str} {v:Value}:∀ {P:List Str} {vs:List Value} {i:Nat} {m:Str→Option Value},P.Nodup→P[i]? = some x→vs[i]? = some v→kindOf x≠some .local →
    bindC kindOf (P.zip vs) m x=some v
  | [],_,_,_,_,h,_,_=>by simp at h
  | _::_,[],_,_,_,_,h,_=>by simp at h
  | p::P,w::vs,0,m,nd,h1,h2,hk=>by
    simp at h1 h2; subst h1; subst h2
    show bindC kindOf ((p,w)::P.zip vs) m p=_
    unfold bindC
    rw [bindC_out fun v hv=>(List.nodup_cons.mp nd).1 (List.of_mem_zip hv).1,if_neg hk]
    simp
  | p::P,w::vs,i+1,m,nd,h1,h2,hk=>by
    show bindC kindOf ((p,w)::P.zip vs) m x=_
    unfold bindC
    exact bindC_get (i:=i) (List.nodup_cons.mp nd).2 (by simpa using h1) (by simpa using h2) hk
noncomputable def start (N:List Str) (vs:List V):St:=vs.map some++List.replicate (N.length - vs.length) none
noncomputable def cxOf (CX:CXT) (P:Program) (w:World) (K:PySem.W.Frag) (mg:Str→Option Value) (base:Heap) (N:List Str) (qual:Str) (scope:Scope) (f:Addr) (cd:Value) (A:Around) (outer:List Env) (s:Shared) (H:Hp) (E:XK):Cx where
  prog:=P
  w:=w
  K:=K
  mg:=mg
  base:=base
  A:=A.deeper (envOfC qual scope s.heap.objs.size f cd)
  N:=N
  s₀:=s
  H₀:=H
  env:=envOfC qual scope s.heap.objs.size f cd
  outer:=outer
  stack:=envOfC qual scope s.heap.objs.size f cd::outer
  ex:=[]
  calm:=true
  fn:=fun _=>true
  pn:=[]
  xe:=fun e s'=>wpAny (model P w) (A.deeper (envOfC qual scope s.heap.objs.size f cd)) (leaving (envOfC qual scope s.heap.objs.size f cd) e) (fun _ s''=>CX outer H s E e s'') (fun e' s''=>CX outer H s E e' s'') s'
theorem cell_has {sc:Scope} {n:Nat} {x:Str} (h:sc.names.lookup x=some .cell):∃ c,(cellsFrom n sc.names []).lookup x=some c:=by
  have q:=PySem.W.cellsFrom_some sc.names n [] (.inl h)
  exact Option.isSome_iff_exists.mp q
theorem inv_start {CX:CXT} {P:Program} {w:World} {K:PySem.W.Frag} {mg:Str→Option Value} {base:Heap} {N ps:List Str} {qual:Str} {scope:Scope} {f:Addr} {cd:Value} {A:Around} {outer:List Env} {s s1:Shared} {H:Hp} {E:XK} {us:List Value} {vs:List V}
    (S:FnScope N ps scope) (hd:A.handled=none) (e0:Env0 P w K mg base A outer s H) (hl:vs.length=ps.length) (r:Vals vs us)
    (x:InCallC s s.heap.objs.size (bindL (envOfC qual scope s.heap.objs.size f cd).kindOf (ps.zip us) fun _=>none) (cellsFrom (s.heap.objs.size+1) scope.names []) (bindC (envOfC qual scope s.heap.objs.size f cd).kindOf (ps.zip us) fun _=>none) s1) :
    Inv (cxOf CX P w K mg base N qual scope f cd A outer s H E) [] (start N vs) H s1:=by
  have hpl:ps.length≤N.length:=by have:=congrArg List.length S.pre; rw [List.length_take] at this; omega
  obtain ⟨h1,tk,rfl,hk⟩:=x.done
  have noA:∀ b:Addr,b∉(cxOf CX P w K mg base N qual scope f cd A outer s H E).ex:=fun b z=>absurd (show b∈([]:List Addr) from z) (by simp)
  refine ⟨⟨e0.mod,S.kind,rfl,rfl,Nat.le_refl _,fun y z c h1 h2=>?_,fun y hy=>?_,fun y c _ h=>?_,fun _=>hd,Around.frames_deeper e0.frames,.inr ⟨rfl,rfl⟩,fun b z=>absurd z (noA b),e0.bs,e0.bsz,fun b _ _=>noA b,fun b z=>absurd z (noA b),e0.funs,e0.frf⟩,
    rfl,e0.bare,Un.kept hk,⟨_,x.toInCall.ns,fun i y v h1 h2 h3=>?_⟩,fun y c h=>⟨_,x.cell y c h⟩,e0.hok.fresh (Nat.le_refl _),fun y c h=>?_,fun p hp=>absurd (show p∈([]:List (Addr × Obj)) from hp) (by simp),e0.hok.kept hk,?_⟩
  · exact name_of_addr x.apart (PySem.mem_of_lookup h1) (PySem.mem_of_lookup h2)
  · have hy:scope.names.lookup y=some .cell∨scope.names.lookup y=some .free:=hy
    rcases hy with hy | hy
    · exact cell_has hy
    · exact absurd rfl (S.nofree _ (PySem.mem_of_lookup hy))
  · exact Nat.le_of_lt (x.above y c (PySem.mem_of_lookup h))
  · have hi:i < vs.length:=by
      unfold start at h2
      by_cases hi:i < vs.length
      · exact hi
      · rw [List.getElem?_append_right (by simpa using hi)] at h2
        rw [List.getElem?_replicate] at h2
        split at h2<;>cases h2
    have ha:vs[i]? = some v:=by
      unfold start at h2
      rw [List.getElem?_append_left (by simpa using hi),List.getElem?_map] at h2
      cases e:vs[i]? with
      | none=>rw [e] at h2; cases h2
      | some a=>rw [e] at h2; cases h2; rfl
    obtain ⟨u,hu,rv⟩:=r.get ha
    have hp:ps[i]? = some y:=by
      rw [← S.pre,List.getElem?_take_of_lt (by omega)]; exact h1
    have ndP:ps.Nodup:=by rw [← S.pre]; exact S.nd.sublist (List.take_sublist _ _)
    refine ⟨u,rv,?_⟩
    rcases S.par y (List.mem_of_getElem? hp) with k | k
    · exact .inl ⟨k,bindL_get ndP hp hu k⟩
    · obtain ⟨c,e⟩:=cell_has (n:=s.heap.objs.size+1) k
      refine .inr ⟨.inl k,c,e,?_⟩
      have q:=x.cell y c e
      rw [bindC_get ndP hp hu (by show scope.names.lookup y≠_; rw [k]; decide)] at q
      exact q
  · exact e0.hok.fresh (Nat.le_of_lt (x.above y c (PySem.mem_of_lookup h)))
  · unfold start
    show _=N.length
    rw [List.length_append,List.length_map,List.length_replicate]
    omega
theorem fn_of {CX:CXT} {P:Program} {w:World} {K:PySem.W.Frag} {mg:Str→Option Value} {base:Heap} {k:Nat} {f:Addr} {name qual:Str} {params:Arguments} {body:List Stmt} {scope:Scope} {dV kV doc pm cdv ct oc:Value} {an od:Option Addr}
    {osl:Array (Option Value)} {N ps:List Str} {sp:Sp} (lk:K.lookup f=some ⟨oc,od,.func (PySem.W.fnOf name qual params body scope dV kV doc pm an cdv ct),osl⟩) (hcd:PySem.W.codeIn K cdv qual=true) (S:FnScope N ps scope)
    (len:∀ vs H Q E,sp vs H Q E→vs.length=ps.length)
    (hbody:∀ (A:Around) (outer:List Env) (s:Shared) (H:Hp) (vs:List V) (Q:VK) (E:XK),Room k (A.deeper (envOfC qual scope s.heap.objs.size f cdv))→sp vs H Q E →
      ∃ t,PSs (cxOf CX P w K mg base N qual scope f cdv A outer s H E) body t∧t { nx:=fun _ H'=>Q .non H',rt:=Q } (start N vs) H) :
    FnOk P w K mg base CX (k+1) f (PySem.W.fnOf name qual params body scope dV kV doc pm an cdv ct) ps sp:=by
  refine ⟨len,fun A outer s H args us vs Q E hr e0 hb r hsp=>?_⟩
  have hl:=len _ _ _ _ hsp
  have KX:K.In s.heap:=e0.mod.kin.keeps fun b o e=>(e0.bs b o e).1
  have lim:s.heap.NoLimit:=e0.mod.nolimit.keeps fun b o e=>(e0.bs b o e).1
  have hkind:∀ y∈ps.zip us,scope.names.lookup y.1=some .local∨(scope.names.lookup y.1=some .cell∧((cellsFrom (s.heap.objs.size+1) scope.names []).lookup y.1).isSome=true):=fun ⟨n,v⟩ hy=>by
    rcases S.par n (List.of_mem_zip hy).1 with q | q
    · exact .inl q
    · exact .inr ⟨q,PySem.W.cellsFrom_some _ _ _ (.inl q)⟩
  refine codeAny_call_function hr.depth (KX _ _ lk) rfl S.co S.gen rfl (PySem.W.codeRec_of KX hcd) (hb _ _ _ _ ?_)
  refine wpAny_newFunctionEnv_cells S.kind hkind fun env he s1 x=>?_
  subst he
  refine ⟨lim.keeps x.toInCall.keep,codeAny_func ?_⟩
  obtain ⟨t,ht,hq⟩:=hbody A outer s H vs Q E (hr.deeper _) hsp
  have I:Inv (cxOf CX P w K mg base N qual scope f cdv A outer s H E) [] (start N vs) H s1:=inv_start S hr.hd e0 hl r x
  refine wpAny_mono (ht [] s1 (start N vs) H _ I hq) (fun fl s' hs=>?_) fun e s' hs=>hs
  have fin:∀ {σ':St} {H':Hp} {v:V} {u:Value},Inv (cxOf CX P w K mg base N qual scope f cdv A outer s H E) [] σ' H' s'→RelV v u→Q v H'→CE outer P w H s Q u s' :=
    fun {σ' H' v u} J rv q=>⟨v,H',J.os,J.bare,J.base,J.hok,rv,q⟩
  cases fl with
  | ret u =>
    obtain ⟨v,σ',H',J,rv,q⟩:=hs
    exact fin J rv q
  | next =>
    obtain ⟨σ',H',J,q⟩:=hs
    exact fin (v:=V.non) (u:=Value.none) J rfl q
  | brk =>
    obtain ⟨_,_,_,q⟩:=hs
    exact False.elim q
  | cont =>
    obtain ⟨_,_,_,q⟩:=hs
    exact False.elim q
end L2
namespace L2
open PySem PySem.Spec PyProof.Rows
section
variable {X:Cx} {x:Str} {p pos:Pos} {e:Expr} {es:List Expr} {t:TA} {id T:String} {r:List V→Hp→VK→Prop}
noncomputable def tCB (r:List V→Hp→VK→Prop) (t:TA):TE:=fun σ H Q=>t σ H fun vs H1=>r vs H1 Q
theorem pe_callB (hc:CallR X (.builtin id) r) (hg:Gl X x) (hm:X.mg x=none) (hv:bootBuiltins x=some (.builtin id)) (ha:PA X (e::es) t) (hn:x≠"__name__":=by decide) (hdb:(x == ("__debug__" : Str))=false:=by decide)
    (he:starEach (e::es) X.env=(false,eval e X.env)::starEach es X.env:=by rfl) (hpl:(backTo pos (starEach es X.env)).any (·.1)=false:=by rfl):PE X (.Call (.Name x p) (e::es) [] pos) (tCB r t):=by
  intro pins s σ H Q I h
  refine wpAny_Call_Name_kw (ld_blt I hg hm hv ?_ hn hdb)
  exact PyProof.Rows.callWith_builtin1 (thn (ha pos pins s σ H _ I h) fun us s1 ⟨vs,H1,I1,r1,q1⟩=>hc pins s1 σ H1 vs us Q I1 r1 q1) he hpl
theorem pe_callTy (hc:CallR X (.type T) r) (hg:Gl X x) (hm:X.mg x=none) (hv:bootBuiltins x=some (.type T)) (ha:PA X (e::es) t) (hn:x≠"__name__":=by decide) (hdb:(x == ("__debug__" : Str))=false:=by decide)
    (he:starEach (e::es) X.env=(false,eval e X.env)::starEach es X.env:=by rfl) (hpl:(backTo pos (starEach es X.env)).any (·.1)=false:=by rfl):PE X (.Call (.Name x p) (e::es) [] pos) (tCB r t):=by
  intro pins s σ H Q I h
  refine wpAny_Call_Name_kw (ld_blt I hg hm hv ?_ hn hdb)
  exact PyProof.Rows.callWith_type1 (thn (ha pos pins s σ H _ I h) fun us s1 ⟨vs,H1,I1,r1,q1⟩=>hc pins s1 σ H1 vs us Q I1 r1 q1) he hpl
end
end L2
namespace HT
open PySem PyProof.Rows
section
open PySem.SeqAt
open PySem.AutoSeq1 (wpAny_loadPart')
open PySem.MeetsSeq PySem.MeetsSeq2 PySem.MeetsSeq3
end
section
variable {prog:Program} {w:World} {A:Around} {E:Value→Shared→Prop} {s:Shared}
noncomputable def sIx (n d:Nat):Option Int→Nat
  | none=>d
  | some v=>if v < 0 then (v+(n:Int)).toNat else min v.toNat n
end
end HT
namespace L2
open PySem PySem.Spec PyProof.Rows
noncomputable abbrev TO:=St→Hp→(Option Int→Hp→Prop)→Prop
noncomputable def PO (X:Cx) (e:Option Expr) (t:TO):Prop :=
  ∀ (pins:List (Addr × Obj)) (s:Shared) (σ:St) (H:Hp) (Q:Option Int→Hp→Prop),Inv X pins σ H s→t σ H Q →
    wpAny (model X.prog X.w) X.A (evalPart e X.env) (fun u s'=>∃ o H',Inv X pins σ H' s'∧IsPart u o∧Q o H') X.xe s
noncomputable def tNoPart:TO:=fun _ H Q=>Q none H
noncomputable def tPart (t:TE):TO:=fun σ H Q=>t σ H fun x H1=>∃ i,x = .int i∧Q (some i) H1
theorem intsAre_of {ns:List Int}:∀ {us:List Value},Vals (ns.map V.int) us→IntsAre us ns:=by
  induction ns with
  | nil=>intro us r; rw [List.map_nil] at r; cases r; exact .nil
  | cons n ns ih =>
    intro us r
    rw [List.map_cons] at r
    cases r with
    | cons r1 r2 =>
      obtain ⟨t,e⟩:=r1
      subst e
      exact .cons n t (ih r2)
section
variable {X:Cx} {e:Expr} {te:TE} {lo hi:Option Expr} {tl th:TO} {pos p2:Pos}
theorem po_none:PO X none tNoPart:=by
  intro pins s σ H Q I h
  rw [evalPart_none]
  exact wpAny_pure ⟨none,H,I,.none,h⟩
theorem po_some (h:PE X e te):PO X (some e) (tPart te):=by
  intro pins s σ H Q I hw
  rw [evalPart_some]
  refine thn (h pins s σ H _ I hw) fun u s1 ⟨x,H1,I1,r1,q1⟩=>?_
  obtain ⟨i,rfl,q⟩:=q1
  obtain ⟨t,rfl⟩:=r1
  exact ⟨some i,H1,I1,.int i t,q⟩
noncomputable def SlR (X:Cx) (r:V→Option Int→Option Int→Hp→VK→Prop):Prop :=
  ∀ (pins:List (Addr × Obj)) (s:Shared) (σ:St) (H:Hp) (x:V) (v vl vu:Value) (lo hi:Option Int) (sl:Addr) (Q:VK),Inv X pins σ H s→RelV x v→s.heap.IsSliceOf sl vl vu .none→IsPart vl lo→IsPart vu hi→r x lo hi H Q →
    ∃ T id,typeLookup (.type T) "__getitem__" = pure (some (.builtin id))∧s.TypeIs v T∧wpAny (model X.prog X.w) X.A (getItem v (.ref sl)) (EP X pins σ Q) X.xe s
noncomputable def tSl (r:V→Option Int→Option Int→Hp→VK→Prop) (te:TE) (tl th:TO):TE:=fun σ H Q=>te σ H fun x H1=>tl σ H1 fun l H2=>th σ H2 fun u H3=>r x l u H3 Q
theorem pe_slice {r:V→Option Int→Option Int→Hp→VK→Prop} (hr:SlR X r) (he:PE X e te) (hl:PO X lo tl) (hu:PO X hi th):PE X (.Subscript e (.Slice lo hi none p2) pos) (tSl r te tl th):=by
  intro pins s σ H Q I h
  refine Subscript_ (thn (he pins s σ H _ I h) fun v s1 ⟨x,H1,I1,r1,q1⟩=>?_)
  refine wpAny_Slice (thn (hl pins s1 σ H1 _ I1 q1) fun vl s2 ⟨l,H2,I2,pl,q2⟩=>thn (hu pins s2 σ H2 _ I2 q2) fun vu s3 ⟨u,H3,I3,pu,q3⟩=>?_)
  rw [evalPart_none]
  refine wpAny_pure ?_
  have I4:Inv X pins σ H3 { s3 with heap:=s3.heap.push { cls:=.type "slice",data:=.fields #[vl,vu,.none] } }:=I3.kept (t':=s3.toks) fun b ob q=>Heap.get?_push_of_some _ q
  obtain ⟨T,id,hT,ht,hg⟩:=hr pins { s3 with heap:=s3.heap.push { cls:=.type "slice",data:=.fields #[vl,vu,.none] } } σ H3 x v vl vu l u s3.heap.objs.size Q I4 r1 (Heap.IsSliceOf.new ..) pl pu q3
  show wpAny (model X.prog X.w) X.A (subscriptTail e (.Slice lo hi none p2) v (.ref s3.heap.objs.size)) (EP X pins σ Q) X.xe { s3 with heap:=s3.heap.push { cls:=.type "slice",data:=.fields #[vl,vu,.none] } }
  exact tail_any (ops:=[.ref s3.heap.objs.size,v]) ht hT hg (by with_unfolding_all rfl)
noncomputable def cutV (xs:List V) (lo hi:Option Int):List V:=(xs.drop (HT.sIx xs.length 0 lo)).take (HT.sIx xs.length xs.length hi - HT.sIx xs.length 0 lo)
theorem cutV_length (xs:List V) (lo hi:Option Int):(cutV xs lo hi).length≤xs.length:=by
  unfold cutV
  rw [List.length_take,List.length_drop]
  omega
end
end L2
namespace L2
open PySem PySem.Spec PyProof.Rows
noncomputable def ixN (n:Nat) (i:Int):Option Nat:=if 0≤i then (if i < n then some i.toNat else none) else if -(n:Int)≤i then some (i+n).toNat else none
noncomputable def atI {α:Type} (xs:List α) (i:Int):Option α:=(ixN xs.length i).bind fun j=>xs[j]?
theorem ixN_seq {n:Nat} {i:Int} {j:Nat} (h:ixN n i=some j):seqIndex? i n=some j∧j < n∧-(n:Int)≤i∧i < n:=by
  unfold ixN at h
  by_cases h0:0≤i
  · rw [if_pos h0] at h
    by_cases h1:i < n
    · rw [if_pos h1] at h
      have e:i.toNat=j:=Option.some.inj h
      exact ⟨by rw [seqIndex_of h0 h1,e],by omega,by omega,h1⟩
    · rw [if_neg h1] at h; cases h
  · rw [if_neg h0] at h
    by_cases h1 : -(n:Int)≤i
    · rw [if_pos h1] at h
      have e:(i+n).toNat=j:=Option.some.inj h
      exact ⟨by rw [seqIndex_neg (by omega) h1,e],by omega,h1,by omega⟩
    · rw [if_neg h1] at h; cases h
theorem atI_get {α:Type} {xs:List α} {i:Int} {v:α} (h:atI xs i=some v):∃ j,seqIndex? i xs.length=some j∧xs[j]? = some v∧j < xs.length∧-(xs.length:Int)≤i∧i < xs.length:=by
  unfold atI at h
  cases e:ixN xs.length i with
  | none=>rw [e] at h; cases h
  | some j =>
    rw [e] at h
    obtain ⟨h1,h2,h3,h4⟩:=ixN_seq e
    exact ⟨j,h1,h,h2,h3,h4⟩
theorem atI_nat {α:Type} {xs:List α} {j:Nat} {v:α} (h:xs[j]? = some v):atI xs (j:Int)=some v:=by
  have hj:j < xs.length:=(List.getElem?_eq_some_iff.mp h).1
  have e:ixN xs.length (j:Int)=some j:=by
    unfold ixN
    rw [if_pos (by omega),if_pos (by omega)]; simp
  unfold atI; rw [e]; exact h
noncomputable def PlainIx (b:Expr):Prop:=∀ o i,subscripted b false o i=operate [o,i] (getItem o i)
noncomputable def IxR (X:Cx) (r:R2):Prop :=
  ∀ (value slice:Expr) (pins:List (Addr × Obj)) (s:Shared) (σ:St) (H:Hp) (x y:V) (v u:Value) (Q:VK),Inv X pins σ H s→RelV x v→RelV y u→r x y H Q →
    subscripted slice false v u=operate [v,u] (getItem v u)→wpAny (model X.prog X.w) X.A (subscriptTail value slice v u) (EP X pins σ Q) X.xe s
noncomputable def MtR (X:Cx) (id:String) (r:V→List V→Hp→VK→Prop):Prop :=
  ∀ (pins:List (Addr × Obj)) (s:Shared) (σ:St) (H:Hp) (x:V) (xs:List V) (v:Value) (us:List Value) (Q:VK),Inv X pins σ H s→RelV x v→Vals xs us→r x xs H Q →
    wpAny (model X.prog X.w) X.A (call (.builtin id) (v::us)) (EP X pins σ Q) X.xe s
section
variable {X:Cx} {a b:Expr} {ta tb:TE} {pos:Pos}
theorem pe_ix {r:R2} (hr:IxR X r) (ha:PE X a ta) (hb:PE X b tb) (hs:PlainIx b):PE X (.Subscript a b pos) (tOp r ta tb):=by
  intro pins s σ H Q I h
  exact Subscript_ (binT ha hb I h fun v u s2 x y H2 I2 rx ry q=>hr a b pins s2 σ H2 x y v u Q I2 rx ry q (hs _ _))
noncomputable def rIxL (K:PySem.W.Frag):R2:=fun x y H Q=>∃ p xs i v,x = .ref p∧y = .int i∧SqL K H p xs∧atI xs i=some v∧Q v H
noncomputable def rIxT (K:PySem.W.Frag):R2:=fun x y H Q=>∃ p xs i v,x = .ref p∧y = .int i∧SqT K H p xs∧atI xs i=some v∧Q v H
theorem ix_list:IxR X (rIxL X.K):=by
  intro value slice pins s σ H x y v u Q I rx ry h hs
  obtain ⟨p,xs,i,z,rfl,rfl,hq,he,q⟩:=h
  cases rx
  obtain ⟨t,rfl⟩:=ry
  obtain ⟨its,r,pl,hz⟩:=I.list hq
  obtain ⟨j,h1,h2,h3,h4,h5⟩:=atI_get he
  obtain ⟨w,ew,rw'⟩:=r.get h2
  have hl:=r.length
  have hn:=line63
  have fin:EP X pins σ Q w s:=⟨z,H,I,rw',q⟩
  by_cases h0:0≤i
  · have hj:i.toNat=j:=by
      rw [seqIndex_of h0 h5] at h1
      exact Option.some.inj h1
    exact item_listR pl.isList h0 (by omega) (by rw [hj]; simpa using ew) fin hs
  · have hj:(i+(its.toArray.size:Int)).toNat=j:=by
      rw [seqIndex_neg (by omega) h4] at h1
      rw [List.size_toArray,← hl]
      exact Option.some.inj h1
    exact subscriptTail_builtinR (x:=w) pl.isList.typeIs slot_list_getitem.lookup
      (wpAny_getItem_list_neg (Q:=fun r s'=>r=w∧EP X pins σ Q r s') pl.isList (by omega) (by rw [List.size_toArray]<;>omega) (by omega) (by rw [hj]; simpa using ew) ⟨rfl,fin⟩) hs
theorem ix_tup:IxR X (rIxT X.K):=by
  intro value slice pins s σ H x y v u Q I rx ry h hs
  obtain ⟨p,xs,i,z,rfl,rfl,hq,he,q⟩:=h
  cases rx
  obtain ⟨t,rfl⟩:=ry
  obtain ⟨its,r,pl,hz⟩:=I.tuple hq
  obtain ⟨j,h1,h2,h3,h4,h5⟩:=atI_get he
  obtain ⟨w,ew,rw'⟩:=r.get h2
  have hl:=r.length
  have hn:=line63
  have fin:EP X pins σ Q w s:=⟨z,H,I,rw',q⟩
  exact subscriptTail_builtinR (x:=w) pl.typeIs slot_tuple_getitem.lookup
    (getItem_tuple (j:=j) (Q:=fun r s'=>r=w∧EP X pins σ Q r s') pl (by omega) (by omega) (by rw [List.size_toArray,← hl]; exact h1) (by simpa using ew) ⟨rfl,fin⟩) hs
theorem mapSeq_set (its:List Value) (n j:Nat) (u:Value):Obj.mapSeq (·.setIfInBounds j u) { cls:=.type "list",data:=.seq its.toArray n }={ cls:=.type "list",data:=.seq (its.set j u).toArray n }:=by
  simp [Obj.mapSeq]
theorem Inv.lst {pins:List (Addr × Obj)} {σ:St} {H:Hp} {s:Shared} {p:Addr} {xs:List V} (I:Inv X pins σ H s) (h:H p=some (.lst xs)) :
    ∃ (its:List Value) (n:Nat),Vals xs its∧s.heap.get? p=some { cls:=.type "list",data:=.seq its.toArray n }∧xs.length≤sizeLine:=by
  obtain ⟨z,its,n,r,e⟩:=I.hok p _ h
  exact ⟨its,n,r,e,z⟩
theorem Inv.lstUpd {pins:List (Addr × Obj)} {σ:St} {H:Hp} {s:Shared} {p:Addr} {xs ys:List V} {its its':List Value} {n n':Nat} {f:Obj→Obj} (I:Inv X pins σ H s) (h:H p=some (.lst xs))
    (ho:s.heap.get? p=some { cls:=.type "list",data:=.seq its.toArray n }) (hf:f { cls:=.type "list",data:=.seq its.toArray n }={ cls:=.type "list",data:=.seq its'.toArray n' }) (r:Vals ys its') (hz:ys.length≤sizeLine) (t:Nat) :
    Inv X pins σ (upd H p (.lst ys)) { s with heap:=s.heap.update p f,toks:=t }:=by
  have e:(s.heap.update p f).get? p=some { cls:=.type "list",data:=.seq its'.toArray n' }:=by
    rw [Heap.get?_update_self f ho (by rw [hf]<;>rfl),hf]
  refine I.write (x:=p) (e:=p) (by rw [h]; trivial) (.inl rfl) (fun b u hb q=>(Heap.get?_update_other _ _ (Ne.symm hb)).trans q) ⟨_,e⟩ ?_
  exact ⟨hz,its',n',r,e⟩
noncomputable def rSetL:V→V→V→Hp→(Hp→Prop)→Prop:=fun o i v H Q=>∃ p xs k j,o = .ref p∧i = .int k∧H p=some (.lst xs)∧ixN xs.length k=some j∧Q (upd H p (.lst (xs.set j v)))
theorem set_list:PSet X rSetL:=by
  intro pins s σ H o i v ov iv u Q I ro ri rv h
  obtain ⟨p,xs,k,j,rfl,rfl,hp,hj,q⟩:=h
  cases ro
  obtain ⟨t,rfl⟩:=ri
  obtain ⟨its,n,r,ho,hz⟩:=I.lst hp
  obtain ⟨h1,h2,h3,h4⟩:=ixN_seq hj
  have hl:=r.length
  have hn:=line63
  have I':Inv X pins σ (upd H p (.lst (xs.set j v))) { s with heap:=s.heap.update p (Obj.mapSeq (·.setIfInBounds j u)) } :=
    I.lstUpd hp ho (mapSeq_set its n j u) (r.set rv j) (by rw [List.length_set]; exact hz) s.toks
  by_cases h0:0≤k
  · have hk:k.toNat=j:=by
      rw [seqIndex_of h0 h4] at h1
      exact Option.some.inj h1
    exact PySem.W.ki_setAt ho h0 (by omega) (by rw [List.size_toArray,← hl]; exact h4) (by rw [hk]; exact ⟨_,I',q⟩)
  · have hk:(k+(its.toArray.size:Int)).toNat=j:=by
      rw [seqIndex_neg (by omega) h3] at h1
      rw [List.size_toArray,← hl]
      exact Option.some.inj h1
    exact PySem.W.ki_setBack ho (by omega) (by rw [List.size_toArray,← hl]; exact h3) (by omega) (by rw [hk]; exact ⟨_,I',q⟩)
theorem slice_bounds (lo hi:Option Int) (n:Nat):(sliceBounds lo hi none n).1=((HT.sIx n 0 lo:Nat):Int)∧(sliceBounds lo hi none n).2.1=((HT.sIx n n hi:Nat):Int)∧(sliceBounds lo hi none n).2.2=1:=by
  refine ⟨?_,?_,rfl⟩
  · cases lo with
    | none=>simp [sliceBounds,HT.sIx]
    | some i =>
      simp only [sliceBounds,HT.sIx,Option.getD_none,show (1:Int) > 0 by decide,if_true]
      by_cases h:i < 0
      · simp only [h,if_true]<;>omega
      · simp only [h,if_false]<;>omega
  · cases hi with
    | none=>simp [sliceBounds,HT.sIx]
    | some i =>
      simp only [sliceBounds,HT.sIx,Option.getD_none,show (1:Int) > 0 by decide,if_true]
      by_cases h:i < 0
      · simp only [h,if_true]<;>omega
      · simp only [h,if_false]<;>omega
theorem slicePick_cut (its:List Value) (lo hi:Option Int):slicePick its.toArray lo hi none=((its.drop (HT.sIx its.length 0 lo)).take (HT.sIx its.length its.length hi - HT.sIx its.length 0 lo)).toArray:=by
  obtain ⟨h1,h2,h3⟩:=slice_bounds lo hi its.toArray.size
  unfold slicePick
  rw [h1,h2,h3]
  simp only [sliceRange_one,pick_run,List.size_toArray]<;>rfl
noncomputable def rSlL (K:PySem.W.Frag):V→Option Int→Option Int→Hp→VK→Prop:=fun x lo hi H Q=>∃ a xs,x = .ref a∧SqL K H a xs∧∀ p,H p=none→Q (.ref p) (upd H p (.lst (cutV xs lo hi)))
theorem sl_list:SlR X (rSlL X.K):=by
  intro pins s σ H x v vl vu lo hi sl Q I rx hs pl pu h
  obtain ⟨a,xs,rfl,hx,q⟩:=h
  cases rx
  obtain ⟨its,r,ht,hz⟩:=I.list hx
  have hlen:=r.length
  refine ⟨"list",_,slot_list_getitem.lookup,ht.isList.typeIs,?_⟩
  refine wpAny_getItem_list_slice ht.isList hs pl pu .none (by simp) ?_ (by rw [List.size_toArray]<;>omega)
  rw [slicePick_cut,← hlen]
  refine ⟨.ref s.heap.objs.size,_,I.laid (t':=s.toks) (o:=.lst (cutV xs lo hi)) (fun b ob q=>Heap.get?_push_of_some _ q) (Nat.le_refl _) ?_,rfl,q _ (I.hok.fresh (Nat.le_refl _))⟩
  exact ⟨Nat.le_trans (cutV_length xs lo hi) hz,_,0,(r.drop (HT.sIx xs.length 0 lo)).take (HT.sIx xs.length xs.length hi - HT.sIx xs.length 0 lo),Heap.get?_push_size _ rfl⟩
noncomputable def flatV:V→Bool
  | .non=>true
  | .bl _=>true
  | .int _=>true
  | .str _=>true
  | _=>false
noncomputable def eqV:V→V→Bool
  | .non,.non=>true
  | .bl a,.bl b=>a == b
  | .bl a,.int b=>(if a then 1 else 0) == b
  | .int a,.bl b=>a == (if b then 1 else 0)
  | .int a,.int b=>a == b
  | .str a,.str b=>a == b
  | _,_=>false
theorem eqAt_V {A:Around} {s:Shared} {y x:V} {u v:Value} (ry:RelV y u) (rx:RelV x v) (fy:flatV y=true) (fx:flatV x=true):SeqAt.EqAt A s u v (eqV y x):=by
  cases y with
  | non =>
    cases ry
    cases x with
    | non=>cases rx; exact SeqAt.EqAt.same _
    | bl b=>cases rx; exact SeqAt.EqAt.none_bool b
    | int b=>obtain ⟨t,rfl⟩:=rx; exact SeqAt.EqAt.none_int b t
    | str b=>obtain ⟨t,rfl⟩:=rx; exact SeqAt.EqAt.none_str b t
    | _=>exact absurd (show false=true from fx) Bool.false_ne_true
  | bl a =>
    cases ry
    cases x with
    | non=>cases rx; exact SeqAt.EqAt.bool_none a
    | bl b=>cases rx; exact SeqAt.EqAt.bool_bool a b
    | int b=>obtain ⟨t,rfl⟩:=rx; exact SeqAt.EqAt.bool_int a b t
    | str b=>obtain ⟨t,rfl⟩:=rx; exact SeqAt.EqAt.bool_str a b t
    | _=>exact absurd (show false=true from fx) Bool.false_ne_true
  | int a =>
    obtain ⟨t',rfl⟩:=ry
    cases x with
    | non=>cases rx; exact SeqAt.EqAt.int_none a t'
    | bl b=>cases rx; exact SeqAt.EqAt.int_bool a t' b
    | int b=>obtain ⟨t,rfl⟩:=rx; exact SeqAt.EqAt.int_int a t' b t
    | str b=>obtain ⟨t,rfl⟩:=rx; exact SeqAt.EqAt.int_str a t' b t
    | _=>exact absurd (show false=true from fx) Bool.false_ne_true
  | str a =>
    obtain ⟨t',rfl⟩:=ry
    cases x with
    | non=>cases rx; exact SeqAt.EqAt.str_none a t'
    | bl b=>cases rx; exact SeqAt.EqAt.str_bool a t' b
    | int b=>obtain ⟨t,rfl⟩:=rx; exact SeqAt.EqAt.str_int a t' b t
    | str b=>obtain ⟨t,rfl⟩:=rx; exact SeqAt.EqAt.str_str a t' b t
    | _=>exact absurd (show false=true from fx) Bool.false_ne_true
  | _=>exact absurd (show false=true from fy) Bool.false_ne_true
theorem call_len_seq:CallR X (.builtin "len") (fun xs H Q=>∃ p ys,xs=[.ref p]∧(SqL X.K H p ys∨SqT X.K H p ys)∧Q (.int ys.length) H):=by
  intro pins s σ H xs us Q I r h
  obtain ⟨p,ys,rfl,hq,q⟩:=h
  obtain ⟨u,rfl,rx⟩:=vals1 r
  cases rx
  have hn:=line63
  rcases hq with hq | hq
  · obtain ⟨its,r',pl,hz⟩:=I.list hq
    have hlen:=r'.length
    exact Calls.call_len_list pl.isList (by simp only [List.size_toArray]<;>omega) ⟨.int ys.length,H,I.tok _,⟨s.toks+1,by rw [List.size_toArray,hlen]⟩,q⟩
  · obtain ⟨its,r',pl,hz⟩:=I.tuple hq
    have hlen:=r'.length
    exact len_tuple pl (by simp only [List.size_toArray]<;>omega) ⟨.int ys.length,H,I.tok _,⟨s.toks+1,by rw [List.size_toArray,hlen]⟩,q⟩
theorem call_list_of:CallR X (.type "list") (fun xs H Q=>∃ p ys,xs=[.ref p]∧(SqL X.K H p ys∨SqT X.K H p ys)∧∀ l,H l=none→Q (.ref l) (upd H l (.lst ys))):=by
  intro pins s σ H xs us Q I r h
  obtain ⟨p,ys,rfl,hq,q⟩:=h
  obtain ⟨u,rfl,rx⟩:=vals1 r
  cases rx
  have fin:∀ (its:List Value),Vals ys its→ys.length≤sizeLine→∀ (h':Heap) (c':Nat),(∀ b o',s.heap.get? b=some o'→h'.get? b=some o') →
      h'.get? s.heap.objs.size=some { cls:=.type "list",dict:=none,data:=.seq its.toArray c',slots:=#[] }→EP X pins σ Q (.ref s.heap.objs.size) { s with heap:=h' }:=fun its r' hz h' c' kp e =>
    ⟨.ref s.heap.objs.size,_,I.laid (t':=s.toks) kp (Nat.le_refl _) (show ObjOk X.prog X.w _ h' _ (.lst ys) from ⟨hz,its,c',r',e⟩),rfl,q _ (I.hok.fresh (Nat.le_refl _))⟩
  rcases hq with hq | hq
  · obtain ⟨its,r',pl,hz⟩:=I.list hq
    have hlen:=r'.length
    obtain ⟨o,ho,hc,n,hd⟩:=pl.isList
    exact call_list_seq p (.inl rfl) ho hc hd (fun h' c' kp e=>fin its r' hz h' c' kp e) (by simp only [List.size_toArray]<;>omega)
  · obtain ⟨its,r',pl,hz⟩:=I.tuple hq
    have hlen:=r'.length
    obtain ⟨o,ho,hc,n,hd⟩:=pl
    exact call_list_seq p (.inr rfl) ho hc hd (fun h' c' kp e=>fin its r' hz h' c' kp e) (by simp only [List.size_toArray]<;>omega)
noncomputable def tyV (K:PySem.W.Frag) (T:String) (x:V) (H:Hp):Prop:=match x with
  | .str _=>T = "str"
  | .int _=>T = "int"
  | .ref p=>(T = "list"∧∃ xs,SqL K H p xs)∨(T = "tuple"∧∃ o,K.lookup p=some o∧o.cls = .type "tuple"∧o.dict=none) ∨
      (T = "dict"∧((∃ kvs,H p=some (.dK kvs))∨∃ kvs,H p=some (.dT kvs)))∨(T = "set"∧∃ S n,H p=some (.set S n))
  | _=>False
theorem tyV_is {pins:List (Addr × Obj)} {σ:St} {H:Hp} {s:Shared} {T:String} {x:V} {v:Value} (I:Inv X pins σ H s) (r:RelV x v) (ty:tyV X.K T x H) :
    s.TypeIs v T∧∀ a,v = .ref a→∃ ob,s.heap.get? a=some ob∧ob.dict=none:=by
  cases x with
  | str z =>
    obtain ⟨t,rfl⟩:=r
    cases (show T = "str" from ty)
    exact ⟨typeIs_str s z t,fun _ e=>nomatch e⟩
  | int i =>
    obtain ⟨t,rfl⟩:=r
    cases (show T = "int" from ty)
    exact ⟨typeIs_int s i t,fun _ e=>nomatch e⟩
  | ref p =>
    cases r
    rcases ty with ⟨rfl,xs,hq⟩ | ⟨rfl,o,hk,hc,hd⟩ | ⟨rfl,hk⟩ | ⟨rfl,S,n,hk⟩
    · obtain ⟨its,_,pl,_⟩:=I.list hq
      refine ⟨pl.isList.typeIs,fun a e=>?_⟩
      cases e
      obtain ⟨o,n,e,c,hd,_⟩:=pl
      exact ⟨o,e,hd⟩
    · refine ⟨⟨o,I.kIn p o hk,hc⟩,fun a e=>?_⟩
      cases e
      exact ⟨o,I.kIn _ o hk,hd⟩
    · have z:∃ o,s.heap.get? p=some o∧o.ExactDict:=by
        rcases hk with ⟨kvs,hk⟩ | ⟨kvs,hk⟩
        · obtain ⟨_,_,_,_,o,_,_,e,ex,_⟩:=I.hok p _ hk
          exact ⟨o,e,ex⟩
        · obtain ⟨_,_,_,_,o,_,_,e,ex,_⟩:=I.hok p _ hk
          exact ⟨o,e,ex⟩
      obtain ⟨o,e,ex⟩:=z
      refine ⟨⟨o,e,ex.1⟩,fun a e2=>?_⟩
      cases e2
      exact ⟨o,e,ex.2.1⟩
    · obtain ⟨o,_,_,_,e,ex,_⟩:=I.hok p _ hk
      refine ⟨⟨o,e,ex.1⟩,fun a e2=>?_⟩
      cases e2
      exact ⟨o,e,ex.2.1⟩
  | _=>exact False.elim ty
noncomputable def tBM0 (K:PySem.W.Frag) (T:String) (r:V→List V→Hp→VK→Prop) (to:TE):TE:=fun σ H Q=>to σ H fun x H1=>tyV K T x H1∧r x [] H1 Q
noncomputable def tBM (K:PySem.W.Frag) (T:String) (r:V→List V→Hp→VK→Prop) (to:TE) (t:TA):TE:=fun σ H Q=>to σ H fun x H1=>tyV K T x H1∧t σ H1 fun xs H2=>r x xs H2 Q
variable {o e:Expr} {es:List Expr} {to:TE} {t:TA} {name:Str} {apos cpos:Pos} {T id:String} {r:V→List V→Hp→VK→Prop}
theorem pe_bm0 (pa:PlainAttrs T) (slot:Slot T name id) (hty:typeOf (.builtin id)=pure (.type "method_descriptor")) (hm:MtR X id r) (ho:PE X o to)
    (hbase:attributeBase o name X.env (eval o X.env)=eval o X.env:=by rfl) (hline:(apos.endLine == cpos.line)=true:=by rfl):PE X (.Call (.Attribute o name apos) [] [] cpos) (tBM0 X.K T r to):=by
  intro pins s σ H Q I h
  refine wpAny_Call_method0_late hbase hline (thn (ho pins s σ H _ I h) fun v s1 ⟨x,H1,I1,r1,ty,q1⟩=>?_)
  obtain ⟨h1,h2⟩:=tyV_is I1 r1 ty
  exact ⟨T,id,pa,slot,hty,h1,h2,Calls.callWith_builtin rfl (PySem.evalArgs_none (hm pins s1 σ H1 x [] v [] Q I1 r1 .nil q1))⟩
theorem pe_bm (pa:PlainAttrs T) (slot:Slot T name id) (hty:typeOf (.builtin id)=pure (.type "method_descriptor")) (hm:MtR X id r) (ho:PE X o to) (ha:PA X (e::es) t)
    (hbase:attributeBase o name X.env (eval o X.env)=eval o X.env:=by rfl)
    (hfew:((backTo cpos (starEach (e::es) X.env)).all (fun x=>!x.1)&&(backToKw cpos (keywordEach [] X.env)).all (fun x=>x.1.isSome)
      && decide ((e::es).length+([]:List Keyword).length+(if ([]:List Keyword).isEmpty then 0 else 1) < 30))=true:=by rfl)
    (hline:(apos.endLine == cpos.line)=true:=by rfl) (hs:starEach (e::es) X.env=(false,eval e X.env)::starEach es X.env:=by rfl) (hplain:(backTo cpos (starEach es X.env)).any (·.1)=false:=by rfl) :
    PE X (.Call (.Attribute o name apos) (e::es) [] cpos) (tBM X.K T r to t):=by
  intro pins s σ H Q I h
  refine wpAny_Call_method_late hbase hfew hline rfl (thn (ho pins s σ H _ I h) fun v s1 ⟨x,H1,I1,r1,ty,q1⟩=>?_)
  obtain ⟨h1,h2⟩:=tyV_is I1 r1 ty
  refine ⟨T,id,pa,slot,hty,h1,h2,?_⟩
  have hA:=ha cpos pins s1 σ H1 _ I1 q1
  rw [hs] at hA ⊢
  refine Calls.callWith_builtin (by show (false || (backTo cpos (starEach es X.env)).any (·.1))=false; rw [hplain]<;>rfl) (Calls.evalArgs_plain ?_)
  exact thn hA fun us s2 ⟨vs,H2,I2,r2,q2⟩=>hm pins s2 σ H2 x vs v us Q I2 r1 r2 q2
end
end L2
namespace L2
open PySem PySem.Spec PyProof.Rows
noncomputable def MtM (X:Cx) (id:String) (r:V→List V→Hp→VK→Prop):Prop :=
  ∀ (pins:List (Addr × Obj)) (s:Shared) (σ:St) (H:Hp) (x:V) (xs:List V) (v:Value) (us:List Value) (Q:VK),Inv X pins σ H s→RelV x v→Vals xs us→r x xs H Q →
    wpAny (model X.prog X.w) X.A (call (.builtin id) (v::us)) (EP X pins σ Q) X.xe s
theorem Vals.one:∀ {x:V} {us:List Value},Vals [x] us→∃ u,us=[u]∧RelV x u
  | _,_,.cons r .nil=>⟨_,rfl,r⟩
theorem Vals.zero:∀ {us:List Value},Vals [] us→us=[]
  | _,.nil=>rfl
theorem Vals.dropLast {xs:List V} {us:List Value} (h:Vals xs us):Vals xs.dropLast us.dropLast:=by
  induction h with
  | nil=>exact .nil
  | cons r t ih =>
    cases t with
    | nil=>exact .nil
    | cons q t'=>exact .cons r ih
theorem erase_last {α:Type} (l:List α):l.eraseIdx (l.length - 1)=l.dropLast:=by
  induction l with
  | nil=>rfl
  | cons a r ih =>
    cases r with
    | nil=>rfl
    | cons b r =>
      have e:(a::b::r).length - 1=((b::r).length - 1)+1:=by
        have h1:(a::b::r).length=r.length+2:=rfl
        have h2:(b::r).length=r.length+1:=rfl
        omega
      rw [e,List.eraseIdx_cons_succ,ih]
      all_goals rfl
section
variable {X:Cx} {pins:List (Addr × Obj)} {σ:St} {H:Hp} {s:Shared} {l b:Addr} {xs ys zs:List V}
theorem Inv.lset {its its':List Value} {n:Nat} {f:Array Value→Array Value} {t':Nat} (I:Inv X pins σ H s) (hH:H l=some (.lst xs))
    (e:s.heap.get? l=some { cls:=.type "list",data:=.seq its.toArray n }) (hf:f its.toArray=its'.toArray) (hv:Vals ys its') (hz:ys.length≤sizeLine) :
    Inv X pins σ (upd H l (.lst ys)) { s with heap:=s.heap.update l (Obj.mapSeq f),toks:=t' }:=by
  have q:=PySem.IsL.update e f
  rw [hf] at q
  refine I.write (x:=l) (e:=l) (by rw [hH]; exact trivial) (.inl rfl) (fun b' u hb hu=>(Heap.get?_update_other s.heap (Obj.mapSeq f) (Ne.symm hb)).trans hu) ⟨_,q⟩ ?_
  exact ⟨hz,its',_,hv,q⟩
theorem Inv.lnew {its:List Value} {t':Nat} (I:Inv X pins σ H s) (hv:Vals ys its) (hz:ys.length≤sizeLine) :
    Inv X pins σ (upd H s.heap.objs.size (.lst ys)) { s with heap:=s.heap.push { cls:=.type "list",data:=.seq its.toArray },toks:=t' } :=
  I.laid (fun _ _ q=>Heap.get?_push_of_some _ q) (Nat.le_refl _) ⟨hz,its,0,hv,Heap.get?_push_size _ rfl⟩
theorem Inv.fresh (I:Inv X pins σ H s):H s.heap.objs.size=none:=I.hok.fresh (Nat.le_refl _)
theorem Inv.lstM (I:Inv X pins σ H s) (hH:H l=some (.lst xs)):xs.length≤sizeLine∧∃ (its:List Value) (n:Nat),Vals xs its∧xs.length=its.length∧s.heap.get? l=some { cls:=.type "list",data:=.seq its.toArray n }:=by
  obtain ⟨z,its,n,r,e⟩:=I.hok l _ hH
  exact ⟨z,its,n,r,r.length,e⟩
theorem notLongL {n:Nat} (h:n≤sizeLine):Builtin.List.listTooLong n=false:=by
  unfold Builtin.List.listTooLong
  exact decide_eq_false (by omega)
end
section
variable {X:Cx}
noncomputable def rAppend:V→List V→Hp→VK→Prop:=fun x vs H Q=>∃ l xs y,x = .ref l∧vs=[y]∧H l=some (.lst xs)∧xs.length < sizeLine∧Q .non (upd H l (.lst (xs++[y])))
theorem mt_append:MtM X "list.append" rAppend:=by
  intro pins s σ H x vs v us Q I rx rv h
  obtain ⟨l,xs,y,rfl,rfl,hH,hz,q⟩:=h
  cases rx
  obtain ⟨u,rfl,ru⟩:=rv.one
  obtain ⟨z,its,n,r,hl,e⟩:=I.lstM hH
  refine call_meets F.slot_list_append ⟨_,e,rfl⟩ F.entry_list_append (F.args_list_append_2 _ _) (PySem.list_append l its.toArray n u (by rw [List.size_toArray]; omega)) ⟨e,?_⟩
  refine ⟨.non,_,I.lset (its':=its++[u]) hH e (by simp) (r.append (.cons ru .nil)) ?_,rfl,q⟩
  rw [List.length_append,List.length_singleton]
  omega
noncomputable def rExtend:V→List V→Hp→VK→Prop:=fun x vs H Q=>∃ l b xs zs,x = .ref l∧vs=[.ref b]∧H l=some (.lst xs)∧H b=some (.lst zs)∧xs.length+zs.length≤sizeLine∧Q .non (upd H l (.lst (xs++zs)))
theorem mt_extend:MtM X "list.extend" rExtend:=by
  intro pins s σ H x vs v us Q I rx rv h
  obtain ⟨l,b,xs,zs,rfl,rfl,hH,hB,hz,q⟩:=h
  cases rx
  obtain ⟨u,rfl,ru⟩:=rv.one
  cases ru
  obtain ⟨z,its,n,r,hl,e⟩:=I.lstM hH
  obtain ⟨z2,its2,n2,r2,hl2,e2⟩:=I.lstM hB
  have hsz:its.toArray.size+its2.toArray.size≤sizeLine:=by rw [List.size_toArray,List.size_toArray]; omega
  have hlong:¬ (!its.toArray.isEmpty&&Builtin.List.listTooLong (its.toArray.size+its2.toArray.size))=true:=by
    rw [notLongL hsz,Bool.and_false]
    exact Bool.false_ne_true
  refine call_meets F.slot_list_extend ⟨_,e,rfl⟩ F.entry_list_extend (F.args_list_extend_2 _ _)
    (AutoSeq1.list_extend_list_list_0 l its.toArray n b its2.toArray n2 hlong (by rw [List.size_toArray]; omega) (by omega)) ⟨e,e2,?_⟩
  refine ⟨.non,_,I.lset (its':=its++its2) hH e (by simp) (r.append r2) ?_,rfl,q⟩
  rw [List.length_append]
  omega
noncomputable def rPop:V→List V→Hp→VK→Prop:=fun x vs H Q=>∃ l xs y,x = .ref l∧vs=[]∧H l=some (.lst xs)∧xs[xs.length - 1]? = some y∧Q y (upd H l (.lst xs.dropLast))
theorem mt_pop:MtM X "list.pop" rPop:=by
  intro pins s σ H x vs v us Q I rx rv h
  obtain ⟨l,xs,y,rfl,rfl,hH,hy,q⟩:=h
  cases rx
  have hus:=rv.zero
  subst hus
  obtain ⟨z,its,n,r,hl,e⟩:=I.lstM hH
  obtain ⟨u,hu,ru⟩:=r.get hy
  have hy':its.toArray[its.toArray.size - 1]? = some u:=by
    show its.toArray[its.length - 1]? = some u
    rw [← Array.getElem?_toList,← hl]
    exact hu
  refine call_meets F.slot_list_pop ⟨_,e,rfl⟩ F.entry_list_pop (F.args_list_pop_1 _) (MeetsSeq.list_pop_last l its.toArray n u hy' (by rw [List.size_toArray]; omega)) ⟨e,?_⟩
  refine ⟨y,_,I.lset (its':=its.dropLast) hH e ?_ r.dropLast ?_,ru,q⟩
  · show its.toArray.eraseIdxIfInBounds (its.toArray.size - 1)=its.dropLast.toArray
    rw [List.size_toArray,List.eraseIdxIfInBounds_toArray,erase_last]
  · rw [List.length_dropLast]
    omega
noncomputable def rCat:R2:=fun x y H Q=>∃ l b xs zs,x = .ref l∧y = .ref b∧H l=some (.lst xs)∧H b=some (.lst zs)∧xs.length+zs.length≤sizeLine∧∀ p,H p=none→Q (.ref p) (upd H p (.lst (xs++zs)))
theorem op_cat:OpR X (binaryOp .Add) rCat:=by
  intro pins s σ H x y v u Q I rx ry h
  obtain ⟨l,b,xs,zs,rfl,rfl,hH,hB,hz,q⟩:=h
  cases rx
  cases ry
  obtain ⟨z,its,n,r,hl,e⟩:=I.lstM hH
  obtain ⟨z2,its2,n2,r2,hl2,e2⟩:=I.lstM hB
  refine PySem.P.add_list e e2 ?_ (by rw [List.size_toArray,List.size_toArray]; omega)
  have ea:its.toArray++its2.toArray=(its++its2).toArray:=by simp
  rw [ea]
  exact ⟨.ref _,_,I.lnew (t':=s.toks) (r.append r2) (by rw [List.length_append]; omega),rfl,q _ I.fresh⟩
end
section
variable {prog:Program} {w:World} {A:Around} {E:Value→Shared→Prop} {s:Shared}
set_option maxRecDepth 100000 in
end
section
variable {X:Cx}
end
end L2
namespace Att
open PySem PySem.W PySem.Calls PyProof.Rows
theorem ints_of_wellAll {P:Params} {h:Heap}:∀ (ns:List Int) (vs:List Value),WellAll P h vs (ns.map WData.int)→IntsAre vs ns:=by
  intro ns
  induction ns with
  | nil =>
    intro vs w
    rw [List.map_nil] at w
    cases w
    exact .nil
  | cons n ns ih =>
    intro vs w
    rw [List.map_cons] at w
    cases w with
    | cons a b =>
      cases a
      exact .cons _ _ (ih _ b)
theorem script_of {l:OpenLaw} {n:Nat} (hn:l.most=some n) {P:Params} {h:Heap} {args:List WData} {vals:List Value}
    (hpre:l.row.toRowW.claim.pre args=true) (hwl:WellAll P h vals args) :
    ∃ a vs ns,vals=[Value.ref a]∧args=[WData.list (ns.map WData.int)]∧h.get? a=some { cls:=.type "list",data:=.seq vs.toArray }∧IntsAre vs ns∧ns.length≤n:=by
  have hsh:WShape.hasAll [] args [.list .int]=true:=(pre_splitW hpre).1
  have hc:l.pre.holds [] { args:=args }=true:=(pre_splitW hpre).2
  obtain ⟨d,r,rfl,h1,h2⟩:=hasAllW_cons hsh
  obtain rfl:=hasAllW_nil h2
  obtain ⟨xs,rfl,h3⟩:=hasW_list h1
  obtain ⟨ns,rfl⟩:=items_int h3
  have hlen:ns.length≤n:=by
    unfold OpenLaw.pre at hc
    have h4:(WTm.not (.lt (.lit (.int (n:Int))) (.len (.arg 0)))).holds [] { args:=[.list (ns.map .int)] }=true:=by
      have h4:=(holds_andW hc).1
      rw [hn] at h4
      exact h4
    have h5:=condW_of h4 (w_not (w_lt w_lit (w_len_list (w_arg rfl))))
    rw [List.length_map] at h5
    refine Nat.le_of_not_lt fun q=>?_
    have q':(n:Int) < ((ns.length:Nat):Int):=by omega
    first
      | (rw [decide_eq_true q'] at h5; exact absurd h5 (by decide))
      | (simp at h5; omega)
  cases hwl with
  | cons w1 w2 =>
    cases w2
    cases w1 with
    | list ho hall=>exact ⟨_,_,ns,rfl,rfl,ho,ints_of_wellAll ns _ hall,hlen⟩
theorem post_true (l:OpenLaw) (args:List WData):l.row.toRowW.claim.post args (.bool true) args=true :=
  postW_of (r:=l.row.toRowW) (X:=(true == true))
    (show WShape.has [] (.bool true) .bool=true by first | rfl | decide | simp [WShape.has,WShape.arms,WShape.armsAll])
    (show (WTm.eq .res (.lit (.bool true))).value [] { args:=args,res:=some (.bool true),after:=args }=some (.bool (true == true)) from w_eq_bool (w_res rfl) w_lit) rfl
theorem attach_call {l:OpenLaw} {n:Nat} {q:Program} {loose:List Str} {XP:(Str→Option Value)→Heap→Prop} {YP:World→Heap→Prop} {d:DefRec}
    (hn:l.most=some n) (hdf:d.params.defaults=[])
    (call:∀ (w:World) (s₀ s₁:Shared) (mg mb:Str→Option Value) (fa:Addr) (o:Obj) (pm cd doc:Value) (a:Addr) (vs:List Value) (ns:List Int),
      Ground q loose [] XP w s₀ mg mb s₁.heap→YP w s₁.heap →
      s₁.heap.get? fa=some o→o.data = .func (docDef d.name d.params d.body d.scope pm cd doc)→s₁.heap.CodeRec cd d.name→mg d.name=some (.ref fa) →
      s₁.heap.get? a=some { cls:=.type "list",data:=.seq vs.toArray }→IntsAre vs ns→ns.length≤n→s₁.gens = #[] →
      codeAny (model l.prog w) callerA (.call (.ref fa) ⟨[.ref a],[]⟩) (fun r s'=>r = .ok (.ret (.bool true))∧OldK s₁.heap s'.heap∧s'.os=s₁.os∧AllBare s'.gens) s₁) :
    WalkO q loose XP YP l.row.toRowW d [] (fun f vs=>PySem.call f vs):=by
  intro w s₀ s₁ mg mb G Y fa o pm cd doc dV kV ho hd hcd hD hmg hg args vals as hpre hlay hrd hwl hlo
  obtain rfl:dV = .none:=Dflts.none hD hdf
  obtain rfl:kV = .none:=Dflts.noKw hD
  obtain ⟨a,vs,ns,rfl,rfl,hobj,hints,hlen⟩:=script_of hn hpre hwl
  refine enter_call (codeAny_mono (call w s₀ s₁ mg mb fa o pm cd doc a vs ns G Y ho (fd_plain hd) hcd hmg hobj hints hlen hg) fun r s' hq=>?_)
  obtain ⟨rfl,h2,h3,h4⟩:=hq
  exact ⟨.inl ⟨.bool true,.bool true,[],rfl,fun _=>rfl,.bool true,post_true l _,fun _=>⟨List.Pairwise.nil,fun _ hm=>(nomatch hm)⟩⟩,h2,h3,h4⟩
section
variable {prog:Program} {w:World} {A:Around} {E:Value→Shared→Prop} {s:Shared} {K:Frag}
noncomputable def ledger (h:Heap) (L d:Addr):List (Addr × Obj):=(List.range h.objs.size).filterMap fun a=>if a=L∨a=d then none else (h.get? a).map fun o=>(a,o)
end
end Att
namespace L2
open PySem PySem.Spec PyProof.Rows
theorem vals_ints:∀ {vs:List Value} {ns:List Int},IntsAre vs ns→Vals (ns.map V.int) vs
  | _,_,.nil=>.nil
  | _,_,.cons n t h=>.cons ⟨t,rfl⟩ (vals_ints h)
noncomputable def Only (H:Hp):Prop:=∀ b,H b=none∨∃ o xs,H b=some (.frz o (.lst xs))
theorem law_call {P:Program} {w:World} {K:PySem.W.Frag} {mg mb:Str→Option Value} {CX:CXT} {k:Nat} {fa a:Addr} {fd:FuncData} {x:Str} {sp:Sp} {s₁:Shared} {vs:List Value} {ns:List Int}
    (KX:K.In s₁.heap) (hns:s₁.heap.Ns mainGlobals mg) (hb:s₁.heap.Ns builtinsNs mb) (hbb:∀ x:Str,x≠"__name__"→mb x=bootBuiltins x) (hlim:s₁.heap.NoLimit) (hg:s₁.gens = #[])
    (ha:s₁.heap.get? a=some { cls:=.type "list",data:=.seq vs.toArray }) (hi:IntsAre vs ns) (hl:ns.length≤sizeLine) (hr:Room k callerA)
    (F:∀ base:Heap,K.In base→base.Ns mainGlobals mg→FnOk P w K mg base CX k fa fd [x] sp) (hbind:∀ (s:Shared) (u:Value),BindsTo s fd ⟨[u],[]⟩ [(x,u)])
    (hsp:∀ H:Hp,Only H→SqL K H a (ns.map V.int)→sp [.ref a] H (fun v _=>v = .bl true) fun _ _ _=>False)
    (hCX:∀ H e s',CX [] H s₁ (fun _ _ _=>False) e s'→False) :
    codeAny (model P w) callerA (.call (.ref fa) ⟨[.ref a],[]⟩) (fun r s'=>r = .ok (.ret (.bool true))∧OldK s₁.heap s'.heap∧s'.os=s₁.os∧AllBare s'.gens) s₁:=by
  have rv:=vals_ints hi
  have lenV:=hi.length
  -- from an abstract heap in which nothing but the script may be tracked
  have core:∀ H:Hp,Only H→SqL K H a (ns.map V.int)→HOk P w H s₁.heap→(∀ b,H b≠none→b=a)→(H a≠none→K.lookup a=none) →
      codeAny (model P w) callerA (.call (.ref fa) ⟨[.ref a],[]⟩) (fun r s'=>r = .ok (.ret (.bool true))∧OldK s₁.heap s'.heap∧s'.os=s₁.os∧AllBare s'.gens) s₁:=by
    intro H hO hS hok hA hK
    have base_of:∀ {b:Addr} {o:Obj},s₁.heap.get? b=some o→H b=none→(hidT s₁.heap H).get? b=some o:=fun e n=>hidT_get e n
    have noA:∀ {b:Addr} {o:Obj} {es:Array DictEntry} {ep:Nat},s₁.heap.get? b=some o→o.data = .dict es ep→H b=none:=fun {b o es ep} e d=>by
      cases q:H b with
      | none=>rfl
      | some u =>
        have e':b=a:=hA b (by rw [q]; simp)
        subst e'
        rw [ha] at e; cases e
        have d':Data.seq vs.toArray _=Data.dict es ep:=d
        cases d'
    have nsK:∀ {b:Addr} {m:Str→Option Value},s₁.heap.Ns b m→(hidT s₁.heap H).Ns b m:=fun {b m} ⟨o,es,ep,e,d,r⟩=>⟨o,es,ep,base_of e (noA e d),d,r⟩
    have hKb:K.In (hidT s₁.heap H):=fun b o e=>base_of (KX b o e) (by
      cases q:H b with
      | none=>rfl
      | some u =>
        have e':b=a:=hA b (by rw [q]; simp)
        subst e'
        rw [hK (by rw [q]; simp)] at e; cases e)
    have hM:Mod K mg (hidT s₁.heap H):=⟨hKb,nsK hns,⟨mb,nsK hb,hbb⟩,let ⟨mc,h1,h2⟩:=hlim; ⟨mc,nsK h1,h2⟩⟩
    have e0:Env0 P w K mg (hidT s₁.heap H) callerA [] s₁ H:=⟨rfl,hM,fun b o e=>of_hidT e,Nat.le_of_eq (hidT_size _ _),trivial,fun b hb=>absurd (show b∈([]:List Addr) from hb) (by simp),hok,.of_eq hg⟩
    refine codeAny_mono ((F _ hKb (nsK hns)).run callerA [] s₁ H ⟨[.ref a],[]⟩ [.ref a] [.ref a] _ _ hr e0 (hbind s₁ (.ref a)) (.cons rfl .nil) (hsp H hO hS)) fun r s' h=>?_
    cases r with
    | error e=>exact (hCX H e s' h).elim
    | ok fl =>
      cases fl with
      | next=>exact False.elim h
      | brk=>exact False.elim h
      | cont=>exact False.elim h
      | ret u =>
        obtain ⟨v,H',os,bare,un,hok',r',q⟩:=h
        have q':v = .bl true:=q
        subst q'
        obtain rfl:u=Value.bool true:=r'
        refine ⟨rfl,OldK.of_keep fun b o e=>?_,os,bare⟩
        cases q:H b with
        | none=>exact un.keep b o e q (by intro z; exact absurd (show b∈([]:List Addr) from z) (by simp)) (by simp)
        | some u =>
          rcases hO b with z | ⟨ob,xs,z⟩
          · rw [q] at z; cases z
          · have z2:=un.frzs b ob _ z
            obtain ⟨e1,_⟩:=hok b _ z
            obtain ⟨e2,_⟩:=hok' b _ z2
            rw [e] at e1; cases e1
            exact e2
  cases hk:K.lookup a with
  | some o =>
    -- the script is one of the module's own objects
    have e:=KX a o hk
    rw [ha] at e
    cases e
    refine core (fun _=>none) (fun _=>.inl rfl) (.inr ⟨_,vs.toArray,_,hk,rfl,rfl,rfl,by rw [List.size_toArray,lenV]; exact hl,by simpa using rv⟩) (fun b u z=>by have z':(none:Option HO)=some u:=z; cases z') (fun b z=>absurd rfl z) fun z=>absurd rfl z
  | none =>
    refine core (fun b=>if b=a then some (.frz { cls:=.type "list",data:=.seq vs.toArray } (.lst (ns.map V.int))) else none) (fun b=>?_) (.inl (.inr ⟨{ cls:=.type "list",data:=.seq vs.toArray },if_pos rfl⟩)) (fun b u z=>?_) (fun b z=>?_) fun _=>hk
    · by_cases hb:b=a
      · exact .inr ⟨_,_,if_pos hb⟩
      · exact .inl (if_neg hb)
    · by_cases hb:b=a
      · have z':=(if_pos hb).symm.trans z
        cases z'
        subst hb
        exact ⟨ha,by rw [List.length_map]; exact hl,vs,_,rv,ha⟩
      · have z':=(if_neg hb).symm.trans z
        cases z'
    · by_cases hb:b=a
      · exact hb
      · exact absurd (if_neg hb) z
end L2
namespace L2
open PySem PySem.Spec PyProof.Rows
noncomputable abbrev KOf {K:PySem.W.Frag} {h:Heap} (_:K.In h):PySem.W.Frag:=K
theorem walk_of {l:PySem.W.OpenLaw} {n k:Nat} {q:Program} {loose:List Str} {XP:(Str→Option Value)→Heap→Prop} {YP:World→Heap→Prop} {d:DefRec} {K:Params→PySem.W.Frag} {CX:World→CXT} {sp:World→Sp} {x:Str}
    (hn:l.most=some n) (hn2:n≤sizeLine) (hdf:d.params.defaults=[]) (hr:Room k callerA)
    (hY:∀ (w:World) (h:Heap),YP w h→(K w.params).In h)
    (F:∀ (w:World) (mg:Str→Option Value) (fa:Addr) (h:Heap),(K w.params).In h→h.Ns mainGlobals mg→mg d.name=some (.ref fa) →
      ∃ fd:FuncData,(∀ (s:Shared) (u:Value),BindsTo s fd ⟨[u],[]⟩ [(x,u)]) ∧
        ∀ base:Heap,(K w.params).In base→base.Ns mainGlobals mg→FnOk l.prog w (K w.params) mg base (CX w) k fa fd [x] (sp w))
    (hsp:∀ (w:World) (H:Hp) (a:Addr) (ns:List Int),ns.length≤n→Only H→SqL (K w.params) H a (ns.map V.int)→sp w [.ref a] H (fun v _=>v = .bl true) fun _ _ _=>False)
    (hCX:∀ (w:World) (H:Hp) (s:Shared) (e:Value) (s':Shared),CX w [] H s (fun _ _ _=>False) e s'→False) :
    PySem.W.WalkO q loose XP YP l.row.toRowW d [] (fun f vs=>PySem.call f vs):=by
  refine Att.attach_call hn hdf fun w s₀ s₁ mg mb fa o pm cd doc a vs ns G Y ho hd hcd hmg hobj hints hlen hg=>?_
  have KX:=hY w _ Y
  obtain ⟨fd,hb,hF⟩:=F w mg fa _ KX G.T.g hmg
  exact law_call KX G.T.g G.T.b G.T.builtins G.T.nolimit hg hobj hints (Nat.le_trans hlen hn2) hr hF hb (fun H hO hS=>hsp w H a ns hlen hO hS) fun H e s'=>hCX w H s₁ e s'
end L2
namespace L2
open PySem PySem.Spec PyProof.Rows
noncomputable def inClass (s:Stmt) (j:Nat):Stmt:=match s with
  | .ClassDef _ _ _ body _ _ _ _ _ _ _=>body.getD j (.Pass ⟨0,0,0,0⟩)
  | _=>.Pass ⟨0,0,0,0⟩
noncomputable def defArgs (s:Stmt):Arguments:=match s with
  | .FunctionDef _ a _ _ _ _ _ _ _ _=>a
  | _=>{ posonlyargs:=[],args:=[],vararg:=none,kwonlyargs:=[],kw_defaults:=[],kwarg:=none,defaults:=[] }
noncomputable def defBody (s:Stmt):List Stmt:=match s with
  | .FunctionDef _ _ b _ _ _ _ _ _ _=>b
  | _=>[]
noncomputable def defScope (s:Stmt):Scope:=match s with
  | .FunctionDef _ _ _ _ _ _ sc _ _ _=>sc
  | _=>{ kind:=.function,names:=[],isGenerator:=false,isCoroutine:=false }
noncomputable abbrev CX0:CXT:=fun _ _ _ _ _ _=>False
noncomputable abbrev E0:XK:=fun _ _ _=>False
structure Fun (K:PySem.W.Frag) (x qual:Str) (st:Stmt) (f:Addr) (fd:FuncData):Prop where
  ex:∃ (oc:Value) (od:Option Addr) (kV doc pm:Value) (an:Option Addr) (cdv ct:Value) (osl:Array (Option Value)),
    fd=PySem.W.fnOf x qual (defArgs st) (defBody st) (defScope st) .none kV doc pm an cdv ct∧K.lookup f=some ⟨oc,od,.func fd,osl⟩∧PySem.W.codeIn K cdv qual=true
  kp:PySem.W.keepIn K (.ref f)=true
section
variable {P:Program} {w:World} {K:PySem.W.Frag} {mg:Str→Option Value} {base:Heap}
theorem Fun.ok {x qual:Str} {st:Stmt} {f:Addr} {fd:FuncData} {N ps:List Str} {k:Nat} {sp:Sp} (F:Fun K x qual st f fd) (S:FnScope N ps (defScope st)) (len:∀ vs H Q E,sp vs H Q E→vs.length=ps.length)
    (hbody:∀ (cdv:Value) (A:Around) (outer:List Env) (s:Shared) (H:Hp) (vs:List V) (Q:VK) (E:XK),Room k (A.deeper (envOfC qual (defScope st) s.heap.objs.size f cdv))→sp vs H Q E →
      ∃ t,PSs (cxOf CX0 P w K mg base N qual (defScope st) f cdv A outer s H E).nox (defBody st) t∧t { nx:=fun _ H'=>Q .non H',rt:=Q } (start N vs) H):FnOk P w K mg base CX0 (k+1) f fd ps sp:=by
  obtain ⟨oc,od,kV,doc,pm,an,cdv,ct,osl,rfl,lk,hcd⟩:=F.ex
  refine fn_of lk hcd S len fun A outer s H vs Q E hr hsp=>?_
  obtain ⟨t,h,q⟩:=hbody cdv A outer s H vs Q E hr hsp
  exact ⟨t,h.nox,q⟩
theorem Fun.binds {x qual:Str} {st:Stmt} {f:Addr} {fd:FuncData} {ps:List Str} (F:Fun K x qual st f fd)
    (h:∀ (kV doc pm:Value) (an:Option Addr) (cdv ct:Value) (us:List Value),us.length=ps.length→bindArgs (PySem.W.fnOf x qual (defArgs st) (defBody st) (defScope st) .none kV doc pm an cdv ct) ⟨us,[]⟩=pure (ps.zip us)):Binds K fd ps []:=by
  obtain ⟨oc,od,kV,doc,pm,an,cdv,ct,osl,rfl,lk,hcd⟩:=F.ex
  exact .all (h kV doc pm an cdv ct)
theorem fun_mk {x qual:Str} {st:Stmt} {f:Addr} {oc:Value} {od an:Option Addr} {osl:Array (Option Value)} {kV doc pm cdv ct:Value} (l:K.lookup f=some ⟨oc,od,.func (PySem.W.fnOf x qual (defArgs st) (defBody st) (defScope st) .none kV doc pm an cdv ct),osl⟩)
    (c:PySem.W.codeIn K cdv qual=true) (k:PySem.W.keepIn K (.ref f)=true):Fun K x qual st f (PySem.W.fnOf x qual (defArgs st) (defBody st) (defScope st) .none kV doc pm an cdv ct):=⟨⟨oc,od,kV,doc,pm,an,cdv,ct,osl,rfl,l,c⟩,k⟩
end
section
variable {X:Cx}
theorem pv (i:Nat) {x:Str} {pos:Pos} (hN:X.N[i]? = some x:=by rfl) (hv:Vis X.env.scope x:=by first | exact Or.inl rfl | exact Or.inr (Or.inl rfl) | exact Or.inr (Or.inr rfl)) (hd:(x == ("__debug__" : Str))=false:=by decide)
    (hcd:(x == ("__classdict__" : Str))=false:=by decide):PE X (.Name x pos) (tVar i):=pe_var hN hv hd hcd
end
theorem iteF {A B:Prop} (h:B):if false=true then A else B:=by
  rw [if_neg Bool.false_ne_true]
  exact h
theorem iteT {A B:Prop} (h:A):if true=true then A else B:=by
  rw [if_pos rfl]
  exact h
theorem ite2 {c A B:Prop} [Decidable c] (h1:c→A) (h2:¬ c→B):if c then A else B:=by
  by_cases h:c
  · rw [if_pos h]
    exact h1 h
  · rw [if_neg h]
    exact h2 h
theorem iteNS {c A B:Prop} [Decidable c] (hc:c) (h:B):if (!decide c)=true then A else B:=by
  rw [decide_eq_true hc]
  exact iteF h
noncomputable def Same (H H':Hp):Prop:=∀ b o,H b=some o→H' b=some o
theorem Same.refl (H:Hp):Same H H:=fun _ _ h=>h
theorem Same.trans {H H1 H2:Hp} (a:Same H H1) (b:Same H1 H2):Same H H2:=fun c o h=>b c o (a c o h)
theorem Same.free {H H':Hp} (e:Same H H') {l:Addr} (h:H' l=Option.none):H l=Option.none:=by
  cases q:H l with
  | none=>rfl
  | some o =>
    rw [e l o q] at h
    cases h
theorem Same.seq {K:PySem.W.Frag} {H H':Hp} {a:Addr} {xs:List V} (e:Same H H') (h:SqL K H a xs):SqL K H' a xs:=by
  rcases h with (h | ⟨o,h⟩) | h
  · exact .inl (.inl (e _ _ h))
  · exact .inl (.inr ⟨o,e _ _ h⟩)
  · exact .inr h
end L2
set_option Elab.async false
set_option linter.all false
set_option maxRecDepth 100000
set_option maxHeartbeats 4000000
namespace L2
open PySem PySem.Spec PyProof.Rows
section
variable {X:Cx}
noncomputable def CDivL (i j:Int):Prop:=0 < j∧j.natAbs.log2 < 9000
theorem op_fdivL:OpR X (binaryOp .FloorDiv) (rI CDivL fun i j=>.int (i / j)):=opI fun i j _ _ _ _ _ hc q=>by
  have h1:(0:Int) < j:=hc.1
  exact floordiv_int (by omega) (by rw [Int.fdiv_eq_ediv_of_nonneg i (by omega)]; exact q) (.inl (PyProof.noPylong_of_log2 hc.2))
theorem call_isinst:CallR X (.builtin "isinstance") (fun xs H Q=>∃ x c cv t b,xs=[x,c]∧(∀ u,RelV c u→u=cv)∧TyOf X.K H x t∧PySem.W.kitOne X.K t cv=some b∧Q (.bl b) H):=by
  intro pins s σ H xs us Q I r h
  obtain ⟨x,c,cv,t,b,rfl,hcv,ty,e,q⟩:=h
  obtain ⟨u,w',rfl,r1,r2⟩:=vals2 r
  rw [hcv w' r2]
  exact isinst_ok I r1 ty e fun tk=>⟨.bl b,H,I.tok _,rfl,q⟩
theorem relTy {n:String}:∀ u,RelV (.ty n) u→u=Value.type n:=fun _ h=>h
theorem strsAre_of {ys:List Str}:∀ {us:List Value},Vals (ys.map V.str) us→StrsAre us ys:=by
  induction ys with
  | nil=>intro us r; rw [List.map_nil] at r; cases r; exact .nil
  | cons n ns ih =>
    intro us r
    rw [List.map_cons] at r
    cases r with
    | cons h t =>
      obtain ⟨tk,rfl⟩:=h
      exact .cons n tk (ih t)
end
theorem forIn_collect {α β:Type} {l:List α} {f:α→β→Sem (ForInStep β)} (g:β→α→β) (c:β) (h:∀ x∈l,∀ c,f x c=pure (.yield (g c x))) :
    forIn l c f=pure (l.foldl g c):=by
  induction l generalizing c with
  | nil=>rfl
  | cons x l ih =>
    rw [List.forIn_cons,h x List.mem_cons_self,pure_bind]
    exact ih _ fun y hy=>h y (List.mem_cons_of_mem _ hy)
noncomputable def clOf (cells:List (Str × Addr)) (names:List (Str × NameKind)) (acc:List (Str × Addr)):List (Str × Addr) :=
  names.foldl (fun cs y=>if y.2 == .free then (y.1,(cells.lookup y.1).getD 0)::cs else cs) acc
theorem closure_eq {scope:Scope} {env:Env} (h:∀ y∈scope.names,y.2 = .free→∃ c,env.cells.lookup y.1=some c):closureFor scope env=pure (clOf env.cells scope.names []):=by
  simp only [closureFor]
  rw [forIn_collect (fun cs y=>if y.2 == .free then (y.1,(env.cells.lookup y.1).getD 0)::cs else cs) [] fun x hx c=>?_]
  · rfl
  · obtain ⟨n,k⟩:=x
    by_cases hk:k = .free
    · subst hk
      obtain ⟨a,ea⟩:=h (n,.free) hx rfl
      have ea':env.cells.lookup n=some a:=ea
      simp only [beq_self_eq_true,if_true,cellOf,ea',pure_bind,Option.getD_some]
    · have hb:(k == NameKind.free)=false:=by simpa using hk
      simp only [hb,Bool.false_eq_true,if_false]
theorem lookup_mem {α:Type}:∀ {l:List (Str × α)} {x:Str} {c:α},l.lookup x=some c→(x,c)∈l
  | [],_,_,h=>by simp at h
  | (y,d)::r,x,c,h=>by
    rw [List.lookup_cons] at h
    cases hx:x == y with
    | true =>
      rw [hx] at h
      have e:x=y:=by simpa using hx
      subst e
      cases h
      exact List.mem_cons_self
    | false =>
      rw [hx] at h
      exact List.mem_cons_of_mem _ (lookup_mem h)
theorem mem_lookup {α:Type}:∀ {l:List (Str × α)} {x:Str} {c:α},(x,c)∈l→∃ d,l.lookup x=some d
  | [],_,_,h=>by cases h
  | (y,d)::r,x,c,h=>by
    rw [List.lookup_cons]
    cases hx:x == y with
    | true=>exact ⟨d,rfl⟩
    | false =>
      rcases List.mem_cons.mp h with e | h
      · cases e; simp at hx
      · exact mem_lookup h
theorem clOf_mem {cells:List (Str × Addr)}:∀ {names:List (Str × NameKind)} {acc:List (Str × Addr)} {p:Str × Addr},p∈clOf cells names acc↔p∈acc∨((p.1,NameKind.free)∈names∧p.2=(cells.lookup p.1).getD 0)
  | [],acc,p=>by simp [clOf]
  | (n,k)::r,acc,p=>by
    show p∈clOf cells r (if k == .free then (n,(cells.lookup n).getD 0)::acc else acc)↔_
    rw [clOf_mem (names:=r)]
    by_cases hk:k = .free
    · subst hk
      simp only [beq_self_eq_true,if_true,List.mem_cons]
      constructor
      · rintro ((rfl | h) | h)
        · exact .inr ⟨.inl rfl,rfl⟩
        · exact .inl h
        · exact .inr ⟨.inr h.1,h.2⟩
      · rintro (h | ⟨h | h,e⟩)
        · exact .inl (.inr h)
        · obtain ⟨a,b⟩:=p
          cases h
          exact .inl (.inl (by rw [show b=_ from e]))
        · exact .inr ⟨h,e⟩
    · have hb:(k == NameKind.free)=false:=by simpa using hk
      simp only [hb,Bool.false_eq_true,if_false,List.mem_cons]
      constructor
      · rintro (h | h)
        · exact .inl h
        · exact .inr ⟨.inr h.1,h.2⟩
      · rintro (h | ⟨h | h,e⟩)
        · exact .inl h
        · cases h; exact absurd rfl hk
        · exact .inr ⟨h,e⟩
theorem relabel_mem {scope:Scope} {env:Env} {x:Str} {k:NameKind} (h:(relabel scope env).names.lookup x=some k):∃ k',(x,k')∈scope.names∧(k'=k∨(k' = .free∧k = .cell)):=by
  have m:=lookup_mem h
  unfold relabel at m
  obtain ⟨⟨n,k'⟩,hm,e⟩:=List.mem_map.mp m
  dsimp only at e
  split at e
  · rename_i hc
    rw [Bool.and_eq_true,Bool.and_eq_true] at hc
    have e1:n=x:=congrArg Prod.fst e
    have e2:NameKind.cell=k:=congrArg Prod.snd e
    subst e1 e2
    exact ⟨k',hm,.inr ⟨by simpa using hc.1.1,rfl⟩⟩
  · have e1:n=x:=congrArg Prod.fst e
    have e2:k'=k:=congrArg Prod.snd e
    subst e1 e2
    exact ⟨k',hm,.inl rfl⟩
noncomputable def subCx (X:Cx) (scope:Scope) (N:List Str) (cl:List (Str × Addr)) (C:Addr) (s:Shared) (H:Hp) (fp:List Addr) (xe:Value→Shared→Prop):Cx :=
  { X with N:=N,s₀:=s,H₀:=H,env:=compEnvC scope cl C X.env,outer:=X.stack,stack:=X.stack,ex:=fp,fn:=fun _=>false,pn:=[],xe:=xe }
inductive Caps (X:Cx) (scope:Scope):List Str→List (Option Nat)→Prop where
  | nil:Caps X scope [] []
  | own {x:Str} {N:List Str} {ix:List (Option Nat)} (r:Caps X scope N ix):Caps X scope (x::N) (none::ix)
  | cap {x:Str} {j:Nat} {N:List Str} {ix:List (Option Nat)} (h1:X.N[j]? = some x) (h2:X.env.kindOf x=some .cell) (h3:(relabel scope X.env).names.lookup x=some .cell) (r:Caps X scope N ix):Caps X scope (x::N) (some j::ix)
noncomputable def capS (ix:List (Option Nat)) (σ:St):St:=ix.map fun o=>match o with
  | none=>none
  | some j=>(σ[j]?).getD none
theorem Caps.get {X:Cx} {scope:Scope} {σ:St}:∀ {N:List Str} {ix:List (Option Nat)},Caps X scope N ix→∀ (i:Nat) (x:Str) (v:V),N[i]? = some x→(capS ix σ)[i]? = some (some v) →
    ∃ j:Nat,X.N[j]? = some x∧σ[j]? = some (some v)∧X.env.kindOf x=some .cell∧(relabel scope X.env).names.lookup x=some .cell
  | _,_,.nil,i,x,v,h,_=>by simp at h
  | _,_,.own r,0,x,v,_,h=>by simp [capS] at h
  | _,_,.own r,i+1,x,v,h1,h2=>r.get i x v (by simpa using h1) (by simpa [capS] using h2)
  | _,_,.cap (j:=j) e1 e2 e3 r,0,x,v,h1,h2=>by
    simp at h1
    subst h1
    refine ⟨j,e1,?_,e2,e3⟩
    simp only [capS,List.map_cons,List.getElem?_cons_zero,Option.some.injEq] at h2
    cases q:σ[j]? with
    | none=>rw [q] at h2; cases h2
    | some o=>rw [q] at h2; simp only [Option.getD_some] at h2; rw [h2]
  | _,_,.cap e1 e2 e3 r,i+1,x,v,h1,h2=>r.get i x v (by simpa using h1) (by simpa [capS] using h2)
theorem Caps.length {X:Cx} {scope:Scope} {N:List Str} {ix:List (Option Nat)} (h:Caps X scope N ix):ix.length=N.length:=by
  induction h with
  | nil=>rfl
  | own _ ih=>simp [ih]
  | cap _ _ _ _ ih=>simp [ih]
noncomputable def Ext (a b:St):Prop:=b.length=a.length∧∀ (i:Nat) v,a[i]? = some (some v)→b[i]? = some (some v)
theorem Ext.set {a:St} {i:Nat} {v:V} (h:a[i]? = some none):Ext a (a.set i (some v)):=by
  refine ⟨by simp,fun j w e=>?_⟩
  by_cases hj:j=i
  · subst hj; rw [h] at e; cases e
  · rw [List.getElem?_set_ne (Ne.symm hj)]; exact e
theorem Ext.trans {a b c:St} (h:Ext a b) (h':Ext b c):Ext a c:=⟨h'.1.trans h.1,fun i v e=>h'.2 i v (h.2 i v e)⟩
noncomputable def PTs (X:Cx) (ifs:List Expr) (t:TT):Prop :=
  ∀ (pins:List (Addr × Obj)) (s:Shared) (σ:St) (H:Hp) (Q:Bool→Hp→Prop),Inv X pins σ H s→t σ H Q →
    wpAny (model X.prog X.w) X.A (forIn ifs true fun c r=>if r=true then do let ok ← isTrue c X.env (eval c X.env); pure (ForInStep.yield ok) else pure (ForInStep.yield r)) (TP X pins σ Q) X.xe s
noncomputable def ttNil:TT:=fun _ H Q=>Q true H
theorem pts_nil {X:Cx}:PTs X [] ttNil:=fun pins s σ H Q I h=>wpAny_tests_nil ⟨H,I,h⟩
theorem pts_one {X:Cx} {c:Expr} {t:TT} (h:PT X c t):PTs X [c] t:=fun pins s σ H Q I q=>wpAny_tests_one (h pins s σ H Q I q)
noncomputable def CompW (J:It) (g:TG) (tt:TT) (te:TE) (σ0:St) (D:Addr) (Q:VK) (H1:Hp):Prop:=∃ W:Nat→Nat→List V→Hp→Prop,(∃ m,W 0 m [] (upd H1 D (.lst [])))∧∀ i m ys H,W i m ys H →
  (J.stop i H∧Q (.ref D) H)∨(J.go i H∧∀ x H',J.yld i H x H'→g x σ0 H' fun σ2 H2=>Ext σ0 σ2∧tt σ2 H2 fun b H3 =>
    if b=true then te σ2 H3 fun v H4=>H4 D=some (.lst ys)∧ys.length < sizeLine∧∃ m',m' < m∧W (i+1) m' (ys++[v]) (upd H4 D (.lst (ys++[v]))) else ∃ m',m' < m∧W (i+1) m' ys H3)
noncomputable def tComp (wi:TI) (g:TG) (tt:TT) (te:TE) (ix:List (Option Nat)):TE:=fun σ H Q=>wi σ H fun J H1=>∀ D,H1 D=none→CompW J g tt te (capS ix σ) D Q H1
section
variable {prog:Program} {w:World} {A:Around} {R:Result→Shared→Prop} {s:Shared}
theorem comp_loop {elt target iter:Expr} {ifs:List Expr} {scope:Scope} {pos:Pos} {it acc:Value} {env:Env} (I:Nat→Shared→Prop)
    (turn:∀ n s,I n s→wpAny (model prog w) A (pyNext it) (fun r s₁=>match r with
      | none=>R (.ok .next) s₁
      | some v=>wpAny (model prog w) A (letOwnedTupleGo target it v) (fun _ s₁'=>wpAny (model prog w) A (assign target env v) (fun _ s₂ =>
          wpAny (model prog w) A (forIn ifs true fun c r=>if r=true then do let ok ← isTrue c env (eval c env); pure (ForInStep.yield ok) else pure (ForInStep.yield r)) (fun ok s₃ =>
            if ok=true then wpAny (model prog w) A (eval elt env) (fun x s₄ =>
              wpAny (model prog w) A (call (.builtin "list.append") [acc,x]) (fun _ s₅=>∃ m,m < n∧I m s₅) (notedBy (model prog w) A env fun e s'=>R (.error e) s') s₄) (notedBy (model prog w) A env fun e s'=>R (.error e) s') s₃
            else ∃ m,m < n∧I m s₃) (notedBy (model prog w) A env fun e s'=>R (.error e) s') s₂) (notedBy (model prog w) A env fun e s'=>R (.error e) s') s₁') (notedBy (model prog w) A env fun e s'=>R (.error e) s') s₁) (notedBy (model prog w) A env fun e s'=>R (.error e) s') s)
    (n:Nat) (h:I n s):codeAny (model prog w) A (.compLoop (.ListComp elt [⟨target,iter,ifs,0⟩] scope pos) 0 it acc env) R s:=by
  refine codeAny_loop rfl I (fun n s hI=>?_) n h
  show wpAny _ A ((compTurn (.ListComp elt [⟨target,iter,ifs,0⟩] scope pos) 0 it acc env).onRaise (fun x=>do noteFrame x env; theTreesLotGoes x)) _ _ s
  refine wpAny_noted ?_
  rw [compTurn_list]
  refine wpAny_bind (wpAny_standAt (wpAny_bind (wpAny_mono (turn n s hI) (fun r s₁ h₁=>?_) fun _ _ h'=>h')))
  cases r with
  | none=>exact wpAny_pure h₁
  | some v =>
    refine wpAny_bind (wpAny_mono h₁ (fun _ s₁' h₁'=>?_) fun _ _ h'=>h')
    refine wpAny_bind (wpAny_mono h₁' (fun _ s₂ h₂=>wpAny_bind (wpAny_mono h₂ (fun ok s₃ h₃=>?_) fun _ _ h'=>h')) fun _ _ h'=>h')
    cases ok with
    | false=>exact wpAny_pure ⟨rfl,h₃⟩
    | true =>
      exact wpAny_bind (wpAny_bind (wpAny_mono h₃ (fun x s₄ h₄=>wpAny_bind (wpAny_mono h₄ (fun _ s₅ h₅=>wpAny_pure (wpAny_pure ⟨rfl,h₅⟩)) fun _ _ h'=>h')) fun _ _ h'=>h'))
end
section
variable {X:Cx}
noncomputable def noCell (sc:Scope):Bool:=sc.names.all fun y=>y.2 != .cell
noncomputable def freeOk (sc:Scope) (env:Env):Bool:=sc.names.all fun y=>y.2 != .free || env.kindOf y.1 == some .cell
noncomputable def namesOk (sc:Scope):Bool:=sc.names.all fun y=>y.2 != .local || sc.names.lookup y.1 == some .local
structure BlockEnd (X:Cx) (pins:List (Addr × Obj)) (σ:St) (H:Hp) (C:Addr) (s:Shared):Prop where
  inv:Inv X pins σ H s
  ns:∃ m,s.heap.Ns C m
  free:H C=none
  loc:C≠X.env.locals
  young:X.s₀.heap.objs.size≤C
  cell:∀ x c,X.env.cells.lookup x=some c→c≠C
  pin:∀ p∈X.pn++pins,p.1≠C
theorem BlockEnd.gone {pins:List (Addr × Obj)} {σ:St} {H:Hp} {C:Addr} {s:Shared} (B:BlockEnd X pins σ H C s) {h':Heap} (hs:Heap.SameBut C s.heap h'):Inv X pins σ H { s with heap:=h' } :=
  B.inv.turned (t':=s.toks) (it:=C) (fun b o hb e=>hs.extBut b o hb e) B.free B.loc (.inr B.young) B.cell B.pin
theorem comp_core {elt tg iter:Expr} {ifs:List Expr} {scope:Scope} {pos pos':Pos} {N:List Str} {ix:List (Option Nat)} {wi:TI} {g:TG} {tt:TT} {te:TE} {use:Option (Value→Sem Unit)} {Qv:Value→Shared→Prop}
    (hc:X.calm=true) (hi:PI X tg iter wi) (hk:scope.kind = .function) (hcell0:noCell scope=true) (hfree0:freeOk scope X.env=true) (hnames0:namesOk scope=true) (caps:Caps X scope N ix)
    (hg:∀ cl C s H fp xe,PG (subCx X scope N cl C s H fp xe) tg g) (ht:∀ cl C s H fp xe,PTs (subCx X scope N cl C s H fp xe) ifs tt) (he:∀ cl C s H fp xe,PE (subCx X scope N cl C s H fp xe) elt te)
    (hs:∀ x,foldedSetIterable iter X.env x=pure x)
    {pins:List (Addr × Obj)} {s:Shared} {σ:St} {H:Hp} {Q:VK} (I:Inv X pins σ H s) (h:tComp wi g tt te ix σ H Q)
    (fin:∀ (C D:Addr) (H6:Hp) (s6:Shared),BlockEnd X pins σ H6 C s6→Q (.ref D) H6→compPost (model X.prog X.w) X.A X.xe use Qv (.ref D) C (.ok .next) s6) :
    wpAny (model X.prog X.w) X.A (comprehension (.ListComp elt [⟨tg,iter,ifs,0⟩] scope pos) scope X.env pos' (newList []) false (eval iter X.env) use) Qv X.xe s:=by
  have hcell:∀ y∈scope.names,y.2≠.cell:=fun y hy e=>by
    have:=List.all_eq_true.mp hcell0 y hy
    rw [e] at this; exact absurd this (by decide)
  have hfree:∀ y∈scope.names,y.2 = .free→X.env.kindOf y.1=some .cell:=fun y hy e=>by
    have:=List.all_eq_true.mp hfree0 y hy
    rw [e] at this; simpa using this
  have hnames:∀ y∈scope.names,y.2 = .local→scope.names.lookup y.1=some .local:=fun y hy e=>by
    have:=List.all_eq_true.mp hnames0 y hy
    rw [e] at this; simpa using this
  have hcl:∀ y∈scope.names,y.2 = .free→∃ c,X.env.cells.lookup y.1=some c:=fun y hy e=>I.ok.has y.1 (.inl (hfree y hy e))
  refine wpAny_comprehension_free (use:=use) rfl hs (closure_eq hcl) hk hnames ?_
  generalize ecl:clOf X.env.cells scope.names []=cl
  -- the cells of the block are the def's
  have cl1:∀ x c,cl.lookup x=some c→X.env.cells.lookup x=some c:=fun x c e=>by
    have m:=lookup_mem e
    rw [← ecl] at m
    rcases clOf_mem.mp m with z | ⟨z,z'⟩
    · cases z
    · obtain ⟨a,ea⟩:=hcl _ z rfl
      have ea':X.env.cells.lookup x=some a:=ea
      have z2:c=(X.env.cells.lookup x).getD 0:=z'
      rw [ea',Option.getD_some] at z2
      rw [ea',z2]
  have cl2:∀ x,(x,NameKind.free)∈scope.names→∃ c,cl.lookup x=some c:=fun x hx=>by
    have m:(x,(X.env.cells.lookup x).getD 0)∈cl:=by rw [← ecl]; exact clOf_mem.mpr (.inr ⟨hx,rfl⟩)
    exact mem_lookup m
  refine thn (hi pins s σ H _ I h) fun v s1 h1=>thn h1 fun itv s2 h2=>?_
  obtain ⟨it,fp,tn,J,H2,e,I2,T,st2,f2,body⟩:=h2
  subst e
  refine wpAny_newObj_type (wpAny_newFunctionEnv hcell (by intro y hy; simp at hy) (fun h₁ hns₁ hsb₁=>?_) hk)
  dsimp only at hns₁ hsb₁ ⊢
  have hD:H2 s2.heap.objs.size=none:=I2.hok.fresh (Nat.le_refl _)
  obtain ⟨W,⟨m0,w0⟩,turn⟩:=body _ hD
  have I3:Inv X pins σ (upd H2 s2.heap.objs.size (.lst [])) { s2 with heap:=s2.heap.push { cls:=.type "list",dict:=none,data:=.seq ([]:List Value).toArray } } :=
    I2.laid (t':=s2.toks) (fun b o e=>Heap.get?_push_of_some _ e) (Nat.le_refl _) ⟨Nat.zero_le _,[],0,.nil,Heap.get?_push_size _ rfl⟩
  generalize hs3:({ s2 with heap:=s2.heap.push { cls:=.type "list",dict:=none,data:=.seq ([]:List Value).toArray } }:Shared)=s3 at I3
  have es3:s2.heap.push { cls:=.type "list",dict:=none,data:=.seq ([]:List Value).toArray }=s3.heap:=by rw [← hs3]
  rw [es3] at hns₁ hsb₁ ⊢
  generalize hD':s2.heap.objs.size=D at *
  generalize hH3:upd H2 D (.lst [])=H3 at *
  have szC:s3.heap.objs.size=D+1:=by rw [← es3,Heap.size_push,hD']
  -- what was,is
  have old:∀ b o,s3.heap.get? b=some o→h₁.get? b=some o:=fun b o e=>hsb₁.extBut b o (Nat.ne_of_lt (Heap.lt_size e)) (Heap.get?_push_of_some _ e)
  have fpl:∀ b∈fp,b < D:=fun b hb=>by
    obtain ⟨o,e,_⟩:=T.obj 0 _ st2 b hb
    rw [← hD']; exact Heap.lt_size e
  have fpD:∀ b∈fp,H3 b=none:=fun b hb=>by
    rw [← hH3,upd_ne (Nat.ne_of_lt (fpl b hb))]; exact (f2 b hb).1
  have fstk:∀ b∈fp,b∉frs X.stack:=fun b hb z=>by
    obtain ⟨_,f1,f3,_⟩:=f2 b hb
    rcases List.mem_cons.mp (I2.stkSub b z) with e | e
    · exact f1 e
    · exact f3 e
  let E':Value→Shared→Prop:=notedBy (model X.prog X.w) X.A (compEnvC scope cl s3.heap.objs.size X.env) fun e s'=>compPost (model X.prog X.w) X.A X.xe use Qv (.ref D) s3.heap.objs.size (.error e) s'
  have ok':(subCx X scope N cl s3.heap.objs.size s3 H3 fp E').Ok:=by
    refine { mod:=I.ok.mod,kind:=?_,glob:=I.ok.glob,blt:=I.ok.blt,above:=Nat.le_refl _,inj:=?_,has:=?_,cab:=?_,hd:=I.ok.hd,frames:=I.ok.frames,stk:=.inl rfl,exf:=?_,bs:=I3.bs,bsz:=?_,noex:=?_,exfs:=fstk,funs:=I3.stack,frf:=I3.stkFree }
    · show (relabel scope X.env).kind = .function
      exact hk
    · exact fun x y c e1 e2=>I.ok.inj x y c (cl1 x c e1) (cl1 y c e2)
    · intro x hx
      have hx':(relabel scope X.env).names.lookup x=some .cell∨(relabel scope X.env).names.lookup x=some .free:=hx
      have:(x,NameKind.free)∈scope.names:=by
        rcases hx' with e | e
        · obtain ⟨k',hm,z | ⟨z,_⟩⟩:=relabel_mem e
          · subst z; exact absurd rfl (hcell _ hm)
          · subst z; exact hm
        · obtain ⟨k',hm,z | ⟨z,z'⟩⟩:=relabel_mem e
          · subst z; exact hm
          · cases z'
      exact cl2 x this
    · intro x c z; cases z
    · intro b hb
      refine ⟨fun z=>?_,fun x c e=>(f2 b hb).2.2.2.2.1 x c (cl1 x c e)⟩
      have lt:=fpl b hb
      have z':b=s3.heap.objs.size:=z
      rw [z',szC] at lt
      exact absurd lt (Nat.not_lt.mpr (Nat.le_succ D))
    · exact Nat.le_trans I3.ok.bsz I3.sz
    · intro b o e hb
      rcases (f2 b hb).2.2.2.1 with z | z
      · exact I.ok.noex b o e z
      · exact absurd (Nat.lt_of_lt_of_le (Heap.lt_size e) (Nat.le_trans I.ok.bsz z)) (Nat.lt_irrefl _)
  have I4:∀ tk,Inv (subCx X scope N cl s3.heap.objs.size s3 H3 fp E') [] (capS ix σ) H3 { s3 with heap:=h₁,toks:=tk }:=fun tk=>by
    refine ⟨ok',rfl,I3.bare,Un.kept old,⟨_,hns₁,fun i x v e1 e2 e3=>?_⟩,fun x c e=>?_,?_,fun x c e=>I3.freeC x c (cl1 x c e),fun p hp=>(by cases hp),I3.hok.kept old,?_⟩
    · obtain ⟨j,j1,j2,j3,j4⟩:=caps.get i x v e1 e2
      obtain ⟨m,hn,hl⟩:=I3.loc
      obtain ⟨u,r,l⟩:=hl j x v j1 j2 (.inr (.inl j3))
      refine ⟨u,r,.inr ⟨.inl j4,?_⟩⟩
      rcases l with ⟨l,_⟩ | ⟨_,c,ec,hcell⟩
      · have l':X.env.kindOf x=some .local:=l
        rw [j3] at l'; cases l'
      · obtain ⟨k',hm,z | ⟨z,_⟩⟩:=relabel_mem j4
        · subst z; exact absurd rfl (‹∀ y∈scope.names,y.2≠.cell› _ hm)
        · subst z
          obtain ⟨c',ec'⟩:=cl2 x hm
          have:=cl1 x c' ec'
          rw [ec] at this; cases this
          obtain ⟨o,ho,hd⟩:=hcell
          exact ⟨c,ec',o,old _ _ ho,hd⟩
    · obtain ⟨v,o,ho,hd⟩:=I3.cell x c (cl1 x c e)
      exact ⟨v,o,old _ _ ho,hd⟩
    · exact I3.hok.fresh (Nat.le_refl _)
    · show (capS ix σ).length=N.length
      rw [← caps.length]; simp [capS]
  have st4:tn 0 h₁:=T.keep 0 _ _ st2 fun b hb o e=>old b o (by rw [← es3]; exact Heap.get?_push_of_some _ e)
  -- the block's end
  have fin6:∀ (s6:Shared) (H6:Hp),Inv (subCx X scope N cl s3.heap.objs.size s3 H3 fp E') [] (capS ix σ) H6 s6→Q (.ref D) H6 →
      compPost (model X.prog X.w) X.A X.xe use Qv (.ref D) s3.heap.objs.size (.ok .next) s6:=fun s6 H6 I6 q=>by
    obtain ⟨m,hn,_⟩:=I6.loc
    refine fin s3.heap.objs.size D H6 s6 ⟨I3.call' (s':=s6) (ch:=fp) I6.os I6.base I6.hok I6.bare ?_,⟨m,hn⟩,I6.free,?_,I3.sz,?_,?_⟩ q
    · intro b hb
      obtain ⟨_,f1,_,f3,f4,f5⟩:=f2 b hb
      exact ⟨f3,f1,f4,f5⟩
    · exact Nat.ne_of_gt I3.lt
    · intro x c e z
      obtain ⟨v,o,ho,_⟩:=I3.cell x c e
      exact absurd (Heap.lt_size ho) (by rw [z]; exact Nat.lt_irrefl _)
    · intro p hp z
      exact absurd (Heap.lt_size (I3.pin p hp).1) (by rw [z]; exact Nat.lt_irrefl _)
  -- the loop
  have loop:∀ s4:Shared,s4={ s3 with heap:=h₁,toks:=s2.toks+([]:List (Str × Value)).length } →
      codeAny (model X.prog X.w) X.A (.compLoop (.ListComp elt [⟨tg,iter,ifs,0⟩] scope pos) 0 (.ref it) (.ref D) (compEnvC scope cl s3.heap.objs.size X.env)) (compPost (model X.prog X.w) X.A X.xe use Qv (.ref D) s3.heap.objs.size) s4:=by
    rintro s4 rfl
    refine comp_loop (fun n s'=>∃ i ys H',Inv (subCx X scope N cl s3.heap.objs.size s3 H3 fp E') [] (capS ix σ) H' s'∧tn i s'.heap∧(∀ b∈fp,H' b=none)∧W i n ys H') ?_ m0 ⟨0,[],H3,I4 _,st4,fpD,w0⟩
    rintro n s5 ⟨i,ys,H5,I5,st5,fr5,w5⟩
    have stat:∀ {H':Hp},(∀ b∈fp,H' b=none)→∀ b∈fp,FpOk (subCx X scope N cl s3.heap.objs.size s3 H3 fp E') [] H' b:=fun hn b hb=>by
      refine ⟨hn b hb,fun z=>?_,fstk b hb,.inl hb,fun x c e=>(f2 b hb).2.2.2.2.1 x c (cl1 x c e),fun p hp=>(by cases hp)⟩
      have lt:=fpl b hb
      have z':b=s3.heap.objs.size:=z
      rw [z',szC] at lt
      exact absurd lt (Nat.not_lt.mpr (Nat.le_succ D))
    rcases turn i n ys H5 w5 with ⟨stop,q⟩ | ⟨go,step⟩
    · refine thn (T.done (subCx X scope N cl s3.heap.objs.size s3 H3 fp E') rfl rfl rfl hc i [] s5 _ H5 E' I5 (stat fr5) st5 stop) fun r s6 ⟨hr,I6⟩=>?_
      subst hr
      exact fin6 s6 H5 I6 q
    · refine thn (T.item (subCx X scope N cl s3.heap.objs.size s3 H3 fp E') rfl rfl rfl hc i [] s5 _ H5 E' I5 (stat fr5) st5 go) fun r s6 ⟨u,hr,h6⟩=>?_
      subst hr
      refine thn h6 fun _ s7 ⟨x,H7,I7,r7,y7,st7,fr7⟩=>?_
      have I7':=I7.pinned (stat fr7) (T.obj _ _ st7)
      refine thn (hg cl s3.heap.objs.size s3 H3 fp E' _ s7 _ H7 x u _ I7' r7 (step x H7 y7)) fun _ s8 ⟨σ8,H8,I8,ext,q8⟩=>?_
      have again:∀ {σ9:St} {H9:Hp} {s9:Shared} {m':Nat} {zs:List V},Ext (capS ix σ) σ9→Inv (subCx X scope N cl s3.heap.objs.size s3 H3 fp E') ([]++pinsAt fp s7.heap) σ9 H9 s9→m' < n→W (i+1) m' zs H9 →
          ∃ m,m < n∧∃ i ys H',Inv (subCx X scope N cl s3.heap.objs.size s3 H3 fp E') [] (capS ix σ) H' s9∧tn i s9.heap∧(∀ b∈fp,H' b=none)∧W i m ys H':=fun {σ9 H9 s9 m' zs} ex I9 hm w9=>by
        refine ⟨m',hm,i+1,zs,H9,(I9.unpinned).weak ex.1.symm ex.2,T.keep _ _ _ st7 fun b hb o e=>(I9.pin (b,o) (List.mem_append_right _ (List.mem_append_right _ (mem_pinsAt hb e)))).1,fun b hb=>?_,w9⟩
        obtain ⟨o,e,d⟩:=T.obj _ _ st7 b hb
        exact (I9.pin (b,o) (List.mem_append_right _ (List.mem_append_right _ (mem_pinsAt hb e)))).2.1
      refine thn (ht cl s3.heap.objs.size s3 H3 fp E' _ s8 σ8 H8 _ I8 q8) fun ok s9 ⟨H9,I9,q9⟩=>?_
      cases ok with
      | false =>
        obtain ⟨m',hm,w9⟩:=q9
        exact again ext I9 hm w9
      | true =>
        refine thn (he cl s3.heap.objs.size s3 H3 fp E' _ s9 σ8 H9 _ I9 q9) fun u10 s10 ⟨v10,H10,I10,r10,hDl,hlt,m',hm,w10⟩=>?_
        refine thn (mt_append (X:=subCx X scope N cl s3.heap.objs.size s3 H3 fp E') _ s10 σ8 H10 (.ref D) [v10] (.ref D) [u10] (fun _ H'=>H'=upd H10 D (.lst (ys++[v10]))) I10 rfl (.cons r10 .nil) ⟨D,ys,v10,rfl,rfl,hDl,hlt,rfl⟩) fun _ s11 ⟨_,H11,I11,_,e11⟩=>?_
        subst e11
        exact again ext I11 hm w10
  exact codeAny_compStart_list (loop _ (by rw [← hs3])) (T.self _ 0 _ _ _ st4 (loop _ (by rw [← hs3])))
theorem pe_comp {elt tg iter:Expr} {ifs:List Expr} {scope:Scope} {pos:Pos} {N:List Str} {ix:List (Option Nat)} {wi:TI} {g:TG} {tt:TT} {te:TE}
    (hc:X.calm=true) (hi:PI X tg iter wi) (hk:scope.kind = .function) (hcell0:noCell scope=true) (hfree0:freeOk scope X.env=true) (hnames0:namesOk scope=true) (caps:Caps X scope N ix)
    (hg:∀ cl C s H fp xe,PG (subCx X scope N cl C s H fp xe) tg g) (ht:∀ cl C s H fp xe,PTs (subCx X scope N cl C s H fp xe) ifs tt) (he:∀ cl C s H fp xe,PE (subCx X scope N cl C s H fp xe) elt te)
    (hs:∀ x,foldedSetIterable iter X.env x=pure x:=by intro _; rfl) :
    PE X (.ListComp elt [⟨tg,iter,ifs,0⟩] scope pos) (tComp wi g tt te ix):=by
  intro pins s σ H Q I h
  rw [eval_ListComp]
  refine comp_core (use:=none) hc hi hk hcell0 hfree0 hnames0 caps hg ht he hs I h fun C D H6 s6 B q=>?_
  obtain ⟨m,hn⟩:=B.ns
  exact ⟨m,hn,fun h' hsb=>⟨.ref D,H6,B.gone hsb,rfl,q⟩⟩
noncomputable def tSetC (i:Nat) (te:TE):TS:=fun D σ H=>te σ H fun x H1=>D.nx (σ.set i (some x)) H1
theorem ps_setComp {i:Nat} {y:Str} {py:Pos} {spos:Pos} {elt tg iter:Expr} {ifs:List Expr} {scope:Scope} {pos:Pos} {N:List Str} {ix:List (Option Nat)} {wi:TI} {g:TG} {tt:TT} {te:TE}
    (hN:X.N.Nodup) (hi':X.N[i]? = some y) (hx:Loc X.env.scope y) (hsw:swapsWith (.ListComp elt [⟨tg,iter,ifs,0⟩] scope pos) (some (.Name y py)) spos.line X.env=pure true)
    (hc:X.calm=true) (hi:PI X tg iter wi) (hk:scope.kind = .function) (hcell0:noCell scope=true) (hfree0:freeOk scope X.env=true) (hnames0:namesOk scope=true) (caps:Caps X scope N ix)
    (hg:∀ cl C s H fp xe,PG (subCx X scope N cl C s H fp xe) tg g) (ht:∀ cl C s H fp xe,PTs (subCx X scope N cl C s H fp xe) ifs tt) (he:∀ cl C s H fp xe,PE (subCx X scope N cl C s H fp xe) elt te)
    (hs:∀ x,foldedSetIterable iter X.env x=pure x:=by intro _; rfl) (hf:X.fn y=true∨X.env.scope.names.lookup y=some .local:=by first | exact .inl rfl | exact .inr rfl | assumption) :
    PS X (.Assign [.Name y py] (.ListComp elt [⟨tg,iter,ifs,0⟩] scope pos) spos) (tSetC i (tComp wi g tt te ix)):=by
  intro pins s σ H D I h
  rw [exec_Assign_Name_used _ _ _ _ hsw]
  refine wpAny_bind (wpAny_standAt (wpAny_bind ?_))
  show wpAny _ X.A (do let _ ← comprehension (.ListComp elt [⟨tg,iter,ifs,0⟩] scope pos) scope X.env _ (newList []) false (eval iter X.env) (some (assign (.Name y py) X.env))) _ _ s
  refine wpAny_bind (wpAny_mono (comp_core (use:=some (assign (.Name y py) X.env)) (Qv:=fun _ s'=>SP X pins D .next s') hc hi hk hcell0 hfree0 hnames0 caps hg ht he hs I h fun C a H6 s6 B q=>?_) (fun _ s' hq=>wpAny_pure (wpAny_pure hq)) fun _ _ e=>e)
  obtain ⟨m,hn⟩:=B.ns
  show wpAny _ X.A (assign (.Name y py) X.env (.ref a)) _ _ s6
  refine wpAny_assign_Name (store_ok2 B.inv hN hi' hx (v:=.ref a) rfl (fun s7 I7 ⟨z,hz,hz'⟩=>?_) hf)
  have hzC:C≠z:=by
    rcases hz' with e | e
    · rw [e]; exact B.loc
    · exact fun w=>B.cell y z e w.symm
  refine ⟨m,hn.sameBut hz hzC,fun h' hsb=>?_⟩
  have B7:BlockEnd X pins (σ.set i (some (.ref a))) H6 C s7:=⟨I7,⟨m,hn.sameBut hz hzC⟩,B.free,B.loc,B.young,B.cell,B.pin⟩
  exact ⟨_,H6,B7.gone hsb,q⟩
theorem comp_list {K:PySem.W.Frag} {a:Addr} {xs:List V} {g:TG} {tt:TT} {te:TE} {σ0:St} {H:Hp} {D:Addr} {Q:VK} (f:V→V) (hz:xs.length≤sizeLine) (hx:SqL K H a xs) (hD:H D=none)
    (hs:∀ (i:Nat) (x:V) (H':Hp) (R:VK) (R0:Hp→Prop),xs[i]? = some x→(∀ b,b≠D→H' b=H b)→R (f x) H'→g x σ0 H' fun σ2 H2=>Ext σ0 σ2∧tt σ2 H2 fun b H3=>if b=true then te σ2 H3 R else R0 H3)
    (hq:Q (.ref D) (upd H D (.lst (xs.map f)))) :
    CompW (Itl K a) g tt te σ0 D Q H:=by
  have stays:∀ ys:List V,SqL K (upd H D (.lst ys)) a xs:=fun ys=>by
    have sm:Same H (upd H D (.lst ys)):=fun b u q=>by rw [upd_ne (ne_of_none q hD)]; exact q
    exact sm.seq hx
  refine ⟨fun i m ys H'=>m=xs.length - i∧i≤xs.length∧ys=(xs.take i).map f∧H'=upd H D (.lst ys),⟨xs.length,by simp,Nat.zero_le _,by simp,rfl⟩,?_⟩
  rintro i m ys H' ⟨rfl,hi,rfl,rfl⟩
  by_cases hlt:i < xs.length
  · refine .inr ⟨⟨xs,xs[i],stays _,by simp [hlt]⟩,fun x H'' y=>?_⟩
    obtain ⟨e,y⟩:=y
    subst e
    have ex:=y xs (stays _)
    refine hs i x _ _ _ ex (fun b hb=>upd_ne hb) ⟨upd_same,by simp; omega,xs.length - (i+1),by omega,rfl,hlt,?_,?_⟩
    · rw [List.take_add_one,ex,List.map_append]; rfl
    · rw [upd_upd]
  · have e:i=xs.length:=by omega
    subst e
    refine .inl ⟨⟨xs,stays _,Nat.le_refl _⟩,?_⟩
    rw [List.take_length]
    exact hq
end
end L2
set_option Elab.async false
set_option linter.all false
set_option maxRecDepth 100000
set_option maxHeartbeats 4000000
namespace L2
open PySem PySem.Spec PyProof.Rows
section
variable {P:Program} {w:World} {H:Hp} {h h':Heap} {a:Addr} {o:HO}
end
noncomputable def Tr (h:Heap) (e T:Addr) (cls:Value):Prop:=∃ oe vs oT ts a0,h.get? e=some oe∧oe.cls=cls∧vs[0]? = some a0∧oe.data = .fields vs∧vs[1]? = some (.ref T)∧T≠e∧h.get? T=some oT∧oT.data = .fields ts∧ts[3]? = some Value.none
section
variable {M:Model} {A:Around} {E:Value→Shared→Prop} {s:Shared} {Q:Unit→Shared→Prop} {base:Heap} {env:Env} {outer l:List Env} {L e T:Addr} {cls:Value}
end
section
variable {X:Cx} {pins:List (Addr × Obj)} {σ:St} {H:Hp} {s:Shared} {h':Heap} {ch:List Addr}
end
noncomputable def CX1 (P:Program) (w:World):CXT:=fun outer H s E e s'=>∃ (ea T:Addr) (cls:Value) (H':Hp),e = .ref ea∧s.heap.get? ea=none∧s.heap.get? T=none∧H' ea=none∧H' T=none∧Tr s'.heap ea T cls ∧
  s'.os=s.os∧AllBare s'.gens∧Un (frs outer) [] H H' s.heap s'.heap∧HOk P w H' s'.heap∧E cls none H'
theorem passN {P:Program} {w:World} {X:Cx}:Passes (CX1 P w) X E0:=fun _ _ _ _ _ _ _ ⟨_,_,_,_,_,_,_,_,_,_,_,_,_,_,q⟩=>q.elim
section
variable {P:Program} {w:World} {K:PySem.W.Frag} {mg:Str→Option Value} {base:Heap} {N:List Str} {qual:Str} {scope:Scope} {f:Addr} {cd:Value} {A:Around} {outer:List Env} {s:Shared} {H:Hp} {E:XK}
end
section
variable {P:Program} {w:World} {K:PySem.W.Frag} {mg:Str→Option Value} {base:Heap}
theorem FnOk.up {CX:CXT} {k:Nat} {f:Addr} {fd:FuncData} {ps:List Str} {sp:Sp} (F:FnOk P w K mg base CX0 k f fd ps sp):FnOk P w K mg base CX k f fd ps sp :=
  ⟨F.len,fun A outer s H args us vs Q E hr he hb hv hs=>codeAny_mono (F.run A outer s H args us vs Q E hr he hb hv hs) fun r s' q=>by
    cases r with
    | error e=>exact False.elim q
    | ok fl=>cases fl<;>exact q⟩
end
section
variable {X:Cx} {pins:List (Addr × Obj)} {σ:St} {H:Hp} {s:Shared} {e:Addr}
end
end L2
set_option Elab.async false
set_option linter.all false
set_option maxRecDepth 100000
set_option maxHeartbeats 4000000
namespace L2
open PySem PySem.Spec PyProof.Rows
structure Def (P:Program) (w:World) (K:PySem.W.Frag) (mg:Str→Option Value) (base:Heap) (x:Str) (ps:List Str) (k:Nat) (sp:Sp) (f:Addr) (fd:FuncData):Prop where
  ok:FnOk P w K mg base (CX1 P w) k f fd ps sp
  b:Binds K fd ps []
  kp:PySem.W.keepIn K (.ref f)=true
  m:mg x=some (.ref f)
section
variable {X:Cx} {f:Addr} {fd:FuncData} {ps:List Str} {sp:Sp} {x:Str} {p pos:Pos} {e:Expr} {es:List Expr} {t:TA} {j k:Nat}
theorem pcall (D:Def X.prog X.w X.K X.mg X.base x ps j sp f fd) (hr:Room k X.A) (ha:PA X (e::es) t) (hjk:j≤k:=by decide) (hg:Gl X x:=by rfl)
    (hdb:(x == ("__debug__" : Str))=false:=by decide) (he:starEach (e::es) X.env=(false,eval e X.env)::starEach es X.env:=by rfl) (hpl:(backTo pos (starEach es X.env)).any (·.1)=false:=by rfl) :
    PE X (.Call (.Name x p) (e::es) [] pos) (tCall sp [] E0 t):=pe_call D.ok (hr.mono hjk) hg D.m D.kp D.b .nil passN ha hdb he hpl
theorem pcall0 (D:Def X.prog X.w X.K X.mg X.base x ps j sp f fd) (hr:Room k X.A) (hjk:j≤k:=by decide) (hg:Gl X x:=by rfl) (hdb:(x == ("__debug__" : Str))=false:=by decide) :
    PE X (.Call (.Name x p) [] [] pos) (tCall sp [] E0 tNil):=pe_call0 D.ok (hr.mono hjk) hg D.m D.kp D.b .nil passN hdb
end
theorem bb_isinstance:bootBuiltins "isinstance" = some (.builtin "isinstance"):=by decide +kernel
theorem bb_int:bootBuiltins "int" = some (.type "int"):=by decide +kernel
theorem bb_bool:bootBuiltins "bool" = some (.type "bool"):=by decide +kernel
theorem bb_list:bootBuiltins "list" = some (.type "list"):=by decide +kernel
theorem bb_max:bootBuiltins "max" = some (.builtin "max"):=by decide +kernel
theorem bb_len:bootBuiltins "len" = some (.builtin "len"):=by decide +kernel
theorem Same.upd {H H':Hp} (h:Same H H') {p:Addr} (n:H p=none) (o:HO):Same H (L2.upd H' p o):=fun b u q=>by
  rw [upd_ne (ne_of_none q n)]; exact h b u q
theorem Same.new {H H':Hp} (h:Same H H') {p:Addr} (n:H' p=none) (o:HO):Same H (L2.upd H' p o):=h.trans fun b u q=>by
  rw [upd_ne (ne_of_none q n)]; exact q
theorem sz {n:Nat} (h:n≤1000000):n≤sizeLine:=Nat.le_trans h (by decide)
theorem sz' {n:Nat} (h:n≤1000000):n < sizeLine:=Nat.lt_of_le_of_lt h (by decide)
theorem kit_int_int {K:PySem.W.Frag}:PySem.W.kitOne K (.type "int") (.type "int")=some true:=by rfl
theorem kit_int_bool {K:PySem.W.Frag}:PySem.W.kitOne K (.type "int") (.type "bool")=some false:=by rfl
theorem atI_int {ns:List Int} {i:Int} (h0:0≤i) (h1:i < (ns.length:Int)):atI (ns.map V.int) i=some (.int (ns.getD i.toNat 0)):=by
  have hk:i.toNat < ns.length:=by omega
  have ek:i=((i.toNat:Nat):Int):=by omega
  have q:atI (ns.map V.int) ((i.toNat:Nat):Int)=some (.int (ns.getD i.toNat 0)):=atI_nat (by rw [List.getElem?_map,List.getD_eq_getElem?_getD,List.getElem?_eq_getElem hk]<;>rfl)
  rw [← ek] at q
  exact q
end L2
namespace L2
open PySem PySem.Spec PyProof.Rows
theorem ttN {σ:St} {H:Hp} {F:Bool→Hp→Prop} (h:F true H):ttNil σ H F:=h
theorem pm {j:Int} (h:0 < j):0 < j:=h
noncomputable def cutI (ns:List Int) (lo hi:Option Int):List Int:=(ns.drop (HT.sIx ns.length 0 lo)).take (HT.sIx ns.length ns.length hi - HT.sIx ns.length 0 lo)
theorem cutV_map (ns:List Int) (lo hi:Option Int):cutV (ns.map V.int) lo hi=(cutI ns lo hi).map V.int:=by
  unfold cutV cutI
  rw [List.length_map,List.map_take,List.map_drop]
theorem get_int {ns:List Int} {i:Nat} {x:V} (h:(ns.map V.int)[i]? = some x):∃ c,x = .int c:=by
  rw [List.getElem?_map] at h
  cases e:ns[i]? with
  | none=>rw [e] at h; cases h
  | some c=>rw [e] at h; cases h; exact ⟨c,rfl⟩
end L2
namespace L2
open PySem PySem.Spec PyProof.Rows
noncomputable def tCut (t u:TS):TS:=fun D σ H=>∃ P:St→Hp→Prop,t { D with nx:=P } σ H∧∀ σ' H',P σ' H'→u D σ' H'
theorem pss_cut {X:Cx} {st:Stmt} {rest:List Stmt} {t u:TS} (h1:PS X st t) (h2:PSs X rest u):PSs X (st::rest) (tCut t u):=by
  intro pins s σ H D I h
  obtain ⟨P,ha,hb⟩:=h
  refine wpAny_execs_cons (thn (h1 pins s σ H { D with nx:=P } I ha) fun f s1 q=>?_)
  cases f with
  | next =>
    obtain ⟨σ',H',I',q⟩:=q
    exact h2 pins s1 σ' H' D I' (hb σ' H' q)
  | ret v=>exact q
  | brk=>exact q
  | cont=>exact q
theorem iteP {c A B:Prop} [Decidable c] (hc:c) (h:A):if decide c=true then A else B:=by rw [decide_eq_true hc]; exact iteT h
theorem iteN {c A B:Prop} [Decidable c] (hc:¬ c) (h:B):if decide c=true then A else B:=by rw [decide_eq_false hc]; exact iteF h
theorem ixN_nat {n:Nat} {i:Int} (h0:0≤i) (h1:i < n):ixN n i=some i.toNat:=by unfold ixN; rw [if_pos h0,if_pos h1]
theorem cutI_length (ns:List Int) (lo hi:Option Int):(cutI ns lo hi).length≤ns.length:=by
  unfold cutI; rw [List.length_take,List.length_drop]; omega
end L2
namespace Ck
noncomputable def shL:Nat→List Int
  | 0=>[1]
  | k+1=>shL k++[((List.range (k+1)).map fun j=>(shL k).getD j 0*(shL k).getD (k - j) 0).sum]
noncomputable def sh (k:Nat):Int:=(shL k).getD k 0
end Ck
namespace Ck
noncomputable def r:Nat→Nat→Int
  | 0,_=>1
  | _+1,0=>0
  | u+1,d+1=>if d < u then 0 else r u (d+1)+r (u+1) d
noncomputable def row (n u:Nat):List Int:=(List.range (n+1 - u)).map fun i=>r u (u+i)
noncomputable def pw (a:Int):Nat→Int
  | 0=>1
  | k+1=>pw a k*a
end Ck
namespace Ck
inductive Good:Nat→Nat→List Nat→Prop
  | nil:Good 0 0 []
  | up {u d:Nat} {t:List Nat} (h:Good u d t) (le:u+1≤d):Good (u+1) d (40::t)
  | down {u d:Nat} {t:List Nat} (h:Good u d t) (le:u≤d):Good u (d+1) (41::t)
noncomputable def lt:List Nat→List Nat→Bool
  | c::s,e::t=>if c=e then lt s t else c == 40
  | _,_=>false
end Ck
set_option Elab.async false
set_option linter.all false
set_option maxRecDepth 100000
set_option maxHeartbeats 4000000
namespace Ck
open PySem
noncomputable def ix (n d:Nat):Option Int→Nat
  | none=>d
  | some v=>if v < 0 then (v+(n:Int)).toNat else min v.toNat n
end Ck
set_option Elab.async false
set_option linter.all false
set_option maxRecDepth 100000
set_option maxHeartbeats 4000000
namespace Ck
open PySem L2
end Ck
namespace L2
open PySem
end L2
namespace Ck
open PySem L2
structure Tab (H:Hp) (p:Addr) (n m:Nat) (T:List Addr):Prop where
  at_:H p=some (.lst (T.map V.ref))
  len:T.length=m
  rows:∀ (u:Nat) (t:Addr),T[u]? = some t→H t=some (.lst ((row n u).map V.int))
end Ck
namespace L2
open PySem PySem.Spec PyProof.Rows
end L2
namespace Ck
open PySem L2
end Ck
set_option Elab.async false
set_option linter.all false
set_option maxRecDepth 100000
set_option maxHeartbeats 4000000
namespace L2
open PySem PySem.Spec PyProof.Rows
section
variable {X:Cx} {tg:Expr}
end
section
variable {X:Cx}
end
end L2
set_option Elab.async false
set_option linter.all false
set_option maxRecDepth 100000
set_option maxHeartbeats 4000000
namespace L2
open PySem PySem.Spec PyProof.Rows PySem.W Builtin Builtin.ObjectAttr Builtin.Getset_descriptor
section
variable {K:Frag} {e C:Addr} {M:Model} {h:Heap} {prog:Program} {w:World} {A:Around} {E:Value→Shared→Prop} {s:Shared}
end
section
variable {K:Frag} {e C:Addr} {M:Model} {h:Heap} {prog:Program} {w:World} {A:Around} {E:Value→Shared→Prop} {s:Shared}
end
section
variable {X:Cx}
end
end L2
namespace Ck
open PySem L2
end Ck
set_option Elab.async false
set_option linter.all false
set_option maxRecDepth 100000
set_option maxHeartbeats 4000000
namespace L2
open PySem PySem.Spec PyProof.Rows
structure MDef (P:Program) (w:World) (K:PySem.W.Frag) (mg:Str→Option Value) (base:Heap) (ps:List Str) (k:Nat) (sp:Sp) (f:Addr) (fd:FuncData):Prop where
  ok:FnOk P w K mg base (CX1 P w) k f fd ps sp
  b:Binds K fd ps []
section
variable {X:Cx} {C f:Addr} {fd:FuncData} {ps:List Str} {sp:Sp} {m:Str} {apos pos:Pos} {o e:Expr} {es:List Expr} {ta:TE} {t:TA} {j k:Nat}
theorem pmeth {pl:Sem Bool} (ho:PE X o ta) (c:Cls X.K C) (hm:Meth X.K C m f) (D:MDef X.prog X.w X.K X.mg X.base ps j sp f fd) (hr:Room k X.A) (ha:PA X (e::es) t) (hjk:j≤k:=by decide)
    (hst:starEach (e::es) X.env=(false,eval e X.env)::starEach es X.env:=by rfl) (hpl:(backTo pos (starEach es X.env)).any (·.1)=false:=by rfl)
    (ht:eval (.Call (.Attribute o m apos) (e::es) [] pos) X.env=(do
      let ov ← eval o X.env
      standAt apos.atName
      let (f,first) ← holding [ov] (getMethod ov m pl)
      callWith pos f first (backTo pos (starEach (e::es) X.env)) (backToKw pos (keywordEach [] X.env))):=by rfl) :
    PE X (.Call (.Attribute o m apos) (e::es) [] pos) (tMeth C m sp [] E0 ta t):=pe_meth ho c hm D.ok (hr.mono hjk) D.b .nil passN ha hst hpl ht
end
structure ClsM (K:PySem.W.Frag) (C:Addr) (m:Str) (f:Addr):Prop where
  hg:PySem.W.specialIn K (.ref C) "__getattribute__" = some (some (.builtin "type.__getattribute__"))
  rd:PySem.W.readsIn K C (.type "type")=true
  at_:PySem.W.findCls K (.ref C) (.type "type") m=some (.val (.ref f))
  kp:PySem.W.keepIn K (.ref f)=true
section
variable {X:Cx} {C f:Addr} {fd:FuncData} {ps:List Str} {sp:Sp} {x m:Str} {p apos pos:Pos} {e:Expr} {es:List Expr} {t:TA} {j k:Nat}
theorem pcls {pl:Sem Bool} (hm:X.mg x=some (.ref C)) (M:ClsM X.K C m f) (D:MDef X.prog X.w X.K X.mg X.base ps j sp f fd) (hr:Room k X.A) (ha:PA X (e::es) t) (hjk:j≤k:=by decide) (hg:Gl X x:=by rfl)
    (hdb:(x == ("__debug__" : Str))=false:=by decide) (hst:starEach (e::es) X.env=(false,eval e X.env)::starEach es X.env:=by rfl) (hpl:(backTo pos (starEach es X.env)).any (·.1)=false:=by rfl)
    (ht:eval (.Call (.Attribute (.Name x p) m apos) (e::es) [] pos) X.env=(do
      let ov ← eval (.Name x p) X.env
      standAt apos.atName
      let (f,first) ← holding [ov] (getMethod ov m pl)
      callWith pos f first (backTo pos (starEach (e::es) X.env)) (backToKw pos (keywordEach [] X.env))):=by rfl) :
    PE X (.Call (.Attribute (.Name x p) m apos) (e::es) [] pos) (tCall sp [] E0 t):=by
  intro pins s σ H Q I h
  refine PySem.W.methodCall_KW (pl:=pl) (ld_glob I hg hm ?_ hdb) ht
  refine PySem.W.method_cls I.kIn M.hg (PySem.W.cls_value I.kIn M.rd M.at_ rfl ?_)
  have I1:Inv X pins σ H { s with toks:=s.toks+1 }:=I.tok _
  refine PySem.W.callWith_K (first:=[]) (h₀:=X.base) I.ok.mod.kin M.kp (thn (ha pos pins _ σ H _ I1 h) fun us s2 ⟨vs,H2,I2,r,q2⟩=>⟨I2.kIn,?_⟩) hst hpl
  exact run_fn D.ok (hr.mono hjk) D.b .nil passN I2 r q2
end
section
variable {X:Cx} {C f:Addr} {fd:FuncData} {ps:List Str} {sp:Sp} {x:Str} {p pos:Pos} {j k:Nat}
theorem pmake0 (M:Mk X.K C f) (hm:X.mg x=some (.ref C)) (D:MDef X.prog X.w X.K X.mg X.base ps j sp f fd) (hr:Room k X.A) (hjk:j+1≤k:=by decide) (hg:Gl X x:=by rfl) (hdb:(x == ("__debug__" : Str))=false:=by decide) :
    PE X (.Call (.Name x p) [] [] pos) (tMake C sp [] E0 tNil):=pe_make0 M D.ok (hr.mono hjk) hg hm D.b .nil passN hdb
end
end L2
namespace L2
open PySem
noncomputable def below (N:Nat) (sp:Nat→Sp):Sp:=fun vs H Q E=>∃ m,m < N∧sp m vs H Q E
end L2
set_option Elab.async false
set_option linter.all false
set_option maxRecDepth 100000
set_option maxHeartbeats 4000000
namespace L2
open PySem PySem.Spec PyProof.Rows
inductive EqD (K:PySem.W.Frag) (H:Hp):Nat→V→V→Bool→Prop
  | flat {n:Nat} {x y:V} (fx:flatV x=true) (fy:flatV y=true):EqD K H n x y (eqV x y)
  | same {n:Nat} {a:Addr}:EqD K H n (.ref a) (.ref a) true
  | lst {n:Nat} {a b:Addr} {xs ys:List V} {e:Nat→Bool} (ne:a≠b) (ha:SqL K H a xs) (hb:SqL K H b ys) (hl:xs.length=ys.length)
      (hi:∀ j x y,xs[j]? = some x→ys[j]? = some y→EqD K H n x y (e j)):EqD K H (n+1) (.ref a) (.ref b) ((List.range xs.length).all e)
  | lstN {n:Nat} {a b:Addr} {xs ys:List V} (ne:a≠b) (ha:SqL K H a xs) (hb:SqL K H b ys) (hl:xs.length≠ys.length):EqD K H (n+1) (.ref a) (.ref b) false
  | tup {n:Nat} {a b:Addr} {xs ys:List V} {e:Nat→Bool} (ne:a≠b) (ha:SqT K H a xs) (hb:SqT K H b ys)
      (hi:∀ j x y,xs[j]? = some x→ys[j]? = some y→EqD K H n x y (e j)):EqD K H (n+1) (.ref a) (.ref b) ((List.range (min xs.length ys.length)).all e&&xs.length == ys.length)
section
variable {X:Cx} {pins:List (Addr × Obj)} {σ:St} {H:Hp} {s:Shared}
theorem at_get {xs:List V} {us:List Value} (r:Vals xs us) {j:Nat} (h:j < us.toArray.size):∃ x,xs[j]? = some x∧RelV x us.toArray[j]:=by
  have h':j < us.length:=by simpa using h
  have hx:j < xs.length:=by rw [r.length]; exact h'
  obtain ⟨u,eu,ru⟩:=r.get (List.getElem?_eq_getElem hx)
  rw [List.getElem?_eq_getElem h'] at eu
  exact ⟨_,List.getElem?_eq_getElem hx,by
    have:us.toArray[j]=u:=by simpa using eu
    rw [this]; exact ru⟩
theorem EqD.at_ {n:Nat} {x y:V} {b:Bool} (d:EqD X.K H n x y b):∀ {A:Around} {u v:Value},A.units+n < cLine→Inv X pins σ H s→RelV x u→RelV y v→SeqAt.EqAt A s u v b:=by
  induction d with
  | flat fx fy=>intro A u v _ I ru rv; exact eqAt_V ru rv fx fy
  | same =>
    intro A u v _ I ru rv
    cases (show u=Value.ref _ from ru)
    cases (show v=Value.ref _ from rv)
    exact SeqAt.EqAt.same _
  | @lst n a b xs ys e ne ha hb hl hi ih =>
    intro A u v hu I ru rv
    cases (show u=Value.ref _ from ru)
    cases (show v=Value.ref _ from rv)
    obtain ⟨us,r,pl,_⟩:=I.list ha
    obtain ⟨vs,r',pl',_⟩:=I.list hb
    have l1:=r.length
    have l2:=r'.length
    have z:=SeqAt.RcAt.lists (A:=A) (e:=e) pl.isList pl'.isList (by simp; omega) (by omega) fun j h1 h2=>by
      obtain ⟨x,ex,rx⟩:=at_get r h1
      obtain ⟨y,ey,ry⟩:=at_get r' h2
      exact ih j x y ex ey (A:=A.in1) (by show A.units+1+n < cLine; omega) I rx ry
    rw [show us.toArray.size=xs.length by simp; omega] at z
    exact .of_refs ne z
  | @lstN n a b xs ys ne ha hb hl =>
    intro A u v hu I ru rv
    cases (show u=Value.ref _ from ru)
    cases (show v=Value.ref _ from rv)
    obtain ⟨us,r,pl,_⟩:=I.list ha
    obtain ⟨vs,r',pl',_⟩:=I.list hb
    have l1:=r.length
    have l2:=r'.length
    exact .of_refs ne (SeqAt.RcAt.lists_lengths pl.isList pl'.isList (by simp; omega) (by omega))
  | @tup n a b xs ys e ne ha hb hi ih =>
    intro A u v hu I ru rv
    cases (show u=Value.ref _ from ru)
    cases (show v=Value.ref _ from rv)
    obtain ⟨us,r,pl,_⟩:=I.tuple ha
    obtain ⟨vs,r',pl',_⟩:=I.tuple hb
    have l1:=r.length
    have l2:=r'.length
    have z:=SeqAt.RcAt.tuples (A:=A) (e:=e) pl pl' (by omega) fun j h1 h2=>by
      obtain ⟨x,ex,rx⟩:=at_get r h1
      obtain ⟨y,ey,ry⟩:=at_get r' h2
      exact ih j x y ex ey (A:=A.in1) (by show A.units+1+n < cLine; omega) I rx ry
    rw [show us.toArray.size=xs.length by simp; omega,show vs.toArray.size=ys.length by simp; omega] at z
    exact .of_refs ne z
noncomputable def rEqD (K:PySem.W.Frag) (neg:Bool):R2:=fun x y H Q=>∃ n b,n≤100∧EqD K H n x y b∧(∃ a c,x = .ref a∧y = .ref c∧a≠c)∧Q (.bl (if neg then !b else b)) H
theorem op_eqD (hu:X.A.units+100 < cLine):OpR X (compareOp .Eq) (rEqD X.K false):=by
  intro pins s σ H x y u v Q I ru rv h
  obtain ⟨n,b,hn,d,⟨a,c,rfl,rfl,hne⟩,q⟩:=h
  cases (show u=Value.ref _ from ru)
  cases (show v=Value.ref _ from rv)
  cases d with
  | flat fx _=>cases fx
  | same=>exact absurd rfl hne
  | @lst n _ _ xs ys e ne ha hb hl hi =>
    obtain ⟨us,r,pl,_⟩:=I.list ha
    obtain ⟨vs,r',pl',_⟩:=I.list hb
    have l1:=r.length
    have l2:=r'.length
    refine SeqAt.eq_listAt (e:=e) pl.isList pl'.isList (by simp; omega) (by omega) (fun j h1 h2=>?_) ⟨.bl _,H,I,rfl,?_⟩
    · obtain ⟨x,ex,rx⟩:=at_get r h1
      obtain ⟨y,ey,ry⟩:=at_get r' h2
      exact (hi j x y ex ey).at_ (A:=X.A.in1) (by show X.A.units+1+n < cLine; omega) I rx ry
    · rw [show us.toArray.size=xs.length by simp; omega]; exact q
  | @lstN n _ _ xs ys ne ha hb hl =>
    obtain ⟨us,r,pl,_⟩:=I.list ha
    obtain ⟨vs,r',pl',_⟩:=I.list hb
    have l1:=r.length
    have l2:=r'.length
    exact SeqAt.eq_list_lengthsAt pl.isList pl'.isList (by simp; omega) (by omega) ⟨.bl false,H,I,rfl,q⟩
  | @tup n _ _ xs ys e ne ha hb hi =>
    obtain ⟨us,r,pl,_⟩:=I.tuple ha
    obtain ⟨vs,r',pl',_⟩:=I.tuple hb
    have l1:=r.length
    have l2:=r'.length
    refine SeqAt.eq_tupleAt (e:=e) pl pl' (by omega) (fun j h1 h2=>?_) ⟨.bl _,H,I,rfl,?_⟩
    · obtain ⟨x,ex,rx⟩:=at_get r h1
      obtain ⟨y,ey,ry⟩:=at_get r' h2
      exact (hi j x y ex ey).at_ (A:=X.A.in1) (by show X.A.units+1+n < cLine; omega) I rx ry
    · rw [show us.toArray.size=xs.length by simp; omega,show vs.toArray.size=ys.length by simp; omega]; exact q
theorem op_neD (hu:X.A.units+100 < cLine):OpR X (compareOp .NotEq) (rEqD X.K true):=by
  intro pins s σ H x y u v Q I ru rv h
  obtain ⟨n,b,hn,d,⟨a,c,rfl,rfl,hne⟩,q⟩:=h
  cases (show u=Value.ref _ from ru)
  cases (show v=Value.ref _ from rv)
  cases d with
  | flat fx _=>cases fx
  | same=>exact absurd rfl hne
  | @lst n _ _ xs ys e ne ha hb hl hi =>
    obtain ⟨us,r,pl,_⟩:=I.list ha
    obtain ⟨vs,r',pl',_⟩:=I.list hb
    have l1:=r.length
    have l2:=r'.length
    refine SeqAt.RcNeAt.lists (e:=e) pl.isList pl'.isList (by simp; omega) (by omega) (fun j h1 h2=>?_) _ _ _ _ ⟨.bl _,H,I,rfl,?_⟩
    · obtain ⟨x,ex,rx⟩:=at_get r h1
      obtain ⟨y,ey,ry⟩:=at_get r' h2
      exact (hi j x y ex ey).at_ (A:=X.A.in1) (by show X.A.units+1+n < cLine; omega) I rx ry
    · rw [show us.toArray.size=xs.length by simp; omega]; exact q
  | @lstN n _ _ xs ys ne ha hb hl =>
    obtain ⟨us,r,pl,_⟩:=I.list ha
    obtain ⟨vs,r',pl',_⟩:=I.list hb
    have l1:=r.length
    have l2:=r'.length
    exact SeqAt.RcNeAt.lists_lengths pl.isList pl'.isList (by simp; omega) (by omega) _ _ _ _ ⟨.bl true,H,I,rfl,q⟩
  | @tup n _ _ xs ys e ne ha hb hi =>
    obtain ⟨us,r,pl,_⟩:=I.tuple ha
    obtain ⟨vs,r',pl',_⟩:=I.tuple hb
    have l1:=r.length
    have l2:=r'.length
    refine SeqAt.RcNeAt.tuples (e:=e) pl pl' (by omega) (fun j h1 h2=>?_) _ _ _ _ ⟨.bl _,H,I,rfl,?_⟩
    · obtain ⟨x,ex,rx⟩:=at_get r h1
      obtain ⟨y,ey,ry⟩:=at_get r' h2
      exact (hi j x y ex ey).at_ (A:=X.A.in1) (by show X.A.units+1+n < cLine; omega) I rx ry
    · rw [show us.toArray.size=xs.length by simp; omega,show vs.toArray.size=ys.length by simp; omega]; exact q
theorem hu100 {A:Around} {k:Nat} (hr:Room k A):A.units+100 < cLine:=Nat.lt_of_le_of_lt (by omega) hr.un
end
end L2
set_option Elab.async false
set_option linter.all false
set_option maxRecDepth 100000
set_option maxHeartbeats 4000000
namespace L2
open PySem PySem.Spec PyProof.Rows
noncomputable def insK (n:Nat) (i:Int):Nat:=if i < 0 then (i+(n:Int)).toNat else min i.toNat n
section
variable {X:Cx}
end
section
variable {X:Cx} {pins:List (Addr × Obj)} {σ:St} {H:Hp} {s:Shared} {h':Heap}
end
section
variable {X:Cx}
end
end L2
set_option Elab.async false
set_option linter.all false
set_option maxRecDepth 100000
set_option maxHeartbeats 4000000
namespace Ck
open PySem L2
inductive Tree where
  | int (i:Int)
  | lst (l:List Tree)
  | tup (l:List Tree)
mutual
noncomputable def Rep (H:Hp):Tree→V→Prop
  | .int i,v=>v = .int i
  | .lst ts,v=>∃ a xs,v = .ref a∧H a=some (.lst xs)∧ts.length≤1000000∧RepL H ts xs
  | .tup ts,v=>∃ a xs,v = .ref a∧H a=some (.tup xs)∧ts.length≤1000000∧RepL H ts xs
noncomputable def RepL (H:Hp):List Tree→List V→Prop
  | [],xs=>xs=[]
  | t::ts,xs=>∃ v vs,xs=v::vs∧Rep H t v∧RepL H ts vs
end
mutual
noncomputable def dep:Tree→Nat
  | .int _=>0
  | .lst ts=>depL ts+1
  | .tup ts=>depL ts+1
noncomputable def depL:List Tree→Nat
  | []=>0
  | t::ts=>max (dep t) (depL ts)
end
mutual
theorem Rep.same {H H':Hp} (s:Same H H'):∀ (t:Tree) {v:V},Rep H t v→Rep H' t v
  | .int i,v,h=>by unfold Rep at h ⊢; exact h
  | .lst ts,v,h=>by
    unfold Rep at h ⊢
    obtain ⟨a,xs,e,ha,hl,r⟩:=h
    exact ⟨a,xs,e,s _ _ ha,hl,RepL.same s ts r⟩
  | .tup ts,v,h=>by
    unfold Rep at h ⊢
    obtain ⟨a,xs,e,ha,hl,r⟩:=h
    exact ⟨a,xs,e,s _ _ ha,hl,RepL.same s ts r⟩
theorem RepL.same {H H':Hp} (s:Same H H'):∀ (ts:List Tree) {xs:List V},RepL H ts xs→RepL H' ts xs
  | [],xs,h=>by unfold RepL at h ⊢; exact h
  | t::ts,xs,h=>by
    unfold RepL at h ⊢
    obtain ⟨v,vs,e,r,rs⟩:=h
    exact ⟨v,vs,e,Rep.same s t r,RepL.same s ts rs⟩
end
noncomputable abbrev Pair:=Int × Int
noncomputable def Prs (H:Hp) (xs:List V) (ps:List Pair):Prop:=Paired (fun (v:V) (p:Pair)=>∃ t,v = .ref t∧H t=some (.tup [.int p.1,.int p.2])) xs ps
theorem Prs.same {H H':Hp} {xs:List V} {ps:List Pair} (h:Prs H xs ps) (s:Same H H'):Prs H' xs ps:=Paired.mapP h fun v p ⟨t,e,q⟩=>⟨t,e,s _ _ q⟩
theorem Prs.length {H:Hp} {xs:List V} {ps:List Pair} (h:Prs H xs ps):xs.length=ps.length:=Paired.length h
theorem Prs.get {H:Hp}:∀ {xs:List V} {ps:List Pair},Prs H xs ps→∀ {i:Nat} {x:V},xs[i]? = some x→∃ p t,ps[i]? = some p∧x = .ref t∧H t=some (.tup [.int p.1,.int p.2])
  | _,_,.nil,i,x,e=>by cases e
  | _,_,.cons r t,0,x,e=>by
    obtain ⟨a,e1,e2⟩:=r
    rw [List.getElem?_cons_zero] at e
    cases e
    exact ⟨_,a,rfl,e1,e2⟩
  | _,_,.cons r t,i+1,x,e=>by
    obtain ⟨p,a,h1,h2,h3⟩:=Prs.get t (i:=i) (by simpa using e)
    exact ⟨p,a,by simpa using h1,h2,h3⟩
theorem Prs.snoc {H:Hp}:∀ {xs:List V} {ps:List Pair} {t:Addr} {p:Pair},Prs H xs ps→H t=some (.tup [.int p.1,.int p.2])→Prs H (xs++[.ref t]) (ps++[p])
  | _,_,t,p,.nil,h=>.cons ⟨t,rfl,h⟩ .nil
  | _,_,t,p,.cons r s,h=>.cons r (Prs.snoc s h)
theorem Prs.updL {H:Hp} {xs:List V} {ps:List Pair} {a:Addr} {l:List V} (h:Prs H xs ps) (ha:H a=some (.lst l)) (o:HO):Prs (upd H a o) xs ps :=
  Paired.mapP h fun v p ⟨t,e,q⟩=>⟨t,e,(upd_ne (ne_of q ha (by intro z; cases z))).trans q⟩
theorem Prs.updN {H:Hp} {xs:List V} {ps:List Pair} {a:Addr} (h:Prs H xs ps) (ha:H a=none) (o:HO):Prs (upd H a o) xs ps :=
  Paired.mapP h fun v p ⟨t,e,q⟩=>⟨t,e,(upd_ne (ne_of_none q ha)).trans q⟩
noncomputable def PLs (H:Hp) (a:Addr) (ps:List Pair):Prop:=∃ xs,H a=some (.lst xs)∧Prs H xs ps
theorem PLs.same {H H':Hp} {a:Addr} {ps:List Pair} (h:PLs H a ps) (s:Same H H'):PLs H' a ps:=let ⟨xs,e,r⟩:=h; ⟨xs,s _ _ e,r.same s⟩
theorem PLs.updL {H:Hp} {a b:Addr} {ps:List Pair} {l:List V} (h:PLs H a ps) (hb:H b=some (.lst l)) (ne:a≠b) (o:HO):PLs (upd H b o) a ps :=
  let ⟨xs,e,r⟩:=h
  ⟨xs,(upd_ne ne).trans e,r.updL hb o⟩
theorem PLs.len {H:Hp} {a:Addr} {ps:List Pair} (h:PLs H a ps):∃ xs,H a=some (.lst xs)∧xs.length=ps.length∧Prs H xs ps:=let ⟨xs,e,r⟩:=h; ⟨xs,e,r.length,r⟩
end Ck
namespace L2
open PySem
end L2
set_option Elab.async false
set_option linter.all false
set_option maxRecDepth 100000
set_option maxHeartbeats 4000000
namespace Ck
open PySem L2
end Ck
set_option Elab.async false
set_option linter.all false
set_option maxRecDepth 100000
set_option maxHeartbeats 4000000
namespace L2
open PySem PySem.Spec PyProof.Rows PySem.SeqAt
section
variable {X:Cx}
theorem pg_tupK {K:PySem.W.Frag} {es:List Expr} {k:Nat} {t:TGs} {n:Nat} {pos:Pos} (hK:X.K=K) (hc:X.calm=true) (h:PGs X es t)
    (hn:(assignEach es X.env).length=n:=by rfl) (hst:(assignEach es X.env).findIdx? (·.1)=none:=by rfl):PG X (.Tuple es k pos) (gTup K n t):=by
  subst hK
  exact pg_tup hc h hn hst
theorem comp_walk {K:PySem.W.Frag} {a:Addr} {xs:List V} {g:TG} {tt:TT} {te:TE} {σ0:St} {H:Hp} {D:Addr} {Q:VK} (Pv:Nat→List V→Hp→Prop) (hz:xs.length≤sizeLine)
    (h0:Pv 0 [] (upd H D (.lst []))) (hl:∀ i ys H',i≤xs.length→Pv i ys H'→SqL K H' a xs∧ys.length≤i)
    (hs:∀ (i:Nat) (x:V) (ys:List V) (H':Hp) (R:VK) (R0:Hp→Prop),xs[i]? = some x→Pv i ys H'→(∀ v H3,H3 D=some (.lst ys)→Pv (i+1) (ys++[v]) (upd H3 D (.lst (ys++[v])))→R v H3)→(∀ H3,Pv (i+1) ys H3→R0 H3) →
      g x σ0 H' fun σ2 H2=>Ext σ0 σ2∧tt σ2 H2 fun b H3=>if b=true then te σ2 H3 R else R0 H3)
    (hq:∀ ys H',Pv xs.length ys H'→Q (.ref D) H') :
    CompW (Itl K a) g tt te σ0 D Q H:=by
  refine ⟨fun i m ys H'=>m=xs.length - i∧i≤xs.length∧Pv i ys H',⟨xs.length,by simp,Nat.zero_le _,h0⟩,?_⟩
  rintro i m ys H' ⟨rfl,hi,p⟩
  obtain ⟨sq,ly⟩:=hl i ys H' hi p
  by_cases hlt:i < xs.length
  · refine .inr ⟨⟨xs,xs[i],sq,by simp [hlt]⟩,fun x H'' y=>?_⟩
    obtain ⟨e,y⟩:=y
    subst e
    have ex:=y xs sq
    refine hs i x ys _ _ _ ex p (fun v H3 hD p'=>⟨hD,by omega,xs.length - (i+1),by omega,rfl,hlt,p'⟩) fun H3 p'=>⟨xs.length - (i+1),by omega,rfl,hlt,p'⟩
  · have e:i=xs.length:=by omega
    subst e
    exact .inl ⟨⟨xs,sq,Nat.le_refl _⟩,hq ys H' p⟩
end
end L2
namespace Ck
open PySem L2
end Ck
namespace Ck
open PySem L2
structure Flds (fs:List (Str × V)) (w:Str) (l:Int):Prop where
  word:fs.lookup ("word" : Str)=some (.str w)
  least:fs.lookup ("least" : Str)=some (.int l)
  no:∀ m:Str,m≠("word" : Str)→m≠("least" : Str)→fs.lookup m=none
theorem flds_mk (w:Str) (l:Int):Flds (putF ("least" : Str) (.int l) (putF ("word" : Str) (.str w) [])) w l :=
  ⟨by rw [lookup_putF,if_neg (by decide),lookup_putF,if_pos rfl],by rw [lookup_putF,if_pos rfl],fun m a b=>by rw [lookup_putF,if_neg b,lookup_putF,if_neg a]; rfl⟩
noncomputable def up (d:Int) (p:Pair):Pair:=(p.1+d,p.2+d)
end Ck
namespace Ck
open PySem L2
end Ck
namespace Ck
open PySem L2
end Ck
set_option Elab.async false
set_option linter.all false
set_option maxRecDepth 100000
set_option maxHeartbeats 4000000
namespace L2
open PySem PySem.Spec PyProof.Rows
theorem bb_sorted:bootBuiltins "sorted" = some (.builtin "sorted"):=by decide +kernel
theorem bb_all:bootBuiltins "all" = some (.builtin "all"):=by decide +kernel
section
variable {X:Cx}
theorem vals_bools {bs:List Bool}:∀ {us:List Value},Vals (bs.map V.bl) us→us=bs.map Value.bool:=by
  induction bs with
  | nil=>intro us r; rw [List.map_nil] at r; cases r; rfl
  | cons b bs ih =>
    intro us r
    rw [List.map_cons] at r
    cases r with
    | cons h t=>rw [ih t,List.map_cons]; cases (show _=Value.bool b from h); rfl
theorem all_range (bs:List Bool):(List.range bs.length).all (fun i=>bs.getD i false)=bs.all id:=by
  induction bs with
  | nil=>rfl
  | cons b bs ih =>
    rw [List.length_cons,List.range_succ_eq_map,List.all_cons,List.all_map,List.all_cons]
    have:((fun i=>(b::bs).getD i false) ∘ Nat.succ)=fun i=>bs.getD i false:=by funext i; rfl
    rw [this,ih]
    rfl
theorem call_all (hc:X.calm=true):CallR X (.builtin "all") (fun xs H Q=>∃ (p:Addr) (bs:List Bool),xs=[.ref p]∧SqL X.K H p (bs.map V.bl)∧Q (.bl (bs.all id)) H):=by
  intro pins s σ H xs us Q I r h
  obtain ⟨p,bs,rfl,hl,q⟩:=h
  obtain ⟨u,rfl,ru⟩:=vals1 r
  cases ru
  obtain ⟨its,r',pl,hz⟩:=I.list hl
  have ei:=vals_bools r'
  have hlt:p < s.heap.objs.size:=by obtain ⟨_,e,_⟩:=pl.isList; exact Heap.lt_size e
  refine call_all_walk (wpAny_pyIter_list pl.isList ⟨_,_,_,_,_,_,fun i=>bs.getD i false,rfl,Walks.list (A:=X.A.in1) (I.ok.hd hc) _ p (Nat.ne_of_lt hlt) its.toArray,⟨⟨_,Heap.get?_push_size _ rfl,rfl,rfl⟩,pl.isList.push _⟩,?_,fun h' tk hk=>⟨.bl _,H,I.kept (old_kept hk),rfl,?_⟩⟩)
  · intro i v s' Q' E' hP hQ
    have hb:bs[i]? = some (bs.getD i false)∧v = .bool (bs.getD i false):=by
      have hP':its[i]? = some v:=by simpa using hP
      rw [ei,List.getElem?_map] at hP'
      cases hb:bs[i]? with
      | none=>rw [hb] at hP'; cases hP'
      | some b =>
        rw [hb] at hP'
        have e1:bs.getD i false=b:=by rw [List.getD_eq_getElem?_getD,hb]; rfl
        rw [e1]
        exact ⟨rfl,(Option.some.inj hP').symm⟩
    rw [hb.2]
    exact wpAny_truthy_bool hQ
  · have e1:its.toArray.size=bs.length:=by rw [ei]; simp
    rw [e1,all_range]
    exact q
end
end L2
namespace Ck
open PySem L2
end Ck
set_option Elab.async false
set_option linter.all false
set_option maxRecDepth 100000
set_option maxHeartbeats 4000000
namespace L2
open PySem PySem.Spec PyProof.Rows PySem.W
noncomputable def pw {α:Type} (n:Nat) (lt:Nat→Nat→Bool):KasT α→(α→Prop)→Prop
  | .ret a,Q=>Q a
  | .ask i j k,Q=>i < n∧j < n∧pw n lt (k (lt i j)) Q
theorem pw_bind {α β:Type} {n:Nat} {lt:Nat→Nat→Bool} {f:α→KasT β} {Q:β→Prop}:∀ {t:KasT α},pw n lt t (fun a=>pw n lt (f a) Q)→pw n lt (t.bind f) Q
  | .ret _,h=>h
  | .ask _ _ _,h=>⟨h.1,h.2.1,pw_bind h.2.2⟩
theorem pw_mono {α:Type} {n:Nat} {lt:Nat→Nat→Bool} {Q Q':α→Prop} (m:∀ a,Q a→Q' a):∀ {t:KasT α},pw n lt t Q→pw n lt t Q'
  | .ret a,h=>m a h
  | .ask _ _ _,h=>⟨h.1,h.2.1,pw_mono m h.2.2⟩
theorem pw_wp {α:Type} {n:Nat} {lt:Nat→Nat→Bool} {Q:α→Prop} {s:Shared} {cmp:Nat→Nat→(Bool→Shared→Prop)→Shared→Prop}
    (hc:∀ (i j:Nat) (C:Bool→Shared→Prop),i < n→j < n→C (lt i j) s→cmp i j C s):∀ {t:KasT α},pw n lt t Q→t.kasWp cmp (fun a s'=>s'=s∧Q a) s
  | .ret _,h=>⟨rfl,h⟩
  | .ask i j k,h=>hc i j (fun b s'=>(k b).kasWp cmp (fun a s'=>s'=s∧Q a) s') h.1 h.2.1 (pw_wp hc h.2.2)
structure Ordr (lt:Nat→Nat→Bool):Prop where
  asym:∀ a b,lt a b=true→lt b a=false
  ntr:∀ a b c,lt b a=false→lt c b=false→lt c a=false
noncomputable abbrev gA (p:Array Nat) (k:Nat):Nat:=p.getD k 0
noncomputable def OkP (n:Nat) (p:Array Nat):Prop:=p.toList.Perm (List.range n)
theorem OkP.size {n:Nat} {p:Array Nat} (h:OkP n p):p.size=n:=by
  have:=h.length_eq
  rw [List.length_range] at this
  simpa using this
theorem OkP.lt {n:Nat} {p:Array Nat} (h:OkP n p) (hn:0 < n) (k:Nat):gA p k < n:=by
  unfold gA
  by_cases hk:k < p.size
  · have e:p.getD k 0=p[k]:=by simp [hk]
    rw [e]
    exact List.mem_range.mp (h.mem_iff.mp (Array.getElem_mem_toList hk))
  · have e:p.getD k 0=0:=by simp [hk]
    rw [e]; exact hn
theorem gA_mir {p:Array Nat} {i j:Nat} (hj:j≤p.size) (k:Nat):gA (kas_rev p i j) k=if i≤k∧k < j then gA p (i+j - 1 - k) else gA p k:=by
  unfold gA kas_rev
  rw [Array.getD_eq_getD_getElem?,getElem?_mirror_all hj k]
  split
  · rw [← Array.getD_eq_getD_getElem?]
  · rw [← Array.getD_eq_getD_getElem?]
theorem gA_bub {p:Array Nat} {src d:Nat} (hs:src < p.size) (hd:d≤src) (k:Nat):gA (bubble p src d) k=if k=src - d then gA p src else if src - d < k∧k≤src then gA p (k - 1) else gA p k:=by
  unfold gA
  rw [Array.getD_eq_getD_getElem?,getElem?_bubble hs d hd k]
  split
  · simp [hs]
  · split
    · rw [← Array.getD_eq_getD_getElem?]
    · rw [← Array.getD_eq_getD_getElem?]
theorem OkP.rev {n:Nat} {p:Array Nat} (h:OkP n p) (i j:Nat):OkP n (kas_rev p i j):=(Array.perm_iff_toList_perm.mp (mirror_perm p i j _)).trans h
theorem OkP.bub {n:Nat} {p:Array Nat} (h:OkP n p) (i j:Nat):OkP n (bubble p i j):=(Array.perm_iff_toList_perm.mp (bubble_perm p i j)).trans h
section
variable {n:Nat} {lt:Nat→Nat→Bool} (O:Ordr lt)
noncomputable def Ris (lt:Nat→Nat→Bool) (p:Array Nat) (k:Nat):Prop:=∀ i j,i≤j→j < k→lt (gA p j) (gA p i)=false
noncomputable def Fal (lt:Nat→Nat→Bool) (p:Array Nat) (k:Nat):Prop:=∀ i j,i≤j→j < k→lt (gA p i) (gA p j)=false
noncomputable def Alk (lt:Nat→Nat→Bool) (a b:Nat):Prop:=lt a b=false∧lt b a=false
include O
theorem Ordr.irr (a:Nat):lt a a=false:=by
  cases h:lt a a with
  | false=>rfl
  | true=>exact h.symm.trans (O.asym a a h)
theorem Ordr.alk (a:Nat):Alk lt a a:=⟨O.irr a,O.irr a⟩
theorem Ordr.alkT {a b c:Nat} (x:Alk lt a b) (y:Alk lt b c):Alk lt a c:=⟨O.ntr c b a y.1 x.1,O.ntr a b c x.2 y.2⟩
theorem Ordr.up {a b c:Nat} (x:lt a b=true) (y:lt c b=false):lt a c=true:=by
  cases h:lt a c with
  | true=>rfl
  | false=>exact (x.symm.trans (O.ntr b c a y h)).symm▸rfl
theorem Ris.one (p:Array Nat):Ris lt p 1:=fun i j h1 h2=>by
  have e:i=j:=by omega
  subst e
  exact O.irr _
theorem Fal.one (p:Array Nat):Fal lt p 1:=fun i j h1 h2=>by
  have e:i=j:=by omega
  subst e
  exact O.irr _
theorem Ris.snoc {p:Array Nat} {m:Nat} (h1:1≤m) (h:Ris lt p m) (c:lt (gA p m) (gA p (m - 1))=false):Ris lt p (m+1):=fun i j ij jm=>by
  by_cases hj:j < m
  · exact h i j ij hj
  · have e:j=m:=by omega
    subst e
    by_cases hi:i=j
    · subst hi; exact O.irr _
    · exact O.ntr _ _ _ (h i (j - 1) (by omega) (by omega)) c
theorem Fal.snoc {p:Array Nat} {m:Nat} (h1:1≤m) (h:Fal lt p m) (c:lt (gA p (m - 1)) (gA p m)=false):Fal lt p (m+1):=fun i j ij jm=>by
  by_cases hj:j < m
  · exact h i j ij hj
  · have e:j=m:=by omega
    subst e
    by_cases hi:i=j
    · subst hi; exact O.irr _
    · exact O.ntr _ _ _ c (h i (j - 1) (by omega) (by omega))
theorem Fal.alk {p p':Array Nat} {m:Nat} (h:Fal lt p m) (e:∀ k,k < m→Alk lt (gA p' k) (gA p k)):Fal lt p' m:=fun i j ij jm =>
  O.ntr _ _ _ (e j jm).2 (O.ntr _ _ _ (h i j ij jm) (e i (by omega)).1)
theorem pw_asc {p:Array Nat} (hp:OkP n p) {N:Nat} (hN:N≤n):∀ (f m:Nat),1≤m→m+f=N→Ris lt p m→pw n lt (kas_asc p f m) (fun r=>m≤r∧r≤N∧Ris lt p r∧(r < N→lt (gA p r) (gA p (r - 1))=true))
  | 0,m,h1,h2,h=>⟨Nat.le_refl _,by omega,h,fun z=>absurd z (by omega)⟩
  | f+1,m,h1,h2,h=>by
    refine ⟨hp.lt (by omega) _,hp.lt (by omega) _,?_⟩
    show pw n lt (if lt (gA p m) (gA p (m - 1))=true then _ else _) _
    cases c:lt (gA p m) (gA p (m - 1)) with
    | true =>
      rw [if_pos rfl]
      exact ⟨Nat.le_refl _,by omega,h,fun _=>c⟩
    | false =>
      rw [if_neg (by decide)]
      exact pw_mono (fun r hr=>⟨by omega,hr.2⟩) (pw_asc hp hN f (m+1) (by omega) (by omega) (h.snoc O h1 c))
theorem pw_desc {N:Nat} (hN:N≤n):∀ (f:Nat) (p:Array Nat) (m q:Nat),OkP n p→q+1≤m→m+f=N→Fal lt p m→(∀ i,m - 1 - q≤i→i < m→Alk lt (gA p i) (gA p (m - 1))) →
    pw n lt (kas_desc f p m q) (fun r=>OkP n r.1∧r.2.2+1≤r.2.1∧r.2.1≤N∧Fal lt r.1 r.2.1∧∀ i,r.2.1 - 1 - r.2.2≤i→i < r.2.1→Alk lt (gA r.1 i) (gA r.1 (r.2.1 - 1)))
  | 0,p,m,q,hp,hq,h2,h,al=>⟨hp,hq,by show m≤N; omega,h,al⟩
  | f+1,p,m,q,hp,hq,h2,h,al=>by
    have hs:=hp.size
    refine ⟨hp.lt (by omega) _,hp.lt (by omega) _,?_⟩
    show pw n lt (if lt (gA p m) (gA p (m - 1))=true then _ else _) _
    cases c:lt (gA p m) (gA p (m - 1)) with
    | true =>
      rw [if_pos rfl]
      by_cases q0:q > 0
      · rw [if_pos q0]
        have e:∀ k,gA (kas_rev p (m - (q+1)) m) k=if m - (q+1)≤k∧k < m then gA p (m - (q+1)+m - 1 - k) else gA p k:=fun k=>gA_mir (by omega) k
        have ek:∀ k,k < m→Alk lt (gA (kas_rev p (m - (q+1)) m) k) (gA p k):=fun k hk=>by
          rw [e k]
          split
          · have z1:=al (m - (q+1)+m - 1 - k) (by omega) (by omega)
            have z2:=al k (by omega) hk
            exact O.alkT z1 ⟨z2.2,z2.1⟩
          · exact O.alk _
        have em:gA (kas_rev p (m - (q+1)) m) m=gA p m:=by rw [e m,if_neg (by omega)]
        refine pw_desc hN f _ (m+1) 0 (hp.rev _ _) (by omega) (by omega) ((h.alk O ek).snoc O (by omega) ?_) (fun i i1 i2=>?_)
        · rw [em]
          have:=(ek (m - 1) (by omega)).1
          exact O.ntr _ _ _ (O.asym _ _ c) this
        · have:i=m:=by omega
          subst this
          exact O.alk _
      · rw [if_neg q0]
        refine pw_desc hN f p (m+1) 0 hp (by omega) (by omega) (h.snoc O (by omega) (O.asym _ _ c)) (fun i i1 i2=>?_)
        have:i=m:=by omega
        subst this
        exact O.alk _
    | false =>
      rw [if_neg (by decide)]
      refine ⟨hp.lt (by omega) _,hp.lt (by omega) _,?_⟩
      show pw n lt (if lt (gA p (m - 1)) (gA p m)=true then _ else _) _
      cases d:lt (gA p (m - 1)) (gA p m) with
      | true =>
        rw [if_pos rfl]
        exact ⟨hp,hq,by show m≤N; omega,h,al⟩
      | false =>
        rw [if_neg (by decide)]
        refine pw_desc hN f p (m+1) (q+1) hp (by omega) (by omega) (h.snoc O (by omega) d) (fun i i1 i2=>?_)
        by_cases hi:i < m
        · exact O.alkT (al i (by omega) hi) ⟨d,c⟩
        · have:i=m:=by omega
          subst this
          exact O.alk _
noncomputable def Cnt (n:Nat) (lt:Nat→Nat→Bool) (N:Nat) (r:Nat × Array Nat):Prop:=OkP n r.2∧Ris lt r.2 r.1∧1≤r.1∧r.1≤N
theorem pw_tail3 {N:Nat} (hN:N≤n) {p:Array Nat} {m:Nat} (hp:OkP n p) (h1:1≤m) (hm:m≤N) (h:Fal lt p m):pw n lt (kas_tail3 m N p) (Cnt n lt N):=by
  have hs:=hp.size
  have e:∀ k,k < m→gA (kas_rev p 0 m) k=gA p (m - 1 - k):=fun k hk=>by
    rw [gA_mir (by omega),if_pos (by omega),Nat.zero_add]
  refine pw_bind (pw_mono (fun r hr=>?_) (pw_asc O (hp.rev 0 m) hN (N - m) m h1 (by omega) (fun i j ij jm=>?_)))
  · exact ⟨hp.rev 0 m,hr.2.2.1,by show 1≤r; omega,hr.2.1⟩
  · rw [e i (by omega),e j jm]
    exact h _ _ (by omega) (by omega)
theorem pw_descPart {N:Nat} (hN:N≤n) {p:Array Nat} {m:Nat} (hp:OkP n p) (h1:1≤m) (hm:m+1≤N) (h:Fal lt p m) (c:lt (gA p m) (gA p (m - 1))=true):pw n lt (kas_descPart m N p) (Cnt n lt N):=by
  refine pw_bind (pw_mono (fun r hr=>?_) (pw_desc O hN (N - (m+1)) p (m+1) 0 hp (by omega) (by omega) (h.snoc O h1 (O.asym _ _ c)) (fun i i1 i2=>?_)))
  · obtain ⟨p',m',q'⟩:=r
    obtain ⟨ok,hq,hl,fa,al⟩:=hr
    have hs:=ok.size
    dsimp only at hs hq hl fa al ⊢
    by_cases q0:q' > 0
    · rw [if_pos q0]
      refine pw_tail3 O hN (ok.rev _ _) (by omega) hl (fa.alk O fun k hk=>?_)
      rw [gA_mir (by omega)]
      split
      · have z1:=al (m' - (q'+1)+m' - 1 - k) (by omega) (by omega)
        have z2:=al k (by omega) hk
        exact O.alkT z1 ⟨z2.2,z2.1⟩
      · exact O.alk _
    · rw [if_neg q0]
      exact pw_tail3 O hN ok (by omega) hl fa
  · have:i=m:=by omega
    subst this
    exact O.alk _
theorem pw_count {N:Nat} (hN:N≤n) (hN1:1≤N) {p:Array Nat} (hp:OkP n p):pw n lt (kas_count N p) (Cnt n lt N):=by
  have hs:=hp.size
  refine pw_bind (pw_mono (fun m hm=>?_) (pw_asc O hp hN (N - 1) 1 (Nat.le_refl _) (by omega) (Ris.one O p)))
  obtain ⟨m1,mN,ri,st⟩:=hm
  by_cases e:m=N
  · subst e
    rw [if_pos (by simp)]
    exact ⟨hp,ri,m1,Nat.le_refl _⟩
  · rw [if_neg (by simpa using e)]
    have c:=st (by omega)
    by_cases m2:m > 1
    · rw [if_pos m2]
      refine ⟨hp.lt (by omega) _,hp.lt (by omega) _,?_⟩
      show pw n lt (if lt (gA p 0) (gA p (m - 1))=true then _ else _) _
      cases d:lt (gA p 0) (gA p (m - 1)) with
      | true =>
        rw [if_pos rfl]
        exact ⟨hp,ri,m1,mN⟩
      | false =>
        rw [if_neg (by decide)]
        have al:∀ i,i < m→Alk lt (gA p i) (gA p 0):=fun i hi=>⟨ri 0 i (by omega) hi,O.ntr _ _ _ (ri i (m - 1) (by omega) (by omega)) d⟩
        have e:∀ k,k < m→gA (kas_rev p 0 m) k=gA p (m - 1 - k):=fun k hk=>by
          rw [gA_mir (by omega),if_pos (by omega),Nat.zero_add]
        refine pw_descPart O hN (hp.rev _ _) m1 (by omega) (fun i j ij jm=>?_) ?_
        · rw [e i (by omega),e j jm]
          have z1:=al (m - 1 - i) (by omega)
          have z2:=al (m - 1 - j) (by omega)
          exact (O.alkT z1 ⟨z2.2,z2.1⟩).1
        · rw [gA_mir (by omega),if_neg (by omega),e (m - 1) (by omega),show m - 1 - (m - 1)=0 by omega]
          exact O.up c d
    · rw [if_neg m2]
      have em:m=1:=by omega
      subst em
      exact pw_descPart O hN hp (Nat.le_refl _) (by omega) (Fal.one O p) c
theorem pw_place {p:Array Nat} (hp:OkP n p) {k:Nat} (hk:k < n) (h:Ris lt p k):∀ (f l r:Nat),l≤r→r≤k→r - l≤f→(∀ i,i < l→lt (gA p k) (gA p i)=false)→(∀ i,r≤i→i < k→lt (gA p k) (gA p i)=true) →
    pw n lt (kas_place p k f l r) (fun l'=>l'≤k∧(∀ i,i < l'→lt (gA p k) (gA p i)=false)∧∀ i,l'≤i→i < k→lt (gA p k) (gA p i)=true)
  | 0,l,r,h1,h2,h3,a,b=>⟨by omega,a,fun i i1 i2=>b i (by omega) i2⟩
  | f+1,l,r,h1,h2,h3,a,b=>by
    show pw n lt (if l ≥ r then _ else _) _
    by_cases e:l ≥ r
    · rw [if_pos e]
      exact ⟨by omega,a,fun i i1 i2=>b i (by omega) i2⟩
    · rw [if_neg e]
      refine ⟨hp.lt (by omega) _,hp.lt (by omega) _,?_⟩
      show pw n lt (if lt (gA p k) (gA p ((l+r) / 2))=true then _ else _) _
      cases c:lt (gA p k) (gA p ((l+r) / 2)) with
      | true =>
        rw [if_pos rfl]
        exact pw_place hp hk h f l ((l+r) / 2) (by omega) (by omega) (by omega) a fun i i1 i2=>O.up c (h _ i i1 i2)
      | false =>
        rw [if_neg (by decide)]
        exact pw_place hp hk h f ((l+r) / 2+1) r (by omega) h2 (by omega) (fun i hi=>O.ntr _ _ _ (h i ((l+r) / 2) (by omega) (by omega)) c) b
theorem pw_bin:∀ (f:Nat) (p:Array Nat) (k:Nat),OkP n p→k+f=n→Ris lt p k→pw n lt (kas_bin f p k) (fun p'=>OkP n p'∧Ris lt p' n)
  | 0,p,k,hp,hk,h=>by
    have:k=n:=by omega
    subst this
    exact ⟨hp,h⟩
  | f+1,p,k,hp,hk,h=>by
    have hs:=hp.size
    refine pw_bind (pw_mono (fun l hl=>?_) (pw_place O hp (by omega) h k 0 k (by omega) (Nat.le_refl _) (by omega) (fun i hi=>absurd hi (by omega)) (fun i i1 i2=>absurd i1 (by omega))))
    obtain ⟨lk,lo,hi⟩:=hl
    refine pw_bin f _ (k+1) (hp.bub _ _) (by omega) (fun i j ij jk=>?_)
    have e:=fun x=>gA_bub (p:=p) (src:=k) (d:=k - l) (by omega) (by omega) x
    rw [e i,e j,show k - (k - l)=l by omega]
    by_cases j1:j=l
    · subst j1
      rw [if_pos rfl]
      by_cases i1:i=j
      · rw [if_pos i1]; exact O.irr _
      · rw [if_neg i1,if_neg (by omega)]
        exact lo i (by omega)
    · rw [if_neg j1]
      by_cases j2:l < j∧j≤k
      · rw [if_pos j2]
        by_cases i1:i=l
        · rw [if_pos i1]
          exact O.asym _ _ (hi (j - 1) (by omega) (by omega))
        · rw [if_neg i1]
          by_cases i2:l < i∧i≤k
          · rw [if_pos i2]
            exact h _ _ (by omega) (by omega)
          · rw [if_neg i2]
            exact h _ _ (by omega) (by omega)
      · rw [if_neg j2,if_neg (by omega),if_neg (by omega)]
        exact h _ _ ij (by omega)
theorem pw_sort (h2:1≤n):pw n lt (kas_sort n) (fun p=>OkP n p∧Ris lt p n):=by
  refine pw_bind (pw_mono (fun r hr=>?_) (pw_count O (Nat.le_refl n) h2 (p:=List.toArray (List.range n)) (by unfold OkP; simp)))
  obtain ⟨m,p⟩:=r
  obtain ⟨ok,ri,m1,mn⟩:=hr
  dsimp only at ok ri m1 mn ⊢
  by_cases e:m < n
  · rw [if_pos e,Nat.max_eq_left m1]
    exact pw_bin O (n - m) p m ok (by omega) ri
  · rw [if_neg e]
    have:m=n:=by omega
    subst this
    exact ⟨ok,ri⟩
end
end L2
set_option Elab.async false
set_option linter.all false
set_option maxRecDepth 100000
set_option maxHeartbeats 4000000
namespace L2
open PySem PySem.Spec PyProof.Rows PySem.W Ck
section
variable {prog:Program} {w:World} {A:Around} {E:Value→Shared→Prop} {s:Shared}
noncomputable def Asks (prog:Program) (w:World) (A:Around) (vs:List Value) (lt:Nat→Nat→Bool) (s1:Shared):Prop :=
  ∀ (Q:SortKind→Shared→Prop),(∀ κ,(∀ (i j:Nat) (C:Bool→Shared→Prop),i < vs.length→j < vs.length→C (lt i j) s1→kas_ask prog w A κ vs i j C s1)→Q κ s1)→wpAny (model prog w) A (keyKind' vs.toArray) Q (fun _ _=>False) s1
noncomputable def outOf (vs:List Value) (p:Array Nat):List Value:=p.toList.map fun i=>vs.getD i Value.none
theorem out_range (vs:List Value):outOf vs (List.toArray (List.range vs.length))=vs:=by
  unfold outOf
  refine List.ext_getElem (by simp) fun i h1 h2=>?_
  simp [h2]
theorem zip_snd (vs:List Value):(vs.toArray.zip vs.toArray).map (·.2)=vs.toArray:=by
  refine Array.ext (by simp) fun i h1 h2=>?_
  simp
theorem sort_ask {a:Addr} {vs:List Value} {n:Nat} {P:PySem.Fin→Shared→Prop} {lt:Nat→Nat→Bool} (O:Ordr lt) (ho:s.heap.get? a=some (seqObj "list" vs.toArray n)) (h64:vs.length < 64)
    (hk:∀ h6:Heap,(∀ b o,b≠a→s.heap.get? b=some o→h6.get? b=some o)→2≤vs.length→Asks prog w A vs lt { s with heap:=h6 })
    (fin:∀ p:Array Nat,OkP vs.length p→Ris lt p vs.length→P (.done (.ret .none)) { s with heap:=sortedHeap s.heap a vs (outOf vs p).toArray }):wpAny (model prog w) A (Builtin.«list.sort» ⟨[.ref a],[]⟩) P E s:=by
  have ha:a < s.heap.objs.size:=Heap.lt_size ho
  have hz:vs.length≤sizeLine:=by rw [sizeLine_eq]; omega
  obtain ⟨e1,ho1⟩:∃ e,(s.heap.update a (Obj.mapSeq fun _=>(#[]:Array Value))).get? a=some (seqObj "list" #[] e):=⟨_,get?_update_seq ho _⟩
  have keep:∀ b o,(s.heap.update a (Obj.mapSeq fun _=>(#[]:Array Value))).get? b=some o→(((s.heap.update a (Obj.mapSeq fun _=>(#[]:Array Value))).push (seqObj "tuple" vs.toArray 0)).push (seqObj "list" #[] 0)).get? b=some o:=fun b o e=>Heap.get?_push_of_some _ (Heap.get?_push_of_some _ e)
  have old:∀ b o,b≠a→s.heap.get? b=some o→(((s.heap.update a (Obj.mapSeq fun _=>(#[]:Array Value))).push (seqObj "tuple" vs.toArray 0)).push (seqObj "list" #[] 0)).get? b=some o:=fun b o hb e=>keep b o (by rw [Heap.get?_update_ne _ _ _ _ hb]; exact e)
  have ho6:=keep _ _ ho1
  rw [list_sort_plain]
  refine wpAny_bind (listItems_at ho rfl (wpAny_bind (listUpdate_at ho rfl (wpAny_bind (seqEpoch_at ho1 rfl (wpAny_bind (wpAny_newTuple (wpAny_bind (wpAny_newList (wpAny_holding ?_) (Nat.zero_le _))) hz)))) (by rw [List.size_toArray]; exact hz) (Nat.zero_le _))))
  show wpAny (model prog w) A _ P E { s with heap:=((s.heap.update a (Obj.mapSeq fun _=>(#[]:Array Value))).push (seqObj "tuple" vs.toArray 0)).push (seqObj "list" #[] 0) }
  dsimp only
  by_cases h2:vs.toArray.size < 2
  · rw [if_pos h2,if_pos h2]
    refine wpAny_bind (wpAny_pure ?_)
    rw [StateT.run_pure]
    refine wpAny_bind (wpAny_pure ?_)
    dsimp only
    have ez:(arrOf (SortSt.mk' general' (vs.toArray.zip vs.toArray) #[] 7 none)).map (·.2)=vs.toArray:=zip_snd vs
    rw [ez]
    refine wpAny_bind (seqEpoch_at ho6 rfl (wpAny_bind (listUpdate_at ho6 rfl ?_ (Nat.zero_le _) (by rw [List.size_toArray]; omega))))
    simp only [bne_self_eq_false,Bool.false_eq_true,if_false]
    have f:=fin (List.toArray (List.range vs.length)) (by unfold OkP; simp) (fun i j ij jl=>by
      rw [List.size_toArray] at h2
      have e:i=j:=by omega
      subst e
      exact O.irr _)
    rw [out_range] at f
    exact wpAny_pure f
  · rw [if_neg h2,if_neg h2]
    rw [List.size_toArray] at h2
    refine wpAny_bind (wpAny_mono (hk _ old (by omega) _ fun κ ask=>?_) (fun _ _ q=>q) fun _ _ x=>x.elim)
    refine wpAny_bind (wpAny_mono (kat_run (ks:=vs) (Q:=fun st' s'=>∃ p:Array Nat,p.size=vs.length∧arrOf st'=p.map (kas_item (vs.toArray.zip vs.toArray))∧failedOf st'=none∧s'=_∧OkP vs.length p∧Ris lt p vs.length) rfl (by omega) h64
      (fun p' st' s' a1 a2 a3 a4=>⟨p',a1,a2,a3,a4⟩) (pw_wp ask (pw_sort O (by omega)))) ?_ fun _ _ e=>e)
    rintro ⟨⟨⟩,st'⟩ s' ⟨p,hp,har,hf,rfl,ok,ri⟩
    dsimp only
    rw [kat_snds rfl har]
    refine wpAny_bind (seqEpoch_at ho6 rfl (wpAny_bind (listUpdate_at ho6 rfl ?_ (Nat.zero_le _) (by rw [List.size_toArray,List.length_map,Array.length_toList,hp]; omega))))
    rw [hf]
    simp only [bne_self_eq_false,Bool.false_eq_true,if_false]
    exact wpAny_pure (fin p ok ri)
theorem sorted_ask {l:Addr} {vs:List Value} {Q:Value→Shared→Prop} {lt:Nat→Nat→Bool} (O:Ordr lt) (hl:s.heap.IsList l vs.toArray) (h64:vs.length < 64)
    (hk:∀ h6:Heap,(∀ b o,s.heap.get? b=some o→h6.get? b=some o)→2≤vs.length→Asks prog w A.in1.in1 vs lt { s with heap:=h6 })
    (fin:∀ p:Array Nat,OkP vs.length p→Ris lt p vs.length→Q (.ref (s.heap.objs.size+1)) { s with heap:=sortedAll s.heap vs (outOf vs p).toArray }):wpAny (model prog w) A (call (.builtin "sorted") [.ref l]) Q E s:=by
  have hz:vs.length≤sizeLine:=by rw [sizeLine_eq]; omega
  have hsz:((s.heap.push (seqObj "list" #[] 0)).update s.heap.objs.size (Obj.mapSeq (·++vs.toArray))).objs.size=s.heap.objs.size+1:=by rw [Heap.size_update,size_push']
  have hoL:(((s.heap.push (seqObj "list" #[] 0)).update s.heap.objs.size (Obj.mapSeq (·++vs.toArray))).push (seqObj "list" vs.toArray 0)).get? (s.heap.objs.size+1)=some (seqObj "list" vs.toArray 0):=by rw [← hsz]; exact Heap.get?_push_size _ rfl
  have keep:∀ b o,s.heap.get? b=some o→(((s.heap.push (seqObj "list" #[] 0)).update s.heap.objs.size (Obj.mapSeq (·++vs.toArray))).push (seqObj "list" vs.toArray 0)).get? b=some o:=fun b o q=>by
    have hlt:b < s.heap.objs.size:=Heap.lt_size q
    refine Heap.get?_push_of_some _ ?_
    rw [Heap.get?_update_ne _ _ _ _ (Nat.ne_of_lt hlt)]
    exact Heap.get?_push_of_some _ q
  refine Calls.call_function_entry kind_sorted plain_sorted entry_sorted (args_sorted1 _) ?_
  unfold Builtin.«sorted»
  refine wpAny_bind (m:=checkCount "sorted" 1 1 _) (wpAny_pure (wpAny_bind (collect_list hl (wpAny_bind (wpAny_newList ?_ hz)) hz)))
  show wpAny _ _ _ _ _ { s with heap:=((s.heap.push (seqObj "list" #[] 0)).update s.heap.objs.size (Obj.mapSeq (·++vs.toArray))).push (seqObj "list" vs.toArray 0) }
  rw [hsz]
  refine wpAny_bind (wpAny_holding (wpAny_call_entry slot_list_sort ⟨_,hoL,rfl⟩ entry_list_sort (sort_ask (s:={ s with heap:=((s.heap.push (seqObj "list" #[] 0)).update s.heap.objs.size (Obj.mapSeq (·++vs.toArray))).push (seqObj "list" vs.toArray 0) }) O hoL h64 (fun h6 old=>hk h6 fun b o q=>old b o (Nat.ne_of_lt (Nat.lt_succ_of_lt (Heap.lt_size q))) (keep b o q)) fun p ok ri=>⟨_,rfl,?_⟩) (args_list_sort _)))
  exact wpAny_pure ⟨_,rfl,fin p ok ri⟩
noncomputable def ltP (p q:Pair):Bool:=decide (p.1 < q.1) || (decide (p.1=q.1)&&decide (p.2 < q.2))
noncomputable def leP (p q:Pair):Prop:=p.1 < q.1∨(p.1=q.1∧p.2≤q.2)
theorem ltP_no {p q:Pair}:ltP q p=false↔leP p q:=by
  unfold ltP leP
  simp only [Bool.or_eq_false_iff,Bool.and_eq_false_iff,decide_eq_false_iff_not]
  omega
theorem ltP_yes {p q:Pair}:ltP p q=true↔¬ leP q p:=by
  rw [← ltP_no]
  simp
theorem ordP (ps:List Pair):Ordr fun i j=>ltP (ps.getD i (0,0)) (ps.getD j (0,0)) where
  asym a b h:=by
    rw [ltP_yes] at h
    rw [ltP_no]
    unfold leP at h ⊢
    omega
  ntr a b c h1 h2:=by
    rw [ltP_no] at h1 h2 ⊢
    unfold leP at h1 h2 ⊢
    omega
noncomputable def PrV (h:Heap) (vs:List Value) (ps:List Pair):Prop:=Paired (fun (v:Value) (p:Pair)=>∃ a t u,v = .ref a∧IsTup h a #[.int p.1 t,.int p.2 u]) vs ps
theorem PrV.get {h:Heap}:∀ {vs:List Value} {ps:List Pair},PrV h vs ps→∀ {i:Nat},i < vs.length→∃ a t u,vs.getD i Value.none = .ref a∧IsTup h a #[.int (ps.getD i (0,0)).1 t,.int (ps.getD i (0,0)).2 u]
  | _,_,.nil,i,e=>absurd e (by simp)
  | _,_,.cons r t,0,e=>r
  | _,_,.cons r t,i+1,e=>by
    have:=PrV.get t (i:=i) (by simpa using e)
    simpa using this
theorem PrV.tups {h:Heap}:∀ {vs:List Value} {ps:List Pair},PrV h vs ps→∃ fs:List Value,KatTups h vs fs∧fs.length=vs.length∧∀ v∈fs,∃ i t,v = .int i t
  | _,_,.nil=>⟨[],.nil,rfl,fun v hv=>by cases hv⟩
  | _,_,.cons (b:=p) r t=>by
    obtain ⟨fs,k,l,al⟩:=PrV.tups t
    obtain ⟨a,t',u,rfl,o,ho,hc,n,hd⟩:=r
    refine ⟨.int p.1 t'::fs,.cons ho hc hd rfl k,by simp [l],fun v hv=>?_⟩
    rcases List.mem_cons.mp hv with rfl | hv
    · exact ⟨_,_,rfl⟩
    · exact al v hv
theorem asksP {vs:List Value} {ps:List Pair} {s1:Shared} (r:PrV s1.heap vs ps) (h2:2≤vs.length):Asks prog w A vs (fun i j=>ltP (ps.getD i (0,0)) (ps.getD j (0,0))) s1:=by
  intro Q q
  obtain ⟨fs,k,l,al⟩:=r.tups
  refine kat_kind (T:=.type "int") k (by omega) (fun v hv=>?_) (by decide) (q _ fun i j C hi hj hc=>?_)
  · obtain ⟨i,t,rfl⟩:=al v hv
    exact Looks.of_pure rfl
  · obtain ⟨a,t,u,e1,o1,g1,c1,n1,d1⟩:=r.get hi
    obtain ⟨b,t',u',e2,o2,g2,c2,n2,d2⟩:=r.get hj
    unfold kas_ask
    rw [e1,e2]
    have hc:C (ltP (ps.getD i (0,0)) (ps.getD j (0,0))) s1:=hc
    generalize ps.getD i (0,0)=p at hc d1
    generalize ps.getD j (0,0)=q' at hc d2
    obtain ⟨x1,y1⟩:=p
    obtain ⟨x2,y2⟩:=q'
    unfold ltP at hc
    dsimp only at hc d1 d2
    refine kat_lt g1 d1 g2 d2 (kat_cons (wpAny_eqBool_int ?_))
    by_cases ex:x1=x2
    · subst ex
      rw [show (x1 == x1)=true from by simp]
      refine kat_yes (kat_cons (wpAny_eqBool_int ?_))
      by_cases ey:y1=y2
      · subst ey
        rw [show (y1 == y1)=true from by simp]
        refine kat_yes (kat_nil ?_)
        have e:(decide (x1 < x1) || decide (x1=x1)&&decide (y1 < y1))=false:=by simp
        rw [e] at hc
        exact hc
      · rw [show (y1 == y2)=false from by simpa using ey]
        refine kat_no (kat_one _ _ (wpAny_lt_int ?_))
        have e:(decide (x1 < x1) || decide (x1=x1)&&decide (y1 < y2))=decide (y1 < y2):=by simp
        rw [e] at hc
        exact hc
    · rw [show (x1 == x2)=false from by simpa using ex]
      refine kat_no (oneLt_int ?_)
      have e:(decide (x1 < x2) || decide (x1=x2)&&decide (y1 < y2))=decide (x1 < x2):=by simp [ex]
      rw [e] at hc
      exact hc
end
section
variable {X:Cx}
theorem prv_of {pins:List (Addr × Obj)} {σ:St} {H:Hp} {s:Shared} (I:Inv X pins σ H s):∀ {us:List V} {ps:List Pair} {vs:List Value},Prs H us ps→Vals us vs→PrV s.heap vs ps
  | _,_,_,.nil,.nil=>.nil
  | _,_,_,.cons r t,.cons rv tv=>by
    obtain ⟨a,rfl,ha⟩:=r
    cases rv
    obtain ⟨its,r',tu,_⟩:=I.tuple (SqT.of ha)
    refine .cons ⟨a,?_⟩ (prv_of I t tv)
    cases r' with
    | cons x1 r2 =>
      cases r2 with
      | cons x2 r3 =>
        cases r3
        obtain ⟨t1,rfl⟩:=x1
        obtain ⟨t2,rfl⟩:=x2
        exact ⟨t1,t2,rfl,tu⟩
theorem PrV.mono {h h':Heap} (k:∀ b o,h.get? b=some o→h'.get? b=some o):∀ {vs:List Value} {ps:List Pair},PrV h vs ps→PrV h' vs ps
  | _,_,.nil=>.nil
  | _,_,.cons r t=>by
    obtain ⟨a,t1,t2,e,o,ho,hc,n,hd⟩:=r
    exact .cons ⟨a,t1,t2,e,o,k _ _ ho,hc,n,hd⟩ (PrV.mono k t)
theorem pairs_take {α β:Type} {R:α→β→Prop} {as:List α} {bs:List β} (h:Paired R as bs) (da:α) (db:β):∀ is:List Nat,(∀ i∈is,i < as.length)→Paired R (is.map fun i=>as.getD i da) (is.map fun i=>bs.getD i db)
  | [],_=>.nil
  | i::is,hi=>by
    refine .cons ?_ (pairs_take h da db is fun j hj=>hi j (List.mem_cons_of_mem _ hj))
    have hl:=hi i (List.mem_cons_self ..)
    have go:∀ {as:List α} {bs:List β},Paired R as bs→∀ i,i < as.length→R (as.getD i da) (bs.getD i db):=by
      intro as bs h
      induction h with
      | nil=>intro i hi; simp at hi
      | cons r t ih =>
        intro i hi
        cases i with
        | zero=>simpa using r
        | succ i=>simpa using ih i (by simpa using hi)
    exact go h i hl
theorem take_perm {α:Type} (d:α) (l:List α) {is:List Nat} (h:is.Perm (List.range l.length)):(is.map fun i=>l.getD i d).Perm l:=by
  refine (h.map _).trans ?_
  have e:(List.range l.length).map (fun i=>l.getD i d)=l:=List.ext_getElem (by simp) fun i h1 h2=>by simp [h2]
  rw [e]
theorem call_sortedP:CallR X (.builtin "sorted") (fun xs H Q=>∃ (p:Addr) (ps:List Pair),xs=[.ref p]∧PLs H p ps∧ps.length < 64∧∀ (q:Addr) (qs:List Pair) (H':Hp),Same H H'→H q=none→PLs H' q qs→qs.Perm ps→qs.Pairwise leP→Q (.ref q) H'):=by
  intro pins s σ H xs us Q I r h
  obtain ⟨p,ps,rfl,⟨ws,hl,pr⟩,h64,q⟩:=h
  obtain ⟨u,rfl,ru⟩:=vals1 r
  cases ru
  obtain ⟨its,r',pl,hz⟩:=I.list (SqL.of hl)
  have lw:=pr.length
  have li:ws.length=its.length:=r'.length
  have pv:=prv_of I pr r'
  refine sorted_ask (ordP ps) pl.isList (by omega) (fun h6 old h2=>asksP (s1:={ s with heap:=h6 }) (pv.mono old) h2) fun g ok ri=>?_
  obtain ⟨e,he⟩:=sortedAll_at s.heap its (outOf its g).toArray
  have hb:∀ i∈g.toList,i < its.length:=fun i hi=>List.mem_range.mp (ok.mem_iff.mp hi)
  have lg:g.toList.length=its.length:=by rw [ok.length_eq,List.length_range]
  have hz2:(g.toList.map fun i=>ws.getD i V.non).length≤sizeLine:=by rw [List.length_map,lg]; exact sz (by omega)
  have vs2:Vals (g.toList.map fun i=>ws.getD i V.non) (outOf its g):=pairs_take r' V.non Value.none g.toList (fun i hi=>by rw [li]; exact hb i hi)
  have pr2:Prs H (g.toList.map fun i=>ws.getD i V.non) (g.toList.map fun i=>ps.getD i (0,0)):=pairs_take pr V.non (0,0) g.toList (fun i hi=>by rw [li]; exact hb i hi)
  have fr:H (s.heap.objs.size+1)=none:=I.hok.fresh (Nat.le_succ _)
  refine ⟨.ref _,_,I.laid (t':=s.toks) (o:=.lst (g.toList.map fun i=>ws.getD i V.non)) (fun b u e=>sortedAll_old e) (Nat.le_succ _) ⟨hz2,outOf its g,e,vs2,by simpa [seqObj] using he⟩,rfl,?_⟩
  refine q _ _ _ (Same.new (Same.refl H) fr _) fr ⟨_,upd_same,pr2.updN fr _⟩ (take_perm (0,0) ps (by rw [← lw,li]; exact ok)) ?_
  rw [List.pairwise_map]
  have gs:g.size=its.length:=by rw [← lg]; simp
  refine List.pairwise_iff_getElem.mpr fun i j hi hj hij=>?_
  have:=ri i j (by omega) (by rw [← gs]; simpa using hj)
  rw [ltP_no] at this
  unfold gA at this
  simpa [show i < g.size by simpa using hi,show j < g.size by simpa using hj] using this
end
end L2
set_option Elab.async false
set_option linter.all false
set_option maxRecDepth 100000
set_option maxHeartbeats 4000000
namespace L2
open PySem PySem.Spec PyProof.Rows PySem.W
section
variable {prog:Program} {w:World} {A:Around} {E:Value→Shared→Prop} {s:Shared} {R:Result→Shared→Prop} {d:Value} {it:Addr} {fp wr:List Addr} {n:Nat} {P:Nat→Value→Prop} {St:Nat→Heap→Prop}
noncomputable abbrev dfl (d:Value):List (Str × Value):=[(Str.ofString "default",d)]
theorem loop_nm:(toString "max"++toString ".loop" : String) = "max.loop":=by decide
theorem loopD (W:Walks prog w A.in1 it fp wr n P St) (bt:Nat→Nat→Bool) (cmp:CmpOf prog w A.in1 .Gt P bt) (B:Addr) (nB:B∉fp):∀ (k j:Nat) (s:Shared) (x:Value) (c:Nat),n - (j+1)=k→j+1≤n→St (j+1) s.heap→P (argBest bt j) x →
    s.heap.get? B=some { cls:=.type "list",dict:=none,data:=.seq #[x,x] c,slots:=#[] } →
    (∀ v h' tk,P (argBest bt (n - 1)) v→(∀ b o,b∉wr→b≠B→s.heap.get? b=some o→h'.get? b=some o)→R (.ok (.ret v)) { s with heap:=h',toks:=tk }) →
    codeAny (model prog w) A (.builtin "max.loop" ⟨[.ref it,.none,.ref B],dfl d⟩) R s
  | 0,j,s,x,c,hk,hj,st,px,hB,q=>by
    have nW:B∉wr:=fun z=>nB (W.sub _ z)
    have en:j+1=n:=by omega
    refine codeAny_builtin F.entry_max_loop ?_
    rw [Around.under_plainId F.plain_max_loop _]
    show wpAny _ A.in1 (seqItems? (.ref B) >>= _) _ _ s
    refine wpAny_bind (wpAny_seqItems hB rfl ?_)
    show wpAny _ A.in1 (tryCatch (pyNext (.ref it)) _ >>= _) _ _ s
    refine wpAny_bind (wpAny_tryCatch (W.done s _ _ (en▸st) fun h' tk kp=>?_))
    show wpAny _ A.in1 (updateSeq B (fun _=>#[]) >>= _) _ _ _
    refine wpAny_bind (wpAny_updateSeq (kp B _ nW hB) rfl (wpAny_bind (wpAny_letGo (wpAny_pure ?_))))
    exact q x _ tk (by rw [← en]; exact px) fun b o b1 b2 e=>(Heap.get?_update_other _ _ (Ne.symm b2)).trans (kp b o b1 e)
  | k+1,j,s,x,c,hk,hj,st,px,hB,q=>by
    have nW:B∉wr:=fun z=>nB (W.sub _ z)
    have lt:j+1 < n:=by omega
    refine codeAny_builtin F.entry_max_loop ?_
    rw [Around.under_plainId F.plain_max_loop _]
    show wpAny _ A.in1 (seqItems? (.ref B) >>= _) _ _ s
    refine wpAny_bind (wpAny_seqItems hB rfl ?_)
    show wpAny _ A.in1 (tryCatch (pyNext (.ref it)) _ >>= _) _ _ s
    refine wpAny_bind (wpAny_tryCatch (W.item (j+1) s _ _ lt st fun v h' tk pv st' kp=>?_))
    have hB':=kp B _ nW hB
    show wpAny _ A.in1 (tryCatch (holding [v,v] (richCompare .Gt v x >>= _)) _ >>= _) _ _ _
    refine wpAny_bind (wpAny_tryCatch (wpAny_holding (wpAny_bind (cmp (j+1) (argBest bt j) v x _ _ _ pv px (wpAny_bind (wpAny_holding (wpAny_truthy_bool (wpAny_bind (wpAny_letGo (wpAny_pure ?_))))))))))
    by_cases hb:bt (j+1) (argBest bt j)=true
    · rw [hb]
      simp only [if_true]
      refine wpAny_bind (wpAny_updateSeq hB' rfl (wpAny_bind (wpAny_letGo ?_)))
      rw [loop_nm]
      refine wpAny_pure ⟨plainId_quiet F.plain_max_loop _,loopD W bt cmp B nB k (j+1) _ v _ (by omega) lt (W.frame _ _ _ st' fun b bf o e=>?_) (by unfold argBest; rw [if_pos hb]; exact pv) (Heap.get?_update_self _ hB' rfl) fun v' h2 tk2 pv' kp2=>?_⟩
      · exact (Heap.get?_update_other _ _ (fun z:B=b=>nB (by rw [z]; exact bf))).trans e
      · exact q v' h2 tk2 pv' fun b o b1 b2 e=>kp2 b o b1 b2 ((Heap.get?_update_other _ _ (Ne.symm b2)).trans (kp b o b1 e))
    · rw [show bt (j+1) (argBest bt j)=false by simpa using hb]
      simp only [Bool.false_eq_true,if_false]
      refine wpAny_bind (wpAny_letGo ?_)
      rw [loop_nm]
      refine wpAny_pure ⟨plainId_quiet F.plain_max_loop _,loopD W bt cmp B nB k (j+1) _ x c (by omega) lt st' (by unfold argBest; rw [if_neg hb]; exact px) hB' fun v' h2 tk2 pv' kp2=>?_⟩
      exact q v' h2 tk2 pv' fun b o b1 b2 e=>kp2 b o b1 b2 (kp b o b1 e)
theorem args_maxD (a d:Value):argsOk "max" ⟨[a],dfl d⟩:=by unfold argsOk; kernel_rfl
theorem max_dflt {l:Addr} {xs:Array (Int × Tok)} {Q:Value→Shared→Prop} (hh:A.handled=none) (hl:s.heap.IsList l (intItems xs))
    (h0:xs.size=0→∀ h' tk,(∀ b o,s.heap.get? b=some o→h'.get? b=some o)→Q d { s with heap:=h',toks:=tk })
    (h1:0 < xs.size→∀ v h' tk,(intItems xs)[argBest (fun i j=>decide (numAt xs i > numAt xs j)) (xs.size - 1)]? = some v→(∀ b o,s.heap.get? b=some o→h'.get? b=some o)→Q v { s with heap:=h',toks:=tk }) :
    wpAny (model prog w) A (call (.builtin "max") [.ref l] (dfl d)) Q E s:=by
  refine kmb_tree F.kind_max F.plain_max F.entry_max (args_maxD _ _) ?_
  show wpAny _ A.in1 (Builtin.Builtins.bindParams "max" ["key","default"] 0 ⟨[],dfl d⟩ >>= _) _ _ s
  refine wpAny_bind (wpAny_of_eq (show Builtin.Builtins.bindParams "max" ["key","default"] 0 ⟨[],dfl d⟩=pure [none,some d] from rfl) (wpAny_bind (wpAny_pure (wpAny_bind (iter_intList hl fun s2 e st hfp hlI=>?_)))))
  subst e
  have W:=Walks.list (prog:=prog) (w:=w) (A:=A.in1) hh s.heap.objs.size l hlI (intItems xs)
  have nf:(s.heap.push { cls:=.type "list_iterator",data:=.fields #[.ref l,.int 0 0] }).objs.size∉[s.heap.objs.size,l]:=fun z=>Nat.lt_irrefl _ (hfp _ z)
  refine wpAny_bind (wpAny_newObj_type ?_)
  rw [loop_nm]
  refine wpAny_pure ⟨plainId_quiet F.plain_max_loop _,?_⟩
  have st2:=W.frame _ _ _ st fun b _ o e=>Heap.get?_push_of_some { cls:=.type "list",data:=.seq #[] } e
  have hB:((s.heap.push { cls:=.type "list_iterator",data:=.fields #[.ref l,.int 0 0] }).push { cls:=.type "list",data:=.seq #[] }).get? (s.heap.push { cls:=.type "list_iterator",data:=.fields #[.ref l,.int 0 0] }).objs.size=some { cls:=.type "list",dict:=none,data:=.seq #[] 0,slots:=#[] }:=Heap.get?_push_size _ rfl
  have nW:(s.heap.push { cls:=.type "list_iterator",data:=.fields #[.ref l,.int 0 0] }).objs.size∉[s.heap.objs.size]:=fun z=>nf (List.mem_cons.mpr (.inl (by simpa using z)))
  have back:∀ h':Heap,(∀ b o,b∉[s.heap.objs.size]→b≠(s.heap.push { cls:=.type "list_iterator",data:=.fields #[.ref l,.int 0 0] }).objs.size→((s.heap.push { cls:=.type "list_iterator",data:=.fields #[.ref l,.int 0 0] }).push { cls:=.type "list",data:=.seq #[] }).get? b=some o→h'.get? b=some o)→∀ b o,s.heap.get? b=some o→h'.get? b=some o:=fun h' kp b o e=>by
    have lb:=Heap.lt_size e
    refine kp b o (fun z=>Nat.lt_irrefl _ ((List.mem_singleton.mp z)▸lb)) (fun z=>?_) (Heap.get?_push_of_some _ (Heap.get?_push_of_some _ e))
    have sp:(s.heap.push { cls:=.type "list_iterator",data:=.fields #[.ref l,.int 0 0] }).objs.size=s.heap.objs.size+1:=Heap.size_push ..
    exact Nat.lt_irrefl _ (Nat.lt_of_lt_of_le (Nat.lt_of_le_of_lt (Nat.le_of_eq z.symm) lb) (Nat.le_of_lt (Nat.lt_of_lt_of_eq (Nat.lt_succ_self _) sp.symm)))
  refine codeAny_builtin F.entry_max_loop ?_
  rw [Around.under_plainId F.plain_max_loop _]
  show wpAny _ A.in1 (seqItems? (.ref _) >>= _) _ _ _
  refine wpAny_bind (wpAny_seqItems hB rfl ?_)
  show wpAny _ A.in1 (tryCatch (pyNext (.ref s.heap.objs.size)) _ >>= _) _ _ _
  by_cases z:xs.size=0
  · have e0:(intItems xs).size=0:=by simpa [intItems] using z
    refine wpAny_bind (wpAny_tryCatch (W.done _ _ _ (e0▸st2) fun h' tk kp=>?_))
    show wpAny _ A.in1 (rule _ >>= _) _ _ _
    refine wpAny_bind (wpAny_rule (wpAny_pure ?_))
    exact h0 z h' tk (back h' fun b o b1 _ e=>kp b o b1 e)
  · have n0:0 < (intItems xs).size:=by
      have:0 < xs.size:=by omega
      simpa [intItems] using this
    refine wpAny_bind (wpAny_tryCatch (W.item 0 _ _ _ n0 st2 fun v h' tk pv st' kp=>?_))
    have hB':=kp _ _ nW hB
    show wpAny _ A.in1 (updateSeq _ (fun _=>#[v,v]) >>= _) _ _ _
    refine wpAny_bind (wpAny_updateSeq hB' rfl ?_)
    rw [loop_nm]
    refine wpAny_pure ⟨plainId_quiet F.plain_max_loop _,loopD W _ (CmpOf.ints_gt (numAt xs) (fun _ _=>intItems_at)) _ nf _ 0 _ v _ rfl n0 (W.frame _ _ _ st' fun b bf o e=>?_) pv (Heap.get?_update_self _ hB' rfl) fun v' h2 tk2 pv' kp2=>?_⟩
    · exact (Heap.get?_update_other _ _ (fun z:_=b=>nf (by rw [z]; exact bf))).trans e
    · refine h1 (by omega) v' h2 tk2 (by simpa [intItems] using pv') (back h2 fun b o b1 b2 e=>kp2 b o b1 b2 ((Heap.get?_update_other _ _ (Ne.symm b2)).trans (kp b o b1 e)))
end
section
variable {X:Cx} {e:Expr} {es:List Expr} {kws:List Keyword} {p pos:Pos} {t tk:TA} {x:Str} {id:String} {ks:List Str} {r:List V→List V→Hp→VK→Prop}
noncomputable def CallRK (X:Cx) (f:Value) (ks:List Str) (r:List V→List V→Hp→VK→Prop):Prop :=
  ∀ (pins:List (Addr × Obj)) (s:Shared) (σ:St) (H:Hp) (xs zs:List V) (us ws:List Value) (Q:VK),Inv X pins σ H s→Vals xs us→Vals zs ws→r xs zs H Q→wpAny (model X.prog X.w) X.A (call f us (ks.zip ws)) (EP X pins σ Q) X.xe s
noncomputable def tCBK (r:List V→List V→Hp→VK→Prop) (t tk:TA):TE:=fun σ H Q=>t σ H fun vs H1=>tk σ H1 fun zs H2=>r vs zs H2 Q
theorem pe_callBK (hc:CallRK X (.builtin id) ks r) (hg:Gl X x) (hm:X.mg x=none) (hv:bootBuiltins x=some (.builtin id)) (ha:PA X (e::es) t) (hkw:PK X kws tk) (hn:x≠"__name__":=by decide) (hdb:(x == ("__debug__" : Str))=false:=by decide)
    (hs:backTo pos (starEach (e::es) X.env)=(false,eval e X.env)::backTo pos (starEach es X.env):=by rfl) (hpl:(backTo pos (starEach (e::es) X.env)).any (·.1)=false:=by rfl)
    (hal:(backToKw pos (keywordEach kws X.env)).all (·.1.isSome)=true:=by rfl) (hkn:(backToKw pos (keywordEach kws X.env)).any (·.1.isNone)=false:=by rfl)
    (hks:(backToKw pos (keywordEach kws X.env)).filterMap (·.1)=ks:=by rfl):PE X (.Call (.Name x p) (e::es) kws pos) (tCBK r t tk):=by
  intro pins s σ H Q I h
  refine wpAny_Call_Name_kw (ld_blt I hg hm hv (callWith_kw (env:=X.env) (thn (ha pos pins s σ H _ I h) fun us s1 ⟨vs,H1,I1,r1,q⟩=>thn (hkw pos pins s1 σ H1 _ I1 q) fun ws s2 ⟨zs,H2,I2,r2,q2⟩=>?_) hs hpl hal hkn) hn hdb)
  rw [hks]
  exact hc pins s2 σ H2 vs zs us ws Q I2 r1 r2 q2
theorem call_maxD (hc:X.calm=true):CallRK X (.builtin "max") [Str.ofString "default"] (fun xs zs H Q=>∃ (a:Addr) (ns:List Int) (u:V),xs=[.ref a]∧zs=[u]∧SqL X.K H a (ns.map V.int)∧(ns=[]→Q u H)∧(ns≠[]→∀ M,M∈ns→(∀ y∈ns,y≤M)→Q (.int M) H)):=by
  intro pins s σ H xs zs us ws Q I r rz h
  obtain ⟨a,ns,u,rfl,rfl,hl,q0,qn⟩:=h
  obtain ⟨u1,rfl,ru⟩:=vals1 r
  obtain ⟨u2,rfl,ru2⟩:=vals1 rz
  cases ru
  obtain ⟨its,r',pl,hz⟩:=I.list hl
  have hi:IntsAre its ns:=intsAre_of r'
  obtain ⟨ys,e⟩:=hi.allInts.items
  have hns:ns=ys.toList.map (·.1):=by rw [← hi.numsOf,← nums_intItems,← e]
  have ln:ns.length=ys.size:=by rw [hns,List.length_map,Array.length_toList]
  refine max_dflt (d:=u2) (I.ok.hd hc) (e▸pl.isList:s.heap.IsList a (intItems ys)) (fun z h' tk hk=>?_) (fun z v h' tk hv hk=>?_)
  · exact ⟨u,H,I.kept hk,ru2,q0 (List.length_eq_zero_iff.mp (by omega))⟩
  · obtain ⟨t,rfl⟩:=intItems_at hv
    obtain ⟨a1,a2⟩:=argBest_gt (numAt ys) (ys.size - 1)
    refine ⟨.int _,H,I.kept hk,⟨t,rfl⟩,qn (fun z'=>by rw [z'] at ln; simp at ln; omega) _ ?_ fun y hy=>?_⟩
    · rw [hns,numAt_eq]; exact getD_mem (by rw [List.length_map,Array.length_toList]; omega)
    · rw [hns] at hy
      obtain ⟨j,hj,rfl⟩:=mem_getD hy
      rw [List.length_map,Array.length_toList] at hj
      rw [← numAt_eq]; exact a2 j (by omega)
end
end L2
set_option Elab.async false
set_option linter.all false
set_option maxRecDepth 100000
set_option maxHeartbeats 4000000
namespace L2
open PySem PySem.Spec PyProof.Rows
section
variable {X:Cx}
end
theorem EqD.two {K:PySem.W.Frag} {H:Hp} {n:Nat} {a b:Addr} {x1 y1 x2 y2:Int} (ne:a≠b) (ha:H a=some (.tup [.int x1,.int y1])) (hb:H b=some (.tup [.int x2,.int y2])):EqD K H (n+1) (.ref a) (.ref b) (decide (x1=x2)&&decide (y1=y2)):=by
  have h:=EqD.tup (n:=n) (e:=fun j=>if j=0 then decide (x1=x2) else decide (y1=y2)) ne (SqT.of (K:=K) ha) (SqT.of (K:=K) hb) (fun j x y ex ey=>by
    match j,ex,ey with
    | 0,ex,ey =>
      have e1:V.int x1=x:=by simpa using ex
      have e2:V.int x2=y:=by simpa using ey
      rw [← e1,← e2,if_pos rfl]
      have z:=EqD.flat (K:=K) (H:=H) (n:=n) (x:=V.int x1) (y:=V.int x2) rfl rfl
      exact z
    | 1,ex,ey =>
      have e1:V.int y1=x:=by simpa using ex
      have e2:V.int y2=y:=by simpa using ey
      rw [← e1,← e2,if_neg (by decide)]
      have z:=EqD.flat (K:=K) (H:=H) (n:=n) (x:=V.int y1) (y:=V.int y2) rfl rfl
      exact z
    | j+2,ex,ey=>simp at ex)
  have e:((List.range (min [V.int x1,V.int y1].length [V.int x2,V.int y2].length)).all (fun j=>if j=0 then decide (x1=x2) else decide (y1=y2))&&decide ([V.int x1,V.int y1].length=[V.int x2,V.int y2].length))=(decide (x1=x2)&&decide (y1=y2)):=by
    simp [List.range_succ]
  first
    | (rw [e] at h; exact h)
    | (simp [List.range_succ] at h; exact h)
end L2
namespace Ck
open PySem L2
noncomputable def Cut (n:Nat) (p:Pair):Prop:=0≤p.1∧p.1+1 < p.2∧p.2≤(n:Int)+1∧¬ (p.1=0∧p.2=(n:Int)+1)
structure Flo (n:Nat) (ps:List Pair):Prop where
  cut:∀ p∈ps,Cut n p
  ris:ps.Pairwise leP
  len:ps.length≤n
theorem leP_anti {p q:Pair} (h:leP p q) (h':leP q p):p=q:=by
  unfold leP at h h'
  exact Prod.ext (by omega) (by omega)
theorem ris_uniq {ps qs:List Pair} (hp:ps.Pairwise leP) (hq:qs.Pairwise leP) (h:ps.Perm qs):ps=qs :=
  List.Perm.eq_of_pairwise (le:=leP) (fun _ _ _ _ h1 h2=>leP_anti h1 h2) hp hq h
noncomputable def sides (i j:Nat):List Pair:=(if i=0 then [] else [(0,(i:Int)+1)])++(if j=0 then [] else [((i:Int)+1,(i:Int)+(j:Int)+2)])
noncomputable def joinF (i j:Nat) (ps qs:List Pair):List Pair:=ps++sides i j++qs.map (up ((i:Int)+1))
section
variable {i j:Nat} {ps qs:List Pair} (hp:Flo i ps) (hq:Flo j qs)
include hp hq
variable {cs:List Pair} (hc:cs.Perm (joinF i j ps qs)) (hs:cs.Pairwise leP)
include hc hs
end
noncomputable def plen (ps:List Pair):Nat:=(ps.map fun p=>(p.2 - p.1 - 1).toNat).sum
noncomputable def pnon (ps:List Pair):Nat:=(ps.filter fun p=>decide (p.2 - p.1 > 1)).length
theorem plen_snoc (ps:List Pair) (p:Pair):plen (ps++[p])=plen ps+(p.2 - p.1 - 1).toNat:=by
  unfold plen; simp
theorem pnon_snoc (ps:List Pair) (p:Pair):pnon (ps++[p])=pnon ps+(if p.2 - p.1 > 1 then 1 else 0):=by
  unfold pnon
  rw [List.filter_append,List.length_append]
  by_cases h:p.2 - p.1 > 1
  · rw [if_pos h,List.filter_cons_of_pos (by simpa using h)]; rfl
  · rw [if_neg h,List.filter_cons_of_neg (by simpa using h)]; rfl
theorem pnon_le (ps:List Pair):pnon ps≤plen ps:=by
  induction ps with
  | nil=>simp [pnon,plen]
  | cons p ps ih =>
    have e1:plen (p::ps)=(p.2 - p.1 - 1).toNat+plen ps:=by unfold plen; simp
    by_cases h:p.2 - p.1 > 1
    · have e2:pnon (p::ps)=pnon ps+1:=by unfold pnon; rw [List.filter_cons_of_pos (by simpa using h)]; rfl
      omega
    · have e2:pnon (p::ps)=pnon ps:=by unfold pnon; rw [List.filter_cons_of_neg (by simpa using h)]
      omega
theorem PLs.put {H:Hp} {l t:Addr} {xs:List V} {ps:List Pair} {p:Pair} (hl:H l=some (.lst xs)) (pr:Prs H xs ps) (ht:H t=some (.tup [.int p.1,.int p.2])):PLs (L2.upd H l (.lst (xs++[.ref t]))) l (ps++[p]) :=
  ⟨_,L2.upd_same,(pr.snoc ht).updL hl _⟩
theorem neI {a b:Int} (h:a≠b):¬ V.int a=V.int b:=fun z=>h (by injection z)
noncomputable def nonU (p:Pair):Bool:=decide (p.2 - p.1 > 1)
theorem filter_take {α:Type} (f:α→Bool) {l:List α} {i:Nat} {p:α} (h:l[i]? = some p):(l.take (i+1)).filter f=(l.take i).filter f++(if f p=true then [p] else []):=by
  rw [List.take_add_one,h,List.filter_append]
  congr 1
  by_cases e:f p=true
  · rw [if_pos e]; exact List.filter_cons_of_pos e
  · rw [if_neg e]; exact List.filter_cons_of_neg e
theorem Prs.unsnoc {H:Hp}:∀ {ps:List Pair} {ys:List V} {p:Pair},Prs H ys (ps++[p])→∃ zs t,ys=zs++[.ref t]∧Prs H zs ps∧H t=some (.tup [.int p.1,.int p.2])
  | [],_,p,.cons r .nil=>by
    obtain ⟨t,e,h⟩:=r
    exact ⟨[],t,by rw [e]; rfl,.nil,h⟩
  | q::ps,_,p,.cons (a:=v) r s=>by
    obtain ⟨zs,t,e,pr,h⟩:=Prs.unsnoc s
    exact ⟨v::zs,t,by rw [e]; rfl,.cons r pr,h⟩
theorem pnon_app (ps qs:List Pair):pnon (ps++qs)=pnon ps+(qs.filter nonU).length:=by
  unfold pnon nonU
  rw [List.filter_append,List.length_append]
end Ck
set_option Elab.async false
set_option linter.all false
set_option maxRecDepth 100000
set_option maxHeartbeats 4000000
namespace Ck
open PySem L2
end Ck
set_option Elab.async false
set_option linter.all false
set_option maxRecDepth 100000
set_option maxHeartbeats 4000000
namespace Ck
open PySem L2
end Ck
namespace Ck
open PySem L2
noncomputable def steps (ws:List Int):List Int:=(List.range (ws.length - 1)).map fun (i:Nat)=>(ws.getD (i+1) 0 - ws.getD i 0) % ((ws.length:Int)+1)
end Ck
set_option Elab.async false
set_option linter.all false
set_option maxRecDepth 100000
set_option maxHeartbeats 4000000
namespace L2
open PySem PySem.W
end L2
namespace Ck
open PySem L2
theorem ne_int {a b:Int} (h:a≠b):¬ V.int a=V.int b:=fun z=>h (by injection z)
noncomputable def But (l:Addr) (H H':Hp):Prop:=∀ b u,b≠l→H b=some u→H' b=some u
theorem But.refl (l:Addr) (H:Hp):But l H H:=fun _ _ _ h=>h
theorem But.same {l:Addr} {H0 H H':Hp} (b:But l H H') (s:Same H0 H) (f:H0 l=none):Same H0 H':=fun x u h=>b x u (ne_of_none h f) (s x u h)
theorem But.upd {l:Addr} {H H':Hp} (b:But l H H') (o:HO):But l H (upd H' l o):=fun x u n h=>(upd_ne n).trans (b x u n h)
theorem But.new {l p:Addr} {H H':Hp} (b:But l H H') (hp:H' p=none) (o:HO):But l H (L2.upd H' p o):=fun x u n h=>(upd_ne (ne_of_none (b x u n h) hp)).trans (b x u n h)
end Ck
namespace Ck
end Ck
set_option Elab.async false
set_option linter.all false
set_option maxRecDepth 100000
set_option maxHeartbeats 4000000
namespace Ck
open PySem L2
end Ck
namespace Ck
open PySem L2
theorem dec_int (a b:Int):decide (V.int a=V.int b)=decide (a=b):=by
  by_cases h:a=b
  · rw [decide_eq_true h,decide_eq_true (by rw [h])]
  · rw [decide_eq_false h,decide_eq_false (ne_int h)]
end Ck
namespace Ck
end Ck
namespace Ck
open PySem L2
end Ck
set_option Elab.async false
set_option linter.all false
set_option maxRecDepth 100000
set_option maxHeartbeats 4000000
namespace L2
open PySem PySem.Spec PyProof.Rows
section
variable {X:Cx}
end
end L2
namespace L2
open PySem PySem.Spec PyProof.Rows
end L2
namespace L2
open PySem PySem.Spec PyProof.Rows
end L2
set_option Elab.async false
set_option linter.all false
set_option maxRecDepth 100000
set_option maxHeartbeats 4000000
namespace Ck
open PySem L2
noncomputable def rgI (n:Nat):List Int:=(List.range n).map fun (k:Nat)=>(k:Int)
noncomputable def stk (row:List Int) (k p:Nat):List Int:=(rgI p).filter fun m=>!decide (m∈row.take k)
end Ck
namespace Ck
open PySem L2
end Ck
set_option Elab.async false
set_option linter.all false
set_option maxRecDepth 100000
set_option maxHeartbeats 4000000
namespace Ck
open PySem L2
noncomputable def knots (n:Nat):List Int:=(List.range n).map fun (k:Nat)=>1+(k:Int)
end Ck
namespace Ck
end Ck
namespace Ck
end Ck
set_option Elab.async false
set_option linter.all false
set_option maxRecDepth 100000
set_option maxHeartbeats 4000000
namespace L2
open PySem PySem.Spec PyProof.Rows PySem.SeqAt
section
variable {X:Cx}
end
end L2
namespace Ck
open PySem L2
end Ck
namespace L2
open PySem
theorem hu1 {A:Around} {k:Nat} (hr:Room k A):A.units+1 < cLine:=Nat.lt_of_le_of_lt (by omega) hr.un
end L2
namespace Ck
open PySem L2
end Ck
set_option Elab.async false
set_option linter.all false
set_option maxRecDepth 100000
set_option maxHeartbeats 4000000
namespace L2
open PySem PySem.Spec PyProof.Rows
section
variable {X:Cx}
noncomputable def tEit (t1 t2:TE):TE:=fun σ H Q=>t1 σ H Q∨t2 σ H Q
theorem pe_eit {e:Expr} {t1 t2:TE} (h1:PE X e t1) (h2:PE X e t2):PE X e (tEit t1 t2):=fun pins s σ H Q I h=>h.elim (h1 pins s σ H Q I) (h2 pins s σ H Q I)
end
end L2
namespace Ck
open PySem L2
end Ck
namespace L2
open PySem PySem.Spec PyProof.Rows PyProof
end L2
set_option Elab.async false
set_option linter.all false
set_option maxRecDepth 100000
set_option maxHeartbeats 4000000
namespace Ck
open PySem L2
inductive St:List Int→Int→Prop
  | nil:St [] 0
  | snoc {rs:List Int} {a n:Int}:St rs a→a≤n→n≤(rs.length:Int)→St (rs++[n]) n
end Ck
set_option Elab.async false
set_option linter.all false
set_option maxRecDepth 100000
set_option maxHeartbeats 4000000
namespace Ck
open PySem L2
end Ck
namespace Ck
open PySem L2
end Ck
set_option Elab.async false
set_option linter.all false
set_option maxRecDepth 100000
set_option maxHeartbeats 4000000
namespace Ck
open PySem L2
inductive Bt where
  | leaf
  | node (l r:Bt)
noncomputable def Bt.size:Bt→Nat
  | .leaf=>0
  | .node l r=>l.size+r.size+1
noncomputable def brk:Bt→List Nat
  | .leaf=>[]
  | .node l r=>40::(brk l++41::brk r)
noncomputable def pre (n j:Nat):Int:=((List.range j).map fun i=>sh i*sh (n - 1 - i)).sum
end Ck
set_option Elab.async false
set_option linter.all false
set_option maxRecDepth 100000
set_option maxHeartbeats 4000000
namespace L2
open PySem PySem.Spec PyProof.Rows
section
variable {X:Cx}
variable {X:Cx} {o e:Expr} {es:List Expr} {to:TE} {t:TA} {name:Str} {apos cpos:Pos} {T id:String} {r:V→List V→Hp→VK→Prop}
end
section
variable {X:Cx}
end
end L2
namespace Ck
open PySem L2
noncomputable def sizes (ts:List Bt):Nat:=(ts.map Bt.size).sum
end Ck
set_option Elab.async false
set_option linter.all false
set_option maxRecDepth 100000
set_option maxHeartbeats 4000000
namespace Sx
open PySem PySem.SetTable
theorem sub_len:∀ {l1 l2:List Nat},l1.Nodup→(∀ x∈l1,x∈l2)→l1.length≤l2.length
  | [],l2,_,_=>Nat.zero_le _
  | a::l1,l2,nd,h=>by
    rw [List.nodup_cons] at nd
    have ha:=h a (List.mem_cons_self ..)
    have:=sub_len (l1:=l1) (l2:=l2.erase a) nd.2 fun x hx=>(List.mem_erase_of_ne (fun e=>nd.1 (by rw [← e]; exact hx))).mpr (h x (List.mem_cons_of_mem _ hx))
    rw [List.length_erase_of_mem ha] at this
    have hp:=List.length_pos_of_mem ha
    simp only [List.length_cons]
    omega
theorem free_one {l:List Nat} {m:Nat} (h:l.length≤m):∃ t,t≤m∧t∉l:=by
  apply Classical.byContradiction
  intro hn
  have:=sub_len (l1:=List.range (m+1)) (l2:=l) List.nodup_range fun x hx=>by
    apply Classical.byContradiction
    intro hx'
    exact hn ⟨x,Nat.lt_succ_iff.mp (List.mem_range.mp hx),hx'⟩
  rw [List.length_range] at this
  omega
noncomputable def Ris (xs:List Nat):Prop:=xs.Pairwise (· < ·)
theorem below_go (xs:Array Nat) (j:Nat) (hr:Ris xs.toList):∀ (fuel lo hi:Nat),hi - lo≤fuel→lo≤hi→hi≤xs.size→(∀ i x,i < lo→xs[i]? = some x→x < j)→(∀ i x,hi≤i→xs[i]? = some x→j≤x) →
    below.go xs j fuel lo hi≤xs.size∧(∀ i x,i < below.go xs j fuel lo hi→xs[i]? = some x→x < j)∧∀ i x,below.go xs j fuel lo hi≤i→xs[i]? = some x→j≤x
  | 0,lo,hi,hf,hl,hh,h1,h2=>by
    have e:lo=hi:=by omega
    subst e
    exact ⟨hh,h1,h2⟩
  | fuel+1,lo,hi,hf,hl,hh,h1,h2=>by
    unfold below.go
    by_cases h:lo < hi
    · rw [if_pos h]
      have hm:(lo+hi) / 2 < xs.size:=by omega
      have gm:xs[(lo+hi) / 2]? = some xs[(lo+hi) / 2]:=Array.getElem?_eq_getElem hm
      have gd:xs.getD ((lo+hi) / 2) j=xs[(lo+hi) / 2]:=by simp [hm]
      simp only [gd]
      have mono:∀ a b x y,a < b→xs[a]? = some x→xs[b]? = some y→x < y:=fun a b x y hab ha hb=>by
        obtain ⟨la,ea⟩:=Array.getElem?_eq_some_iff.mp ha
        obtain ⟨lb,eb⟩:=Array.getElem?_eq_some_iff.mp hb
        have:=List.pairwise_iff_getElem.mp hr a b (by simpa using la) (by simpa using lb) hab
        simp only [Array.getElem_toList] at this
        omega
      by_cases c:xs[(lo+hi) / 2] < j
      · rw [if_pos c]
        refine below_go xs j hr fuel _ _ (by omega) (by omega) hh (fun i x hlt hx=>?_) h2
        by_cases e:i=(lo+hi) / 2
        · subst e; rw [gm] at hx; cases hx; exact c
        · have:=mono i ((lo+hi) / 2) x _ (by omega) hx gm; omega
      · rw [if_neg c]
        refine below_go xs j hr fuel _ _ (by omega) (by omega) (by omega) h1 (fun i x hlt hx=>?_)
        by_cases e:i=(lo+hi) / 2
        · subst e; rw [gm] at hx; cases hx; omega
        · have:=mono ((lo+hi) / 2) i _ x (by omega) gm hx; omega
    · rw [if_neg h]
      have e:lo=hi:=by omega
      subst e
      exact ⟨hh,h1,h2⟩
theorem below_at (xs:Array Nat) (j:Nat) (hr:Ris xs.toList):below xs j≤xs.size∧(∀ i x,i < below xs j→xs[i]? = some x→x < j)∧∀ i x,below xs j≤i→xs[i]? = some x→j≤x:=by
  unfold below
  refine below_go xs j hr xs.size 0 xs.size (by omega) (Nat.zero_le _) (Nat.le_refl _) (fun i x hi _=>absurd hi (Nat.not_lt_zero _)) fun i x hi hx=>?_
  rw [Array.getElem?_eq_none hi] at hx
  cases hx
theorem below_none {xs:Array Nat} {j:Nat} (hr:Ris xs.toList) (h:j∉xs.toList):(xs[below xs j]? == some j)=false:=by
  rw [beq_eq_false_iff_ne]
  intro e
  exact h (by rw [Array.mem_toList_iff]; exact Array.mem_of_getElem? e)
theorem slot_free {t:SetTable} {j:Nat} (hr:Ris t.place.toList) (hd:t.dummies = #[]) (h:j∉t.place.toList):t.slot j = .empty:=by
  unfold SetTable.slot
  simp only [below_none hr h,Bool.false_eq_true,if_false]
  have:has t.dummies j=false:=by rw [hd]; rfl
  rw [this]
  rfl
theorem slot_not_dummy {t:SetTable} {j:Nat} (hd:t.dummies = #[]):t.slot j = .empty∨∃ i,t.slot j = .live i:=by
  unfold SetTable.slot
  have:has t.dummies j=false:=by rw [hd]; rfl
  simp only [this]
  split
  · exact .inr ⟨_,rfl⟩
  · exact .inl rfl
theorem slot_empty {t:SetTable} {j:Nat} (hr:Ris t.place.toList) (h:t.slot j = .empty):j∉t.place.toList:=by
  intro hj
  unfold SetTable.slot at h
  obtain ⟨h0,h1,h2⟩:=below_at t.place j hr
  obtain ⟨i,hi⟩:=List.getElem?_of_mem hj
  have hi':t.place[i]? = some j:=by simpa using hi
  have e:below t.place j=i:=by
    rcases Nat.lt_trichotomy i (below t.place j) with z | z | z
    · have:=h1 i j z hi'; omega
    · exact z.symm
    · have lt:below t.place j < t.place.size:=Nat.lt_trans z (Array.getElem?_eq_some_iff.mp hi').1
      have g:=Array.getElem?_eq_getElem lt
      have:=h2 _ _ (Nat.le_refl _) g
      obtain ⟨li,ei⟩:=Array.getElem?_eq_some_iff.mp hi'
      have m:=List.pairwise_iff_getElem.mp hr _ _ (by simpa using lt) (by simpa using li) z
      simp only [Array.getElem_toList] at m
      omega
  simp only [e,hi',beq_self_eq_true,if_true] at h
  cases h
noncomputable def iter (m:Nat):Nat→Nat × Nat→Nat × Nat
  | 0,p=>p
  | k+1,p=>iter m k (leap m p.1 p.2)
theorem iter_add (m:Nat):∀ (a b:Nat) (p:Nat × Nat),iter m (a+b) p=iter m b (iter m a p)
  | 0,b,p=>by rw [Nat.zero_add]; rfl
  | a+1,b,p=>by rw [show a+1+b=(a+b)+1 by omega]; exact iter_add m a b _
theorem iter_snd (m:Nat):∀ (k:Nat) (p:Nat × Nat),(iter m k p).2=p.2 / 32 ^ k
  | 0,p=>by show p.2=_; simp
  | k+1,p=>by
    show (iter m k (leap m p.1 p.2)).2=_
    rw [iter_snd m k]
    show p.2 / 32 / 32 ^ k=_
    rw [Nat.div_div_eq_div_mul,Nat.pow_succ,Nat.mul_comm]
theorem iter_fst (m:Nat):∀ (k:Nat) (p:Nat × Nat),p.1≤m→(iter m k p).1≤m
  | 0,p,h=>h
  | k+1,p,h=>iter_fst m k _ (by show (p.1*5+1+p.2 / 32) % (m+1)≤m; exact Nat.lt_succ_iff.mp (Nat.mod_lt _ (Nat.succ_pos _)))
noncomputable def orbit (m:Nat):Nat→Nat→List Nat
  | 0,_=>[]
  | k+1,i=>i::orbit m k ((i*5+1) % (m+1))
theorem orbit_iter (m:Nat):∀ (k i t:Nat),t∈orbit m k i→∃ n,n < k∧(iter m n (i,0)).1=t
  | k+1,i,t,h=>by
    rcases List.mem_cons.mp h with rfl | h
    · exact ⟨0,Nat.succ_pos _,rfl⟩
    · obtain ⟨n,hn,e⟩:=orbit_iter m k _ t h
      exact ⟨n+1,by omega,by
        show (iter m n (leap m i 0)).1=t
        have:leap m i 0=((i*5+1) % (m+1),0):=rfl
        rw [this]; exact e⟩
noncomputable def Msk (m:Nat):Prop:=m=7∨m=31∨m=127
noncomputable def whole (m:Nat):Bool:=(let o:=orbit m (m+1) 0; (List.range (m+1)).all fun t=>o.contains t)&&decide (iter m (m+1) (0,0)=(0,0))
theorem whole_7:whole 7=true:=by decide +kernel
theorem whole_31:whole 31=true:=by decide +kernel
theorem whole_127:whole 127=true:=by decide +kernel
theorem Msk.whole {m:Nat} (h:Msk m):whole m=true:=by
  rcases h with rfl | rfl | rfl
  · exact whole_7
  · exact whole_31
  · exact whole_127
theorem iter_zero (m:Nat) (k i:Nat):iter m k (i,0)=((iter m k (i,0)).1,0):=by
  have:(iter m k (i,0)).2=0:=by rw [iter_snd]; exact Nat.zero_div _
  exact Prod.ext rfl this
theorem around {m i t:Nat} (hm:Msk m) (hi:i≤m) (ht:t≤m):∃ n,n≤m∧(iter m n (i,0)).1=t:=by
  have hw:=hm.whole
  unfold Sx.whole at hw
  rw [Bool.and_eq_true,decide_eq_true_iff] at hw
  have at_:∀ s,s≤m→∃ n,n < m+1∧(iter m n (0,0)).1=s:=fun s hs=>by
    have:=List.all_eq_true.mp hw.1 s (List.mem_range.mpr (Nat.lt_succ_iff.mpr hs))
    exact orbit_iter m (m+1) 0 s (by simpa using this)
  obtain ⟨a,ha,ea⟩:=at_ i hi
  obtain ⟨b,hb,eb⟩:=at_ t ht
  have ei:iter m a (0,0)=(i,0):=by rw [iter_zero,ea]
  by_cases c:a≤b
  · refine ⟨b - a,by omega,?_⟩
    rw [← ei,← iter_add,show a+(b - a)=b by omega,eb]
  · refine ⟨b+(m+1) - a,by omega,?_⟩
    rw [← ei,← iter_add,show a+(b+(m+1) - a)=m+1+b by omega,iter_add,hw.2,eb]
theorem reach {m i x t:Nat} (hm:Msk m) (hi:i≤m) (hx:x < 2 ^ 64) (ht:t≤m):∃ k,k≤13+m∧(iter m k (i,x)).1=t:=by
  have h13:(iter m 13 (i,x)).2=0:=by
    rw [iter_snd]
    exact Nat.div_eq_of_lt (Nat.lt_of_lt_of_le hx (by decide))
  have hf:=iter_fst m 13 (i,x) hi
  obtain ⟨n,hn,e⟩:=around hm hf ht
  refine ⟨13+n,by omega,?_⟩
  rw [iter_add,← e]
  have ep:iter m 13 (i,x)=((iter m 13 (i,x)).1,0):=by rw [← h13]
  rw [ep]
theorem bits_lt (h:Int):bits h < 2 ^ 64:=by
  unfold bits
  have h0:=Int.emod_nonneg h (show (2 ^ 64:Int)≠0 by decide)
  have h1:=Int.emod_lt_of_pos h (show (0:Int) < 2 ^ 64 by decide)
  have e:(2:Int) ^ 64=18446744073709551616:=by decide
  have e2:(2:Nat) ^ 64=18446744073709551616:=by decide
  rw [e] at h0 h1 ⊢
  rw [e2]
  omega
noncomputable def begin_ (m i x:Nat):Probe:={ j:=i,more:=runEnd m i - i,i:=i,perturb:=x,dummy:=none }
theorem go_run {t:SetTable} {hashAt:Nat→Int} {h:Int} (hd:t.dummies = #[]) (nh:∀ i,i < t.place.size→hashAt i≠h) (nl:∀ j i,t.slot j = .live i→i < t.place.size) :
    ∀ (r fuel:Nat) (p:Probe),p.more=r→p.dummy=none→p.j+r≤t.mask→r+1≤fuel→(∃ j,probe.go t hashAt h fuel p=some (.empty j none)∧t.slot j = .empty∧j≤t.mask)∨probe.go t hashAt h fuel p=probe.go t hashAt h (fuel - (r+1)) (begin_ t.mask (leap t.mask p.i p.perturb).1 (leap t.mask p.i p.perturb).2)
  | r,0,p,hr,hdm,hb,hf=>by omega
  | r,fuel+1,p,hr,hdm,hb,hf=>by
    rcases slot_not_dummy (t:=t) (j:=p.j) hd with e | ⟨i,e⟩
    · refine .inl ⟨p.j,?_,e,by omega⟩
      unfold probe.go
      rw [e,hdm]
    · have ne:(hashAt i == h)=false:=beq_eq_false_iff_ne.mpr (nh i (nl _ _ e))
      have st:probe.go t hashAt h (fuel+1) p=probe.go t hashAt h fuel (t.advance p):=by
        conv=>lhs; unfold probe.go
        rw [e]
        simp only [ne,Bool.false_eq_true,if_false]
      rw [st]
      cases r with
      | zero =>
        refine .inr ?_
        have ea:t.advance p=begin_ t.mask (leap t.mask p.i p.perturb).1 (leap t.mask p.i p.perturb).2:=by
          unfold advance
          rw [hr,if_neg (Nat.lt_irrefl _)]
          unfold begin_
          rw [hdm]
        rw [ea]
        rfl
      | succ r =>
        have ea:t.advance p={ p with j:=p.j+1,more:=r }:=by
          unfold advance
          rw [hr,if_pos (Nat.succ_pos _),Nat.add_sub_cancel]
        rw [ea]
        rcases go_run hd nh nl r fuel { p with j:=p.j+1,more:=r } rfl hdm (by show p.j+1+r≤t.mask; omega) (by omega) with z | z
        · exact .inl z
        · refine .inr (z.trans ?_)
          rw [show fuel+1 - (r+1+1)=fuel - (r+1) by omega]
theorem runEnd_le (m i:Nat):runEnd m i - i≤9:=by unfold runEnd; split<;>omega
theorem runEnd_top {m i:Nat} (h:i≤m):i+(runEnd m i - i)≤m:=by unfold runEnd; split<;>omega
theorem go_leaps {t:SetTable} {hashAt:Nat→Int} {h:Int} (hd:t.dummies = #[]) (nh:∀ i,i < t.place.size→hashAt i≠h) (nl:∀ j i,t.slot j = .live i→i < t.place.size) :
    ∀ (k fuel i x:Nat),i≤t.mask→t.slot (iter t.mask k (i,x)).1 = .empty→10*(k+1)≤fuel→∃ j,probe.go t hashAt h fuel (begin_ t.mask i x)=some (.empty j none)∧t.slot j = .empty∧j≤t.mask
  | 0,fuel,i,x,hi,he,hf=>by
    obtain ⟨f,rfl⟩:∃ f,fuel=f+1:=⟨fuel - 1,by omega⟩
    refine ⟨i,?_,he,hi⟩
    have he':t.slot (begin_ t.mask i x).j = .empty:=he
    unfold probe.go
    rw [he']
    rfl
  | k+1,fuel,i,x,hi,he,hf=>by
    have rl:=runEnd_le t.mask i
    rcases go_run hd nh nl (runEnd t.mask i - i) fuel (begin_ t.mask i x) rfl rfl (runEnd_top hi) (by omega) with z | z
    · exact z
    · rw [z]
      exact go_leaps hd nh nl k _ _ _ (by show (i*5+1+x / 32) % (t.mask+1)≤t.mask; exact Nat.lt_succ_iff.mp (Nat.mod_lt _ (Nat.succ_pos _))) he (by omega)
theorem slot_live_lt {t:SetTable} {j i:Nat} (h:t.slot j = .live i):i < t.place.size:=by
  have e:t.slot j=if (t.place[below t.place j]? == some j)=true then .live (below t.place j) else if has t.dummies j=true then .dummy else .empty:=rfl
  rw [e] at h
  by_cases c:(t.place[below t.place j]? == some j)=true
  · rw [if_pos c] at h
    cases h
    exact (Array.getElem?_eq_some_iff.mp (by simpa using c)).1
  · rw [if_neg c] at h
    by_cases d:has t.dummies j=true
    · rw [if_pos d] at h; cases h
    · rw [if_neg d] at h; cases h
theorem probe_free {t:SetTable} {hashAt:Nat→Int} {h:Int} (hm:Msk t.mask) (hr:Ris t.place.toList) (hd:t.dummies = #[]) (hs:t.place.size≤t.mask) (nh:∀ i,i < t.place.size→hashAt i≠h) :
    ∃ j,t.probe hashAt h (t.probeStart h)=some (.empty j none)∧j∉t.place.toList∧j≤t.mask:=by
  obtain ⟨g,hg,ng⟩:=free_one (l:=t.place.toList) (m:=t.mask) (by simpa using hs)
  have hi:bits h % (t.mask+1)≤t.mask:=Nat.lt_succ_iff.mp (Nat.mod_lt _ (Nat.succ_pos _))
  obtain ⟨k,hk,ek⟩:=reach hm hi (bits_lt h) hg
  obtain ⟨j,hj,he,jm⟩:=go_leaps (hashAt:=hashAt) (h:=h) hd nh (fun j i e=>slot_live_lt e) k (10*turns t.mask) (bits h % (t.mask+1)) (bits h) hi (by rw [ek]; exact slot_free hr hd ng) (by unfold turns; omega)
  exact ⟨j,hj,slot_empty hr he,jm⟩
theorem insertAt_list {α:Type} (xs:Array α) (p:Nat) (x:α) (hp:p≤xs.size):(insertAt xs p x).toList=xs.toList.take p++x::xs.toList.drop p:=by
  unfold insertAt
  rw [Array.toList_append,Array.toList_push,Array.toList_extract,Array.toList_extract]
  simp [List.extract_eq_drop_take]
  exact List.take_of_length_le (by simp)
theorem insert_perm {α:Type} (xs:List α) (p:Nat) (x:α):(xs.take p++x::xs.drop p).Perm (x::xs):=by
  have:=List.perm_middle (a:=x) (l₁:=xs.take p) (l₂:=xs.drop p)
  rwa [List.take_append_drop] at this
theorem insert_ris {xs:Array Nat} {j:Nat} (hr:Ris xs.toList) (h:j∉xs.toList):Ris (insertAt xs (below xs j) j).toList:=by
  obtain ⟨h0,h1,h2⟩:=below_at xs j hr
  rw [insertAt_list _ _ _ h0]
  have lt:∀ x∈xs.toList.take (below xs j),x < j:=fun x hx=>by
    obtain ⟨i,hi⟩:=List.getElem?_of_mem hx
    rw [List.getElem?_take] at hi
    split at hi
    · rename_i hlt; exact h1 i x hlt (by simpa using hi)
    · cases hi
  have gt:∀ x∈xs.toList.drop (below xs j),j < x:=fun x hx=>by
    obtain ⟨i,hi⟩:=List.getElem?_of_mem hx
    rw [List.getElem?_drop] at hi
    have:=h2 (below xs j+i) x (Nat.le_add_right _ _) (by simpa using hi)
    have ne:x≠j:=fun e=>h (by rw [← e]; exact List.mem_of_getElem? hi)
    omega
  refine List.pairwise_append.mpr ⟨hr.sublist (List.take_sublist _ _),List.pairwise_cons.mpr ⟨gt,hr.sublist (List.drop_sublist _ _)⟩,fun a ha b hb=>?_⟩
  rcases List.mem_cons.mp hb with rfl | hb
  · exact lt a ha
  · exact Nat.lt_trans (lt a ha) (gt b hb)
structure Tab (t:SetTable) (n:Nat):Prop where
  msk:Msk t.mask
  ris:Ris t.place.toList
  top:∀ j∈t.place.toList,j≤t.mask
  dum:t.dummies = #[]
  len:t.place.size=n
  few:t.place.size≤t.mask
theorem Tab.fresh (f mv:Nat) (led:Bool):Tab (.fresh f mv led) 0:=⟨.inl rfl,List.Pairwise.nil,(fun j h=>nomatch h),rfl,rfl,Nat.zero_le _⟩
theorem Tab.put {t:SetTable} {n j:Nat} (T:Tab t n) (hj:j∉t.place.toList) (hjm:j≤t.mask) (room:n+1≤t.mask):Tab (t.put j).1 (n+1)∧(t.put j).2=below t.place j∧(t.put j).1.plain=t.plain∧(t.put j).1.led=t.led∧(t.put j).1.mask=t.mask:=by
  have h0:=(below_at t.place j T.ris).1
  have hd:has t.dummies j=false:=by rw [T.dum]; rfl
  have el:=insertAt_list t.place (below t.place j) j h0
  have ls:(insertAt t.place (below t.place j) j).size=n+1:=by
    rw [← Array.length_toList,el,List.length_append,List.length_take,List.length_cons,List.length_drop,Array.length_toList,T.len]
    have:=T.len
    omega
  refine ⟨⟨T.msk,insert_ris T.ris hj,fun i hi=>?_,?_,ls,by show (insertAt t.place (below t.place j) j).size≤t.mask; omega⟩,rfl,rfl,rfl,rfl⟩
  · have hi':i∈(insertAt t.place (below t.place j) j).toList:=hi
    rw [el] at hi'
    rcases List.mem_cons.mp ((insert_perm t.place.toList (below t.place j) j).mem_iff.mp hi') with rfl | hi'
    · exact hjm
    · exact T.top i hi'
  · show (if has t.dummies j=true then _ else t.dummies) = #[]
    rw [hd]
    exact T.dum
theorem free_leaps {m:Nat} {owner:Array (Option Nat)}:∀ (k fuel i x:Nat),(owner.getD (iter m k (i,x)).1 (some 0)).isNone=true→k+1≤fuel→∃ j,layClean.free m owner fuel i x=some j∧(owner.getD j (some 0)).isNone=true
  | k,0,i,x,_,hf=>by omega
  | k,fuel+1,i,x,he,hf=>by
    unfold layClean.free
    cases e:(List.range (runEnd m i+1 - i)).find? fun k=>(owner.getD (i+k) (some 0)).isNone with
    | some a=>exact ⟨i+a,rfl,by have:=List.find?_some e; exact this⟩
    | none =>
      cases k with
      | zero =>
        have h0:(0:Nat)∈List.range (runEnd m i+1 - i):=List.mem_range.mpr (by unfold runEnd; split<;>omega)
        have:=List.find?_eq_none.mp e 0 h0
        have he':(owner.getD i (some 0)).isNone=true:=he
        exact absurd he' (by simpa using this)
      | succ k=>exact free_leaps k fuel _ _ he (by omega)
structure Own (m:Nat) (owner:Array (Option Nat)) (js:List Nat):Prop where
  size:owner.size=m+1
  nd:js.Nodup
  top:∀ j∈js,j≤m
  own:∀ j k:Nat,owner.getD j none=some k↔js[k]? = some j
theorem Own.start (m:Nat):Own m (Array.replicate (m+1) none) [] where
  size:=by simp
  nd:=List.nodup_nil
  top:=fun j h=>nomatch h
  own:=fun j k=>by
    have e:(Array.replicate (m+1) (none:Option Nat)).getD j none=none:=by
      rw [Array.getD_eq_getD_getElem?,Array.getElem?_replicate]
      split<;>rfl
    rw [e]
    simp
theorem Own.at_none {m:Nat} {owner:Array (Option Nat)} {js:List Nat} (O:Own m owner js) {j:Nat} (hj:j≤m) (h:j∉js):(owner.getD j (some 0)).isNone=true:=by
  have lt:j < owner.size:=by rw [O.size]; omega
  have e1:owner.getD j (some 0)=owner.getD j none:=by simp [lt]
  rw [e1]
  cases e:owner.getD j none with
  | none=>rfl
  | some k=>exact absurd (List.mem_of_getElem? ((O.own j k).mp e)) h
theorem Own.none_at {m:Nat} {owner:Array (Option Nat)} {js:List Nat} (O:Own m owner js) {j:Nat} (h:(owner.getD j (some 0)).isNone=true):j≤m∧j∉js:=by
  have lt:j < owner.size:=by
    apply Classical.byContradiction
    intro hn
    have:owner.getD j (some 0)=some 0:=by simp [hn]
    rw [this] at h
    cases h
  refine ⟨by rw [O.size] at lt; omega,fun hj=>?_⟩
  obtain ⟨k,hk⟩:=List.getElem?_of_mem hj
  have:=(O.own j k).mpr hk
  have e1:owner.getD j (some 0)=owner.getD j none:=by simp [lt]
  rw [e1,this] at h
  cases h
theorem Own.step {m:Nat} {owner:Array (Option Nat)} {js:List Nat} (O:Own m owner js) {j:Nat} (hj:j≤m) (h:j∉js):Own m (owner.setIfInBounds j (some js.length)) (js++[j]):=by
  have lt:j < owner.size:=by rw [O.size]; omega
  refine ⟨by simp [O.size],List.nodup_append.mpr ⟨O.nd,by simp,fun a ha b hb=>by
    have:b=j:=by simpa using hb
    rw [this]; exact fun e=>h (e▸ha)⟩,fun i hi=>?_,fun i k=>?_⟩
  · rcases List.mem_append.mp hi with hi | hi
    · exact O.top i hi
    · have:i=j:=by simpa using hi
      omega
  · by_cases e:i=j
    · subst e
      have:(owner.setIfInBounds i (some js.length)).getD i none=some js.length:=by simp [lt]
      rw [this]
      constructor
      · intro h'
        have:js.length=k:=by simpa using h'
        rw [← this]
        simp
      · intro h'
        by_cases hk:k < js.length
        · rw [List.getElem?_append_left hk] at h'
          exact absurd (List.mem_of_getElem? h') h
        · rw [List.getElem?_append_right (by omega)] at h'
          have:k - js.length=0:=by
            have:=(List.getElem?_eq_some_iff.mp h').1
            simp at this
            omega
          rw [show k=js.length by omega]
    · have:(owner.setIfInBounds j (some js.length)).getD i none=owner.getD i none:=by
        simp only [Array.getD_eq_getD_getElem?]
        rw [Array.getElem?_setIfInBounds_ne (Ne.symm e)]
      rw [this,O.own]
      by_cases hk:k < js.length
      · rw [List.getElem?_append_left hk]
      · rw [List.getElem?_append_right (by omega),List.getElem?_eq_none (by omega)]
        constructor
        · intro z; cases z
        · intro z
          have:i=j:=by
            have l:=(List.getElem?_eq_some_iff.mp z).1
            simp at l
            rw [show k - js.length=0 by omega] at z
            simpa using z.symm
          exact absurd this e
theorem lay_all {m:Nat} (hm:Msk m):∀ (hs:List Int) (owner:Array (Option Nat)) (js:List Nat),Own m owner js→js.length+hs.length≤m →
    ∃ owner' js',hs.foldl (fun acc h=>(do
      let (owner,k) ← acc
      let j ← layClean.free m owner (turns m) (bits h % (m+1)) (bits h)
      pure (owner.setIfInBounds j (some k),k+1))) (some (owner,js.length))=some (owner',js'.length)∧Own m owner' js'∧js'.length=js.length+hs.length
  | [],owner,js,O,_=>⟨owner,js,rfl,O,rfl⟩
  | h::hs,owner,js,O,hl=>by
    simp only [List.length_cons] at hl
    obtain ⟨g,hg,ng⟩:=free_one (l:=js) (m:=m) (by omega)
    have hi:bits h % (m+1)≤m:=Nat.lt_succ_iff.mp (Nat.mod_lt _ (Nat.succ_pos _))
    obtain ⟨k,hk,ek⟩:=reach hm hi (bits_lt h) hg
    obtain ⟨j,hj,fj⟩:=free_leaps (owner:=owner) k (turns m) (bits h % (m+1)) (bits h) (by rw [ek]; exact O.at_none hg ng) (by unfold turns; omega)
    obtain ⟨jm,nj⟩:=O.none_at fj
    obtain ⟨o',js',e,O',l'⟩:=lay_all hm hs _ _ (O.step jm nj) (by simp; omega)
    refine ⟨o',js',?_,O',by rw [l']; simp; omega⟩
    rw [List.foldl_cons,← e]
    congr 1
    show (do let j ← layClean.free m owner (turns m) (bits h % (m+1)) (bits h); pure (owner.setIfInBounds j (some js.length),js.length+1))=_
    rw [hj]
    simp
theorem layClean_ok {m:Nat} (hm:Msk m) (hs:Array Int) (hl:hs.size≤m):∃ owner js,layClean m hs=some owner∧Own m owner js∧js.length=hs.size:=by
  obtain ⟨o',js',e,O',l'⟩:=lay_all hm hs.toList _ [] (Own.start m) (by simpa using hl)
  refine ⟨o',js',?_,O',by simpa using l'⟩
  unfold layClean
  rw [← Array.foldl_toList]
  have e':=congrArg (Option.map (·.1)) e
  exact e'
noncomputable def liveOf (m:Nat) (owner:Array (Option Nat)):List (Nat × Nat):=(List.range (m+1)).filterMap fun j=>(owner.getD j none).map (j,·)
theorem liveOf_mem {m:Nat} {owner:Array (Option Nat)} {js:List Nat} (O:Own m owner js) {j k:Nat}:(j,k)∈liveOf m owner↔js[k]? = some j:=by
  unfold liveOf
  rw [List.mem_filterMap]
  constructor
  · rintro ⟨i,hi,e⟩
    cases o:owner.getD i none with
    | none=>rw [o] at e; cases e
    | some q =>
      rw [o] at e
      have:i=j∧q=k:=by simpa using e
      rw [← this.1,← this.2]
      exact (O.own i q).mp o
  · intro h
    have hj:=O.top j (List.mem_of_getElem? h)
    exact ⟨j,List.mem_range.mpr (by omega),by rw [(O.own j k).mpr h]; rfl⟩
theorem liveOf_fst {m:Nat} {owner:Array (Option Nat)}:((liveOf m owner).map (·.1)).Sublist (List.range (m+1)):=by
  unfold liveOf
  generalize List.range (m+1)=l
  induction l with
  | nil=>exact .slnil
  | cons j l ih =>
    rw [List.filterMap_cons]
    cases o:owner.getD j none with
    | none=>exact ih.cons j
    | some k=>exact ih.cons₂ j
theorem range_ris (n:Nat):(List.range n).Pairwise (· < ·):=List.pairwise_lt_range
theorem live_nd {l:List (Nat × Nat)} (h1:(l.map (·.1)).Nodup) (h2:∀ j j' k,(j,k)∈l→(j',k)∈l→j=j'):(l.map (·.2)).Nodup:=by
  induction l with
  | nil=>exact List.nodup_nil
  | cons p l ih =>
    rw [List.map_cons,List.nodup_cons] at h1 ⊢
    refine ⟨fun z=>?_,ih h1.2 fun j j' k a b=>h2 j j' k (List.mem_cons_of_mem _ a) (List.mem_cons_of_mem _ b)⟩
    obtain ⟨q,hq,e⟩:=List.mem_map.mp z
    have:p.1=q.1:=h2 p.1 q.1 p.2 (List.mem_cons_self ..) (by rw [← e]; exact List.mem_cons_of_mem _ hq)
    exact h1.1 (List.mem_map.mpr ⟨q,hq,this.symm⟩)
theorem laid_ok {m:Nat} (hm:Msk m) (f mv:Nat) (led plain:Bool) (hs:Array Int) (hl:hs.size≤m) :
    ∃ t order,SetTable.laid m f mv led plain hs=some (t,order)∧Tab t hs.size∧t.mask=m∧t.led=led∧t.plain=plain∧order.toList.Perm (List.range hs.size):=by
  obtain ⟨owner,js,e,O,l⟩:=layClean_ok hm hs hl
  have nd1:((liveOf m owner).map (·.1)).Nodup:=(liveOf_fst (m:=m) (owner:=owner)).nodup List.nodup_range
  have nd2:((liveOf m owner).map (·.2)).Nodup:=live_nd nd1 fun j j' k a b=>by
    have x:=(liveOf_mem O).mp a
    have y:=(liveOf_mem O).mp b
    rw [x] at y
    exact Option.some.inj y
  have pm:((liveOf m owner).map (·.2)).Perm (List.range hs.size):=by
    refine (List.perm_ext_iff_of_nodup nd2 List.nodup_range).mpr fun k=>?_
    rw [List.mem_map,List.mem_range]
    constructor
    · rintro ⟨⟨j,k'⟩,h,rfl⟩
      have:=(List.getElem?_eq_some_iff.mp ((liveOf_mem O).mp h)).1
      show k' < hs.size
      omega
    · intro h
      have g:js[k]? = some (js[k]'(by omega)):=List.getElem?_eq_getElem (by omega)
      exact ⟨(_,k),(liveOf_mem O).mpr g,rfl⟩
  have len:(liveOf m owner).length=hs.size:=by have:=pm.length_eq; rwa [List.length_map,List.length_range] at this
  refine ⟨{ mask:=m,place:=((liveOf m owner).map (·.1)).toArray,dummies:=#[],finger:=f,led:=led,moves:=mv,plain:=plain },((liveOf m owner).map (·.2)).toArray,?_,⟨hm,?_,?_,rfl,?_,?_⟩,rfl,rfl,rfl,by simpa using pm⟩
  · unfold SetTable.laid
    rw [e]
    rfl
  · show Ris (((liveOf m owner).map (·.1)).toArray).toList
    rw [List.toList_toArray]
    exact (range_ris (m+1)).sublist liveOf_fst
  · intro j hj
    have hj':j∈(((liveOf m owner).map (·.1)).toArray).toList:=hj
    rw [List.toList_toArray] at hj'
    have:=List.mem_range.mp (liveOf_fst.subset hj')
    show j≤m
    omega
  · show (((liveOf m owner).map (·.1)).toArray).size=hs.size
    simp [len]
  · show (((liveOf m owner).map (·.1)).toArray).size≤m
    simp [len]
    exact hl
structure Good (t:SetTable) (n:Nat):Prop where
  tab:Tab t n
  lax:t.tooFull=false
theorem Good.room {t:SetTable} {n:Nat} (G:Good t n):n*5 < t.mask*3:=by
  have h:=G.lax
  unfold tooFull fill at h
  rw [G.tab.dum,G.tab.len] at h
  simp at h
  omega
theorem Good.fresh (f mv:Nat) (led:Bool):Good (.fresh f mv led) 0:=⟨Tab.fresh f mv led,by unfold tooFull fill SetTable.fresh; simp⟩
theorem Tab.fits {t:SetTable} {n:Nat} (T:Tab t n):(t.place.size != n || decide (t.fill > t.mask))=false:=by
  have:=T.few
  unfold fill
  rw [T.dum,T.len] at *
  simp
  omega
theorem Good.put {t:SetTable} {n j:Nat} (G:Good t n) (h64:n < 64) (hj:j∉t.place.toList) (hjm:j≤t.mask) :
    Tab (t.put j).1 (n+1)∧(t.put j).2=below t.place j∧(t.put j).1.plain=t.plain∧(t.put j).1.led=t.led ∧
      ((t.put j).1.tooFull=true→∀ hs:Array Int,hs.size=n+1→sizeAbove (grown (n+1))≤128∧∃ t' order,(t.put j).1.relaid hs (grown (n+1))=some (t',order)∧Good t' (n+1)∧t'.led=t.led∧t'.plain=t.plain∧order.toList.Perm (List.range (n+1))):=by
  have r:=G.room
  have hm:=G.tab.msk
  obtain ⟨T,e2,e3,e4,e5⟩:=G.tab.put hj hjm (by rcases hm with e | e | e<;>omega)
  refine ⟨T,e2,e3,e4,fun hf hs hsz=>?_⟩
  have hf':t.mask*3≤(n+1)*5:=by
    unfold tooFull fill at hf
    rw [T.dum,T.len,e5] at hf
    simpa using hf
  have key:∀ m,Msk m→sizeAbove (grown (n+1))=m+1→n+1≤m→(n+1)*5 < m*3→∃ t' order,(t.put j).1.relaid hs (grown (n+1))=some (t',order)∧Good t' (n+1)∧t'.led=t.led∧t'.plain=t.plain∧order.toList.Perm (List.range (n+1)):=fun m mm em le lx=>by
    unfold relaid
    rw [em,Nat.add_sub_cancel]
    obtain ⟨t',order,a1,a2,a3,a4,a5,a6⟩:=laid_ok mm (t.put j).1.finger ((t.put j).1.movedTo m) (t.put j).1.led (t.put j).1.plain hs (by omega)
    rw [hsz] at a2 a6
    refine ⟨t',order,a1,⟨a2,?_⟩,a4.trans e4,a5.trans e3,a6⟩
    unfold tooFull fill
    rw [a2.dum,a2.len,a3]
    simp
    omega
  rcases hm with e | e | e
  · have en:n=4:=by omega
    subst en
    exact ⟨by decide,key 31 (.inr (.inl rfl)) (by decide) (by decide) (by decide)⟩
  · have en:n=18:=by omega
    subst en
    exact ⟨by decide,key 127 (.inr (.inr rfl)) (by decide) (by decide) (by decide)⟩
  · omega
end Sx
set_option Elab.async false
set_option linter.all false
set_option maxRecDepth 100000
set_option maxHeartbeats 4000000
namespace Sx
open PySem PyProof.Rows
noncomputable def thI (p:Int × Int):Int:=reduceHash (Builtin.Tuple.tupleHashOf [hashInt p.1,hashInt p.2])
noncomputable def p44:List (Int × Int):=(List.range 44).flatMap fun (b:Nat)=>(List.range b).map fun (a:Nat)=>((a:Int),(b:Int))
noncomputable def chk (m:Int):List (Int × Int)→Nat→Bool
  | [],_=>true
  | p::l,B=>!Nat.testBit B (thI p % m).toNat&&chk m l (B ||| 1 <<< (thI p % m).toNat)
theorem chk_all:chk 8247 p44 0=true:=by decide +kernel
theorem chk_bit {m:Int}:∀ {l:List (Int × Int)} {B:Nat},chk m l B=true→∀ p∈l,Nat.testBit B (thI p % m).toNat=false
  | q::l,B,h,p,hp=>by
    unfold chk at h
    rw [Bool.and_eq_true,Bool.not_eq_true'] at h
    rcases List.mem_cons.mp hp with rfl | hp
    · exact h.1
    · have:=chk_bit h.2 p hp
      rw [Nat.testBit_or,Bool.or_eq_false_iff] at this
      exact this.1
theorem chk_inj {m:Int} {l:List (Int × Int)}:∀ {B:Nat},chk m l B=true→∀ p∈l,∀ q∈l,thI p=thI q→p=q:=by
  induction l with
  | nil=>intro B _ p hp; cases hp
  | cons r l ih =>
    intro B h p hp q hq e
    have h':(!Nat.testBit B (thI r % m).toNat&&chk m l (B ||| 1 <<< (thI r % m).toNat))=true:=h
    rw [Bool.and_eq_true] at h'
    have bit:∀ s∈l,thI s≠thI r:=fun s hs z=>by
      have:=chk_bit h'.2 s hs
      rw [Nat.testBit_or,Bool.or_eq_false_iff,z] at this
      have t1:=this.2
      rw [Nat.one_shiftLeft,Nat.testBit_two_pow_self] at t1
      cases t1
    rcases List.mem_cons.mp hp with e1 | hp'
    · rcases List.mem_cons.mp hq with e2 | hq'
      · rw [e1,e2]
      · rw [e1] at e; exact absurd e.symm (bit q hq')
    · rcases List.mem_cons.mp hq with e2 | hq'
      · rw [e2] at e; exact absurd e (bit p hp')
      · exact ih h'.2 p hp' q hq' e
noncomputable def Lo (p:Int × Int):Prop:=0≤p.1∧p.1 < p.2∧p.2 < 44
theorem Lo.mem {p:Int × Int} (h:Lo p):p∈p44:=by
  obtain ⟨h1,h2,h3⟩:=h
  unfold p44
  rw [List.mem_flatMap]
  refine ⟨p.2.toNat,List.mem_range.mpr (by omega),List.mem_map.mpr ⟨p.1.toNat,List.mem_range.mpr (by omega),?_⟩⟩
  refine Prod.ext ?_ ?_
  · show ((p.1.toNat:Nat):Int)=p.1; omega
  · show ((p.2.toNat:Nat):Int)=p.2; omega
theorem th_inj {p q:Int × Int} (hp:Lo p) (hq:Lo q) (e:thI p=thI q):p=q:=chk_inj chk_all p hp.mem q hq.mem e
section
variable {prog:Program} {w:World} {A:Around} {E:Value→Shared→Prop} {s:Shared}
noncomputable abbrev IsPr (prog:Program) (w:World) (h:Heap) (T:Addr) (p:Int × Int):Prop:=IsTupleKey (intKind prog w) h [p.1,p.2] T
theorem isPr_of {h:Heap} {T:Addr} {p:Int × Int} {o:Obj} {n:Nat} {t u:Tok} (ho:h.get? T=some o) (hc:o.cls = .type "tuple") (hd:o.data = .seq #[.int p.1 t,.int p.2 u] n):IsPr prog w h T p :=
  ⟨o,_,n,ho,hc,hd,.cons (intKind_is _ _ _ _) (.cons (intKind_is _ _ _ _) .nil)⟩
theorem items_two {p:Int × Int} {items:List Value} (h:ItemsAre (intKind prog w) [p.1,p.2] items):∃ t u,items=[.int p.1 t,.int p.2 u]:=by
  cases h with
  | cons h1 h =>
    cases h with
    | cons h2 h =>
      cases h
      obtain ⟨t,rfl⟩:=Value.isInt_shape h1
      obtain ⟨u,rfl⟩:=Value.isInt_shape h2
      exact ⟨t,u,rfl⟩
theorem hashBy_pair {T:Addr} {p:Int × Int} {Q:Bool→Shared→Prop} (hk:IsPr prog w s.heap T p) (q:Q true s):wpAny (model prog w) A (hashByValue 8 (.ref T)) Q E s:=by
  have hT:=hk.typeIs
  obtain ⟨o,items,n,ho,hc,hd,hi⟩:=hk
  obtain ⟨t,u,ei⟩:=items_two hi
  have ea:items = #[.int p.1 t,.int p.2 u]:=by
    cases items
    simp only at ei
    rw [ei]
  subst ea
  unfold hashByValue
  refine wpAny_bind (wpAny_specialOf hT F.slot_tuple_hash.lookup ?_)
  simp only
  refine wpAny_bind ?_
  unfold seqItems?
  refine wpAny_bind (wpAny_load ho ?_)
  rw [hd]
  refine wpAny_pure ?_
  simp only [Option.getD_some,← Array.forIn_toList,List.forIn_cons,List.forIn_nil,hashByValue,pure_bind]
  simp only [Bool.not_true,Bool.false_eq_true,if_false,pure_bind]
  exact wpAny_pure q
structure PSet (h:Heap) (a:Addr) (led:Bool) (es:Array (Int × Value)):Prop where
  at_:∃ o ep t,h.get? a=some o∧o.ExactSet∧o.data = .set es ep t∧Good t es.size∧t.led=led∧t.plain=true
theorem fits_of {t:SetTable} {n:Nat} (T:Tab t n):t.fits n=true:=by
  have h:=T.fits
  unfold SetTable.fits
  rw [Bool.or_eq_false_iff] at h
  rw [Bool.and_eq_true]
  refine ⟨by simpa using h.1,?_⟩
  have:=h.2
  simp at this
  simp
  omega
theorem search_free {a:Addr} {o:Obj} {es:Array (Int × Value)} {ep:Nat} {t:SetTable} {x:Value} {h:Int} {Q:SetFound→Shared→Prop} (ho:s.heap.get? a=some o) (hd:o.data = .set es ep t) (G:Good t es.size)
    (nh:∀ e∈es.toList,e.1≠h) (q:∀ j,j∉t.place.toList→j≤t.mask→Q (.free j false) s):wpAny (model prog w) A (setSearch a x h true) Q E s:=by
  have T:=G.tab
  obtain ⟨j,hj,nj,jm⟩:=probe_free (t:=t) (hashAt:=fun i=>(es[i]?.map (·.1)).getD 0) (h:=h) T.msk T.ris T.dum T.few fun i hi=>by
    rw [T.len] at hi
    rw [Array.getElem?_eq_getElem hi]
    exact nh _ (by rw [Array.mem_toList_iff]; exact Array.getElem_mem hi)
  unfold setSearch setSearchFrom
  refine wpAny_bind (wpAny_setState_of ho hd (fits_of T) ?_)
  have gw:t.gaveWay=false:=by
    unfold SetTable.gaveWay
    rcases T.msk with e | e | e<;>rw [e]<;>rfl
  simp only [gw,Bool.false_eq_true,if_false,Option.getD_none]
  erw [hj]
  exact wpAny_pure (q j nj jm)
theorem putSet_get {h:Heap} {a:Addr} {o:Obj} {es es':Array (Int × Value)} {ep:Nat} {t t':SetTable} (ho:h.get? a=some o) (hd:o.data = .set es ep t):(h.update a (Obj.putSet es' t')).get? a=some { o with data:=.set es' (ep+1) t' }:=by
  have:=Heap.get?_update_self (Obj.putSet es' t') ho (by rw [putSet_of es' t' hd]; rfl)
  rw [putSet_of es' t' hd] at this
  exact this
theorem filter_perm {α:Type} {es:Array α} {order:Array Nat} (h:order.toList.Perm (List.range es.size)):(order.filterMap (es[·]?)).toList.Perm es.toList:=by
  rw [Array.toList_filterMap]
  refine (h.filterMap _).trans ?_
  have:(List.range es.size).filterMap (fun i=>es[i]?)=es.toList:=by
    have e:(fun i=>es[i]?)=fun i=>es.toList[i]?:=funext fun i=>Array.getElem?_toList.symm
    rw [e,show es.size=es.toList.length from Array.length_toList.symm]
    generalize es.toList=l
    induction l with
    | nil=>rfl
    | cons a l ih =>
      rw [List.length_cons,List.range_succ_eq_map,List.filterMap_cons]
      simp only [List.getElem?_cons_zero,List.filterMap_map]
      congr 1
  rw [this]
theorem relay_ok {a:Addr} {o:Obj} {es:Array (Int × Value)} {ep:Nat} {t t':SetTable} {order:Array Nat} {wanted:Nat} {Q:Unit→Shared→Prop} (ho:s.heap.get? a=some o) (hd:o.data = .set es ep t) (T:Tab t es.size) (h64:es.size≤64)
    (hz:SetTable.sizeAbove wanted≤128) (hr:t.relaid (es.map (·.1)) wanted=some (t',order)) (pm:order.toList.Perm (List.range es.size))
    (q:Q () { s with heap:=s.heap.update a (Obj.putSet (order.filterMap (es[·]?)) t') }):wpAny (model prog w) A (setRelay a wanted) Q E s:=by
  have fp:=filter_perm pm
  have fs:(order.filterMap (es[·]?)).size=es.size:=by rw [← Array.length_toList,fp.length_eq,Array.length_toList]
  unfold setRelay
  refine wpAny_bind (wpAny_setState_of ho hd (fits_of T) ?_)
  simp only
  rw [if_neg (by rw [sizeLine_eq]; omega),hr]
  refine wpAny_bind ?_
  show wpAny (model prog w) A (if ((order.filterMap (es[·]?)).size != es.size)=true then _ else _) _ E s
  rw [if_neg (by rw [fs]; simp)]
  refine wpAny_pure ?_
  exact wpAny_storeSet_of ho hd q (by rw [fs,sizeLine_eq]; omega)
theorem add_pair {a x:Addr} {p:Int × Int} {led:Bool} {es:Array (Int × Value)} {Q:Bool→Shared→Prop} (hu:A.units < cLine) (hS:PSet s.heap a led es) (hk:IsPr prog w s.heap x p) (nh:∀ e∈es.toList,e.1≠thI p) (h64:es.size < 64)
    (q:∀ h' es',Heap.SameBut a s.heap h'→PSet h' a led es'→es'.toList.Perm ((thI p,.ref x)::es.toList)→Q true { s with heap:=h',toks:=s.toks+3 }):wpAny (model prog w) A (setAdd a (.ref x)) Q E s:=by
  obtain ⟨o,ep,t,ho,hex,hd,G,el,ep1⟩:=hS.at_
  unfold setAdd
  refine wpAny_holding (wpAny_bind (wpAny_pyHash_tuple hu hk ?_))
  show wpAny (model prog w) A (setAddHashed a (.ref x) (thI p)) Q E { s with toks:=s.toks+3 }
  unfold setAddHashed setAddHashedIn
  refine wpAny_holding (wpAny_bind (wpAny_setState_of (s:={ s with toks:=s.toks+3 }) ho hd (fits_of G.tab) ?_))
  have bs:byScan (.ref x) es=false:=rfl
  simp only [bs,Bool.false_eq_true,if_false]
  refine wpAny_bind (search_free (s:={ s with toks:=s.toks+3 }) ho hd G nh fun j nj jm=>?_)
  simp only
  refine wpAny_bind (wpAny_setState_of (s:={ s with toks:=s.toks+3 }) ho hd (fits_of G.tab) ?_)
  obtain ⟨T1,e2,e3,e4,rel⟩:=G.put h64 nj jm
  obtain ⟨t1,p1,e1⟩:∃ t1 p1,t.put j=(t1,p1):=⟨_,_,rfl⟩
  rw [e1] at T1 e2 e3 e4 rel
  simp only at T1 e2 e3 e4 rel
  simp only [e1]
  have pl:t1.plain=true:=by rw [e3,ep1]
  have h0:=(below_at t.place j G.tab.ris).1
  have hp1:p1≤es.size:=by rw [e2,← G.tab.len]; exact h0
  have el1:=insertAt_list es p1 (thI p,Value.ref x) hp1
  have pm1:(SetTable.insertAt es p1 (thI p,.ref x)).toList.Perm ((thI p,.ref x)::es.toList):=by rw [el1]; exact insert_perm _ _ _
  have sz1:(SetTable.insertAt es p1 (thI p,.ref x)).size=es.size+1:=by rw [← Array.length_toList,pm1.length_eq,List.length_cons,Array.length_toList]
  simp only [pl,if_true]
  refine wpAny_bind (hashBy_pair (s:={ s with toks:=s.toks+3 }) hk ?_)
  simp only [if_true]
  refine wpAny_bind (wpAny_storeSet_of (s:={ s with toks:=s.toks+3 }) ho hd ?_ (by rw [sz1,sizeLine_eq]; omega))
  have g1:=putSet_get (es':=SetTable.insertAt es p1 (thI p,.ref x)) (t':=t1) ho hd
  have sb1:=Heap.SameBut.update s.heap a (Obj.putSet (SetTable.insertAt es p1 (thI p,.ref x)) t1)
  cases hf:t1.tooFull with
  | false =>
    simp only [Bool.not_false,Bool.true_and,Bool.false_eq_true,if_false]
    refine wpAny_pure (q _ _ sb1 ⟨_,ep+1,t1,g1,hex,rfl,⟨by rw [sz1]; exact T1,hf⟩,by rw [e4,el],pl⟩ pm1)
  | true =>
    simp only [Bool.not_false,Bool.true_and,if_true]
    obtain ⟨z1,t',order,r1,G2,l2,pl2,po⟩:=rel hf ((SetTable.insertAt es p1 (thI p,.ref x)).map (·.1)) (by rw [Array.size_map,sz1])
    have sz2:((SetTable.insertAt es p1 (thI p,.ref x))).size=es.size+1:=sz1
    refine wpAny_bind (relay_ok (s:={ s with heap:=s.heap.update a (Obj.putSet (SetTable.insertAt es p1 (thI p,.ref x)) t1),toks:=s.toks+3 }) g1 rfl (by rw [sz1]; exact T1) (by omega) z1 r1 (by rw [sz1]; exact po) (wpAny_pure ?_))
    have g2:=putSet_get (es':=order.filterMap ((SetTable.insertAt es p1 (thI p,.ref x))[·]?)) (t':=t') g1 rfl
    have fp:=filter_perm (es:=SetTable.insertAt es p1 (thI p,.ref x)) (order:=order) (by rw [sz1]; exact po)
    have sz3:(order.filterMap ((SetTable.insertAt es p1 (thI p,.ref x))[·]?)).size=es.size+1:=by rw [← Array.length_toList,fp.length_eq,Array.length_toList,sz1]
    exact q _ _ (sb1.trans (Heap.SameBut.update _ a _)) ⟨_,ep+1+1,t',g2,hex,rfl,by rw [sz3]; exact G2,by rw [l2,el],by rw [pl2,ep1]⟩ (fp.trans pm1)
end
end Sx
set_option Elab.async false
set_option linter.all false
set_option maxRecDepth 100000
set_option maxHeartbeats 4000000
namespace Sx
open PySem PyProof.Rows
theorem slot_next:Slot "set_iterator" "__next__" "set_iterator.__next__" :=
  .of (owner:="set_iterator") (n:="__next__") (by rw [typeLookup_type,builtinLookup_eq_fast]; kernel_rfl) (by decide +kernel) (by decide +kernel) (by decide +kernel)
    (by first | exact .inl (by decide +kernel) | exact .inr (by decide +kernel)) (by rw [isSubtype_type]; kernel_rfl)
theorem entry_next:entryFor table "set_iterator.__next__" = some Builtin.«set_iterator.__next__»:=entryFor_of_tree (by kernel_rfl)
theorem entry_iter:entryFor table "set.__iter__" = some Builtin.«frozenset.__iter__» :=
  entryFor_alias (id':="frozenset.__iter__") (by kernel_rfl) rfl (by decide +kernel) (by kernel_rfl)
theorem owner_it:Manifest.owners.lookup (String.ofList ['r','o','t','a','r','e','t','i','_','t','e','s'].reverse)=some Manifest.sig_set_iterator:=by kernel_rfl
theorem args_next (a:Value):argsOk "set_iterator.__next__" ⟨[a],[]⟩:=by
  unfold argsOk; rw [signature?_of (id:="set_iterator.__next__") (n:=['_','_','t','x','e','n','_','_']) (o:=['r','o','t','a','r','e','t','i','_','t','e','s']) (by kernel_rfl) owner_it]; kernel_rfl
theorem pick_go {α:Type} (next:Nat→Nat):∀ (fuel k:Nat) (left:List α) (out:Array α),left.length=fuel→(pickOrder.go next fuel k left out).toList.Perm (out.toList++left)
  | 0,k,left,out,h=>by
    have:left=[]:=List.eq_nil_of_length_eq_zero h
    subst this
    unfold pickOrder.go
    rw [List.append_nil]
  | fuel+1,k,left,out,h=>by
    have lt:next k % left.length < left.length:=Nat.mod_lt _ (by omega)
    unfold pickOrder.go
    rw [List.getElem?_eq_getElem lt]
    simp only
    refine (pick_go next fuel (k+1) _ _ (by rw [List.length_eraseIdx_of_lt lt]; omega)).trans ?_
    rw [Array.toList_push,List.append_assoc]
    refine List.Perm.append_left _ ?_
    rw [List.eraseIdx_eq_take_drop_succ]
    have e:=List.perm_middle (a:=left[next k % left.length]) (l₁:=left.take (next k % left.length)) (l₂:=left.drop (next k % left.length+1))
    rw [List.getElem_cons_drop,List.take_append_drop] at e
    exact e.symm
theorem pick_perm {α:Type} (next:Nat→Nat) (xs:Array α):(pickOrder next xs).toList.Perm xs.toList:=by
  have:=pick_go next xs.size 0 xs.toList #[] (by simp)
  exact this
noncomputable def byTxt (w:World):Bool:=w.params.followText "set-order"
noncomputable def wk (w:World) (a:Addr) (ep:Nat) (es:Array (Int × Value)):Array (Int × Value):=if byTxt w=true then pickOrder (w.params.setOrder a ep) es else es
theorem wk_perm (w:World) (a:Addr) (ep:Nat) (es:Array (Int × Value)):(wk w a ep es).toList.Perm es.toList:=by
  unfold wk
  split
  · exact pick_perm _ _
  · exact .refl _
theorem wk_size (w:World) (a:Addr) (ep:Nat) (es:Array (Int × Value)):(wk w a ep es).size=es.size:=by
  rw [← Array.length_toList,(wk_perm w a ep es).length_eq,Array.length_toList]
noncomputable abbrev IsSetIt (h:Heap) (I a:Addr) (slot i n ep:Nat):Prop:=h.get? I=some { cls:=.type "set_iterator",dict:=none,data:=.fields #[rawInt slot,rawInt i,.ref a,rawInt n,rawInt ep],slots:=#[] }
theorem below_zero (xs:Array Nat) (hr:Ris xs.toList):SetTable.below xs 0=0:=by
  obtain ⟨h0,h1,h2⟩:=below_at xs 0 hr
  rcases Nat.eq_zero_or_pos (SetTable.below xs 0) with z | z
  · exact z
  · have:=h1 0 xs[0] z (Array.getElem?_eq_getElem (by omega))
    omega
theorem below_next {xs:Array Nat} {i j:Nat} (hr:Ris xs.toList) (h:xs[i]? = some j):SetTable.below xs (j+1)=i+1:=by
  obtain ⟨h0,h1,h2⟩:=below_at xs (j+1) hr
  obtain ⟨li,ei⟩:=Array.getElem?_eq_some_iff.mp h
  have mono:∀ a b x y,a < b→xs[a]? = some x→xs[b]? = some y→x < y:=fun a b x y hab ha hb=>by
    obtain ⟨la,ea⟩:=Array.getElem?_eq_some_iff.mp ha
    obtain ⟨lb,eb⟩:=Array.getElem?_eq_some_iff.mp hb
    have:=List.pairwise_iff_getElem.mp hr a b (by simpa using la) (by simpa using lb) hab
    simp only [Array.getElem_toList] at this
    omega
  rcases Nat.lt_trichotomy (SetTable.below xs (j+1)) (i+1) with z | z | z
  · have:=h2 i j (by omega) h; omega
  · exact z
  · have l:i+1 < xs.size:=by omega
    have g:=Array.getElem?_eq_getElem l
    have a1:=h1 (i+1) _ z g
    have a2:=mono i (i+1) j _ (by omega) h g
    omega
section
variable {prog:Program} {w:World} {A:Around} {E:Value→Shared→Prop} {s:Shared}
theorem byText_ask {Q:Bool→Shared→Prop} (q:Q (byTxt w) s):wpAny (model prog w) A setsByText Q E s:=by
  unfold setsByText
  exact wpAny_bind (wpAny_askSetting (wpAny_pure q))
theorem iter_set {a:Addr} {o:Obj} {es:Array (Int × Value)} {ep:Nat} {t:SetTable} {Q:Value→Shared→Prop} (ho:s.heap.get? a=some o) (hex:o.ExactSet) (hd:o.data = .set es ep t) (T:Tab t es.size) (pl:t.plain=true)
    (q:Q (.ref s.heap.objs.size) { s with heap:=s.heap.push { cls:=.type "set_iterator",dict:=none,data:=.fields #[rawInt 0,rawInt 0,.ref a,rawInt es.size,rawInt ep],slots:=#[] } }):wpAny (model prog w) A (pyIter (.ref a)) Q E s:=by
  have hT:s.TypeIs (.ref a) "set":=⟨o,ho,hex.1⟩
  refine wpAny_pyIter_slot hT F.slot_set_iter (wpAny_call_entry F.slot_set_iter hT entry_iter ?_ (F.args_set_iter_1 _))
  unfold Builtin.«frozenset.__iter__» Builtin.Frozenset.slot0 slotArgs
  simp only [List.isEmpty_nil,Bool.not_true,Bool.false_eq_true,↓reduceIte,bind_assoc,List.length_nil,bne_self_eq_false]
  unfold Builtin.Frozenset.addrOf Builtin.Frozenset.sizeOf
  refine wpAny_bind (wpAny_pure ?_)
  try dsimp only
  refine wpAny_bind (wpAny_pure ?_)
  refine wpAny_bind (wpAny_bind (wpAny_setEntries_of ho hd (fits_of T) (wpAny_pure ?_)))
  refine wpAny_bind ?_
  unfold setDrawn
  refine wpAny_bind (wpAny_setState_of ho hd (fits_of T) ?_)
  refine wpAny_bind (byText_ask (wpAny_pure ?_))
  have nd:¬ ((!byTxt w&&(!t.plain&&decide (es.size > 1)))=true):=by rw [pl]; simp
  refine wpAny_ite_split (fun h=>absurd h nd) (fun _=>?_)
  refine wpAny_bind (wpAny_pure ?_)
  refine wpAny_bind (wpAny_setEpoch_of ho hd (fits_of T) ?_)
  unfold newFields
  refine wpAny_bind (wpAny_newObj_type ?_)
  refine wpAny_pure ⟨_,rfl,"set_iterator",_,⟨_,Heap.get?_push_size _ rfl,rfl⟩,slot_next.lookup,q⟩
structure SetOn (w:World) (h:Heap) (I a:Addr) (es:Array (Int × Value)) (ep:Nat) (t:SetTable) (i:Nat):Prop where
  it:∃ slot,IsSetIt h I a slot i es.size ep∧(byTxt w=false→SetTable.below t.place slot=i)
  st:∃ o,h.get? a=some o∧o.data = .set es ep t
theorem next_of {a:Addr} {o:Obj} {es:Array (Int × Value)} {ep slot i:Nat} {t:SetTable} {Q:Option (Value × Nat)→Shared→Prop} (ho:s.heap.get? a=some o) (hd:o.data = .set es ep t) (T:Tab t es.size) (pl:t.plain=true) (ld:t.led = !byTxt w)
    (hs:byTxt w=false→SetTable.below t.place slot=i)
    (q0:es.size≤i→Q none s) (q1:∀ e nx,(wk w a ep es)[i]? = some e→(byTxt w=false→SetTable.below t.place nx=i+1)→Q (some (e.2,nx)) s):wpAny (model prog w) A (setNext a slot i ep) Q E s:=by
  unfold setNext
  refine wpAny_bind (wpAny_setState_of ho hd (fits_of T) ?_)
  refine wpAny_bind (byText_ask ?_)
  cases hb:byTxt w with
  | true =>
    simp only [if_true,bne_self_eq_false,Bool.false_eq_true,if_false]
    refine wpAny_bind ?_
    unfold setWalk
    refine wpAny_bind (wpAny_setState_of ho hd (fits_of T) ?_)
    refine wpAny_bind (byText_ask ?_)
    simp only [hb,if_true]
    refine wpAny_bind (wpAny_askSetting (wpAny_pure (wpAny_pure ?_)))
    have ew:wk w a ep es=pickOrder (w.params.setOrder a ep) es:=by unfold wk; rw [if_pos hb]
    show Q (((pickOrder (w.params.setOrder a ep) es)[i]?).map fun e=>(e.2,slot)) s
    rw [← ew]
    by_cases hi:i < es.size
    · rw [Array.getElem?_eq_getElem (show i < (wk w a ep es).size by rw [wk_size]; exact hi)]
      exact q1 _ slot (Array.getElem?_eq_getElem (show i < (wk w a ep es).size by rw [wk_size]; exact hi)) fun z=>by rw [hb] at z; cases z
    · rw [Array.getElem?_eq_none (by rw [wk_size]; omega)]
      exact q0 (by omega)
  | false =>
    simp only [Bool.false_eq_true,if_false]
    have nd:¬ ((!t.plain&&decide (es.size > 1))=true):=by rw [pl]; simp
    refine wpAny_ite_split (fun h=>absurd h nd) (fun _=>?_)
    refine wpAny_bind ?_
    show wpAny (model prog w) A (if (!t.led&&!es.isEmpty)=true then _ else _) _ E s
    rw [if_neg (by rw [ld,hb]; simp)]
    refine wpAny_pure (wpAny_pure ?_)
    rw [hs hb]
    have ew:wk w a ep es=es:=by unfold wk; rw [hb,if_neg (by decide)]
    by_cases hi:i < es.size
    · have g1:=Array.getElem?_eq_getElem hi
      have g2:=Array.getElem?_eq_getElem (show i < t.place.size by rw [T.len]; exact hi)
      rw [g1,g2]
      exact q1 _ _ (by rw [ew]; exact g1) fun _=>below_next T.ris g2
    · rw [Array.getElem?_eq_none (show es.size≤i by omega)]
      exact q0 (by omega)
theorem body_item {I a:Addr} {es:Array (Int × Value)} {ep i:Nat} {t:SetTable} {Q:Value→Shared→Prop} (hne:a≠I) (S:SetOn w s.heap I a es ep t i) (T:Tab t es.size) (pl:t.plain=true) (ld:t.led = !byTxt w) (hi:i < es.size)
    (q:∀ e h',(wk w a ep es)[i]? = some e→SetOn w h' I a es ep t (i+1)→Heap.SameBut I s.heap h'→Q e.2 { s with heap:=h' }) :
    wpAny (model prog w) A (Builtin.«set_iterator.__next__» ⟨[.ref I],[]⟩) (fun fin s'=>∃ v,fin = .done (.ret v)∧Q v s') E s:=by
  obtain ⟨⟨slot,hit,hs⟩,o,ho,hd⟩:=S
  unfold Builtin.«set_iterator.__next__» slotArgs
  simp only [List.isEmpty_nil,Bool.not_true,Bool.false_eq_true,↓reduceIte,List.length_nil,bne_self_eq_false,pure_bind]
  refine wpAny_bind (wpAny_fieldsOf hit rfl ?_)
  show wpAny (model prog w) A (setEntries a >>= _) _ E s
  refine wpAny_bind (wpAny_setEntries_of ho hd (fits_of T) ?_)
  rw [if_neg (by simp)]
  show wpAny (model prog w) A (setNext a ((slot:Int)).toNat ((i:Int)).toNat ((ep:Int)).toNat >>= _) _ E s
  rw [Int.toNat_natCast,Int.toNat_natCast,Int.toNat_natCast]
  refine wpAny_bind (next_of ho hd T pl ld hs (fun z=>absurd z (by omega)) fun e nx he hn=>?_)
  show wpAny (model prog w) A (setField (.ref I) 0 (rawInt nx) >>= _) _ E s
  refine wpAny_bind (wpAny_setField_rec hit (by simp) fun h1 hit1 sb1=>?_)
  show wpAny (model prog w) A (setField (.ref I) 1 (rawInt ((i:Int)+1)) >>= _) _ E _
  refine wpAny_bind (wpAny_setField_rec hit1 (by simp) fun h2 hit2 sb2=>?_)
  have sb:=sb1.trans sb2
  refine wpAny_pure ⟨_,rfl,q e h2 he ⟨⟨nx,?_,hn⟩,o,(sb.2 a hne).trans ho,hd⟩ sb⟩
  show h2.get? I=_
  rw [hit2]
  rfl
theorem body_end {I a:Addr} {es:Array (Int × Value)} {ep i:Nat} {t:SetTable} {Q:PySem.Fin→Shared→Prop} (hh:A.handled=none) (S:SetOn w s.heap I a es ep t i) (T:Tab t es.size) (pl:t.plain=true) (ld:t.led = !byTxt w) (hi:es.size≤i)
    (hE:∀ h' e,Heap.ExtBut I s.heap h'→(∃ o,h'.get? e=some o∧o.cls = .type "StopIteration")→E (.ref e) { s with heap:=h' }) :
    wpAny (model prog w) A (Builtin.«set_iterator.__next__» ⟨[.ref I],[]⟩) Q E s:=by
  obtain ⟨⟨slot,hit,hs⟩,o,ho,hd⟩:=S
  unfold Builtin.«set_iterator.__next__» slotArgs
  simp only [List.isEmpty_nil,Bool.not_true,Bool.false_eq_true,↓reduceIte,List.length_nil,bne_self_eq_false,pure_bind]
  refine wpAny_bind (wpAny_fieldsOf hit rfl ?_)
  show wpAny (model prog w) A (setEntries a >>= _) _ E s
  refine wpAny_bind (wpAny_setEntries_of ho hd (fits_of T) ?_)
  rw [if_neg (by simp)]
  show wpAny (model prog w) A (setNext a ((slot:Int)).toNat ((i:Int)).toNat ((ep:Int)).toNat >>= _) _ E s
  rw [Int.toNat_natCast,Int.toNat_natCast,Int.toNat_natCast]
  refine wpAny_bind (next_of ho hd T pl ld hs (fun _=>?_) fun e nx he hn=>?_)
  · show wpAny (model prog w) A (setField (.ref I) 2 .none >>= _) _ E s
    refine wpAny_bind (wpAny_setField_rec hit (by simp) fun h1 hit1 sb1=>?_)
    show wpAny _ _ (newExc (.type "StopIteration") [] >>= _) _ _ _
    refine wpAny_bind ?_
    simp only [newExc,newTuple]
    refine wpAny_bind (wpAny_newObj_type ?_ (by size_fits))
    refine wpAny_bind (m:=firstArgMember _ _) (wpAny_of_eq (a:=Value.none) (by first | rfl | (simp only [firstArgMember]; rfl)) ?_)
    refine wpAny_newObj_type ?_ (by size_fits)
    simp only [raiseNew]
    refine wpAny_bind (wpAny_handled ?_)
    rw [hh]
    refine wpAny_bind (wpAny_pure (wpAny_throw ?_))
    exact hE _ _ (fun b o hb e=>Heap.get?_push_of_some _ (Heap.get?_push_of_some _ (sb1.extBut b o hb e))) ⟨_,Heap.get?_push_size _ rfl,rfl⟩
  · have:=(Array.getElem?_eq_some_iff.mp he).1
    rw [wk_size] at this
    omega
theorem slot_self:Slot "set_iterator" "__iter__" "set_iterator.__iter__" :=
  .of (owner:="set_iterator") (n:="__iter__") (by rw [typeLookup_type,builtinLookup_eq_fast]; kernel_rfl) (by decide +kernel) (by decide +kernel) (by decide +kernel)
    (by first | exact .inl (by decide +kernel) | exact .inr (by decide +kernel)) (by rw [isSubtype_type]; kernel_rfl)
theorem entry_self:entryFor table "set_iterator.__iter__" = some Builtin.«dict_keyiterator.__iter__» :=
  entryFor_alias (id':="dict_keyiterator.__iter__") (by kernel_rfl) rfl (by decide +kernel) (by kernel_rfl)
theorem args_self (a:Value):argsOk "set_iterator.__iter__" ⟨[a],[]⟩:=by
  unfold argsOk; rw [signature?_of (id:="set_iterator.__iter__") (n:=['_','_','r','e','t','i','_','_']) (o:=['r','o','t','a','r','e','t','i','_','t','e','s']) (by kernel_rfl) owner_it]; kernel_rfl
theorem walks_set (hh:A.handled=none) (I a:Addr) (hne:a≠I) (es:Array (Int × Value)) (ep:Nat) (t:SetTable) (T:Tab t es.size) (pl:t.plain=true) (ld:t.led = !byTxt w) :
    Walks prog w A I [I,a] [I] es.size (fun i v=>∃ e,(wk w a ep es)[i]? = some e∧v=e.2) (fun i h=>SetOn w h I a es ep t i) where
  sub:=fun b hb=>by simp at hb; simp [hb]
  frame:=fun i h h' st hk=>by
    obtain ⟨⟨slot,hit,hs⟩,o,ho,hd⟩:=st
    exact ⟨⟨slot,hk I (by simp) _ hit,hs⟩,o,hk a (by simp) _ ho,hd⟩
  item:=fun i s Q E hi st hQ=>by
    obtain ⟨slot,hit,_⟩:=st.it
    have hT:s.TypeIs (.ref I) "set_iterator":=⟨_,hit,rfl⟩
    unfold pyNext
    refine wpAny_bind (wpAny_attempt (wpAny_callSpecial?_slot (name:=Str.ofString "__next__") hT slot_next (wpAny_call_entry slot_next hT entry_next
      (body_item hne st T pl ld hi fun e h' he S' sb=>wpAny_pure ?_) (args_next _))))
    exact hQ e.2 h' s.toks ⟨e,he,rfl⟩ S' fun b o hb x=>sb.extBut b o (fun z=>hb (by simp [z])) x
  done:=fun s Q E st hQ=>by
    obtain ⟨slot,hit,_⟩:=st.it
    have hT:s.TypeIs (.ref I) "set_iterator":=⟨_,hit,rfl⟩
    unfold pyNext
    refine wpAny_bind (wpAny_attempt (wpAny_callSpecial?_slot (name:=Str.ofString "__next__") hT slot_next (wpAny_call_entry slot_next hT entry_next
      (body_end (A:=A.in1) hh st T pl ld (Nat.le_refl _) fun h' e k he=>?_) (args_next _))))
    obtain ⟨o,ho,hc⟩:=he
    exact wpAny_bind (wpAny_isInstance (T:="StopIteration") (b:=true) ⟨o,ho,hc⟩ isSubtype_stop (wpAny_pure (hQ _ s.toks fun b o hb x=>k b o (fun z=>hb (by simp [z])) x)))
  self:=fun i s Q E st hQ=>by
    obtain ⟨slot,hit,_⟩:=st.it
    have hT:s.TypeIs (.ref I) "set_iterator":=⟨_,hit,rfl⟩
    refine wpAny_pyIter_slot hT slot_self (wpAny_call_entry slot_self hT entry_self ?_ (args_self _))
    show wpAny _ _ (ret (.ref I)) _ _ s
    exact wpAny_pure ⟨_,rfl,"set_iterator",_,hT,slot_next.lookup,hQ⟩
end
end Sx
set_option Elab.async false
set_option linter.all false
set_option maxRecDepth 100000
set_option maxHeartbeats 4000000
namespace Sx
open PySem PyProof.Rows
noncomputable def el (e:Addr × (Int × Int)):Int × Value:=(thI e.2,.ref e.1)
theorem isPr_at {prog:Program} {w:World} {h h':Heap} {T:Addr} {p:Int × Int} (k:IsPr prog w h T p) (e:∀ o,h.get? T=some o→h'.get? T=some o):IsPr prog w h' T p:=by
  obtain ⟨o,items,n,ho,r⟩:=k
  exact ⟨o,items,n,e o ho,r⟩
section
variable {prog:Program} {w:World} {A:Around} {R:Result→Shared→Prop} {I:Addr} {fp wr:List Addr} {G:Array GenState→Array GenState→Prop} {n:Nat} {P:Nat→Value→Prop} {St:Nat→Shared→Prop}
theorem PSet.at' {h h':Heap} {a:Addr} {led:Bool} {es:Array (Int × Value)} (S:PSet h a led es) (e:∀ o,h.get? a=some o→h'.get? a=some o):PSet h' a led es:=by
  obtain ⟨o,ep,t,ho,r⟩:=S.at_
  exact ⟨o,ep,t,e o ho,r⟩
theorem update_pairs (W:WalksS prog w A.in1 I fp wr G n P St) (S:Addr) (hSf:S∉fp) (hu:A.in1.units < cLine) (led:Bool) (Tp:List (Addr × (Int × Int))) (hn:Tp.length=n) (hval:∀ i v,P i v→∃ e,Tp[i]? = some e∧v = .ref e.1)
    (hT:∀ e∈Tp,e.1≠S∧e.1∉wr) (lo:∀ e∈Tp,Lo e.2) (nd:(Tp.map (·.2)).Nodup) (n64:n≤64) :
    ∀ (k i:Nat) (s:Shared) (es:Array (Int × Value)),n - i=k→i≤n→St i s→(∀ e∈Tp,IsPr prog w s.heap e.1 e.2)→PSet s.heap S led es→es.toList.Perm ((Tp.take i).map el) →
      (∀ s' es',Moved (S::wr) G s s'→PSet s'.heap S led es'→es'.toList.Perm (Tp.map el)→R (.ok (.ret .none)) s') →
      codeAny (model prog w) A (.builtin "set.update.loop" ⟨[.ref S,.ref I],[]⟩) R s:=by
  have hSw:S∉wr:=fun h=>hSf (W.sub _ h)
  have hsub:∀ b∈wr,b∈S::wr:=fun b hb=>List.mem_cons_of_mem _ hb
  intro k
  induction k with
  | zero =>
    intro i s es hk hi hst hP hS hp hR
    have hin:i=n:=by omega
    subst hin
    refine codeAny_builtin F.entry_set_update_loop ?_
    rw [Around.under_plainId F.plain_set_update_loop _]
    show wpAny _ A.in1 (pyNext (.ref I) >>= _) _ _ s
    refine wpAny_bind (W.done s _ _ hst fun s' hm=>?_)
    show wpAny _ A.in1 (ret Value.none) _ _ s'
    rw [List.take_of_length_le (by omega)] at hp
    exact wpAny_pure (hR s' es (hm.mono hsub) (hS.at' fun o e=>hm.heap S _ hSw e) hp)
  | succ k ih =>
    intro i s es hk hi hst hP hS hp hR
    have hlt:i < n:=by omega
    refine codeAny_builtin F.entry_set_update_loop ?_
    rw [Around.under_plainId F.plain_set_update_loop _]
    show wpAny _ A.in1 (pyNext (.ref I) >>= _) _ _ s
    refine wpAny_bind (W.item i s _ _ hlt hst fun v s' hv hst' hm=>?_)
    obtain ⟨e,he,rfl⟩:=hval i v hv
    have em:=List.mem_of_getElem? he
    have hS':PSet s'.heap S led es:=hS.at' fun o x=>hm.heap S _ hSw x
    have hP':∀ f∈Tp,IsPr prog w s'.heap f.1 f.2:=fun f hf=>isPr_at (hP f hf) fun o x=>hm.heap _ _ (hT f hf).2 x
    have les:es.size=i:=by rw [← Array.length_toList,hp.length_eq,List.length_map,List.length_take]; omega
    have nh:∀ x∈es.toList,x.1≠thI e.2:=fun x hx z=>by
      obtain ⟨f,hf,rfl⟩:=List.mem_map.mp (hp.mem_iff.mp hx)
      have z':thI f.2=thI e.2:=z
      have fm:=List.mem_of_mem_take hf
      have ef:=th_inj (lo f fm) (lo e em) z'
      obtain ⟨j,hj⟩:=List.getElem?_of_mem hf
      have hji:j < i:=by
        have:=(List.getElem?_eq_some_iff.mp hj).1
        rw [List.length_take] at this
        omega
      rw [List.getElem?_take_of_lt hji] at hj
      have g1:(Tp.map (·.2))[j]? = some f.2:=by rw [List.getElem?_map,hj]; rfl
      have g2:(Tp.map (·.2))[i]? = some e.2:=by rw [List.getElem?_map,he]; rfl
      rw [ef] at g1
      have:=(List.getElem?_inj (by rw [List.length_map]; omega) nd).mp (g1.trans g2.symm)
      omega
    show wpAny _ A.in1 (holding [Value.ref e.1] (setAdd S (.ref e.1)) >>= _) _ _ s'
    refine wpAny_bind (wpAny_holding (add_pair hu hS' (hP' e em) nh (by omega) fun h' es' sb S2 p2=>?_))
    refine wpAny_pure ⟨plainId_quiet F.plain_set_update_loop _,ih (i+1) _ es' (by omega) hlt (W.frame _ s' _ _ hst' (Nat.le_add_right _ _) fun b hb o x=>?_) (fun f hf=>isPr_at (hP' f hf) fun o x=>(sb.2 _ (hT f hf).1).trans x) S2 ?_ fun s'' es'' hm'' S'' p''=>?_⟩
    · rw [sb.2 b (fun h:b=S=>hSf (by rw [← h]; exact hb))]; exact x
    · rw [List.take_add_one,he,List.map_append]
      exact (p2.trans (List.Perm.cons _ hp)).trans (List.perm_append_singleton (el e) _).symm
    · refine hR s'' es'' (Moved.trans W.gtrans ((hm.mono hsub).then_heap (Nat.le_add_right _ _) fun b o hb x=>?_) hm'') S'' p''
      rw [sb.2 b (fun h:b=S=>hb (by rw [h]; exact List.mem_cons_self))]; exact x
end
section
variable {prog:Program} {w:World} {A:Around} {E:Value→Shared→Prop} {s:Shared}
theorem set_new (a:Value) {Q₁:Value→Shared→Prop} (h:Q₁ (.ref s.heap.objs.size) { s with heap:=s.heap.push { cls:=.type "set",dict:=none,data:=.set #[] 0 (.fresh 0 0 (!byTxt w)) } }) :
    codeAny (model prog w) A (.call (.builtin "set.__new__") ⟨[.type "set",a],[]⟩) (wants Q₁ E) s:=by
  refine codeAny_of_tree ?_
  show wpAny _ A.in1 (do checkBuiltinCall "set.__new__" ⟨[.type "set",a],[]⟩; again (.builtin "set.__new__" ⟨[.type "set",a],[]⟩)) _ _ s
  refine wpAny_bind (wpAny_of_eq (F.newCall_set_1 a) (wpAny_pure ⟨plainId_quiet F.plain_set_new _,codeAny_builtin F.entry_set_new ?_⟩))
  rw [Around.under_plainId F.plain_set_new _]
  unfold Builtin.«set.__new__» Builtin.Frozenset.newClass
  have hsub:=sub_set_self
  obtain ⟨hp,g,d,tk,os⟩:=s
  dsimp only
  wp_walk
  refine wpAny_askSetting (wpAny_pure ?_)
  dsimp only
  simp only [newObj]
  refine wpAny_bind (wpAny_alloc (wpAny_pure ?_))
  exact wpAny_pure h
theorem call_set_pairs {l:Addr} {items:Array Value} {Tp:List (Addr × (Int × Int))} {Q:Value→Shared→Prop} (hh:A.handled=none) (hu:A.units+10 < cLine) (hl:s.heap.IsList l items) (hi:items.toList=Tp.map fun e=>.ref e.1)
    (hP:∀ e∈Tp,IsPr prog w s.heap e.1 e.2) (lo:∀ e∈Tp,Lo e.2) (nd:(Tp.map (·.2)).Nodup) (n64:Tp.length≤64)
    (h:∀ (h':Heap) (tk:Nat) (es:Array (Int × Value)),PSet h' s.heap.objs.size (!byTxt w) es→es.toList.Perm (Tp.map el)→(∀ b o,b < s.heap.objs.size→s.heap.get? b=some o→h'.get? b=some o)→Q (.ref s.heap.objs.size) { s with heap:=h',toks:=tk }) :
    wpAny (model prog w) A (call (.type "set") [.ref l]) Q E s:=by
  obtain ⟨c,tl,hmro⟩:=F.called_set.mro
  have hmade:=F.called_set.made
  have hsub:=F.called_set.sub
  refine wpAny_call (codeAny_of_tree ?_)
  show wpAny _ _ (callAny (.type "set") _) _ _ _
  refine wpAny_pure ⟨Code.quiet_builtin _ (by decide +kernel),codeAny_builtin F.entry_type_call ?_⟩
  rw [Around.under_plain (weight_type_call_type "set" [.ref l] []) rfl]
  have h1:=F.called_set.notType
  have h2:=F.called_set.canCreate
  have hct:=F.typeCall_set_1 (.ref l)
  repeat (any_goals (first | assumption | wp_step))
  refine codeAny_mono (set_new (.ref l) (E:=E) (Q₁:=fun obj s₁=>obj = .ref s.heap.objs.size∧s₁={ s with heap:=s.heap.push { cls:=.type "set",dict:=none,data:=.set #[] 0 (.fresh 0 0 (!byTxt w)) } }) ⟨rfl,rfl⟩) fun r s₁ hr=>?_
  cases r with
  | error e=>exact hr
  | ok fl =>
    cases fl with
    | ret obj =>
      obtain ⟨rfl,rfl⟩:=hr
      have hS:(s.heap.push { cls:=.type "set",dict:=none,data:=.set #[] 0 (.fresh 0 0 (!byTxt w)) }).get? s.heap.objs.size=some { cls:=.type "set",dict:=none,data:=.set #[] 0 (.fresh 0 0 (!byTxt w)) }:=Heap.get?_push_size _ rfl
      have hT:Shared.TypeIs { s with heap:=s.heap.push { cls:=.type "set",dict:=none,data:=.set #[] 0 (.fresh 0 0 (!byTxt w)) } } (.ref s.heap.objs.size) "set":=⟨_,hS,rfl⟩
      have hli:=F.called_set.init.lookup
      have hbi:=F.called_set.init.bind (.ref s.heap.objs.size)
      repeat (any_goals (first | assumption | wp_step))
      refine codeAny_mono (codeAny_call_builtin (R:=wants (fun r s₂=>r = .none∧∃ h' tk es,s₂={ s with heap:=h',toks:=tk }∧PSet h' s.heap.objs.size (!byTxt w) es∧es.toList.Perm (Tp.map el) ∧
          (∀ b o,b < s.heap.objs.size→s.heap.get? b=some o→h'.get? b=some o)) E) F.called_set.init.plain F.entry_set_init (check_set_init_1 hT ?_)) fun r₂ s₂ hr₂=>?_
      · obtain ⟨ol,hol,hcl,nl,hdl⟩:=hl
        obtain ⟨ocls,odict,odata,oslots⟩:=ol
        simp only at hcl hdl
        subst hcl; subst hdl
        have hol':(s.heap.push { cls:=.type "set",dict:=none,data:=.set #[] 0 (.fresh 0 0 (!byTxt w)) }).get? l=some { cls:=.type "list",dict:=odict,data:=.seq items nl,slots:=oslots }:=Heap.get?_push_of_some _ hol
        have hsls:=F.sub_list_set
        have hslf:=F.sub_list_frozenset
        have hne:(Value.type "list" == Value.type "dict")=false:=by decide
        have hl1:(s.heap.push { cls:=.type "set",dict:=none,data:=.set #[] 0 (.fresh 0 0 (!byTxt w)) }).IsList l items:=⟨_,hol',rfl,nl,rfl⟩
        unfold Builtin.«set.__init__» noKeywords Builtin.Frozenset.updateFrom
        generalize hPI:pyIter=PI
        wp_walk
        subst hPI
        refine wpAny_pyIter_list hl1 ?_
        refine wpAny_bind (wpAny_runValue ?_)
        have hlS:l < s.heap.objs.size:=Heap.lt_size hol
        have hh3:A.in1.in1.in1.handled=none:=by simp [hh]
        have hneI:l≠(s.heap.push { cls:=.type "set",dict:=none,data:=.set #[] 0 (.fresh 0 0 (!byTxt w)) }).objs.size:=by
          rw [Heap.size_push]; exact Nat.ne_of_lt (Nat.lt_succ_of_lt hlS)
        have hSf:s.heap.objs.size∉[(s.heap.push { cls:=.type "set",dict:=none,data:=.set #[] 0 (.fresh 0 0 (!byTxt w)) }).objs.size,l]:=by
          rw [Heap.size_push]; simp only [List.mem_cons,List.mem_singleton,List.not_mem_nil,or_false,not_or]
          exact ⟨Nat.ne_of_lt (Nat.lt_succ_self _),Nat.ne_of_gt hlS⟩
        have hlt:∀ e∈Tp,e.1 < s.heap.objs.size:=fun e he=>by
          obtain ⟨o,_,_,ho,_⟩:=hP e he
          exact Heap.lt_size ho
        have hsz:items.size=Tp.length:=by rw [← Array.length_toList,hi,List.length_map]
        refine update_pairs (R:=_) ((Walks.list hh3 _ l hneI items).toS) s.heap.objs.size hSf ?hu (!byTxt w) Tp hsz.symm (fun i v hv=>?hval) (fun e he=>⟨Nat.ne_of_lt (hlt e he),?hw⟩) lo nd (by omega) (items.size - 0) 0 _ #[] (by omega) (Nat.zero_le _)
          ⟨⟨_,Heap.get?_push_size _ rfl,rfl,rfl⟩,(hl1.push _)⟩ (fun e he=>isPr_at (hP e he) fun o x=>Heap.get?_push_of_some _ (Heap.get?_push_of_some _ x)) ?hS0 (List.Perm.refl _) ?hR
        case hu=>simp only [Around.in1_units]; omega
        case hval =>
          have e1:items.toList[i]? = some v:=by rw [Array.getElem?_toList]; exact hv
          rw [hi,List.getElem?_map] at e1
          cases g:Tp[i]? with
          | none=>rw [g] at e1; cases e1
          | some e=>rw [g] at e1; exact ⟨e,rfl,(Option.some.inj e1).symm⟩
        case hw =>
          rw [Heap.size_push]
          simp only [List.mem_singleton]
          exact Nat.ne_of_lt (Nat.lt_succ_of_lt (hlt e he))
        case hS0 =>
          exact ⟨_,0,_,Heap.get?_push_of_some _ hS,⟨rfl,rfl,rfl⟩,rfl,Good.fresh 0 0 _,rfl,rfl⟩
        case hR =>
          intro s' es' hm hS' hp'
          obtain ⟨h',g',d',tk',os'⟩:=s'
          have eg:g'=s.gens:=hm.gens
          have ed:d'=s.drawn:=hm.drawn
          have eo:os'=s.os:=hm.os
          subst eg; subst ed; subst eo
          show wpAny _ _ _ _ _ _
          refine wpAny_pure ?_
          show wpAny _ _ (ret Value.none) _ _ _
          refine wpAny_pure ⟨rfl,h',tk',es',rfl,hS',hp',fun b o hb e=>?_⟩
          have hb1:b≠s.heap.objs.size:=Nat.ne_of_lt hb
          have hb2:b≠(s.heap.push { cls:=.type "set",dict:=none,data:=.set #[] 0 (.fresh 0 0 (!byTxt w)) }).objs.size:=by
            rw [Heap.size_push]; exact Nat.ne_of_lt (Nat.lt_succ_of_lt hb)
          exact hm.heap b o (by simp only [List.mem_cons,List.mem_singleton,List.not_mem_nil,or_false,not_or]; exact ⟨hb1,hb2⟩) (Heap.get?_push_of_some _ (Heap.get?_push_of_some _ e))
      · cases r₂ with
        | error e=>exact hr₂
        | ok fl₂ =>
          cases fl₂ with
          | ret r =>
            obtain ⟨rfl,h',tk,es,rfl,hS',hp',hk'⟩:=hr₂
            repeat (any_goals (first | assumption | wp_step))
            exact h _ _ _ hS' hp' hk'
          | _=>exact hr₂.elim
    | _=>exact hr.elim
end
end Sx
set_option Elab.async false
set_option linter.all false
set_option maxRecDepth 100000
set_option maxHeartbeats 4000000
namespace Sx
open PySem PyProof.Rows
section
variable {prog:Program} {w:World} {A:Around} {E:Value→Shared→Prop} {s:Shared}
theorem hint_set {a:Addr} {o:Obj} {Q:Bool→Shared→Prop} (ho:s.heap.get? a=some o) (hc:o.cls = .type "set") (q:Q false s):wpAny (model prog w) A (Builtin.List.listLengthHint (.ref a)) Q E s:=by
  have hT:s.TypeIs (.ref a) "set":=⟨o,ho,hc⟩
  unfold Builtin.List.listLengthHint
  refine wpAny_bind (wpAny_specialOf hT F.slot_set_len.lookup ?_)
  generalize hid:("set.__len__" : String)=id0
  wp_delta
  rw [show splitId id0=some ("set","__len__") from by subst hid; decide +kernel]
  subst hid
  refine wpAny_bind (wpAny_isInstance (T:="set") (b:=true) hT (by rw [isSubtype_type]; kernel_rfl) ?_)
  refine wpAny_ite_split (fun hab=>absurd hab (by decide)) (fun _=>?_)
  refine wpAny_ite_split (fun _=>?_) (fun hab=>absurd (by decide +kernel) hab)
  refine wpAny_bind (wpAny_typeOf hT (wpAny_pure ?_))
  exact q
theorem collect_set {a:Addr} {o:Obj} {es:Array (Int × Value)} {ep:Nat} {t:SetTable} {Q:List Value→Shared→Prop} (hh:A.handled=none) (ho:s.heap.get? a=some o) (hex:o.ExactSet) (hd:o.data = .set es ep t) (T:Tab t es.size) (pl:t.plain=true) (ld:t.led = !byTxt w) (h64:es.size≤64)
    (q:∀ h' tk,(∀ b o,s.heap.get? b=some o→h'.get? b=some o)→Q ((wk w a ep es).toList.map (·.2)) { s with heap:=h',toks:=tk }):wpAny (model prog w) A (collect (.ref a)) Q E s:=by
  have lta:a < s.heap.objs.size:=Heap.lt_size ho
  have hz:es.size≤sizeLine:=by rw [sizeLine_eq]; omega
  unfold collect
  refine wpAny_bind (wpAny_runValue (codeAny_builtin F.entry_proto_collect ?_))
  rw [Around.under_plainId F.plain_proto_collect _]
  show wpAny _ A.in1 (newList [] >>= fun l=>again (.builtin "list.__iadd__" ⟨[l,.ref a],[]⟩)) _ _ s
  refine wpAny_bind (wpAny_newObj_type ?_)
  refine wpAny_pure ⟨plainId_quiet F.plain_list_iadd _,codeAny_builtin F.entry_list_iadd ?_⟩
  rw [Around.under_plainId F.plain_list_iadd _]
  have ho1:(s.heap.push { cls:=.type "list",data:=.seq ([]:List Value).toArray }).get? a=some o:=Heap.get?_push_of_some _ ho
  have hS1:(s.heap.push { cls:=.type "list",data:=.seq ([]:List Value).toArray }).get? s.heap.objs.size=some { cls:=.type "list",data:=.seq ([]:List Value).toArray }:=Heap.get?_push_size _ rfl
  have sz1:(s.heap.push { cls:=.type "list",data:=.seq ([]:List Value).toArray }).objs.size=s.heap.objs.size+1:=Heap.size_push ..
  have keep1:∀ b o,s.heap.get? b=some o→(s.heap.push { cls:=.type "list",data:=.seq ([]:List Value).toArray }).get? b=some o:=fun b o e=>Heap.get?_push_of_some _ e
  show wpAny _ A.in1 (Builtin.List.listExtendWith (.ref s.heap.objs.size) (.ref a) (.ref s.heap.objs.size)) _ _ _
  generalize s.heap.push { cls:=.type "list",data:=.seq ([]:List Value).toArray }=h1 at ho1 hS1 sz1 keep1 ⊢
  unfold Builtin.List.listExtendWith
  refine wpAny_bind (wpAny_typeOf (T:="set") ⟨o,ho1,hex.1⟩ ?_)
  have e1:Builtin.List.listSameRef (.ref s.heap.objs.size) (.ref a)=false:=by simp [Builtin.List.listSameRef]; exact Nat.ne_of_gt lta
  have e2:(Value.type "set" == Value.type "list")=false:=by decide
  have e3:(Value.type "set" == Value.type "tuple")=false:=by decide
  simp only [e1,e2,e3,Bool.or_false,Bool.false_eq_true,if_false]
  refine wpAny_bind (iter_set (s:={ s with heap:=h1 }) ho1 hex hd T pl ?_)
  have hI:(h1.push { cls:=.type "set_iterator",dict:=none,data:=.fields #[rawInt 0,rawInt 0,.ref a,rawInt es.size,rawInt ep],slots:=#[] }).get? h1.objs.size=some _:=Heap.get?_push_size _ rfl
  have up:∀ b o,h1.get? b=some o→(h1.push { cls:=.type "set_iterator",dict:=none,data:=.fields #[rawInt 0,rawInt 0,.ref a,rawInt es.size,rawInt ep],slots:=#[] }).get? b=some o:=fun b o e=>Heap.get?_push_of_some _ e
  have sz2:(h1.push { cls:=.type "set_iterator",dict:=none,data:=.fields #[rawInt 0,rawInt 0,.ref a,rawInt es.size,rawInt ep],slots:=#[] }).objs.size=h1.objs.size+1:=Heap.size_push ..
  have ho2:=up _ _ ho1
  have hS2:=up _ _ hS1
  show wpAny _ A.in1 (holding [.ref h1.objs.size] (Builtin.List.listLengthHint (.ref a)) >>= _) _ _ { s with heap:=h1.push { cls:=.type "set_iterator",dict:=none,data:=.fields #[rawInt 0,rawInt 0,.ref a,rawInt es.size,rawInt ep],slots:=#[] } }
  generalize h1.push { cls:=.type "set_iterator",dict:=none,data:=.fields #[rawInt 0,rawInt 0,.ref a,rawInt es.size,rawInt ep],slots:=#[] }=h2 at hI up sz2 ho2 hS2 ⊢
  refine wpAny_bind (wpAny_holding (hint_set (s:={ s with heap:=h2 }) ho2 hex.1 ?_))
  have nSI:s.heap.objs.size≠h1.objs.size:=by rw [sz1]; exact Nat.ne_of_lt (Nat.lt_succ_self _)
  have naI:a≠h1.objs.size:=by rw [sz1]; exact Nat.ne_of_lt (Nat.lt_succ_of_lt lta)
  have naS:a≠s.heap.objs.size:=Nat.ne_of_lt lta
  have W:=(walks_set (prog:=prog) (w:=w) (A:=A.in1) hh h1.objs.size a naI es ep t T pl ld).toS
  have key:∀ (h:Heap) (c:Nat) (tk:Nat),SetOn w h h1.objs.size a es ep t 0→(∀ b o,b≠s.heap.objs.size→h2.get? b=some o→h.get? b=some o)→h.get? s.heap.objs.size=some { cls:=.type "list",data:=.seq #[] c } →
      codeAny (model prog w) A (.builtin "list.extend.loop" ⟨[.ref s.heap.objs.size,.ref h1.objs.size,.ref s.heap.objs.size],[]⟩) (fun r s'=>match r with | .ok (.ret v)=>wpAny (model prog w) A (match v with | .ref a=>(load a >>= fun o=>match o.data with | .seq xs _=>pure xs.toList | _=>unsupported "internal:collect") | _=>unsupported "internal:collect") Q E s' | .ok _=>False | .error e=>E e s') { s with heap:=h,toks:=tk }:=by
    intro h c tk on kp hS
    refine codeAny_extend_loopS W hz s.heap.objs.size (by simp only [List.mem_cons,List.not_mem_nil,or_false,not_or]; exact ⟨nSI,Ne.symm naS⟩) _ es.size 0 _ #[] c rfl (Nat.zero_le _) on hS (ItemsOf.nil _) fun s' acc' c' hm hS' hacc=>?_
    rw [Moved.eq_with hm]
    show wpAny _ A (load s.heap.objs.size >>= _) _ _ _
    refine wpAny_bind (wpAny_load hS' (wpAny_pure ?_))
    have ea:acc'.toList=(wk w a ep es).toList.map (·.2):=by
      refine List.ext_getElem? fun j=>?_
      by_cases hj:j < es.size
      · have lj:j < acc'.size:=by rw [hacc.1]; exact hj
        have g:=hacc.2 j acc'[j] (Array.getElem?_eq_getElem lj)
        obtain ⟨e,he,ev⟩:=g
        rw [Array.getElem?_toList,Array.getElem?_eq_getElem lj,List.getElem?_map,Array.getElem?_toList,he,ev]
        rfl
      · rw [List.getElem?_eq_none (by rw [Array.length_toList,hacc.1]; omega),List.getElem?_eq_none (by rw [List.length_map,Array.length_toList,wk_size]; omega)]
    rw [ea]
    refine q _ _ fun b o e=>?_
    have lb:=Heap.lt_size e
    exact hm.heap b o (by simp only [List.mem_cons,List.not_mem_nil,or_false,not_or]; exact ⟨Nat.ne_of_lt lb,by rw [sz1]; exact Nat.ne_of_lt (Nat.lt_succ_of_lt lb)⟩) (kp b o (Nat.ne_of_lt lb) (up b o (keep1 b o e)))
  have on2:SetOn w h2 h1.objs.size a es ep t 0:=⟨⟨0,hI,fun _=>below_zero _ T.ris⟩,o,ho2,hd⟩
  refine wpAny_ite_split (fun _=>?_) (fun _=>wpAny_pure ⟨plainId_quiet F.plain_extend_loop _,key h2 0 _ on2 (fun b o _ e=>e) hS2⟩)
  refine wpAny_bind (wpAny_rule ?_)
  refine wpAny_bind ?_
  show wpAny _ _ (updateSeq s.heap.objs.size (·.push .none) >>= fun _=>updateSeq s.heap.objs.size (·.pop)) _ _ _
  have hS3:=Heap.get?_update_self (Obj.mapSeq (·.push Value.none)) hS2 rfl
  have hS4:=Heap.get?_update_self (Obj.mapSeq (·.pop)) hS3 rfl
  have oth:∀ b o,b≠s.heap.objs.size→h2.get? b=some o→((h2.update s.heap.objs.size (Obj.mapSeq (·.push Value.none))).update s.heap.objs.size (Obj.mapSeq (·.pop))).get? b=some o:=fun b o hb e=>(Heap.get?_update_other _ _ (Ne.symm hb)).trans ((Heap.get?_update_other _ _ (Ne.symm hb)).trans e)
  refine wpAny_bind (wpAny_updateSeq (s:={ s with heap:=h2 }) hS2 rfl (wpAny_updateSeq hS3 rfl (wpAny_pure ⟨plainId_quiet F.plain_extend_loop _,key _ _ _ ⟨⟨0,oth _ _ (Ne.symm nSI) hI,fun _=>below_zero _ T.ris⟩,o,oth _ _ naS ho2,hd⟩ oth hS4⟩) (by show 1≤sizeLine; rw [sizeLine_eq]; omega) (by show 0≤_; exact Nat.zero_le _)) (Nat.zero_le _) (by show 1≤_; rw [sizeLine_eq]; omega))
end
end Sx
namespace Ck
open PySem L2 Sx
theorem perm_map_inv {α β:Type} {f:α→β} {L M:List β} (h:L.Perm M):∀ T:List α,M=T.map f→∃ T':List α,T'.Perm T∧L=T'.map f:=by
  induction h with
  | nil=>intro T e; exact ⟨T,.refl _,e⟩
  | @cons x l1 l2 _ ih =>
    intro T e
    cases T with
    | nil=>cases e
    | cons a T =>
      rw [List.map_cons,List.cons.injEq] at e
      obtain ⟨T',p,e'⟩:=ih T e.2
      exact ⟨a::T',.cons a p,by rw [List.map_cons,← e',← e.1]⟩
  | @swap x y l =>
    intro T e
    match T,e with
    | a::b::T,e =>
      simp only [List.map_cons,List.cons.injEq] at e
      exact ⟨b::a::T,.swap a b T,by simp only [List.map_cons,← e.1,← e.2.1,← e.2.2]⟩
  | trans _ _ ih1 ih2 =>
    intro T e
    obtain ⟨T1,p1,e1⟩:=ih2 T e
    obtain ⟨T2,p2,e2⟩:=ih1 T1 e1
    exact ⟨T2,p2.trans p1,e2⟩
end Ck
namespace L2
open PySem PySem.Spec PyProof.Rows Ck Sx
section
variable {X:Cx}
theorem places_of {pins:List (Addr × Obj)} {σ:St} {H:Hp} {s:Shared} (I:Inv X pins σ H s):∀ {us:List V} {ps:List Pair} {vs:List Value},Prs H us ps→Vals us vs →
    ∃ Tp:List (Addr × Pair),us=Tp.map (fun e=>V.ref e.1)∧vs=Tp.map (fun e=>Value.ref e.1)∧Tp.map (·.2)=ps∧∀ e∈Tp,H e.1=some (.tup [.int e.2.1,.int e.2.2])∧IsPr X.prog X.w s.heap e.1 e.2
  | _,_,_,.nil,.nil=>⟨[],rfl,rfl,rfl,fun e h=>by cases h⟩
  | _,_,_,.cons (b:=p) r t,.cons rv tv=>by
    obtain ⟨a,rfl,ha⟩:=r
    cases rv
    obtain ⟨Tp,e1,e2,e3,e4⟩:=places_of I t tv
    obtain ⟨its,r',tu,_⟩:=I.tuple (SqT.of ha)
    refine ⟨(a,p)::Tp,by rw [e1]; rfl,by rw [e2]; rfl,by rw [← e3]; rfl,fun e he=>?_⟩
    rcases List.mem_cons.mp he with rfl | he
    · refine ⟨ha,?_⟩
      cases r' with
      | cons x1 r2 =>
        cases r2 with
        | cons x2 r3 =>
          cases r3
          obtain ⟨t1,rfl⟩:=x1
          obtain ⟨t2,rfl⟩:=x2
          obtain ⟨o,ho,hc,n,hd⟩:=tu
          exact isPr_of ho hc hd
    · exact e4 e he
theorem bb_setP:bootBuiltins "set" = some (.type "set"):=by decide +kernel
theorem prv_places {h:Heap} {prog:Program} {w:World}:∀ {Tp:List (Addr × Pair)},(∀ e∈Tp,IsPr prog w h e.1 e.2)→PrV h (Tp.map fun e=>Value.ref e.1) (Tp.map (·.2))
  | [],_=>.nil
  | e::Tp,hP=>by
    refine .cons ?_ (prv_places fun f hf=>hP f (List.mem_cons_of_mem _ hf))
    obtain ⟨o,items,n,ho,hc,hd,hi⟩:=hP e (List.mem_cons_self ..)
    obtain ⟨t,u,ei⟩:=items_two hi
    have ea:items = #[.int e.2.1 t,.int e.2.2 u]:=by
      cases items
      simp only at ei
      rw [ei]
    subst ea
    exact ⟨e.1,t,u,rfl,o,ho,hc,n,hd⟩
noncomputable def tSS (ta:TA):TE:=fun σ H Q=>ta σ H fun vs H1=>∃ (l:Addr) (ps:List Pair),vs=[.ref l]∧PLs H1 l ps∧ps.Nodup∧(∀ p∈ps,Lo p)∧ps.length < 64 ∧
  ∀ (q:Addr) (qs:List Pair) (H':Hp),Same H1 H'→H1 q=none→PLs H' q qs→qs.Perm ps→qs.Pairwise leP→Q (.ref q) H'
theorem pe_sortset {a:Expr} {ta:TA} {p p2 pos pos2:Pos} (hc:X.calm=true) (hu:X.A.units+100 < cLine) (hgl:Gl X "sorted") (hml:X.mg "sorted" = none) (hg:Gl X "set") (hm:X.mg "set" = none) (ha:PA X [a] ta) (hs:starEach [a] X.env=[(false,eval a X.env)]:=by rfl)
    (he:starEach [.Call (.Name "set" p) [a] [] pos] X.env=[(false,eval (.Call (.Name "set" p) [a] [] pos) X.env)]:=by rfl) :
    PE X (.Call (.Name "sorted" p2) [.Call (.Name "set" p) [a] [] pos] [] pos2) (tSS ta):=by
  intro pins s σ H Q I h
  refine wpAny_Call_Name_kw (ld_blt I hgl hml bb_sorted ?_ (by decide) (by decide))
  refine PyProof.Rows.callWith_builtin1 ?_ he rfl
  rw [he]
  show wpAny _ _ (spliced ((false,eval (.Call (.Name "set" p) [a] [] pos) X.env)::backTo pos2 [])) _ _ s
  refine Calls.spliced_cons (Call_ (ld_blt I hg hm bb_setP (PyProof.Rows.callWith_type1 (thn (ha pos pins s σ H _ I h) fun us s1 ⟨vs,H1,I1,r1,q1⟩=>?_) hs rfl)))
  obtain ⟨l,ps,e,⟨ws,hl,pr⟩,nd,lo,h64,q⟩:=q1
  subst e
  obtain ⟨u,rfl,ru⟩:=vals1 r1
  cases ru
  obtain ⟨its,r',pl,hz⟩:=I1.list (SqL.of hl)
  obtain ⟨Tp,e1,e2,e3,e4⟩:=places_of I1 pr r'
  have lT:Tp.length=ps.length:=by rw [← e3,List.length_map]
  refine call_set_pairs (I.ok.hd hc) (show X.A.units+10 < cLine by omega) pl.isList (Tp:=Tp) (by simpa using e2) (fun e he=>(e4 e he).2) (fun e he=>lo e.2 (by rw [← e3]; exact List.mem_map.mpr ⟨e,he,rfl⟩)) (by rw [e3]; exact nd) (by omega) fun h' tk es S pm kp=>Calls.spliced_nil ?_
  obtain ⟨o,ep,t,ho,hex,hd,G,ld,plain⟩:=S.at_
  have les:es.size=Tp.length:=by rw [← Array.length_toList,pm.length_eq,List.length_map]
  refine Calls.call_function_entry kind_sorted plain_sorted entry_sorted (args_sorted1 _) ?_
  unfold Builtin.«sorted»
  refine wpAny_bind (m:=checkCount "sorted" 1 1 _) (wpAny_pure (wpAny_bind (collect_set (s:={ s1 with heap:=h',toks:=tk }) (A:=X.A.in1) (I.ok.hd hc) ho hex hd G.tab plain ld (by omega) fun h2 tk2 kp2=>?_)))
  obtain ⟨Tq,pq,eq⟩:=perm_map_inv ((wk_perm X.w s1.heap.objs.size ep es).trans pm) Tp rfl
  have ev:(wk X.w s1.heap.objs.size ep es).toList.map (·.2)=Tq.map fun e=>Value.ref e.1:=by
    rw [eq,List.map_map]
    rfl
  rw [ev]
  have lq:Tq.length=Tp.length:=pq.length_eq
  have lv:(Tq.map fun e=>Value.ref e.1).length=Tq.length:=List.length_map _
  have keep:∀ b o,s1.heap.get? b=some o→h2.get? b=some o:=fun b o e=>kp2 b o (kp b o (Heap.lt_size e) e)
  refine wpAny_bind (wpAny_newList ?_ (by rw [lv,sizeLine_eq]; omega))
  have hoL:(h2.push (seqObj "list" (Tq.map fun e=>Value.ref e.1).toArray 0)).get? h2.objs.size=some (seqObj "list" (Tq.map fun e=>Value.ref e.1).toArray 0):=Heap.get?_push_size _ rfl
  have up:∀ b o,h2.get? b=some o→(h2.push (seqObj "list" (Tq.map fun e=>Value.ref e.1).toArray 0)).get? b=some o:=fun b o e=>Heap.get?_push_of_some _ e
  show wpAny _ _ _ _ _ { s1 with heap:=h2.push (seqObj "list" (Tq.map fun e=>Value.ref e.1).toArray 0),toks:=tk2 }
  have hPq:∀ e∈Tq,IsPr X.prog X.w s1.heap e.1 e.2:=fun e he=>(e4 e (pq.mem_iff.mp he)).2
  have pv:=prv_places hPq
  have hz2:s1.heap.objs.size≤h2.objs.size:=Nat.le_of_lt (Heap.lt_size (kp2 _ _ ho))
  refine wpAny_bind (wpAny_holding (wpAny_call_entry slot_list_sort ⟨_,hoL,rfl⟩ entry_list_sort (sort_ask (s:={ s1 with heap:=h2.push (seqObj "list" (Tq.map fun e=>Value.ref e.1).toArray 0),toks:=tk2 }) (ordP (Tq.map (·.2))) hoL (by rw [lv]; omega)
    (fun h6 old h2'=>asksP (s1:={ s1 with heap:=h6,toks:=tk2 }) (pv.mono fun b o e=>old b o (fun z=>by
      have lt:=Heap.lt_size (keep b o e)
      rw [z] at lt
      exact Nat.lt_irrefl _ lt) (up b o (keep b o e))) h2') fun g ok ri=>⟨_,rfl,?_⟩) (args_list_sort _)))
  refine wpAny_pure ⟨_,rfl,?_⟩
  obtain ⟨e,hat⟩:=sortedHeap_at (out:=(outOf (Tq.map fun e=>Value.ref e.1) g).toArray) hoL
  have hb:∀ i∈g.toList,i < Tq.length:=fun i hi=>by
    have:=List.mem_range.mp (ok.mem_iff.mp hi)
    rwa [lv] at this
  have lg:g.toList.length=Tq.length:=by rw [ok.length_eq,List.length_range,lv]
  have rq:Vals (Tq.map fun e=>V.ref e.1) (Tq.map fun e=>Value.ref e.1):=by
    clear hoL up hPq pv eq ev pq lq lv ok ri hat hb lg
    induction Tq with
    | nil=>exact .nil
    | cons a T ih=>exact .cons rfl ih
  have prq:Prs H1 (Tq.map fun e=>V.ref e.1) (Tq.map (·.2)):=by
    have all:∀ e∈Tq,H1 e.1=some (.tup [.int e.2.1,.int e.2.2]):=fun e he=>(e4 e (pq.mem_iff.mp he)).1
    clear hoL up hPq pv eq ev pq lq lv ok ri hat hb lg rq
    induction Tq with
    | nil=>exact .nil
    | cons a T ih=>exact .cons ⟨a.1,rfl,all a (List.mem_cons_self ..)⟩ (ih fun e he=>all e (List.mem_cons_of_mem _ he))
  have vs2:Vals (g.toList.map fun i=>(Tq.map fun e=>V.ref e.1).getD i V.non) (outOf (Tq.map fun e=>Value.ref e.1) g):=pairs_take rq V.non Value.none g.toList (fun i hi=>by rw [List.length_map]; exact hb i hi)
  have pr2:Prs H1 (g.toList.map fun i=>(Tq.map fun e=>V.ref e.1).getD i V.non) (g.toList.map fun i=>(Tq.map (·.2)).getD i (0,0)):=pairs_take prq V.non (0,0) g.toList (fun i hi=>by rw [List.length_map]; exact hb i hi)
  have fr:H1 h2.objs.size=none:=I1.hok.fresh hz2
  have sz2:(g.toList.map fun i=>(Tq.map fun e=>V.ref e.1).getD i V.non).length≤sizeLine:=by rw [List.length_map,lg]; exact sz (by omega)
  refine ⟨.ref h2.objs.size,_,I1.laid (t':=tk2) (o:=.lst (g.toList.map fun i=>(Tq.map fun e=>V.ref e.1).getD i V.non)) (fun b u x=>?_) hz2 ⟨sz2,outOf (Tq.map fun e=>Value.ref e.1) g,e,vs2,by simpa [seqObj] using hat⟩,rfl,?_⟩
  · have lt:=Heap.lt_size (keep b u x)
    rw [sortedHeap_old (Nat.ne_of_lt lt) (Heap.lt_size (up b u (keep b u x)))]
    exact up b u (keep b u x)
  have pmq:(Tq.map (·.2)).Perm ps:=by rw [← e3]; exact pq.map _
  refine q _ _ _ (Same.new (Same.refl H1) fr _) fr ⟨_,upd_same,pr2.updN fr _⟩ ((take_perm (0,0) (Tq.map (·.2)) (by rw [List.length_map,← lv]; exact ok)).trans pmq) ?_
  rw [List.pairwise_map]
  have gs:g.size=Tq.length:=by rw [← lg]; simp
  refine List.pairwise_iff_getElem.mpr fun i j hi hj hij=>?_
  have:=ri i j (by omega) (by rw [lv,← gs]; simpa using hj)
  rw [ltP_no] at this
  unfold gA at this
  simpa [show i < g.size by simpa using hi,show j < g.size by simpa using hj] using this
end
end L2
set_option Elab.async false
set_option linter.all false
set_option maxRecDepth 100000
set_option maxHeartbeats 4000000
namespace Lg
open PySem PyProof.Rows
section
variable {prog:Program} {w:World} {A:Around} {E:Value→Shared→Prop} {s:Shared}
end
noncomputable abbrev key (p:Keyed):Int:=numOf p.1
variable {a b out:Array Keyed} {ia ib:Nat}
section
variable {prog:Program} {w:World} {A:Around} {E:Value→Shared→Prop} {s:Shared}
end
variable {na nb:Nat}
section
variable {prog:Program} {w:World} {A:Around} {E:Value→Shared→Prop} {s:Shared}
end
section
variable {prog:Program} {w:World} {A:Around} {E:Value→Shared→Prop} {s:Shared}
end
section
variable {prog:Program} {w:World} {A:Around} {E:Value→Shared→Prop} {s:Shared} {a₀:Array Keyed} {P:Array (Nat × Nat × Nat)}
end
section
variable {prog:Program} {w:World} {A:Around} {E:Value→Shared→Prop} {s:Shared} {a₀:Array Keyed} {P:Array (Nat × Nat × Nat)}
end
section
variable {prog:Program} {w:World} {A:Around} {E:Value→Shared→Prop} {s:Shared} {a₀:Array Keyed}
end
section
variable {prog:Program} {w:World} {A:Around} {E:Value→Shared→Prop} {s:Shared}
end
end Lg
namespace L2
open PySem PySem.Spec PyProof.Rows
end L2
set_option Elab.async false
set_option linter.all false
set_option maxRecDepth 100000
set_option maxHeartbeats 4000000
namespace L2
open PySem PySem.Spec PyProof.Rows
section
variable {X:Cx} {tg:Expr}
end
section
variable {X:Cx} {a b c d:Expr} {ta tb tc td:TE} {pos:Pos}
noncomputable def tCh3 (r1 r2 r3:R2) (ta tb tc td:TE):TE:=fun σ H Q=>ta σ H fun x H1=>tb σ H1 fun y H2=>r1 x y H2 fun z H3=>∃ k,z = .bl k ∧
  (if k=true then tc σ H3 fun w' H4=>r2 y w' H4 fun z' H5=>∃ k',z' = .bl k'∧(if k'=true then td σ H5 fun v' H6=>r3 w' v' H6 Q else Q (.bl false) H5) else Q (.bl false) H3)
theorem pt_ch3 {o1 o2 o3:CmpOp} {r1 r2 r3:R2} (h1:OpR X (compareOp o1) r1) (h2:OpR X (compareOp o2) r2) (h3:OpR X (compareOp o3) r3) (ha:PE X a ta) (hb:PE X b tb) (hc:PE X c tc) (hd:PE X d td)
    (hm:lastMarks [o1,o2,o3] [b,c,d]=false:=by with_unfolding_all rfl):PT X (.Compare a [o1,o2,o3] [b,c,d] pos) (tTest (tCh3 r1 r2 r3 ta tb tc td)):=by
  intro pins s σ H Q I h
  refine isTrue_chain (thn (ha pins s σ H _ I h) fun v s1 ⟨x,H1,I1,x1,q1⟩=>test_link (thn (hb pins s1 σ H1 _ I1 q1) fun u s2 ⟨y,H2,I2,x2,q2⟩ =>
    thn (h1 pins s2 σ H2 x y v u _ I2 x1 x2 q2) fun e s3 ⟨z,H3,I3,x3,k,ek,q3⟩=>?_)) hm
  subst ek
  cases x3
  refine wpAny_truthy_bool ?_
  cases k with
  | false =>
    obtain ⟨k',e',q'⟩:=q3
    cases e'
    exact ite_ff ⟨H3,I3,q'⟩
  | true =>
    refine ite_tt (test_link (thn (hc pins s3 σ H3 _ I3 q3) fun w' s4 ⟨z',H4,I4,x4,q4⟩=>thn (h2 pins s4 σ H4 y z' u w' _ I4 x2 x4 q4) fun d' s5 ⟨z2,H5,I5,x5,k2,e2,q5⟩=>?_))
    subst e2
    cases x5
    refine wpAny_truthy_bool ?_
    cases k2 with
    | false =>
      obtain ⟨k',e',q'⟩:=q5
      cases e'
      exact ite_ff ⟨H5,I5,q'⟩
    | true =>
      refine ite_tt (test_last (thn (hd pins s5 σ H5 _ I5 q5) fun w2 s6 ⟨z3,H6,I6,x6,q6⟩=>thn (h3 pins s6 σ H6 z' z3 w' w2 _ I6 x4 x6 q6) fun d2 s7 ⟨z4,H7,I7,x7,k3,e3,q7⟩=>?_))
      subst e3
      cases x7
      exact wpAny_truthy_bool ⟨H7,I7,q7⟩
end
end L2
namespace Ck
open PySem L2
theorem EqD.prs {K:PySem.W.Frag} {H:Hp} {a b:Addr} {ps qs:List Pair} (ne:a≠b) (ha:PLs H a ps) (hb:PLs H b qs):EqD K H 2 (.ref a) (.ref b) (decide (ps=qs)):=by
  obtain ⟨xs,ea,lx,px⟩:=ha.len
  obtain ⟨ys,eb,ly,py⟩:=hb.len
  by_cases hl:ps.length=qs.length
  · have h:=EqD.lst (K:=K) (n:=1) (e:=fun j=>decide (ps.getD j (0,0)=qs.getD j (0,0))) ne (SqL.of ea) (SqL.of eb) (by omega) (fun j x y hx hy=>by
      obtain ⟨p,t,hp,rfl,ht⟩:=px.get hx
      obtain ⟨r,u,hr,rfl,hu⟩:=py.get hy
      rw [List.getD_eq_getElem?_getD,List.getD_eq_getElem?_getD,hp,hr]
      show EqD K H 1 _ _ (decide (p=r))
      by_cases e:t=u
      · subst e
        have:p=r:=by
          rw [ht] at hu
          injection hu with hu; injection hu with hu
          injection hu with h1 h2; injection h2 with h2 _
          injection h1 with h1; injection h2 with h2
          exact Prod.ext h1 h2
        rw [decide_eq_true this]
        exact EqD.same
      · have:=EqD.two (K:=K) (n:=0) e ht hu
        have e2:decide (p=r)=(decide (p.1=r.1)&&decide (p.2=r.2)):=by
          rw [Bool.eq_iff_iff,Bool.and_eq_true,decide_eq_true_iff,decide_eq_true_iff,decide_eq_true_iff]
          exact ⟨fun z=>by rw [z]; exact ⟨rfl,rfl⟩,fun z=>Prod.ext z.1 z.2⟩
        rw [e2]
        exact this)
    have e:(List.range xs.length).all (fun j=>decide (ps.getD j (0,0)=qs.getD j (0,0)))=decide (ps=qs):=by
      rw [Bool.eq_iff_iff,List.all_eq_true,decide_eq_true_iff]
      constructor
      · intro h
        refine List.ext_getElem hl fun k h1 h2=>?_
        have:=of_decide_eq_true (h k (List.mem_range.mpr (by omega)))
        rw [List.getD_eq_getElem?_getD,List.getD_eq_getElem?_getD,List.getElem?_eq_getElem h1,List.getElem?_eq_getElem h2] at this
        exact this
      · intro h k _
        rw [h]
        exact decide_eq_true rfl
    rw [e] at h
    exact h
  · have:decide (ps=qs)=false:=decide_eq_false fun z=>hl (by rw [z])
    rw [this]
    exact EqD.lstN ne (SqL.of ea) (SqL.of eb) (by omega)
end Ck
namespace Ck
open PySem L2
noncomputable def crsP (p r:Pair):Bool:=decide (p.1 < r.1)&&(decide (r.1 < p.2)&&decide (p.2 < r.2))
noncomputable def crossB (ps:List Pair):Bool:=ps.any fun p=>ps.any (crsP p)
theorem crossB_iff {ps:List Pair}:crossB ps=true↔∃ p∈ps,∃ r∈ps,p.1 < r.1∧r.1 < p.2∧p.2 < r.2:=by
  unfold crossB
  rw [List.any_eq_true]
  constructor
  · rintro ⟨p,hp,h⟩
    obtain ⟨r,hr,h⟩:=List.any_eq_true.mp h
    unfold crsP at h
    exact ⟨p,hp,r,hr,by simpa using h⟩
  · rintro ⟨p,hp,r,hr,h⟩
    exact ⟨p,hp,List.any_eq_true.mpr ⟨r,hr,by unfold crsP; simpa using h⟩⟩
end Ck
set_option Elab.async false
set_option linter.all false
set_option maxRecDepth 100000
set_option maxHeartbeats 4000000
namespace Ck
open PySem L2
noncomputable def Crs (p q:Pair):Prop:=p.1 < q.1∧q.1 < p.2∧p.2 < q.2
noncomputable def NC (ps:List Pair):Prop:=∀ p∈ps,∀ q∈ps,¬ Crs p q
theorem nc_cross {ps:List Pair}:crossB ps=false↔NC ps:=by
  constructor
  · intro h p hp q hq c
    have:crossB ps=true:=crossB_iff.mpr ⟨p,hp,q,hq,c.1,c.2.1,c.2.2⟩
    rw [h] at this
    cases this
  · intro h
    cases e:crossB ps with
    | false=>rfl
    | true =>
      obtain ⟨p,hp,q,hq,c⟩:=crossB_iff.mp e
      exact absurd c (h p hp q hq)
noncomputable def Ct (c:Int) (p:Pair):Prop:=0≤p.1∧p.1+1 < p.2∧p.2 < c∧¬ (p.1=0∧p.2=c - 1)
structure IsFl (c:Int) (ps:List Pair):Prop where
  c2:2≤c
  len:(ps.length:Int)=if c - 3 > 0 then c - 3 else 0
  ct:∀ p∈ps,Ct c p
  nc:NC ps
  nd:ps.Nodup
  ris:ps.Pairwise leP
noncomputable def nm (x y:Int):Pair:=if x < y then (x,y) else (y,x)
end Ck
set_option Elab.async false
set_option linter.all false
set_option maxRecDepth 100000
set_option maxHeartbeats 4000000
namespace Ck
open PySem L2
noncomputable def one (n k:Nat):Nat:=if 0 < k∧0 < n then 1 else 0
end Ck
set_option Elab.async false
set_option linter.all false
set_option maxRecDepth 100000
set_option maxHeartbeats 4000000
namespace L2
open PySem PySem.Spec PyProof.Rows
section
variable {X:Cx} {f:Addr} {fd:FuncData} {ps:List Str} {sp:Sp} {x:Str} {p pos:Pos} {a b e:Expr} {es:List Expr} {tc:TE} {t:TA} {j k:Nat}
noncomputable def tCallV (f:Addr) (sp:Sp) (E:XK) (tc:TE) (t:TA):TE:=fun σ H Q=>tc σ H fun v H1=>v = .ref f∧t σ H1 fun vs H2=>sp vs H2 Q E
end
end L2
namespace L2
open PySem PySem.Spec PyProof.Rows
section
variable {κ:Type} [DecidableEq κ]
noncomputable def valV (kvs:List (κ × V)) (k:κ):Option V:=(kvs.find? fun kv=>decide (kv.1=k)).map (·.2)
noncomputable def putK (kvs:List (κ × V)) (k:κ) (v:V):List (κ × V) :=
  if (kvs.any fun kv=>decide (kv.1=k))=true then kvs.map (fun kv=>if kv.1=k then (kv.1,v) else kv) else kvs++[(k,v)]
theorem valV_pos {p:κ × V} {r:List (κ × V)} {k:κ} (e:p.1=k):valV (p::r) k=some p.2:=by simp [valV,List.find?_cons,e]
theorem valV_neg {p:κ × V} {r:List (κ × V)} {k:κ} (e:¬ p.1=k):valV (p::r) k=valV r k:=by simp [valV,List.find?_cons,e]
theorem valV_any (k:κ):∀ kvs:List (κ × V),(kvs.any fun kv=>decide (kv.1=k))=(valV kvs k).isSome
  | []=>rfl
  | p::r=>by
    rw [List.any_cons]
    by_cases e:p.1=k
    · simp only [valV_pos e,decide_eq_true e,Bool.true_or,Option.isSome_some]
    · rw [valV_neg e,decide_eq_false e,Bool.false_or]; exact valV_any k r
theorem length_putK (kvs:List (κ × V)) (k:κ) (v:V):(putK kvs k v).length≤kvs.length+1:=by
  unfold putK
  split
  · rw [List.length_map]; omega
  · rw [List.length_append,List.length_cons,List.length_nil]; omega
theorem putK_new {kvs:List (κ × V)} {k:κ} (v:V) (h:valV kvs k=none):putK kvs k v=kvs++[(k,v)]:=by
  unfold putK
  rw [valV_any,h]
  exact if_neg (by decide)
theorem RelO.isSome_eq {o:Option V} {u:Option Value} (r:RelO o u):o.isSome=u.isSome:=by
  cases o with
  | none=>cases u with
    | none=>rfl
    | some _=>exact (show False from r).elim
  | some _=>cases u with
    | none=>exact (show False from r).elim
    | some _=>rfl
theorem KV.val {kvs:List (κ × V)} {vs:List (κ × Value)} (r:KV kvs vs) (k:κ):RelO (valV kvs k) (valueAt vs k):=by
  unfold KV at r
  induction r with
  | nil=>exact True.intro
  | @cons p q ps qs h t ih =>
    obtain ⟨h1,h2⟩:=h
    by_cases e:p.1=k
    · have e':q.1=k:=h1.symm.trans e
      have b:valueAt (q::qs) k=some q.2:=by simp [valueAt,List.find?_cons,e']
      rw [valV_pos e,b]; exact h2
    · have e':¬ q.1=k:=fun z=>e (h1.trans z)
      have b:valueAt (q::qs) k=valueAt qs k:=by simp [valueAt,List.find?_cons,e']
      rw [valV_neg e,b]; exact ih
theorem KV.any {kvs:List (κ × V)} {vs:List (κ × Value)} (r:KV kvs vs) (k:κ):(kvs.any fun kv=>decide (kv.1=k))=vs.any fun kv=>decide (kv.1=k):=by
  unfold KV at r
  induction r with
  | nil=>rfl
  | cons h t ih=>rw [List.any_cons,List.any_cons,ih,h.1]
theorem KV.repl {kvs:List (κ × V)} {vs:List (κ × Value)} (r:KV kvs vs) (k:κ) {y:V} {u:Value} (ry:RelV y u) :
    KV (kvs.map fun kv=>if kv.1=k then (kv.1,y) else kv) (vs.map fun kv=>if kv.1=k then (kv.1,u) else kv):=by
  unfold KV at r ⊢
  induction r with
  | nil=>exact .nil
  | @cons p q ps qs h t ih =>
    rw [List.map_cons,List.map_cons]
    refine .cons ?_ ih
    obtain ⟨h1,h2⟩:=h
    by_cases e:p.1=k
    · rw [if_pos e,if_pos (h1.symm.trans e)]; exact ⟨h1,ry⟩
    · rw [if_neg e,if_neg (fun z=>e (h1.trans z))]; exact ⟨h1,h2⟩
theorem KV.put {kvs:List (κ × V)} {vs:List (κ × Value)} (r:KV kvs vs) (k:κ) {y:V} {u:Value} (ry:RelV y u):KV (putK kvs k y) (stored vs k u):=by
  unfold putK stored
  rw [r.any k]
  by_cases e:(vs.any fun kv=>decide (kv.1=k))=true
  · rw [if_pos e,if_pos e]; exact r.repl k ry
  · rw [if_neg e,if_neg e]; exact Paired.snoc r ⟨rfl,ry⟩
theorem KV.length {kvs:List (κ × V)} {vs:List (κ × Value)} (r:KV kvs vs):kvs.length=vs.length:=Paired.length r
end
theorem kV_is {P:Program} {w:World} {k:Key} {u:Value} (r:RelV (kV k) u):(mixKind P w).is k u=true:=by
  cases k with
  | inl i=>obtain ⟨t,e⟩:=(show ∃ t,u=Value.int i t from r); subst e; exact mixKind_int P w i t
  | inr x=>obtain ⟨t,e⟩:=(show ∃ t,u=Value.str x t from r); subst e; exact mixKind_str P w x t
theorem items_are {P:Program} {w:World}:∀ {ks:List Key} {us:List Value},Vals (ks.map kV) us→ItemsAre (mixKind P w) ks us
  | [],_,r=>by rw [List.map_nil] at r; cases r; exact .nil
  | k::ks,_,r=>by
    rw [List.map_cons] at r
    cases r with
    | cons h t=>exact .cons (kV_is h) (items_are t)
noncomputable abbrev KT (H:Hp):List (List Key × V)→List (List Key × Addr × Value)→Prop:=Paired fun p q=>p.1=q.1∧H q.2.1=some (.tup (p.1.map kV))∧RelV p.2 q.2.2
theorem KT.val {H:Hp} {kvs:List (List Key × V)} {xs:List (List Key × Addr × Value)} (r:KT H kvs xs) (k:List Key):RelO (valV kvs k) ((atKey xs k).map (·.2)):=by
  induction r with
  | nil=>exact True.intro
  | @cons p q ps qs h t ih =>
    obtain ⟨h1,_,h2⟩:=h
    by_cases e:p.1=k
    · have e':q.1=k:=h1.symm.trans e
      have b:atKey (q::qs) k=some q.2:=by simp [atKey,List.find?_cons,e']
      rw [valV_pos e,b]; exact h2
    · have e':¬ q.1=k:=fun z=>e (h1.trans z)
      have b:atKey (q::qs) k=atKey qs k:=by simp [atKey,List.find?_cons,e']
      rw [valV_neg e,b]; exact ih
theorem KT.repl {H:Hp} {kvs:List (List Key × V)} {xs:List (List Key × Addr × Value)} (r:KT H kvs xs) (k:List Key) {y:V} {u:Value} (ry:RelV y u) :
    KT H (kvs.map fun kv=>if kv.1=k then (kv.1,y) else kv) (xs.map (putAt k u)):=by
  induction r with
  | nil=>exact .nil
  | @cons p q ps qs h t ih =>
    rw [List.map_cons,List.map_cons]
    refine .cons ?_ ih
    obtain ⟨h1,h2,h3⟩:=h
    unfold putAt
    by_cases e:p.1=k
    · rw [if_pos e,if_pos (h1.symm.trans e)]; exact ⟨h1,h2,ry⟩
    · rw [if_neg e,if_neg (fun z=>e (h1.trans z))]; exact ⟨h1,h2,h3⟩
theorem KT.put {H:Hp} {kvs:List (List Key × V)} {xs:List (List Key × Addr × Value)} (r:KT H kvs xs) (k:List Key) {b:Addr} {y:V} {u:Value} (hb:H b=some (.tup (k.map kV))) (ry:RelV y u) :
    KT H (putK kvs k y) (storedH xs k b u):=by
  have e:(kvs.any fun kv=>decide (kv.1=k))=(atKey xs k).isSome:=by
    rw [valV_any,(r.val k).isSome_eq,Option.isSome_map]
  unfold putK storedH
  rw [e]
  by_cases q:(atKey xs k).isSome=true
  · rw [if_pos q,if_pos q]; exact r.repl k ry
  · rw [if_neg q,if_neg q]; exact Paired.snoc r ⟨rfl,hb,ry⟩
theorem KT.keeps {H H':Hp} {kvs:List (List Key × V)} {xs:List (List Key × Addr × Value)} (r:KT H kvs xs) (ht:∀ b ys,H b=some (.tup ys)→H' b=some (.tup ys)):KT H' kvs xs :=
  Paired.mapP r fun _ _ z=>⟨z.1,ht _ _ z.2.1,z.2.2⟩
section
variable {P:Program} {w:World} {H:Hp} {h:Heap} {a:Addr}
theorem rd_of {u:HO} (ok:HOk P w H h) (e:Rd H a u):ObjOk P w H h a u:=e.ok ok
theorem dk_rd {kvs:List (Key × V)} (ok:HOk P w H h) (e:Rd H a (.dK kvs)):kvs.length≤sizeLine∧(a == sysModules)=false∧∃ vs,KV kvs vs∧h.DictOf (mixKind P w) a vs :=
  show ObjOk P w H h a (.dK kvs) from rd_of ok e
theorem dk_of {kvs:List (Key × V)} (ok:HOk P w H h) (e:H a=some (.dK kvs)):kvs.length≤sizeLine∧(a == sysModules)=false∧∃ vs,KV kvs vs∧h.DictOf (mixKind P w) a vs:=dk_rd ok (.inl e)
theorem key_of {ks:List Key} (ok:HOk P w H h) (e:H a=some (.tup (ks.map kV))):(tupleKind (mixKind P w)).is h ks a:=by
  obtain ⟨_,its,r,o,h1,h2,n,h3⟩:=(show ObjOk P w H h a (.tup (ks.map kV)) from ok a _ e)
  exact ⟨o,its.toArray,n,h1,h2,h3,by simpa using items_are r⟩
theorem dt_rd {kvs:List (List Key × V)} (ok:HOk P w H h) (e:Rd H a (.dT kvs)):kvs.length≤sizeLine∧(a == sysModules)=false ∧
    ∃ xs,KT H kvs xs∧h.DictOfH (tupleKind (mixKind P w)) a xs:=by
  obtain ⟨z,y,xs,r,o,es,ep,h1,h2,h3,h4,h5⟩:=(show ObjOk P w H h a (.dT kvs) from rd_of ok e)
  refine ⟨z,y,xs,r,o,es,ep,h1,h2,h3,h4,fun x hx=>?_,h5⟩
  have all:∀ {l:List (List Key × V)} {m:List (List Key × Addr × Value)},KT H l m→∀ x∈m,(tupleKind (mixKind P w)).is h x.1 x.2.1:=by
    intro l m q
    induction q with
    | nil=>intro x hx; exact nomatch hx
    | @cons p q ps qs hq t ih =>
      intro x hx
      rcases List.mem_cons.mp hx with e | hx
      · subst e
        exact key_of ok (by rw [← hq.1]; exact hq.2.1)
      · exact ih x hx
  exact all r x hx
theorem dt_of {kvs:List (List Key × V)} (ok:HOk P w H h) (e:H a=some (.dT kvs)):kvs.length≤sizeLine∧(a == sysModules)=false ∧
    ∃ xs,KT H kvs xs∧h.DictOfH (tupleKind (mixKind P w)) a xs:=dt_rd ok (.inl e)
end
noncomputable def DGet (H:Hp) (a:Addr) (y:V) (r:Option V):Prop :=
  (∃ kvs k,Rd H a (.dK kvs)∧y=kV k∧r=valV kvs k)∨∃ kvs k b,Rd H a (.dT kvs)∧y = .ref b∧H b=some (.tup (k.map kV))∧r=valV kvs k
noncomputable def DPut (H:Hp) (a:Addr) (y v:V) (H':Hp):Prop :=
  (∃ kvs k,H a=some (.dK kvs)∧y=kV k∧kvs.length < sizeLine∧H'=upd H a (.dK (putK kvs k v))) ∨
  ∃ kvs k b,H a=some (.dT kvs)∧y = .ref b∧H b=some (.tup (k.map kV))∧kvs.length < sizeLine∧H'=upd H a (.dT (putK kvs k v))
theorem DGet.k {H:Hp} {a:Addr} {kvs:List (Key × V)} {k:Key} (e:H a=some (.dK kvs)):DGet H a (kV k) (valV kvs k):=.inl ⟨kvs,k,.inl e,rfl,rfl⟩
theorem DGet.t {H:Hp} {a b:Addr} {kvs:List (List Key × V)} {k:List Key} (e:H a=some (.dT kvs)) (eb:H b=some (.tup (k.map kV))):DGet H a (.ref b) (valV kvs k):=.inr ⟨kvs,k,b,.inl e,rfl,eb,rfl⟩
theorem DPut.t {H:Hp} {a b:Addr} {kvs:List (List Key × V)} {k:List Key} {v:V} (e:H a=some (.dT kvs)) (eb:H b=some (.tup (k.map kV))) (hl:kvs.length < sizeLine) :
    DPut H a (.ref b) v (upd H a (.dT (putK kvs k v))):=.inr ⟨kvs,k,b,e,rfl,eb,hl,rfl⟩
section
variable {X:Cx} {pins:List (Addr × Obj)} {σ:St} {H:Hp} {s:Shared} {a:Addr} {y v:V} {u r:Value} {o:Option V} {A:Around} {E:Value→Shared→Prop}
theorem Inv.big (I:Inv X pins σ H s):sysModules < s.heap.objs.size:=by
  have h:mainGlobals < s.heap.objs.size:=(I.mod.glob.keeps I.bk).lt
  exact Nat.lt_trans (by decide) h
theorem d_getItem {Q:Value→Shared→Prop} (hu:A.units+1 < cLine) (I:Inv X pins σ H s) (g:DGet H a y (some v)) (ry:RelV y u) (h:∀ w' s',Inv X pins σ H s'→RelV v w'→Q w' s') :
    wpAny (model X.prog X.w) A (getItem (.ref a) u) Q E s:=by
  rcases g with ⟨kvs,k,e,ey,l⟩ | ⟨kvs,k,b,e,ey,eb,l⟩
  · subst ey
    obtain ⟨z,hd,vs,rel,dd⟩:=dk_rd I.hok e
    obtain ⟨w',hw,rw'⟩:=RelO.some_of (v:=v) (o:=valueAt vs k) (by rw [l]; exact rel.val k)
    exact wpAny_getItem_of (kV_is ry) dd.mapOf hw (h w' _ (I.tok _) rw')
  · subst ey
    cases (show u=Value.ref b from ry)
    obtain ⟨z,hd,xs,rel,dd⟩:=dt_rd I.hok e
    obtain ⟨w',hw,rw'⟩:=RelO.some_of (v:=v) (o:=(atKey xs k).map (·.2)) (by rw [l]; exact rel.val k)
    obtain ⟨p,hp,hp2⟩:=Option.map_eq_some_iff.mp hw
    refine wpAny_getItem_heap (tupleKind_room_in1 hu) (key_of I.hok eb) dd hp ?_
    rw [hp2]
    exact h w' _ (I.tok _) rw'
theorem d_in {Q:Value→Shared→Prop} (hu:A.units+1 < cLine) (I:Inv X pins σ H s) (g:DGet H a y o) (ry:RelV y u) (h:∀ s',Inv X pins σ H s'→Q (.bool o.isSome) s') :
    wpAny (model X.prog X.w) A (compareOp .In u (.ref a)) Q E s:=by
  rcases g with ⟨kvs,k,e,ey,l⟩ | ⟨kvs,k,b,e,ey,eb,l⟩
  · subst ey
    obtain ⟨z,hd,vs,rel,dd⟩:=dk_rd I.hok e
    refine wpAny_in_of (kV_is ry) hd dd.mapOf ?_
    rw [← (rel.val k).isSome_eq,← l]
    exact h _ (I.tok _)
  · subst ey
    cases (show u=Value.ref b from ry)
    obtain ⟨z,hd,xs,rel,dd⟩:=dt_rd I.hok e
    refine wpAny_in_heap (tupleKind_room_in1 hu) (key_of I.hok eb) hd dd ?_
    have q:=(rel.val k).isSome_eq
    rw [Option.isSome_map] at q
    rw [← q,← l]
    exact h _ (I.tok _)
theorem d_write {h':Heap} {t':Nat} {ob:HO} (I:Inv X pins σ H s) (mu:Mut (H a)) (hs:Heap.SameBut a s.heap h') (he:∃ q,h'.get? a=some q) (new:ObjOk X.prog X.w (upd H a ob) h' a ob) :
    Inv X pins σ (upd H a ob) { s with heap:=h',toks:=t' } :=
  I.write (x:=a) (e:=a) mu (.inl rfl) (fun b q hb z=>(hs.2 b hb).trans z) he new
theorem dk_new {P:Program} {w:World} {H':Hp} {h':Heap} {kvs:List (Key × V)} {vs:List (Key × Value)} (z:kvs.length≤sizeLine) (hd:(a == sysModules)=false) (rel:KV kvs vs) (dd:h'.DictOf (mixKind P w) a vs) :
    ObjOk P w H' h' a (.dK kvs):=⟨z,hd,vs,rel,dd⟩
theorem d_setItem {H':Hp} {Q:Unit→Shared→Prop} (hu:A.units+1 < cLine) (I:Inv X pins σ H s) (g:DPut H a y v H') (ry:RelV y u) (rv:RelV v r) (h:∀ s',Inv X pins σ H' s'→Q () s') :
    wpAny (model X.prog X.w) A (setItem (.ref a) u r) Q E s:=by
  rcases g with ⟨kvs,k,e,ey,l,eH⟩ | ⟨kvs,k,b,e,ey,eb,l,eH⟩
  · subst ey eH
    obtain ⟨z,hd,vs,rel,dd⟩:=dk_of I.hok e
    have hz:vs.length≤sizeLine:=by rw [← rel.length]; exact z
    have hl:(putK kvs k v).length≤sizeLine:=by have:=length_putK kvs k v; omega
    refine wpAny_setItem_pairs (hsz:=hz) (kV_is ry) dd fun h' dd' hs=>h _ ?_
    have he:∃ q,h'.get? a=some q:=let ⟨q,_,_,hq,_⟩:=dd'; ⟨q,hq⟩
    exact d_write I (by rw [e]; exact True.intro) hs he (dk_new hl hd (rel.put k rv) dd')
  · subst ey eH
    cases (show u=Value.ref b from ry)
    obtain ⟨z,hd,xs,rel,dd⟩:=dt_of I.hok e
    have hz:xs.length≤sizeLine:=by rw [← Paired.length rel]; exact z
    have hl:(putK kvs k v).length≤sizeLine:=by have:=length_putK kvs k v; omega
    refine wpAny_setItem_heap (hsz:=hz) (tupleKind_room_in1 hu) (key_of I.hok eb) dd fun h' dd' hs=>h _ ?_
    obtain ⟨q,es,ep,hq,h2,h3,h4,_,h5⟩:=dd'
    refine d_write I (by rw [e]; exact True.intro) hs ⟨q,hq⟩ ⟨hl,hd,_,(rel.put k eb rv).keeps fun c ys ec=>?_,q,es,ep,hq,h2,h3,h4,h5⟩
    rw [upd_ne (ne_of ec e (fun z=>nomatch z))]
    exact ec
end
section
variable {X:Cx} {pins:List (Addr × Obj)} {σ:St} {H:Hp} {s:Shared} {a:Addr} {kvs:List (Key × V)} {k:Key} {u:Value} {A:Around} {E:Value→Shared→Prop}
end
noncomputable def NoSl (i:Expr):Prop:=∀ ov iv,subscripted i false ov iv=operate [ov,iv] (getItem ov iv)
theorem subD_of {prog:Program} {w:World} {A:Around} {E:Value→Shared→Prop} {s:Shared} {env:Env} {value slice:Expr} {pos:Pos} {T id:String} {Q:Value→Shared→Prop}
    (hl:typeLookup (.type T) "__getitem__" = pure (some (.builtin id))) (hs:NoSl slice)
    (h:wpAny (model prog w) A (eval value env) (fun o s₁=>wpAny (model prog w) A (eval slice env) (fun i s₂=>s₂.TypeIs o T∧wpAny (model prog w) A (getItem o i) Q E s₂) E s₁) E s) :
    wpAny (model prog w) A (eval (.Subscript value slice pos) env) Q E s:=by
  refine Subscript_ (wpAny_mono h (fun o s₁ h₁=>wpAny_mono h₁ (fun i s₂ h₂=>?_) fun _ _ x=>x) fun _ _ x=>x)
  obtain ⟨hT,h₂⟩:=h₂
  unfold subscriptTail
  refine wpAny_bind ?_
  rw [getitemInPython_of_ne hT.not_modules]
  refine wpAny_bind (wpAny_specialOf hT hl ?_)
  have fin:wpAny (model prog w) A (subscripted slice false o i) (fun r s₃=>wpAny (model prog w) A (letTemporaryGo value o r >>= fun _=>pure r) Q E s₃) E s₂:=by
    rw [hs o i]
    exact wpAny_operating (wpAny_mono h₂ (fun r s₃ h₃=>wpAny_bind (wpAny_letTemporaryGo (wpAny_pure h₃))) fun _ _ x=>x)
  first
    | exact wpAny_pure (wpAny_bind fin)
    | exact wpAny_bind (wpAny_pure (wpAny_bind fin))
    | exact wpAny_bind fin
theorem dict_typeIs {X:Cx} {pins:List (Addr × Obj)} {σ:St} {H:Hp} {s:Shared} {a:Addr} {y:V} {o:Option V} (I:Inv X pins σ H s) (g:DGet H a y o):s.TypeIs (.ref a) "dict":=by
  rcases g with ⟨kvs,k,e,_,_⟩ | ⟨kvs,k,b,e,_,_,_⟩
  · obtain ⟨_,_,vs,_,dd⟩:=dk_rd I.hok e
    exact dd.typeIs
  · obtain ⟨_,_,xs,_,dd⟩:=dt_rd I.hok e
    exact dd.typeIs
noncomputable def tDGet (td ty:TE):TE:=fun σ H Q=>td σ H fun x H1=>ty σ H1 fun y H2=>∃ a v,x = .ref a∧DGet H2 a y (some v)∧Q v H2
noncomputable def tDIn (ty td:TE):TE:=fun σ H Q=>ty σ H fun y H1=>td σ H1 fun x H2=>∃ a o,x = .ref a∧DGet H2 a y o∧Q (.bl o.isSome) H2
noncomputable def sDPut (td ty tv:TE):TS:=fun D σ H=>tv σ H fun v H1=>td σ H1 fun x H2=>ty σ H2 fun y H3=>∃ a H4,x = .ref a∧DPut H3 a y v H4∧D.nx σ H4
section
variable {X:Cx} {o i e value:Expr} {pos pos' tpos:Pos} {td ty tv:TE}
theorem pe_dget (hu:X.A.units+1 < cLine) (ho:PE X o td) (hi:PE X i ty) (hs:NoSl i):PE X (.Subscript o i pos) (tDGet td ty):=by
  intro pins s σ H Q I h
  refine subD_of PySem.F.slot_dict_getitem.lookup hs (thn (ho pins s σ H _ I h) fun u s1 ⟨x,H1,I1,rx,q1⟩=>thn (hi pins s1 σ H1 _ I1 q1) fun iv s2 ⟨y,H2,I2,ry,a,v,ex,g,q2⟩=>?_)
  subst ex
  obtain rfl:u=Value.ref a:=rx
  exact ⟨dict_typeIs I2 g,d_getItem hu I2 g ry fun w' s3 I3 rw'=>⟨v,H2,I3,rw',q2⟩⟩
theorem pc_din (hu:X.A.units+1 < cLine) (hi:PE X i ty) (ho:PE X o td):PC X .In i o (tDIn ty td):=by
  intro pins s σ H Q I h
  refine thn (hi pins s σ H _ I h) fun iv s1 ⟨y,H1,I1,ry,q1⟩=>thn (ho pins s1 σ H1 _ I1 q1) fun u s2 ⟨x,H2,I2,rx,a,ov,ex,g,q2⟩=>?_
  subst ex
  obtain rfl:u=Value.ref a:=rx
  exact d_in hu I2 g ry fun s3 I3=>⟨.bl ov.isSome,H2,I3,rfl,q2⟩
theorem ps_dput (hu:X.A.units+1 < cLine) (ho:PE X o td) (hi:PE X i ty) (hv:PE X value tv) (hs:swapsWith value (some (.Subscript o i pos')) pos.line X.env=pure false) :
    PS X (.Assign [.Subscript o i pos'] value pos) (sDPut td ty tv):=by
  intro pins s σ H D I h
  refine wpAny_Assign_Subscript (thn (hv pins s σ H _ I h) fun r s1 ⟨v,H1,I1,rv,q1⟩=>thn (ho pins s1 σ H1 _ I1 q1) fun u s2 ⟨x,H2,I2,rx,q2⟩=>thn (hi pins s2 σ H2 _ I2 q2) fun iv s3 ⟨y,H3,I3,ry,a,H4,ex,g,q3⟩=>?_) hs
  subst ex
  obtain rfl:u=Value.ref a:=rx
  exact d_setItem hu I3 g ry rv fun s4 I4=>⟨σ,H4,I4,q3⟩
end
theorem dk_empty {P:Program} {w:World} {H:Hp} (h:Heap) (hb:sysModules < h.objs.size):ObjOk P w H (h.push { cls:=.type "dict",data:=.dict #[] }) h.objs.size (.dK []) :=
  ⟨Nat.zero_le _,beq_eq_false_iff_ne.mpr (Ne.symm (Nat.ne_of_lt hb)),[],.nil,Heap.DictOf.new h⟩
theorem dt_empty {P:Program} {w:World} {H:Hp} (h:Heap) (hb:sysModules < h.objs.size):ObjOk P w H (h.push { cls:=.type "dict",data:=.dict #[] }) h.objs.size (.dT []) :=
  ⟨Nat.zero_le _,beq_eq_false_iff_ne.mpr (Ne.symm (Nat.ne_of_lt hb)),[],.nil,_,#[],0,Heap.get?_push_size _ rfl,⟨rfl,rfl,rfl⟩,rfl,rfl,List.nodup_nil⟩
noncomputable def tDNewT:TE:=fun _ H Q=>∀ p,H p=none→Q (.ref p) (upd H p (.dT []))
section
variable {X:Cx} {pos:Pos}
theorem pe_dnewT:PE X (.Dict [] [] pos) tDNewT:=fun pins s σ H Q I h =>
  wpAny_Dict_empty ⟨.ref s.heap.objs.size,_,I.laid (a:=s.heap.objs.size) (o:=.dT []) (t':=s.toks) (fun _ _ q=>Heap.get?_push_of_some _ q) (Nat.le_refl _) (dt_empty s.heap I.big),rfl,h _ (I.hok.fresh (Nat.le_refl _))⟩
end
noncomputable def tPairs:List (TE × TE)→St→Hp→(List (V × V)→Hp→Prop)→Prop
  | [],_,H,Q=>Q [] H
  | (tk,tv)::r,σ,H,Q=>tk σ H fun x H1=>tv σ H1 fun y H2=>tPairs r σ H2 fun ps H3=>Q ((x,y)::ps) H3
noncomputable abbrev VV:List (V × V)→List (Value × Value)→Prop:=Paired fun p q=>RelV p.1 q.1∧RelV p.2 q.2
noncomputable def PPs (X:Cx) (pos:Pos) (keys:List (Option Expr)) (values:List Expr) (trs:List (TE × TE)):Prop :=
  ∀ (pins:List (Addr × Obj)) (s:Shared) (σ:St) (H:Hp) (Q:List (V × V)→Hp→Prop),Inv X pins σ H s→tPairs trs σ H Q →
    wpAny (model X.prog X.w) X.A (evalPairs (pairTrees keys values X.env pos)) (fun vs s'=>∃ ps H',Inv X pins σ H' s'∧VV ps vs∧Q ps H') X.xe s
theorem pps_nil {X:Cx} {pos:Pos}:PPs X pos [] [] []:=fun pins s σ H Q I h=>pairTrees_nil_walk ⟨[],H,I,.nil,h⟩
theorem pps_cons {X:Cx} {pos:Pos} {k v:Expr} {ks:List (Option Expr)} {vs:List Expr} {tk tv:TE} {trs:List (TE × TE)} (hk:PE X k tk) (hv:PE X v tv) (hr:PPs X pos ks vs trs) :
    PPs X pos (some k::ks) (v::vs) ((tk,tv)::trs):=fun pins s σ H Q I h =>
  pairTrees_cons_walk (thn (hk pins s σ H _ I h) fun u s1 ⟨x,H1,I1,rx,q1⟩=>thn (hv pins s1 σ H1 _ I1 q1) fun w2 s2 ⟨y,H2,I2,ry,q2⟩ =>
    thn (hr pins s2 σ H2 _ I2 q2) fun ws s3 ⟨ps,H3,I3,rel,q3⟩=>⟨(x,y)::ps,H3,I3,.cons ⟨rx,ry⟩ rel,q3⟩)
noncomputable def mergeK (kvs more:List (Key × V)):List (Key × V):=more.foldl (fun acc kv=>putK acc kv.1 kv.2) kvs
theorem KV.merge:∀ {more:List (Key × V)} {rs:List (Key × Value)} {kvs:List (Key × V)} {vs:List (Key × Value)},KV more rs→KV kvs vs→KV (mergeK kvs more) (merged vs rs):=by
  intro more rs kvs vs r
  unfold KV at r
  induction r generalizing kvs vs with
  | nil=>intro q; exact q
  | @cons p q ps qs h t ih =>
    intro r0
    have e:KV (putK kvs p.1 p.2) (stored vs q.1 q.2):=by
      have:=r0.put p.1 h.2
      rw [← h.1]; exact this
    exact ih e
theorem length_mergeK:∀ (more kvs:List (Key × V)),(mergeK kvs more).length≤kvs.length+more.length
  | [],kvs=>by show kvs.length≤kvs.length+0; omega
  | p::r,kvs=>by
    have h1:=length_mergeK r (putK kvs p.1 p.2)
    have h2:=length_putK kvs p.1 p.2
    show (mergeK (putK kvs p.1 p.2) r).length≤_
    rw [List.length_cons]; omega
theorem carries_of {P:Program} {w:World}:∀ {kvs:List (Key × V)} {ws:List (Value × Value)},VV (kvs.map fun kv=>(kV kv.1,kv.2)) ws→∃ rs,Carries (mixKind P w) ws rs∧KV kvs rs
  | [],_,r=>by rw [List.map_nil] at r; cases r; exact ⟨[],True.intro,.nil⟩
  | p::kvs,_,r=>by
    rw [List.map_cons] at r
    cases r with
    | @cons a b as bs h t =>
      obtain ⟨rs,c,q⟩:=carries_of (P:=P) (w:=w) t
      obtain ⟨b1,b2⟩:=b
      exact ⟨(p.1,b2)::rs,⟨kV_is h.1,rfl,c⟩,.cons ⟨rfl,h.2⟩ q⟩
noncomputable def tDisp (trs:List (TE × TE)):TE:=fun σ H Q=>∀ p,H p=none→tPairs trs σ (upd H p (.dK [])) fun ps H2=>H2 p=some (.dK [])∧∃ kvs:List (Key × V),ps=kvs.map (fun kv=>(kV kv.1,kv.2))∧kvs.length≤15∧Q (.ref p) (upd H2 p (.dK (mergeK [] kvs)))
theorem pe_disp {X:Cx} {pos:Pos} {keys:List (Option Expr)} {values:List Expr} {trs:List (TE × TE)} (h:PPs X pos keys values trs) (hall:keys.all (·.isSome)=true) (hl:keys.length=values.length) (h0:keys≠[])
    (h15:keys.length≤15):PE X (.Dict keys values pos) (tDisp trs):=by
  intro pins s σ H Q I q
  have hn:=I.hok.fresh (Nat.le_refl s.heap.objs.size)
  have I1:=I.laid (a:=s.heap.objs.size) (o:=.dK []) (h':=s.heap.push { cls:=.type "dict",data:=.dict #[] }) (t':=s.toks) (fun _ _ q=>Heap.get?_push_of_some _ q) (Nat.le_refl _) (dk_empty s.heap I.big)
  refine wpAny_Dict_walk (knd:=mixKind X.prog X.w) hall hl h0 h15 (thn (h pins _ σ _ _ I1 (q _ hn)) fun ws s2 ⟨ps,H2,I2,rel,e,kvs,ep,lk,q2⟩=>?_)
  subst ep
  obtain ⟨rs,c,rk⟩:=carries_of (P:=X.prog) (w:=X.w) rel
  obtain ⟨z,hd,vs0,r0,dd⟩:=dk_of I2.hok e
  cases r0
  refine ⟨rs,c,dd,fun h' dd' hs=>⟨.ref s.heap.objs.size,_,?_,rfl,q2⟩⟩
  have hz:(mergeK [] kvs).length≤sizeLine:=by
    have h1:=length_mergeK kvs []
    rw [List.length_nil] at h1
    rw [sizeLine_eq]; omega
  have he:∃ q,h'.get? s.heap.objs.size=some q:=let ⟨q,_,_,hq,_⟩:=dd'; ⟨q,hq⟩
  exact d_write I2 (by rw [e]; exact True.intro) hs he (dk_new hz hd (rk.merge .nil) dd')
section
variable {X:Cx} {pins:List (Addr × Obj)} {σ:St} {H:Hp} {s:Shared} {a:Addr} {y d:V} {u r:Value} {o:Option V} {A:Around} {E:Value→Shared→Prop}
end
section
variable {X:Cx} {o e f:Expr} {apos cpos:Pos} {td ty tx:TE}
end
section
variable {X:Cx} {pins:List (Addr × Obj)} {σ:St} {H:Hp} {s:Shared} {a:Addr} {kvs:List (Key × V)} {A:Around} {E:Value→Shared→Prop}
end
section
variable {X:Cx} {pins:List (Addr × Obj)} {σ:St} {H:Hp} {s:Shared} {a:Addr} {y:V} {u:Value} {A:Around} {E:Value→Shared→Prop}
end
end L2
namespace L2
open PySem PySem.Spec PyProof.Rows
section
variable {κ:Type} [DecidableEq κ]
theorem valV_in {kvs:List (κ × V)} {k:κ} {v:V} (h:valV kvs k=some v):k∈kvs.map (·.1):=by
  have q:(kvs.any fun kv=>decide (kv.1=k))=true:=by
    rw [valV_any,h]
    all_goals rfl
  obtain ⟨p,hp,e⟩:=List.any_eq_true.mp q
  exact List.mem_map.mpr ⟨p,hp,of_decide_eq_true e⟩
end
end L2
set_option Elab.async false
set_option linter.all false
set_option maxRecDepth 100000
set_option maxHeartbeats 4000000
namespace Dk
open PySem PyProof.Rows
section
variable {prog:Program} {w:World} {K:Type} [DecidableEq K] {knd:KeyKind prog w K} {A:Around} {E:Value→Shared→Prop} {s:Shared}
theorem hint_dict {d:Addr} {kvs:List (K × Value)} {Q:Bool→Shared→Prop} (hd:(d == sysModules)=false) (hm:s.heap.DictOf knd d kvs) (h:Q false s):wpAny (model prog w) A (Builtin.List.listLengthHint (.ref d)) Q E s:=by
  unfold Builtin.List.listLengthHint
  refine wpAny_bind (wpAny_specialOf hm.typeIs F.slot_dict_len.lookup ?_)
  generalize hid:("dict.__len__" : String)=id0
  wp_delta
  rw [show splitId id0=some ("dict","__len__") from by subst hid; decide +kernel]
  subst hid
  refine wpAny_bind (wpAny_isInstance (T:="dict") (b:=true) hm.typeIs (by rw [isSubtype_type]; kernel_rfl) ?_)
  refine wpAny_ite_split (fun hab=>absurd hab (by decide)) (fun _=>?_)
  refine wpAny_ite_split (fun _=>?_) (fun hab=>absurd (by decide +kernel) hab)
  refine wpAny_bind (wpAny_typeOf hm.typeIs (wpAny_pure ?_))
  exact h
theorem extend_dict {R:Result→Shared→Prop} {d:Addr} {kvs:List (K × Value)} (hh:A.handled=none) (hd:(d == sysModules)=false) (hm:s.heap.DictOf knd d kvs) (hlen:kvs.length≤2 ^ 24) (S:Addr) (res:Value) (c₀:Nat) (hS:s.heap.get? S=some { cls:=.type "list",data:=.seq #[] c₀ })
    (hR:∀ h' tk acc' c',(∀ b o,b≠S→s.heap.get? b=some o→h'.get? b=some o)→h'.get? S=some { cls:=.type "list",dict:=none,data:=.seq acc' c',slots:=#[] } →
      ItemsOf (fun i v=>∃ k x,kvs[i]? = some (k,x)∧knd.is k v=true) acc' kvs.length→R (.ok (.ret res)) { s with heap:=h',toks:=tk }) :
    wpAny (model prog w) A.in1 (Builtin.List.listExtendWith (.ref S) (.ref d) res)
      (fun fin s'=>match fin with | .done f=>R (.ok f) s' | .again c'=>c'.quiet=true∧codeAny (model prog w) A c' R s') (fun e s'=>R (.error e) s') s:=by
  obtain ⟨ep,hat⟩:=hm.dictAt
  have hT:=hm.typeIs
  have hSd:S≠d:=fun e=>by
    obtain ⟨o,es,ho,hc,hdt,_⟩:=hat
    rw [← e,hS] at ho
    cases ho
    cases hdt
  have hdlt:d < s.heap.objs.size:=hat.lt_size
  have hSlt:S < s.heap.objs.size:=Heap.lt_size hS
  have hSI:S≠s.heap.objs.size:=Nat.ne_of_lt hSlt
  have hdI:d≠s.heap.objs.size:=Nat.ne_of_lt hdlt
  have hSf:S∉[s.heap.objs.size,d]:=fun hm=>by
    rcases List.mem_cons.mp hm with h | h
    · exact hSI h
    · exact hSd (List.mem_singleton.mp h)
  have W:=(Walks.dictKeys (knd:=knd) (prog:=prog) (w:=w) (A:=A.in1) hh s.heap.objs.size d hdI kvs ep).toS
  have key:∀ (h:Heap) (c₁ tk:Nat),h.IsKeyIter s.heap.objs.size d 0 kvs.length ep→h.DictAt knd d kvs ep→(∀ b o,b≠S→s.heap.get? b=some o→h.get? b=some o) →
      h.get? S=some { cls:=.type "list",data:=.seq #[] c₁ }→codeAny (model prog w) A (.builtin "list.extend.loop" ⟨[.ref S,.ref s.heap.objs.size,res],[]⟩) R { s with heap:=h,toks:=tk }:=by
    intro h c₁ tk hit hda hk hS₁
    refine codeAny_extend_loopS W (by rw [sizeLine_eq]; omega) S hSf res kvs.length 0 _ #[] c₁ rfl (Nat.zero_le _) ⟨hit,hda⟩ hS₁ (ItemsOf.nil _) fun s' acc' c' hm hS' hacc=>?_
    rw [Moved.eq_with hm]
    refine hR s'.heap s'.toks acc' c' (fun b o hb e=>hm.heap b o (fun hmem=>?_) (hk b o hb e)) hS' hacc
    rcases List.mem_cons.mp hmem with e' | hmem
    · exact hb e'
    · exact absurd (Heap.lt_size e) (by rw [List.mem_singleton.mp hmem]; exact Nat.lt_irrefl _)
  unfold Builtin.List.listExtendWith
  refine wpAny_bind (wpAny_typeOf hT ?_)
  have h1:Builtin.List.listSameRef (.ref S) (.ref d)=false:=by simp [Builtin.List.listSameRef,hSd]
  have h2:(Value.type "dict" == Value.type "list")=false:=by decide
  have h3:(Value.type "dict" == Value.type "tuple")=false:=by decide
  simp only [h1,h2,h3,Bool.or_false,Bool.false_eq_true,if_false]
  refine wpAny_bind (wpAny_pyIter_dict hd hat ?_)
  have up:∀ b o,s.heap.get? b=some o→(s.heap.push { cls:=.type "dict_keyiterator",data:=.fields #[.ref d,.int 0 0,.int kvs.length 0,.int ep 0] }).get? b=some o:=fun b o e=>Heap.get?_push_of_some _ e
  refine wpAny_bind (wpAny_holding (hint_dict (knd:=knd) (kvs:=kvs) hd (hat.keep up).dictOf ?_))
  have hit₁:(s.heap.push { cls:=.type "dict_keyiterator",data:=.fields #[.ref d,.int 0 0,.int kvs.length 0,.int ep 0] }).IsKeyIter s.heap.objs.size d 0 kvs.length ep:=⟨_,Heap.get?_push_size _ rfl,rfl,rfl⟩
  have hS₁:=up _ _ hS
  refine wpAny_ite_split (fun _=>?_) (fun _=>wpAny_pure ⟨plainId_quiet F.plain_extend_loop _,key _ c₀ _ hit₁ (hat.keep up) (fun b o _ e=>up _ _ e) hS₁⟩)
  refine wpAny_bind (wpAny_rule ?_)
  refine wpAny_bind ?_
  show wpAny _ _ (updateSeq S (·.push .none) >>= fun _=>updateSeq S (·.pop)) _ _ _
  have hS₂:=Heap.get?_update_self (Obj.mapSeq (·.push Value.none)) hS₁ rfl
  have hS₃:=Heap.get?_update_self (Obj.mapSeq (·.pop)) hS₂ rfl
  refine wpAny_bind (wpAny_updateSeq hS₁ rfl (wpAny_updateSeq hS₂ rfl (wpAny_pure ⟨plainId_quiet F.plain_extend_loop _,key _ _ _ ?_ ?_ (fun b o hb e=>?_) hS₃⟩) (by show 1≤sizeLine; rw [sizeLine_eq]; omega) (by show 0≤_; exact Nat.zero_le _)) (Nat.zero_le _) (by show 1≤_; rw [sizeLine_eq]; omega))
  · exact hit₁.at fun o e=>(Heap.get?_update_other _ _ hSI).trans ((Heap.get?_update_other _ _ hSI).trans e)
  · exact (hat.keep up).at' fun o e=>(Heap.get?_update_other _ _ hSd).trans ((Heap.get?_update_other _ _ hSd).trans e)
  · exact (Heap.get?_update_other _ _ (Ne.symm hb)).trans ((Heap.get?_update_other _ _ (Ne.symm hb)).trans (up _ _ e))
theorem list_dict {Q:Value→Shared→Prop} {d:Addr} {kvs:List (K × Value)} (hh:A.handled=none) (hd:(d == sysModules)=false) (hm:s.heap.DictOf knd d kvs) (hlen:kvs.length≤2 ^ 24)
    (q:∀ h' tk acc' c',(∀ b o,s.heap.get? b=some o→h'.get? b=some o)→h'.get? s.heap.objs.size=some { cls:=.type "list",dict:=none,data:=.seq acc' c',slots:=#[] } →
      ItemsOf (fun i v=>∃ k x,kvs[i]? = some (k,x)∧knd.is k v=true) acc' kvs.length→Q (.ref s.heap.objs.size) { s with heap:=h',toks:=tk }) :
    wpAny (model prog w) A (call (.type "list") [.ref d]) Q E s:=by
  have far:∀ {c o},s.heap.get? c=some o→s.heap.objs.size≠c:=fun e=>Nat.ne_of_gt (Heap.lt_size e)
  refine callType_codes (Q₁:=fun T s1=>T = .ref s.heap.objs.size∧s1={ s with heap:=s.heap.push { cls:=.type "list",data:=.seq #[] } }) F.called_list (F.typeCall_list_1 _) F.entry_list_init (code_list_new _ ⟨rfl,rfl⟩) fun T s1 e1=>?_
  obtain ⟨rfl,rfl⟩:=e1
  have g0:(s.heap.push { cls:=.type "list",data:=.seq #[] }).get? s.heap.objs.size=some { cls:=.type "list",data:=.seq #[] }:=Heap.get?_push_size _ rfl
  have g1:=Heap.get?_update_self (Obj.mapSeq (fun _=>(#[]:Array Value))) g0 rfl
  have oth:∀ b o,s.heap.get? b=some o→((s.heap.push { cls:=.type "list",data:=.seq #[] }).update s.heap.objs.size (Obj.mapSeq (fun _=>(#[]:Array Value)))).get? b=some o:=fun b o e=>(Heap.get?_update_other _ _ (far e)).trans (Heap.get?_push_of_some _ e)
  refine ⟨⟨_,g0,rfl⟩,F.args_list_init_2 _ _,?_⟩
  show wpAny _ _ (do let was ← Builtin.List.listItems (.ref s.heap.objs.size); Builtin.List.listUpdate (.ref s.heap.objs.size) (fun _=>#[]); letGo was.toList.reverse; Builtin.List.listExtendWith (.ref s.heap.objs.size) (.ref d) .none) _ _ _
  refine wpAny_bind ?_
  unfold Builtin.List.listItems
  refine wpAny_bind (wpAny_seqItems g0 rfl (wpAny_pure ?_))
  show wpAny _ _ (updateSeq s.heap.objs.size (fun _=>#[]) >>= fun _=>letGo (#[]:Array Value).toList.reverse >>= fun _=>Builtin.List.listExtendWith (.ref s.heap.objs.size) (.ref d) .none) _ _ _
  refine wpAny_bind (wpAny_updateSeq g0 rfl (wpAny_bind (wpAny_letGo ?_)) (Nat.zero_le _) (Nat.zero_le _))
  obtain ⟨ep,hat⟩:=hm.dictAt
  exact extend_dict (s:={ s with heap:=(s.heap.push { cls:=.type "list",data:=.seq #[] }).update s.heap.objs.size (Obj.mapSeq (fun _=>(#[]:Array Value))) }) (A:=A.in1) hh hd (hat.keep oth).dictOf hlen _ _ _ g1
    fun h' tk acc' c' k e1 e2=>⟨rfl,q h' tk acc' c' (fun b o e=>k b o (Ne.symm (far e)) (oth b o e)) e1 e2⟩
end
end Dk
namespace L2
open PySem PySem.Spec PyProof.Rows
theorem kV_of {P:Program} {w:World} {k:Key} {u:Value} (r:(mixKind P w).is k u=true):RelV (kV k) u:=by
  rcases keyIs_shape r with ⟨i,t,rfl,rfl⟩ | ⟨x,t,rfl,rfl⟩
  · exact ⟨t,rfl⟩
  · exact ⟨t,rfl⟩
theorem keys_vals {P:Program} {w:World}:∀ {kvs:List (Key × V)} {vs:List (Key × Value)} {us:List Value},KV kvs vs→us.length=vs.length→(∀ (j:Nat) v,us[j]? = some v→∃ k x,vs[j]? = some (k,x)∧(mixKind P w).is k v=true)→Vals (kvs.map fun kv=>kV kv.1) us
  | [],_,us,.nil,hl,_=>by cases us with | nil=>exact .nil | cons _ _=>cases hl
  | p::kvs,q::vs,us,.cons h r,hl,hk=>by
    cases us with
    | nil=>cases hl
    | cons u us =>
      refine .cons ?_ (keys_vals r (by simpa using hl) fun j v e=>hk (j+1) v (by simpa using e))
      obtain ⟨k,x,e1,e2⟩:=hk 0 u rfl
      have:q=(k,x):=by simpa using e1
      subst this
      show RelV (kV p.1) u
      rw [h.1]
      exact kV_of e2
theorem call_listD {X:Cx} (hc:X.calm=true):CallR X (.type "list") (fun xs H Q=>∃ a kvs,xs=[V.ref a]∧H a=some (.dK kvs)∧∀ l,H l=none→Q (.ref l) (upd H l (.lst (kvs.map fun kv=>kV kv.1)))):=by
  intro pins s σ H xs us Q I r h
  obtain ⟨a,kvs,rfl,e,q⟩:=h
  obtain ⟨u,rfl,rx⟩:=vals1 r
  cases rx
  obtain ⟨z,hd,vs,rel,dd⟩:=dk_of I.hok e
  refine Dk.list_dict (I.ok.hd hc) hd dd (by rw [← rel.length]; rw [sizeLine_eq] at z; omega) fun h' tk acc' c' kp he hacc=>?_
  refine ⟨.ref s.heap.objs.size,_,I.laid (t':=tk) (o:=.lst (kvs.map fun kv=>kV kv.1)) kp (Nat.le_refl _) ⟨?_,acc'.toList,c',keys_vals (P:=X.prog) (w:=X.w) rel (by simpa using hacc.1) fun j v e=>hacc.2 j v (by simpa using e),he⟩,rfl,q _ (I.hok.fresh (Nat.le_refl _))⟩
  rw [List.length_map]; exact z
end L2
namespace L2
open PySem PySem.Spec PyProof.Rows
theorem any_eqS (k:Str):∀ ns:List Str,ns.any (· == k)=decide (k∈ns)
  | []=>by simp
  | n::ns=>by
    rw [List.any_cons,any_eqS k ns]
    by_cases h:n=k
    · subst h; simp
    · have h':¬ k=n:=fun z=>h z.symm
      simp [h,h']
theorem op_notinS {X:Cx}:OpR X (compareOp .NotIn) (fun x y H Q=>∃ (k:Str) (p:Addr) (ys:List Str),x = .str k∧y = .ref p∧SqL X.K H p (ys.map V.str)∧Q (.bl (!decide (k∈ys))) H):=by
  intro pins s σ H x y u v Q I ru rv h
  obtain ⟨k,p,ys,rfl,rfl,hl,q⟩:=h
  obtain ⟨t,rfl⟩:=(show ∃ t,u=Value.str k t from ru)
  cases rv
  obtain ⟨its,r',pl,hz⟩:=I.list hl
  refine notin_list_strs pl.isList (strsAre_of r') ⟨.bl _,H,I,rfl,?_⟩
  rw [any_eqS]; exact q
end L2
namespace Ck
open PySem L2
theorem merge_nodup:∀ (more kvs:List (Key × V)),((kvs++more).map (·.1)).Nodup→mergeK kvs more=kvs++more
  | [],kvs,_=>by rw [List.append_nil]; rfl
  | p::more,kvs,h=>by
    have hn:valV kvs p.1=none:=by
      cases e:valV kvs p.1 with
      | none=>rfl
      | some v =>
        exfalso
        have hm:=valV_in e
        rw [List.map_append,List.map_cons] at h
        exact (List.nodup_append.mp h).2.2 _ hm _ (List.mem_cons_self ..) rfl
    show mergeK (putK kvs p.1 p.2) more=_
    rw [putK_new _ hn,merge_nodup more _ (by rw [List.append_assoc]; exact h),List.append_assoc]
    rfl
noncomputable def rowD (items:List (Str × Addr)):List (Key × V):=items.map fun it=>(.inr it.1,.ref it.2)
noncomputable def mRow (r:Str × List (Str × Addr)):TE × TE:=(tC (.str r.1),tDisp (r.2.map fun it=>(tC (.str it.1),tC (.ref it.2))))
theorem items_read (σ:L2.St):∀ (items:List (Str × Addr)) (H:Hp) (Q:List (V × V)→Hp→Prop),Q ((rowD items).map fun kv=>(kV kv.1,kv.2)) H→tPairs (items.map fun it=>(tC (.str it.1),tC (.ref it.2))) σ H Q
  | [],_,_,h=>h
  | it::items,H,Q,h=>items_read σ items H _ h
theorem rowD_keys (items:List (Str × Addr)):(rowD items).map (·.1)=(items.map (·.1)).map Sum.inr:=by
  rw [rowD,List.map_map,List.map_map]; rfl
theorem nodup_inr {ys:List Str} (h:ys.Nodup):(ys.map (Sum.inr:Str→Key)).Nodup:=by
  induction ys with
  | nil=>exact .nil
  | cons y ys ih =>
    rw [List.nodup_cons] at h
    rw [List.map_cons,List.nodup_cons]
    exact ⟨fun z=>by obtain ⟨a,b,c⟩:=List.mem_map.mp z; cases c; exact h.1 b,ih h.2⟩
noncomputable def RowAt (p:Addr) (H:Hp) (r:Str × List (Str × Addr)) (kv:Key × V):Prop:=kv.1 = .inr r.1∧∃ d,d≠p∧kv.2 = .ref d∧H d=some (.dK (rowD r.2))
theorem rows_read (σ:L2.St) (p:Addr):∀ (rows:List (Str × List (Str × Addr))) (H:Hp) (Q:List (V × V)→Hp→Prop),(∀ r∈rows,(r.2.map (·.1)).Nodup∧r.2.length≤15)→H p=some (.dK []) →
    (∀ (kvs:List (Key × V)) (H':Hp),Same H H'→H' p=some (.dK [])→Paired (RowAt p H') rows kvs→Q (kvs.map fun kv=>(kV kv.1,kv.2)) H')→tPairs (rows.map mRow) σ H Q
  | [],H,Q,_,hp,h=>h [] H (Same.refl H) hp .nil
  | r::rows,H,Q,hk,hp,h=>by
    intro d hd
    obtain ⟨nd,l15⟩:=hk r (List.mem_cons_self ..)
    refine items_read σ r.2 _ _ ⟨upd_same,rowD r.2,rfl,by rw [rowD,List.length_map]; exact l15,?_⟩
    rw [merge_nodup _ _ (by rw [List.nil_append,rowD_keys]; exact nodup_inr nd),List.nil_append,upd_upd]
    have s1:=Same.new (Same.refl H) hd (.dK (rowD r.2))
    refine rows_read σ p rows _ _ (fun r hr=>hk r (List.mem_cons_of_mem _ hr)) (s1 _ _ hp) fun kvs H' s2 hp' pr=>?_
    exact h ((.inr r.1,.ref d)::kvs) H' (s1.trans s2) hp' (.cons ⟨rfl,d,(ne_of_none hp hd).symm,rfl,s2 _ _ upd_same⟩ pr)
noncomputable def Meas (H:Hp) (p:Addr) (rows:List (Str × List (Str × Addr))):Prop:=∃ kvs,H p=some (.dK kvs)∧Paired (RowAt p H) rows kvs
theorem row_of {H:Hp} {p:Addr} {rows:List (Str × List (Str × Addr))} {kvs:List (Key × V)} (h:Paired (RowAt p H) rows kvs) {w:Str} {items:List (Str × Addr)} (hf:rows.lookup w=some items):∃ d,valV kvs (.inr w)=some (.ref d)∧H d=some (.dK (rowD items)):=by
  induction h with
  | nil=>cases hf
  | @cons r kv rows kvs h _ ih =>
    obtain ⟨h1,d,_,h2,h3⟩:=h
    obtain ⟨rw,ri⟩:=r
    by_cases e:w=rw
    · subst e
      rw [List.lookup_cons,beq_self_eq_true] at hf
      cases hf
      exact ⟨d,by rw [valV_pos h1,h2],h3⟩
    · rw [List.lookup_cons,beq_eq_false_iff_ne.mpr e] at hf
      obtain ⟨d',e1,e2⟩:=ih hf
      exact ⟨d',by rw [valV_neg (by rw [h1]; intro z; cases z; exact e rfl)]; exact e1,e2⟩
theorem item_of:∀ {items:List (Str × Addr)} {n:Str} {f:Addr},items.lookup n=some f→valV (rowD items) (.inr n)=some (.ref f)
  | (m,g)::items,n,f,h=>by
    by_cases e:n=m
    · subst e
      rw [List.lookup_cons,beq_self_eq_true] at h
      cases h
      exact valV_pos rfl
    · rw [List.lookup_cons,beq_eq_false_iff_ne.mpr e] at h
      show valV ((.inr m,.ref g)::rowD items) _=_
      rw [valV_neg (by intro z; cases z; exact e rfl)]
      exact item_of h
theorem rowD_names (items:List (Str × Addr)):((rowD items).map fun kv=>kV kv.1)=(items.map (·.1)).map V.str:=by
  rw [rowD,List.map_map,List.map_map]; rfl
theorem meas_read {σ:L2.St} {H:Hp} {Q:VK} {rows:List (Str × List (Str × Addr))} (hk:∀ r∈rows,(r.2.map (·.1)).Nodup∧r.2.length≤15) (ho:(rows.map (·.1)).Nodup) (hl:rows.length≤15)
    (h:∀ p H',Same H H'→H p=none→Meas H' p rows→Q (.ref p) H'):tDisp (rows.map mRow) σ H Q:=by
  intro p hp
  refine rows_read σ p rows _ _ hk upd_same fun kvs H' s1 hp' pr=>⟨hp',kvs,rfl,by rw [← pr.length]; exact hl,?_⟩
  have ek:kvs.map (·.1)=(rows.map (·.1)).map Sum.inr:=by
    clear hk ho hl h s1 hp' hp
    induction pr with
    | nil=>rfl
    | cons h _ ih=>rw [List.map_cons,List.map_cons,List.map_cons,h.1,ih]
  rw [merge_nodup _ _ (by rw [List.nil_append,ek]; exact nodup_inr ho),List.nil_append]
  have s0:Same H H':=fun b o e=>s1 b o (by rw [upd_ne (fun z=>by rw [z,hp] at e; cases e)]; exact e)
  refine h p _ (s0.upd hp _) hp ⟨kvs,upd_same,?_⟩
  have keep:∀ o:HO,Paired (RowAt p (upd H' p o)) rows kvs:=fun o=>by
    clear hk ho hl h s1 hp' hp ek s0
    induction pr with
    | nil=>exact .nil
    | cons h _ ih =>
      obtain ⟨h1,d,h2,h3,h4⟩:=h
      exact .cons ⟨h1,d,h2,h3,by rw [upd_ne h2]; exact h4⟩ ih
  exact keep _
theorem Meas.get {H:Hp} {p:Addr} {rows:List (Str × List (Str × Addr))} (h:Meas H p rows) {w:Str} {items:List (Str × Addr)} (hf:rows.lookup w=some items):∃ d,DGet H p (.str w) (some (.ref d))∧H d=some (.dK (rowD items)):=by
  obtain ⟨kvs,hp,pr⟩:=h
  obtain ⟨d,e1,e2⟩:=row_of pr hf
  exact ⟨d,e1▸DGet.k (k:=.inr w) hp,e2⟩
theorem mrow_get {H:Hp} {d:Addr} {items:List (Str × Addr)} (h:H d=some (.dK (rowD items))) {n:Str} {f:Addr} (hf:items.lookup n=some f):DGet H d (.str n) (some (.ref f)):=item_of hf▸DGet.k (k:=.inr n) h
noncomputable def FamAt (H:Hp) (x:V) (f:Str × Addr × Int):Prop:=∃ a dx fs,x = .ref a∧H a=some (.ins f.2.1 dx fs)∧Flds fs f.1 f.2.2
theorem FamAt.same {H H':Hp} {x:V} {f:Str × Addr × Int} (h:FamAt H x f) (s:Same H H'):FamAt H' x f:=by
  obtain ⟨a,dx,fs,h1,h2,h3⟩:=h
  exact ⟨a,dx,fs,h1,s _ _ h2,h3⟩
theorem fams_same {H H':Hp} {xs:List V} {fm:List (Str × Addr × Int)} (h:Paired (FamAt H) xs fm) (s:Same H H'):Paired (FamAt H') xs fm:=by
  induction h with
  | nil=>exact .nil
  | cons h _ ih=>exact .cons (h.same s) ih
theorem fams_app {H:Hp} {xs ys:List V} {fm gm:List (Str × Addr × Int)} (h:Paired (FamAt H) xs fm) (g:Paired (FamAt H) ys gm):Paired (FamAt H) (xs++ys) (fm++gm):=by
  induction h with
  | nil=>exact g
  | cons h _ ih=>exact .cons h ih
theorem fams_at {H:Hp} {xs:List V} {fm:List (Str × Addr × Int)} (h:Paired (FamAt H) xs fm) {i:Nat} {x:V} (hx:xs[i]? = some x):∃ f,fm[i]? = some f∧FamAt H x f:=by
  induction h generalizing i with
  | nil=>cases hx
  | @cons y f ys fs h _ ih =>
    cases i with
    | zero=>simp only [List.getElem?_cons_zero,Option.some.injEq] at hx; subst hx; exact ⟨f,rfl,h⟩
    | succ i=>rw [List.getElem?_cons_succ] at hx; obtain ⟨g,g1,g2⟩:=ih hx; exact ⟨g,by rw [List.getElem?_cons_succ]; exact g1,g2⟩
end Ck
namespace L2
open PySem PySem.Spec PyProof.Rows Ck
section
variable {X:Cx}
end
end L2
namespace Ck
open PySem L2
end Ck
namespace Ck
open PySem L2
theorem refV_same {o:Option Value} {a b:Addr} (h1:o=some (.ref a)) (h2:o=some (.ref b)):V.ref a=V.ref b:=by
  rw [h1] at h2
  injection h2 with h2
  injection h2 with h2
  rw [h2]
end Ck
namespace L2
open PySem PySem.Spec PyProof.Rows Ck
noncomputable def keyOf:Option Expr→Option Str
  | some (.Constant (.str x) _ _)=>some x
  | _=>none
noncomputable def nameOf:Expr→Option Str
  | .Name x _=>some x
  | _=>none
noncomputable def dispOf:Expr→Option (List (Option Expr) × List Expr)
  | .Dict ks vs _=>some (ks,vs)
  | _=>none
theorem keyOf_some {k:Option Expr} {x:Str} (h:keyOf k=some x):∃ j p,k=some (.Constant (.str x) j p):=by
  unfold keyOf at h
  split at h
  · cases h; exact ⟨_,_,rfl⟩
  · cases h
theorem nameOf_some {e:Expr} {x:Str} (h:nameOf e=some x):∃ p,e = .Name x p:=by
  unfold nameOf at h
  split at h
  · cases h; exact ⟨_,rfl⟩
  · cases h
theorem dispOf_some {e:Expr} {d:List (Option Expr) × List Expr} (h:dispOf e=some d):∃ p,e = .Dict d.1 d.2 p:=by
  unfold dispOf at h
  split at h
  · cases h; exact ⟨_,rfl⟩
  · cases h
noncomputable def okRow:List (Option Expr)→List Expr→List (Str × Str)→Bool
  | [],[],[]=>true
  | k::ks,v::vs,n::ns=>decide (keyOf k=some n.1)&&decide (nameOf v=some n.2)&&!(n.2 == ("__debug__" : Str))&&okRow ks vs ns
  | _,_,_=>false
noncomputable def okRows:List (Option Expr)→List Expr→List (Str × List (Str × Str))→Bool
  | [],[],[]=>true
  | k::ks,v::vs,n::ns=>decide (keyOf k=some n.1)&&(match dispOf v with | some d=>okRow d.1 d.2 n.2&&decide (n.2≠[])&&decide (n.2.length≤15) | none=>false)&&okRows ks vs ns
  | _,_,_=>false
noncomputable def NameAt (X:Cx) (n:Str × Str) (it:Str × Addr):Prop:=n.1=it.1∧Gl X n.2∧X.mg n.2=some (.ref it.2)
theorem okRow_len:∀ {ks:List (Option Expr)} {vs:List Expr} {ns:List (Str × Str)},okRow ks vs ns=true→ks.all (·.isSome)=true∧ks.length=vs.length∧ks.length=ns.length
  | [],[],[],_=>⟨rfl,rfl,rfl⟩
  | k::ks,v::vs,n::ns,h=>by
    unfold okRow at h
    simp only [Bool.and_eq_true,decide_eq_true_iff] at h
    obtain ⟨⟨⟨h1,_⟩,_⟩,h4⟩:=h
    obtain ⟨j,p,rfl⟩:=keyOf_some h1
    obtain ⟨a,b,c⟩:=okRow_len h4
    exact ⟨by rw [List.all_cons,a]; rfl,by simp [b],by simp [c]⟩
  | [],_::_,_,h=>by cases h
  | _::_,[],_,h=>by cases h
  | [],[],_::_,h=>by cases h
  | _::_,_::_,[],h=>by cases h
theorem pps_row {X:Cx} {pos:Pos}:∀ {ks:List (Option Expr)} {vs:List Expr} {ns:List (Str × Str)} {items:List (Str × Addr)},okRow ks vs ns=true→Paired (NameAt X) ns items→PPs X pos ks vs (items.map fun it=>(tC (.str it.1),tC (.ref it.2)))
  | [],[],[],_,_,.nil=>pps_nil
  | k::ks,v::vs,n::ns,_,h,.cons (b:=it) hn hr=>by
    unfold okRow at h
    simp only [Bool.and_eq_true,decide_eq_true_iff,Bool.not_eq_true'] at h
    obtain ⟨⟨⟨h1,h2⟩,h3⟩,h4⟩:=h
    obtain ⟨j,p,rfl⟩:=keyOf_some h1
    obtain ⟨p',rfl⟩:=nameOf_some h2
    obtain ⟨e,g,m⟩:=hn
    rw [List.map_cons,← e]
    exact pps_cons pe_str (pe_glob g m rfl h3) (pps_row h4 hr)
  | [],_::_,_,_,h,_=>by cases h
  | _::_,[],_,_,h,_=>by cases h
  | [],[],_::_,_,h,_=>by cases h
  | _::_,_::_,[],_,h,_=>by cases h
noncomputable def RowNames (X:Cx) (n:Str × List (Str × Str)) (r:Str × List (Str × Addr)):Prop:=n.1=r.1∧Paired (NameAt X) n.2 r.2
theorem pps_rows {X:Cx} {pos:Pos}:∀ {ks:List (Option Expr)} {vs:List Expr} {ns:List (Str × List (Str × Str))} {rows:List (Str × List (Str × Addr))},okRows ks vs ns=true→Paired (RowNames X) ns rows →
    PPs X pos ks vs (rows.map mRow)∧ks.all (·.isSome)=true∧ks.length=vs.length∧ks.length=ns.length
  | [],[],[],_,_,.nil=>⟨pps_nil,rfl,rfl,rfl⟩
  | k::ks,v::vs,n::ns,_,h,.cons (b:=r) hn hr=>by
    unfold okRows at h
    simp only [Bool.and_eq_true,decide_eq_true_iff] at h
    obtain ⟨⟨h1,h2⟩,h4⟩:=h
    obtain ⟨j,p,rfl⟩:=keyOf_some h1
    cases hd:dispOf v with
    | none=>rw [hd] at h2; cases h2
    | some d =>
      rw [hd] at h2
      simp only [Bool.and_eq_true,decide_eq_true_iff] at h2
      obtain ⟨⟨k1,k2⟩,k3⟩:=h2
      obtain ⟨p',rfl⟩:=dispOf_some hd
      obtain ⟨e,pn⟩:=hn
      obtain ⟨a1,a2,a3⟩:=okRow_len k1
      obtain ⟨b1,b2,b3,b4⟩:=pps_rows (pos:=pos) h4 hr
      refine ⟨?_,by rw [List.all_cons,b2]; rfl,by simp [b3],by simp [b4]⟩
      rw [List.map_cons]
      unfold mRow
      rw [← e]
      exact pps_cons pe_str (pe_disp (pps_row k1 pn) a1 a2 (fun z=>k2 (List.eq_nil_of_length_eq_zero (by rw [← a3,z]; rfl))) (by omega)) b1
  | [],_::_,_,_,h,_=>by cases h
  | _::_,[],_,_,h,_=>by cases h
  | [],[],_::_,_,h,_=>by cases h
  | _::_,_::_,[],_,h,_=>by cases h
theorem pe_meas {X:Cx} {ks:List (Option Expr)} {vs:List Expr} {pos:Pos} (ns:List (Str × List (Str × Str))) (rows:List (Str × List (Str × Addr))) (h:okRows ks vs ns=true) (h0:ns≠[]) (h15:ns.length≤15) (pr:Paired (RowNames X) ns rows) :
    PE X (.Dict ks vs pos) (tDisp (rows.map mRow)):=by
  obtain ⟨b1,b2,b3,b4⟩:=pps_rows (pos:=pos) h pr
  exact pe_disp b1 b2 b3 (fun z=>h0 (List.eq_nil_of_length_eq_zero (by rw [← b4,z]; rfl))) (by omega)
theorem pcallV0 {X:Cx} {f:Addr} {fd:FuncData} {ps:List Str} {sp:Sp} {x:Str} {p pos:Pos} {a b e:Expr} {es:List Expr} {tc:TE} {t:TA} {j k:Nat} (hc:PE X (.Subscript a b p) tc) (D:Def X.prog X.w X.K X.mg X.base x ps j sp f fd) (hr:Room k X.A) (ha:PA X (e::es) t) (hjk:j≤k:=by decide)
    (he:starEach (e::es) X.env=(false,eval e X.env)::starEach es X.env:=by rfl) (hpl:(backTo pos (starEach es X.env)).any (·.1)=false:=by rfl) :
    PE X (.Call (.Subscript a b p) (e::es) [] pos) (tCallV f sp E0 tc t):=by
  intro pins s σ H Q I h
  show wpAny (model X.prog X.w) X.A (eval (.Subscript a b p) X.env >>= fun fv=>callWith pos fv [] (backTo pos (starEach (e::es) X.env)) (backToKw pos (keywordEach [] X.env))) _ _ _
  refine wpAny_bind (thn (hc pins s σ H _ I h) fun u s1 ⟨v,H1,I1,rv,ev,q⟩=>?_)
  subst ev
  obtain rfl:u=Value.ref f:=rv
  refine PySem.W.callWith_K (first:=[]) (h₀:=X.base) I1.ok.mod.kin D.kp (thn (ha pos pins s1 σ H1 _ I1 q) fun us s2 ⟨vs,H2,I2,r,q2⟩=>⟨I2.kIn,?_⟩) he hpl
  have q3:sp (vs++[]) H2 Q E0:=by rw [List.append_nil]; exact q2
  exact run_fn D.ok (hr.mono hjk) D.b .nil passN I2 r q3
end L2
namespace L2
open PySem PySem.Spec PyProof.Rows Ck
noncomputable def retOf:List Stmt→Option Expr
  | [.Return (some e) _]=>some e
  | _=>none
theorem retOf_some {b:List Stmt} {e:Expr} (h:retOf b=some e):∃ p,b=[.Return (some e) p]:=by
  unfold retOf at h
  split at h
  · cases h; exact ⟨_,rfl⟩
  · cases h
noncomputable def okBody (b:List Stmt) (ns:List (Str × List (Str × Str))):Bool:=match retOf b with
  | some e=>(match dispOf e with | some d=>okRows d.1 d.2 ns | none=>false)
  | none=>false
theorem meas_body {X:Cx} {b:List Stmt} {ns:List (Str × List (Str × Str))} {rows:List (Str × List (Str × Addr))} (h:okBody b ns=true) (h0:ns≠[]) (h15:ns.length≤15) (pr:Paired (RowNames X) ns rows):PSs X b (tRet (tDisp (rows.map mRow))):=by
  unfold okBody at h
  cases hr:retOf b with
  | none=>rw [hr] at h; cases h
  | some e =>
    rw [hr] at h
    obtain ⟨p,rfl⟩:=retOf_some hr
    cases hd:dispOf e with
    | none=>simp only [hd] at h; cases h
    | some d =>
      simp only [hd] at h
      obtain ⟨p',rfl⟩:=dispOf_some hd
      exact pss_one (ps_ret (pe_meas ns rows h h0 h15 pr))
end L2
set_option Elab.async false
set_option linter.all false
set_option maxRecDepth 100000
set_option maxHeartbeats 4000000
namespace Ck
open PySem L2
noncomputable def cutT:Bt→Int→List Pair
  | .leaf,_=>[]
  | .node l r,a=>(a,a+2+(l.size:Int)+(r.size:Int))::(cutT l a++cutT r (a+1+(l.size:Int)))
noncomputable def inT:Bt→Int→List Pair
  | .leaf,_=>[]
  | .node l r,a=>cutT l a++cutT r (a+1+(l.size:Int))
theorem cut_len:∀ (t:Bt) (a:Int),(cutT t a).length=t.size
  | .leaf,_=>rfl
  | .node l r,a=>by
    show (_::(cutT l a++cutT r _)).length=l.size+r.size+1
    rw [List.length_cons,List.length_append,cut_len l,cut_len r]
theorem cut_bd:∀ (t:Bt) (a:Int),∀ p∈cutT t a,a≤p.1∧p.1+2≤p.2∧p.2≤a+1+(t.size:Int)
  | .leaf,_,p,hp=>nomatch hp
  | .node l r,a,p,hp=>by
    have sn:(Bt.node l r).size=l.size+r.size+1:=rfl
    rcases List.mem_cons.mp hp with rfl | hp
    · simp only
      omega
    · rcases List.mem_append.mp hp with hp | hp
      · have:=cut_bd l a p hp
        omega
      · have:=cut_bd r _ p hp
        omega
theorem in_ne:∀ (t:Bt) (a:Int),∀ p∈inT t a,p≠(a,a+1+(t.size:Int))
  | .leaf,_,p,hp=>nomatch hp
  | .node l r,a,p,hp=>by
    have sn:(Bt.node l r).size=l.size+r.size+1:=rfl
    intro z
    subst z
    rcases List.mem_append.mp hp with hp | hp
    · have:=cut_bd l a _ hp
      simp only at this
      omega
    · have:=cut_bd r _ _ hp
      simp only at this
      omega
theorem cut_nd:∀ (t:Bt) (a:Int),(cutT t a).Nodup
  | .leaf,_=>List.nodup_nil
  | .node l r,a=>by
    refine List.nodup_cons.mpr ⟨fun h=>?_,List.nodup_append.mpr ⟨cut_nd l a,cut_nd r _,fun p hp q hq e=>?_⟩⟩
    · refine in_ne (.node l r) a _ h ?_
      have sn:(Bt.node l r).size=l.size+r.size+1:=rfl
      rw [sn]
      congr 1
      omega
    · have h1:=cut_bd l a p hp
      have h2:=cut_bd r _ q hq
      rw [e] at h1
      omega
theorem cut_nc:∀ (t:Bt) (a:Int),NC (cutT t a)
  | .leaf,_=>fun p hp=>nomatch hp
  | .node l r,a=>by
    have bd:=cut_bd (.node l r) a
    have sn:(Bt.node l r).size=l.size+r.size+1:=rfl
    intro p hp q hq c
    have bp:=bd p hp
    have bq:=bd q hq
    have c1:=c.1; have c2:=c.2.1; have c3:=c.2.2
    rcases List.mem_cons.mp hp with rfl | hp
    · simp only at c1 c2 c3
      omega
    · rcases List.mem_cons.mp hq with rfl | hq
      · simp only at c1 c2 c3
        omega
      · rcases List.mem_append.mp hp with hp | hp<;>rcases List.mem_append.mp hq with hq | hq
        · exact cut_nc l a p hp q hq c
        · have:=cut_bd l a p hp
          have:=cut_bd r _ q hq
          omega
        · have:=cut_bd r _ p hp
          have:=cut_bd l a q hq
          omega
        · exact cut_nc r _ p hp q hq c
theorem in_cut:∀ (t:Bt) (a:Int),∀ p∈inT t a,p∈cutT t a
  | .leaf,_,p,hp=>hp
  | .node l r,a,p,hp=>List.mem_cons_of_mem _ hp
theorem cut_in:∀ (t:Bt) (a:Int),cutT t a=(if t.size=0 then [] else [(a,a+1+(t.size:Int))])++inT t a
  | .leaf,_=>rfl
  | .node l r,a=>by
    have sn:(Bt.node l r).size=l.size+r.size+1:=rfl
    rw [if_neg (by omega),sn]
    show (a,a+2+(l.size:Int)+(r.size:Int))::(cutT l a++cutT r (a+1+(l.size:Int)))=(a,a+1+((l.size+r.size+1:Nat):Int))::(cutT l a++cutT r (a+1+(l.size:Int)))
    rw [show a+2+(l.size:Int)+(r.size:Int)=a+1+((l.size+r.size+1:Nat):Int) by omega]
theorem in_len (t:Bt) (a:Int):(inT t a).length=t.size - 1:=by
  have:=cut_len t a
  rw [cut_in,List.length_append] at this
  split at this<;>simp at this<;>omega
theorem fl_of {t:Bt} {qs:List Pair} (pm:qs.Perm (inT t 0)) (rs:qs.Pairwise leP):IsFl ((t.size:Int)+2) qs where
  c2:=by omega
  len:=by
    rw [pm.length_eq,in_len]
    split<;>omega
  ct:=fun p hp=>by
    have hm:=pm.mem_iff.mp hp
    have b:=cut_bd t 0 p (in_cut t 0 p hm)
    have n:=in_ne t 0 p hm
    refine ⟨by omega,by omega,by omega,fun z=>n (Prod.ext z.1 ?_)⟩
    show p.2=0+1+(t.size:Int)
    omega
  nc:=fun p hp q hq=>cut_nc t 0 p (in_cut t 0 p (pm.mem_iff.mp hp)) q (in_cut t 0 q (pm.mem_iff.mp hq))
  nd:=by
    have:=cut_nd t 0
    rw [cut_in] at this
    exact pm.nodup_iff.mpr (List.nodup_append.mp this).2.1
  ris:=rs
noncomputable def popN:Nat→Bt→List Bt→Option (Bt × List Bt)
  | 0,t,s=>some (t,s)
  | k+1,t,s=>match popN k t s with
    | some (t',u::r)=>some (.node t' u,r)
    | _=>none
noncomputable def Fit:List Bt→List Pair→Prop
  | [],[]=>True
  | t::ts,p::ps=>(t.size:Int)+1=p.2 - p.1∧Fit ts ps
  | _,_=>False
end Ck
set_option Elab.async false
set_option linter.all false
set_option maxRecDepth 100000
set_option maxHeartbeats 4000000
namespace Ck
open PySem L2
noncomputable abbrev Tri:=Int × Int × Int
noncomputable def triT:Bt→Int→List Tri
  | .leaf,_=>[]
  | .node l r,a=>(a,a+1+(l.size:Int),a+2+(l.size:Int)+(r.size:Int))::(triT l a++triT r (a+1+(l.size:Int)))
noncomputable def spn (x:Tri):Pair:=(x.1,x.2.2)
theorem tri_cut:∀ (t:Bt) (a:Int),(triT t a).map spn=cutT t a
  | .leaf,_=>rfl
  | .node l r,a=>by
    show (a,a+2+(l.size:Int)+(r.size:Int))::(triT l a++triT r (a+1+(l.size:Int))).map spn=_::_
    rw [List.map_append,tri_cut l a,tri_cut r]
theorem map_inj {α β:Type} {f:α→β}:∀ {l:List α},(l.map f).Nodup→∀ y∈l,∀ z∈l,f y=f z→y=z
  | x::l,h,y,hy,z,hz,e=>by
    have h':f x∉l.map f∧(l.map f).Nodup:=List.nodup_cons.mp h
    rcases List.mem_cons.mp hy with rfl | hy'<;>rcases List.mem_cons.mp hz with rfl | hz'
    · rfl
    · exact absurd (by rw [e]; exact List.mem_map_of_mem hz') h'.1
    · exact absurd (by rw [← e]; exact List.mem_map_of_mem hy') h'.1
    · exact map_inj h'.2 y hy' z hz' e
theorem tri_nd (t:Bt) (a:Int):(triT t a).Nodup:=by
  have h:=cut_nd t a
  rw [← tri_cut] at h
  exact List.Pairwise.of_map spn (fun a b n e=>n (congrArg spn e)) h
noncomputable def Ed (t:Bt) (a:Int) (p:Pair):Prop:=p∈cutT t a∨(p.2=p.1+1∧a≤p.1∧p.1≤a+(t.size:Int))
theorem Ed.bd {t:Bt} {a:Int} {p:Pair} (h:Ed t a p):a≤p.1∧p.1 < p.2∧p.2≤a+1+(t.size:Int):=by
  rcases h with h | h
  · have:=cut_bd t a p h; omega
  · omega
theorem Ed.root (t:Bt) (a:Int):Ed t a (a,a+1+(t.size:Int)):=by
  cases t with
  | leaf=>exact .inr ⟨by show a+1+((0:Nat):Int)=a+1; omega,Int.le_refl _,by show a≤a+_; omega⟩
  | node l r =>
    refine .inl ?_
    rw [cut_in,if_neg (by show ¬ l.size+r.size+1=0; omega)]
    exact List.mem_append_left _ (List.mem_singleton.mpr rfl)
theorem Ed.node {l r:Bt} {a:Int} {p:Pair}:Ed (.node l r) a p↔p=(a,a+2+(l.size:Int)+(r.size:Int))∨Ed l a p∨Ed r (a+1+(l.size:Int)) p:=by
  have sn:(Bt.node l r).size=l.size+r.size+1:=rfl
  have ec:cutT (.node l r) a=(a,a+2+(l.size:Int)+(r.size:Int))::(cutT l a++cutT r (a+1+(l.size:Int))):=rfl
  constructor
  · rintro (h | ⟨h1,h2,h3⟩)
    · rw [ec] at h
      rcases List.mem_cons.mp h with h | h
      · exact .inl h
      · rcases List.mem_append.mp h with h | h
        · exact .inr (.inl (.inl h))
        · exact .inr (.inr (.inl h))
    · rw [sn] at h3
      by_cases h4:p.1≤a+(l.size:Int)
      · exact .inr (.inl (.inr ⟨h1,h2,h4⟩))
      · exact .inr (.inr (.inr ⟨h1,by omega,by omega⟩))
  · rintro (h | (h | ⟨h1,h2,h3⟩) | (h | ⟨h1,h2,h3⟩))
    · exact .inl (by rw [ec,h]; exact List.mem_cons_self ..)
    · exact .inl (by rw [ec]; exact List.mem_cons_of_mem _ (List.mem_append_left _ h))
    · exact .inr ⟨h1,h2,by rw [sn]; omega⟩
    · exact .inl (by rw [ec]; exact List.mem_cons_of_mem _ (List.mem_append_right _ h))
    · exact .inr ⟨h1,by omega,by rw [sn]; omega⟩
theorem tri_iff:∀ (t:Bt) (s a b c:Int),(Ed t s (a,b)∧Ed t s (b,c)∧Ed t s (a,c))↔(a,b,c)∈triT t s
  | .leaf,s,a,b,c=>by
    constructor
    · rintro ⟨h1,h2,h3⟩
      have z:(Bt.leaf).size=0:=rfl
      have b1:=h1.bd; have b2:=h2.bd; have b3:=h3.bd
      rw [z] at b1 b2 b3
      simp only at b1 b2 b3
      omega
    · intro h; cases h
  | .node l r,s,a,b,c=>by
    have et:triT (.node l r) s=(s,s+1+(l.size:Int),s+2+(l.size:Int)+(r.size:Int))::(triT l s++triT r (s+1+(l.size:Int))):=rfl
    constructor
    · rintro ⟨h1,h2,h3⟩
      have b1:=h1.bd; have b2:=h2.bd
      simp only at b1 b2
      rw [Ed.node] at h1 h2 h3
      rw [et]
      rcases h3 with h3 | h3 | h3
      · cases h3
        have bm:b≤s+1+(l.size:Int):=by
          rcases h1 with h1 | h1 | h1
          · cases h1; omega
          · have:=h1.bd; simp only at this; omega
          · have:=h1.bd; simp only at this; omega
        have bm':s+1+(l.size:Int)≤b:=by
          rcases h2 with h2 | h2 | h2
          · cases h2; omega
          · have:=h2.bd; simp only at this; omega
          · have:=h2.bd; simp only at this; omega
        obtain rfl:b=s+1+(l.size:Int):=by omega
        exact List.mem_cons_self ..
      · have b3:=h3.bd
        simp only at b3
        refine List.mem_cons_of_mem _ (List.mem_append_left _ ((tri_iff l s a b c).mp ⟨?_,?_,h3⟩))
        · rcases h1 with h1 | h1 | h1
          · cases h1; omega
          · exact h1
          · have:=h1.bd; simp only at this; omega
        · rcases h2 with h2 | h2 | h2
          · cases h2; omega
          · exact h2
          · have:=h2.bd; simp only at this; omega
      · have b3:=h3.bd
        simp only at b3
        refine List.mem_cons_of_mem _ (List.mem_append_right _ ((tri_iff r _ a b c).mp ⟨?_,?_,h3⟩))
        · rcases h1 with h1 | h1 | h1
          · cases h1; omega
          · have:=h1.bd; simp only at this; omega
          · exact h1
        · rcases h2 with h2 | h2 | h2
          · cases h2; omega
          · have:=h2.bd; simp only at this; omega
          · exact h2
    · intro h
      rw [et] at h
      rw [Ed.node,Ed.node,Ed.node]
      rcases List.mem_cons.mp h with h | h
      · cases h
        refine ⟨.inr (.inl (Ed.root l s)),.inr (.inr ?_),.inl rfl⟩
        have:=Ed.root r (s+1+(l.size:Int))
        rw [show s+1+(l.size:Int)+1+(r.size:Int)=s+2+(l.size:Int)+(r.size:Int) by omega] at this
        exact this
      · rcases List.mem_append.mp h with h | h
        · obtain ⟨h1,h2,h3⟩:=(tri_iff l s a b c).mpr h
          exact ⟨.inr (.inl h1),.inr (.inl h2),.inr (.inl h3)⟩
        · obtain ⟨h1,h2,h3⟩:=(tri_iff r _ a b c).mpr h
          exact ⟨.inr (.inr h1),.inr (.inr h2),.inr (.inr h3)⟩
structure Thd (ps:List Pair) (a c M:Int):Prop where
  none:(∀ q∈ps,¬ (q.1=a∧q.2 < c))→M=a+1
  some:(∃ q∈ps,q.1=a∧q.2 < c)→(a,M)∈ps∧M < c∧∀ q∈ps,q.1=a→q.2 < c→q.2≤M
theorem Thd.tri {t:Bt} {ps:List Pair} {a c M:Int} (pm:ps.Perm (inT t 0)) (hc:(a,c)∈cutT t 0) (h:Thd ps a c M):(a,M,c)∈triT t 0:=by
  rw [← tri_cut] at hc
  obtain ⟨⟨a',m,c'⟩,hm,e⟩:=List.mem_map.mp hc
  obtain ⟨rfl,rfl⟩:a=a'∧c=c':=⟨(congrArg Prod.fst e).symm,(congrArg Prod.snd e).symm⟩
  obtain ⟨h1,h2,h3⟩:=(tri_iff t 0 a m c).mpr hm
  have b1:=h1.bd; have b2:=h2.bd
  simp only at b1 b2
  have inps:∀ q,q∈cutT t 0→q.2 < c→q∈ps:=fun q hq hl=>by
    rw [cut_in] at hq
    rcases List.mem_append.mp hq with z | z
    · split at z
      · cases z
      · have:=List.mem_singleton.mp z
        subst this
        simp only at hl
        omega
    · exact pm.mem_iff.mpr z
  have below:∀ q∈ps,q.1=a→q.2 < c→q.2≤m:=fun q hq e1 hl=>by
    have hq':=in_cut t 0 q (pm.mem_iff.mp hq)
    rcases h2 with h2 | h2
    · refine Int.not_lt.mp fun lt=>cut_nc t 0 q hq' (m,c) h2 ⟨?_,lt,hl⟩
      show q.1 < m
      omega
    · have:=h2.1
      simp only at this
      omega
  have eM:M=m:=by
    rcases h1 with h1 | h1
    · have mi:=inps _ h1 b2.2.1
      obtain ⟨z1,z2,z3⟩:=h.some ⟨_,mi,rfl,b2.2.1⟩
      have:=z3 _ mi rfl b2.2.1
      have:=below _ z1 rfl z2
      simp only at *
      omega
    · have e1:=h1.1
      simp only at e1
      by_cases ex:∃ q∈ps,q.1=a∧q.2 < c
      · obtain ⟨z1,z2,z3⟩:=h.some ex
        have y1:=below _ z1 rfl z2
        have y2:=cut_bd t 0 _ (in_cut t 0 _ (pm.mem_iff.mp z1))
        simp only at y1 y2
        omega
      · rw [e1]
        exact h.none fun q hq z=>ex ⟨q,hq,z⟩
  rw [eM]
  exact hm
end Ck
set_option Elab.async false
set_option linter.all false
set_option maxRecDepth 100000
set_option maxHeartbeats 4000000
namespace Dt
open PySem PyProof.Rows
section
variable {prog:Program} {w:World} {A:Around} {E:Value→Shared→Prop} {s:Shared}
noncomputable def At (h:Heap) (d:Addr) (es:Array DictEntry) (ep:Nat):Prop:=∃ o,h.get? d=some o∧o.ExactDict∧o.data = .dict es ep
theorem At.at' {h h':Heap} {d:Addr} {es:Array DictEntry} {ep:Nat} (x:At h d es ep) (e:∀ o,h.get? d=some o→h'.get? d=some o):At h' d es ep:=let ⟨o,ho,r⟩:=x; ⟨o,e _ ho,r⟩
theorem At.typeIs {d:Addr} {es:Array DictEntry} {ep:Nat} (x:At s.heap d es ep):s.TypeIs (.ref d) "dict":=let ⟨o,ho,r,_⟩:=x; ⟨o,ho,r.1⟩
theorem next_at {I d:Addr} {i ep:Nat} {es:Array DictEntry} {R:PySem.Fin→Shared→Prop} (hit:s.heap.IsKeyIter I d i es.size ep) (hm:At s.heap d es ep)
    (item:∀ e,es[i]? = some e→∀ h',h'.IsKeyIter I d (i+1) es.size ep→Heap.SameBut I s.heap h'→R (.done (.ret e.key)) { s with heap:=h' })
    (hh:es.size≤i→A.handled=none)
    (fin:es.size≤i→∀ h' e,Heap.ExtBut I s.heap h'→(∃ o,h'.get? e=some o∧o.cls = .type "StopIteration")→E (.ref e) { s with heap:=h' }) :
    wpAny (model prog w) A (Builtin.«dict_keyiterator.__next__» ⟨[.ref I],[]⟩) R E s:=by
  have hT:=hit.typeIs
  obtain ⟨o,ho,hc,hd⟩:=id hit
  obtain ⟨od,hod,hcd,hdd⟩:=id hm
  refine wpAny_bind (wpAny_pure ?_)
  refine wpAny_bind ?_
  refine wpAny_bind ?_
  first | refine wpAny_bind (wpAny_typeNameOfWhole_keyiter hT (wpAny_pure ?_)) | refine wpAny_bind (wpAny_typeNameOf_keyiter hT (wpAny_pure ?_))
  refine wpAny_bind (wpAny_fieldsOf ho hd ?_)
  simp only [show Builtin.Dict_items.ownsTuple "dict_keyiterator" = false by decide,Bool.false_eq_true,if_false]
  show wpAny _ _ (if (Value.ref d == Value.none)=true then _ else _) _ _ s
  rw [if_neg (show ¬ ((Value.ref d == Value.none)=true) from Bool.false_ne_true)]
  refine wpAny_bind (wpAny_pure (wpAny_bind (wpAny_dictEntries hod hdd ?_)))
  rw [if_neg (by simp)]
  refine wpAny_bind (wpAny_pure (wpAny_bind (wpAny_dictEpoch hod hdd ?_)))
  rw [if_neg (by simp)]
  refine wpAny_pure ?_
  have neg:¬ ((i:Int) < 0):=by omega
  by_cases hlt:i < es.size
  · simp only [neg,if_false,Int.toNat_natCast,Array.getElem?_eq_getElem hlt]
    refine wpAny_bind ?_
    first | refine wpAny_bind (wpAny_typeNameOfWhole_keyiter hT (wpAny_pure ?_)) | refine wpAny_bind (wpAny_typeNameOf_keyiter hT (wpAny_pure ?_))
    refine wpAny_bind (wpAny_isOneOf_keyiter hT ?_)
    show wpAny _ _ (setField (.ref I) 1 (rawInt ((i:Int)+1)) >>= _) _ _ s
    refine wpAny_bind (wpAny_setField ho hd (by simp) ?_)
    have it2:(s.heap.update I (Obj.mapFields (·.setIfInBounds 1 (rawInt ((i:Int)+1))))).IsKeyIter I d (i+1) es.size ep :=
      ⟨_,Heap.get?_update_self _ ho (Obj.isFreed_of_fields (Obj.data_mapFields hd _)),(Obj.cls_mapFields ..).trans hc,by rw [Obj.data_mapFields hd]; simp [rawInt]⟩
    refine wpAny_bind (wpAny_holding ?_)
    refine wpAny_bind (wpAny_isOneOf_keyiter (s:={ s with heap:=s.heap.update I (Obj.mapFields (·.setIfInBounds 1 (rawInt ((i:Int)+1)))) }) it2.typeIs ?_)
    show wpAny _ _ (pure es[i].key) _ _ _
    exact wpAny_pure (wpAny_pure (item es[i] (Array.getElem?_eq_getElem hlt) _ it2 (Heap.SameBut.update ..)))
  · have hge:es.size≤i:=by omega
    simp only [neg,if_false,Int.toNat_natCast,Array.getElem?_eq_none hge]
    refine wpAny_bind ?_
    first | refine wpAny_bind (wpAny_typeNameOfWhole_keyiter hT (wpAny_pure ?_)) | refine wpAny_bind (wpAny_typeNameOf_keyiter hT (wpAny_pure ?_))
    show wpAny _ _ (setField (.ref I) 0 .none >>= _) _ _ s
    refine wpAny_bind (wpAny_setField ho hd (by simp) ?_)
    show wpAny _ _ (newExc (.type "StopIteration") [] >>= _) _ _ _
    refine wpAny_bind ?_
    simp only [newExc,newTuple]
    refine wpAny_bind (wpAny_newObj_type ?_ (by size_fits))
    refine wpAny_bind (m:=firstArgMember _ _) (wpAny_of_eq (a:=Value.none) (by first | rfl | (simp only [firstArgMember]; rfl)) ?_)
    refine wpAny_newObj_type ?_ (by size_fits)
    simp only [raiseNew]
    refine wpAny_bind (wpAny_handled ?_)
    rw [hh hge]
    refine wpAny_bind (wpAny_pure (wpAny_throw ?_))
    exact fin hge _ _ (((Heap.SameBut.update ..).extBut.push _).push _) ⟨_,Heap.get?_push_size _ rfl,rfl⟩
theorem walks (hh:A.handled=none) (I d:Addr) (hne:d≠I) (es:Array DictEntry) (ep:Nat) :
    Walks prog w A I [I,d] [I] es.size (fun i v=>∃ e,es[i]? = some e∧v=e.key) (fun i h=>h.IsKeyIter I d i es.size ep∧At h d es ep) where
  sub:=fun b hb=>by simp at hb; simp [hb]
  frame:=fun _ _ _ st hk=>⟨st.1.at fun o e=>hk I (by simp) o e,st.2.at' fun o e=>hk d (by simp) o e⟩
  item:=fun i s Q E hi st hQ=>by
    have hT:=st.1.typeIs
    unfold pyNext
    refine wpAny_bind (wpAny_attempt (wpAny_callSpecial?_slot (name:=Str.ofString "__next__") hT F.slot_dict_keyiterator_next (wpAny_call_entry F.slot_dict_keyiterator_next hT F.entry_dict_keyiterator_next
      (next_at st.1 st.2 (fun e he h' it2 sb=>⟨_,rfl,wpAny_pure ?_⟩) (fun z=>absurd z (by omega)) (fun z=>absurd z (by omega))) (F.args_dict_keyiterator_next_1 _))))
    exact hQ e.key h' s.toks ⟨e,he,rfl⟩ ⟨it2,st.2.at' fun o x=>sb.extBut d o hne x⟩ fun b o hb x=>sb.extBut b o (fun z=>hb (by simp [z])) x
  done:=fun s Q E st hQ=>by
    have hT:=st.1.typeIs
    unfold pyNext
    refine wpAny_bind (wpAny_attempt (wpAny_callSpecial?_slot (name:=Str.ofString "__next__") hT F.slot_dict_keyiterator_next (wpAny_call_entry F.slot_dict_keyiterator_next hT F.entry_dict_keyiterator_next
      (next_at (A:=A.in1) st.1 st.2 (fun e he=>absurd (Array.getElem?_eq_some_iff.mp he).1 (Nat.lt_irrefl _)) (fun _=>hh) (fun _ h' e k he=>?_)) (F.args_dict_keyiterator_next_1 _))))
    obtain ⟨o,ho,hc⟩:=he
    exact wpAny_bind (wpAny_isInstance (T:="StopIteration") (b:=true) ⟨o,ho,hc⟩ isSubtype_stop (wpAny_pure (hQ _ s.toks fun b o hb x=>k b o (fun z=>hb (by simp [z])) x)))
  self:=fun _ _ _ _ st hQ=>wpAny_pyIter_keyiter st.1 hQ
theorem iter_at {d:Addr} {es:Array DictEntry} {ep:Nat} {Q:Value→Shared→Prop} (hd:(d == sysModules)=false) (hm:At s.heap d es ep)
    (hQ:Q (.ref s.heap.objs.size) { s with heap:=s.heap.push { cls:=.type "dict_keyiterator",data:=.fields #[.ref d,.int 0 0,.int es.size 0,.int ep 0] } }):wpAny (model prog w) A (pyIter (.ref d)) Q E s:=by
  have hT:=hm.typeIs
  obtain ⟨o,ho,hc,hdat⟩:=id hm
  refine wpAny_pyIter_slot hT F.slot_dict_iter (wpAny_call_entry F.slot_dict_iter hT F.entry_dict_iter ?_ (F.args_dict_iter_1 _))
  unfold Builtin.«dict.__iter__»
  refine wpAny_bind ?_
  unfold Builtin.Dict.dictSlotNone
  refine wpAny_bind (wpAny_notOrdered_dict hT (wpAny_pure ?_))
  show wpAny _ _ (Builtin.Dict.showsAll d >>= _) _ _ s
  unfold Builtin.Dict.showsAll
  rw [if_neg (by rw [hd]; exact Bool.false_ne_true)]
  refine wpAny_bind (wpAny_pure (wpAny_bind (wpAny_dictEntries ho hdat (wpAny_bind (wpAny_dictEpoch ho hdat ?_)))))
  refine wpAny_bind (wpAny_newObj_type (wpAny_pure ⟨_,rfl,"dict_keyiterator",_,⟨_,Heap.get?_push_size _ rfl,rfl⟩,F.slot_dict_keyiterator_next.lookup,?_⟩))
  simpa [rawInt] using hQ
theorem hint_dict {d:Addr} {es:Array DictEntry} {ep:Nat} {Q:Bool→Shared→Prop} (hm:At s.heap d es ep) (h:Q false s):wpAny (model prog w) A (Builtin.List.listLengthHint (.ref d)) Q E s:=by
  unfold Builtin.List.listLengthHint
  refine wpAny_bind (wpAny_specialOf hm.typeIs F.slot_dict_len.lookup ?_)
  generalize hid:("dict.__len__" : String)=id0
  wp_delta
  rw [show splitId id0=some ("dict","__len__") from by subst hid; decide +kernel]
  subst hid
  refine wpAny_bind (wpAny_isInstance (T:="dict") (b:=true) hm.typeIs (by rw [isSubtype_type]; kernel_rfl) ?_)
  refine wpAny_ite_split (fun hab=>absurd hab (by decide)) (fun _=>?_)
  refine wpAny_ite_split (fun _=>?_) (fun hab=>absurd (by decide +kernel) hab)
  refine wpAny_bind (wpAny_typeOf hm.typeIs (wpAny_pure ?_))
  exact h
theorem extend_dict {R:Result→Shared→Prop} {d:Addr} {es:Array DictEntry} {ep:Nat} (hh:A.handled=none) (hd:(d == sysModules)=false) (hat:At s.heap d es ep) (hlen:es.size≤2 ^ 24) (S:Addr) (res:Value) (c₀:Nat) (hS:s.heap.get? S=some { cls:=.type "list",data:=.seq #[] c₀ })
    (hR:∀ h' tk acc' c',(∀ b o,b≠S→s.heap.get? b=some o→h'.get? b=some o)→h'.get? S=some { cls:=.type "list",dict:=none,data:=.seq acc' c',slots:=#[] } →
      ItemsOf (fun i v=>∃ e,es[i]? = some e∧v=e.key) acc' es.size→R (.ok (.ret res)) { s with heap:=h',toks:=tk }) :
    wpAny (model prog w) A.in1 (Builtin.List.listExtendWith (.ref S) (.ref d) res)
      (fun fin s'=>match fin with | .done f=>R (.ok f) s' | .again c'=>c'.quiet=true∧codeAny (model prog w) A c' R s') (fun e s'=>R (.error e) s') s:=by
  have hT:=hat.typeIs
  have hSd:S≠d:=fun e=>by
    obtain ⟨o,ho,hc,hdt⟩:=hat
    rw [← e,hS] at ho
    cases ho
    cases hdt
  have hdlt:d < s.heap.objs.size:=let ⟨o,ho,_⟩:=hat; Heap.lt_size ho
  have hSlt:S < s.heap.objs.size:=Heap.lt_size hS
  have hSI:S≠s.heap.objs.size:=Nat.ne_of_lt hSlt
  have hdI:d≠s.heap.objs.size:=Nat.ne_of_lt hdlt
  have hSf:S∉[s.heap.objs.size,d]:=fun hm=>by
    rcases List.mem_cons.mp hm with h | h
    · exact hSI h
    · exact hSd (List.mem_singleton.mp h)
  have W:=(walks (prog:=prog) (w:=w) (A:=A.in1) hh s.heap.objs.size d hdI es ep).toS
  have key:∀ (h:Heap) (c₁ tk:Nat),h.IsKeyIter s.heap.objs.size d 0 es.size ep→At h d es ep→(∀ b o,b≠S→s.heap.get? b=some o→h.get? b=some o) →
      h.get? S=some { cls:=.type "list",data:=.seq #[] c₁ }→codeAny (model prog w) A (.builtin "list.extend.loop" ⟨[.ref S,.ref s.heap.objs.size,res],[]⟩) R { s with heap:=h,toks:=tk }:=by
    intro h c₁ tk hit hda hk hS₁
    refine codeAny_extend_loopS W (by rw [sizeLine_eq]; omega) S hSf res es.size 0 _ #[] c₁ rfl (Nat.zero_le _) ⟨hit,hda⟩ hS₁ (ItemsOf.nil _) fun s' acc' c' hm hS' hacc=>?_
    rw [Moved.eq_with hm]
    refine hR s'.heap s'.toks acc' c' (fun b o hb e=>hm.heap b o (fun hmem=>?_) (hk b o hb e)) hS' hacc
    rcases List.mem_cons.mp hmem with e' | hmem
    · exact hb e'
    · exact absurd (Heap.lt_size e) (by rw [List.mem_singleton.mp hmem]; exact Nat.lt_irrefl _)
  unfold Builtin.List.listExtendWith
  refine wpAny_bind (wpAny_typeOf hT ?_)
  have h1:Builtin.List.listSameRef (.ref S) (.ref d)=false:=by simp [Builtin.List.listSameRef,hSd]
  have h2:(Value.type "dict" == Value.type "list")=false:=by decide
  have h3:(Value.type "dict" == Value.type "tuple")=false:=by decide
  simp only [h1,h2,h3,Bool.or_false,Bool.false_eq_true,if_false]
  refine wpAny_bind (iter_at hd hat ?_)
  have up:∀ b o,s.heap.get? b=some o→(s.heap.push { cls:=.type "dict_keyiterator",data:=.fields #[.ref d,.int 0 0,.int es.size 0,.int ep 0] }).get? b=some o:=fun b o e=>Heap.get?_push_of_some _ e
  refine wpAny_bind (wpAny_holding (hint_dict (hat.at' fun o e=>up _ _ e) ?_))
  have hit₁:(s.heap.push { cls:=.type "dict_keyiterator",data:=.fields #[.ref d,.int 0 0,.int es.size 0,.int ep 0] }).IsKeyIter s.heap.objs.size d 0 es.size ep:=⟨_,Heap.get?_push_size _ rfl,rfl,rfl⟩
  have hS₁:=up _ _ hS
  refine wpAny_ite_split (fun _=>?_) (fun _=>wpAny_pure ⟨plainId_quiet F.plain_extend_loop _,key _ c₀ _ hit₁ (hat.at' fun o e=>up _ _ e) (fun b o _ e=>up _ _ e) hS₁⟩)
  refine wpAny_bind (wpAny_rule ?_)
  refine wpAny_bind ?_
  show wpAny _ _ (updateSeq S (·.push .none) >>= fun _=>updateSeq S (·.pop)) _ _ _
  have hS₂:=Heap.get?_update_self (Obj.mapSeq (·.push Value.none)) hS₁ rfl
  have hS₃:=Heap.get?_update_self (Obj.mapSeq (·.pop)) hS₂ rfl
  refine wpAny_bind (wpAny_updateSeq hS₁ rfl (wpAny_updateSeq hS₂ rfl (wpAny_pure ⟨plainId_quiet F.plain_extend_loop _,key _ _ _ ?_ ?_ (fun b o hb e=>?_) hS₃⟩) (by show 1≤sizeLine; rw [sizeLine_eq]; omega) (by show 0≤_; exact Nat.zero_le _)) (Nat.zero_le _) (by show 1≤_; rw [sizeLine_eq]; omega))
  · exact hit₁.at fun o e=>(Heap.get?_update_other _ _ hSI).trans ((Heap.get?_update_other _ _ hSI).trans e)
  · exact (hat.at' fun o e=>up _ _ e).at' fun o e=>(Heap.get?_update_other _ _ hSd).trans ((Heap.get?_update_other _ _ hSd).trans e)
  · exact (Heap.get?_update_other _ _ (Ne.symm hb)).trans ((Heap.get?_update_other _ _ (Ne.symm hb)).trans (up _ _ e))
theorem list_dict {Q:Value→Shared→Prop} {d:Addr} {es:Array DictEntry} {ep:Nat} (hh:A.handled=none) (hd:(d == sysModules)=false) (hat:At s.heap d es ep) (hlen:es.size≤2 ^ 24)
    (q:∀ h' tk acc' c',(∀ b o,s.heap.get? b=some o→h'.get? b=some o)→h'.get? s.heap.objs.size=some { cls:=.type "list",dict:=none,data:=.seq acc' c',slots:=#[] } →
      ItemsOf (fun i v=>∃ e,es[i]? = some e∧v=e.key) acc' es.size→Q (.ref s.heap.objs.size) { s with heap:=h',toks:=tk }) :
    wpAny (model prog w) A (call (.type "list") [.ref d]) Q E s:=by
  have far:∀ {c o},s.heap.get? c=some o→s.heap.objs.size≠c:=fun e=>Nat.ne_of_gt (Heap.lt_size e)
  refine callType_codes (Q₁:=fun T s1=>T = .ref s.heap.objs.size∧s1={ s with heap:=s.heap.push { cls:=.type "list",data:=.seq #[] } }) F.called_list (F.typeCall_list_1 _) F.entry_list_init (code_list_new _ ⟨rfl,rfl⟩) fun T s1 e1=>?_
  obtain ⟨rfl,rfl⟩:=e1
  have g0:(s.heap.push { cls:=.type "list",data:=.seq #[] }).get? s.heap.objs.size=some { cls:=.type "list",data:=.seq #[] }:=Heap.get?_push_size _ rfl
  have g1:=Heap.get?_update_self (Obj.mapSeq (fun _=>(#[]:Array Value))) g0 rfl
  have oth:∀ b o,s.heap.get? b=some o→((s.heap.push { cls:=.type "list",data:=.seq #[] }).update s.heap.objs.size (Obj.mapSeq (fun _=>(#[]:Array Value)))).get? b=some o:=fun b o e=>(Heap.get?_update_other _ _ (far e)).trans (Heap.get?_push_of_some _ e)
  refine ⟨⟨_,g0,rfl⟩,F.args_list_init_2 _ _,?_⟩
  show wpAny _ _ (do let was ← Builtin.List.listItems (.ref s.heap.objs.size); Builtin.List.listUpdate (.ref s.heap.objs.size) (fun _=>#[]); letGo was.toList.reverse; Builtin.List.listExtendWith (.ref s.heap.objs.size) (.ref d) .none) _ _ _
  refine wpAny_bind ?_
  unfold Builtin.List.listItems
  refine wpAny_bind (wpAny_seqItems g0 rfl (wpAny_pure ?_))
  show wpAny _ _ (updateSeq s.heap.objs.size (fun _=>#[]) >>= fun _=>letGo (#[]:Array Value).toList.reverse >>= fun _=>Builtin.List.listExtendWith (.ref s.heap.objs.size) (.ref d) .none) _ _ _
  refine wpAny_bind (wpAny_updateSeq g0 rfl (wpAny_bind (wpAny_letGo ?_)) (Nat.zero_le _) (Nat.zero_le _))
  exact extend_dict (s:={ s with heap:=(s.heap.push { cls:=.type "list",data:=.seq #[] }).update s.heap.objs.size (Obj.mapSeq (fun _=>(#[]:Array Value))) }) (A:=A.in1) hh hd (hat.at' fun o e=>oth _ _ e) hlen _ _ _ g1
    fun h' tk acc' c' k e1 e2=>⟨rfl,q h' tk acc' c' (fun b o e=>k b o (Ne.symm (far e)) (oth b o e)) e1 e2⟩
end
end Dt
namespace L2
open PySem PySem.Spec PyProof.Rows
theorem kt_vals {H:Hp} {P:Program} {w:World}:∀ {kvs:List (List Key × V)} {xs:List (List Key × Addr × Value)} {us:List Value},KT H kvs xs→us.length=xs.length→(∀ (j:Nat) v,us[j]? = some v→∃ x,xs[j]? = some x∧v = .ref x.2.1) →
    ∃ bs:List Addr,Vals (bs.map V.ref) us∧Paired (fun b (p:List Key × V)=>H b=some (.tup (p.1.map kV))) bs kvs
  | [],_,us,.nil,hl,_=>by cases us with | nil=>exact ⟨[],.nil,.nil⟩ | cons _ _=>cases hl
  | p::kvs,q::xs,us,.cons h r,hl,hk=>by
    cases us with
    | nil=>cases hl
    | cons u us =>
      obtain ⟨bs,v,pr⟩:=kt_vals (P:=P) (w:=w) r (by simpa using hl) fun j v e=>hk (j+1) v (by simpa using e)
      obtain ⟨x,e1,e2⟩:=hk 0 u rfl
      have:q=x:=by simpa using e1
      subst this
      exact ⟨q.2.1::bs,.cons e2 v,.cons h.2.1 pr⟩
theorem call_listDT {X:Cx} (hc:X.calm=true):CallR X (.type "list") (fun xs H Q=>∃ a kvs,xs=[V.ref a]∧H a=some (.dT kvs)∧∀ (l:Addr) (bs:List Addr),H l=none→Paired (fun b (p:List Key × V)=>H b=some (.tup (p.1.map kV))) bs kvs→Q (.ref l) (upd H l (.lst (bs.map V.ref)))):=by
  intro pins s σ H xs us Q I r h
  obtain ⟨a,kvs,rfl,e,q⟩:=h
  obtain ⟨u,rfl,rx⟩:=vals1 r
  cases rx
  obtain ⟨z,hd,xs,rel,o,es,ep,h1,h2,h3,h4,h5⟩:=dt_of I.hok e
  have lx:kvs.length=xs.length:=Paired.length rel
  have le:es.size=xs.length:=by rw [← Array.length_toList,h4,List.length_map]
  refine Dt.list_dict (I.ok.hd hc) hd ⟨o,h1,h2,h3⟩ (by rw [le,← lx]; rw [sizeLine_eq] at z; omega) fun h' tk acc' c' kp he hacc=>?_
  obtain ⟨bs,v,pr⟩:=kt_vals (P:=X.prog) (w:=X.w) (us:=acc'.toList) rel (by rw [← le]; simpa using hacc.1) fun j v ej=>by
    obtain ⟨en,e1,e2⟩:=hacc.2 j v (by simpa using ej)
    have e3:es.toList[j]? = some en:=by simpa using e1
    rw [h4,List.getElem?_map] at e3
    cases hx:xs[j]? with
    | none=>rw [hx] at e3; cases e3
    | some x=>rw [hx] at e3; cases e3; exact ⟨x,rfl,e2⟩
  have lb:(bs.map V.ref).length=kvs.length:=by rw [List.length_map,Paired.length pr]
  exact ⟨.ref s.heap.objs.size,_,I.laid (t':=tk) (o:=.lst (bs.map V.ref)) kp (Nat.le_refl _) ⟨by rw [lb]; exact z,acc'.toList,c',v,he⟩,rfl,q _ bs (I.hok.fresh (Nat.le_refl _)) pr⟩
end L2
set_option Elab.async false
set_option linter.all false
set_option maxRecDepth 100000
set_option maxHeartbeats 4000000
namespace L2
open PySem
theorem ix_tupK {X:Cx} {K:PySem.W.Frag} (h:X.K=K):IxR X (rIxT K):=h▸ix_tup
end L2
namespace Ck
open PySem L2
noncomputable def inQ:List Bt→List Pair→List Pair
  | t::ts,p::ps=>inT t p.1++inQ ts ps
  | _,_=>[]
theorem Fit.appI:∀ {ts:List Bt} {ps qs:List Pair},Fit ts (ps++qs)→∃ us vs,ts=us++vs∧Fit us ps∧Fit vs qs
  | ts,[],qs,h=>⟨[],ts,rfl,trivial,h⟩
  | [],p::ps,qs,h=>h.elim
  | t::ts,p::ps,qs,h=>by
    obtain ⟨us,vs,e,f1,f2⟩:=Fit.appI (ts:=ts) (ps:=ps) (qs:=qs) h.2
    exact ⟨t::us,vs,by rw [e]; rfl,⟨h.1,f1⟩,f2⟩
theorem Fit.join:∀ {us vs:List Bt} {ps qs:List Pair},Fit us ps→Fit vs qs→Fit (us++vs) (ps++qs)∧inQ (us++vs) (ps++qs)=inQ us ps++inQ vs qs
  | [],vs,[],qs,_,h=>⟨h,rfl⟩
  | [],_,_::_,_,h,_=>h.elim
  | _::_,_,[],_,h,_=>h.elim
  | u::us,vs,p::ps,qs,h,g=>by
    obtain ⟨f,e⟩:=Fit.join (us:=us) (vs:=vs) h.2 g
    refine ⟨⟨h.1,f⟩,?_⟩
    show inT u p.1++inQ (us++vs) (ps++qs)=(inT u p.1++inQ us ps)++inQ vs qs
    rw [e,List.append_assoc]
noncomputable def PiT (n:Nat) (pl cs:List Pair):Prop:=∀ ts,Fit ts pl→∃ t:Bt,t.size=n∧(inT t 0).Perm (cs++inQ ts pl)
theorem PiT.start (n:Nat):PiT n [((0:Int),(n:Int)+1)] []:=fun ts h=>by
  match ts,h with
  | [t],h =>
    have:=h.1
    simp only at this
    refine ⟨t,by omega,?_⟩
    show (inT t 0).Perm (inT t 0++[])
    rw [List.append_nil]
theorem PiT.unit {n:Nat} {pl cs:List Pair} {p:Pair} (h:PiT n (pl++[p]) cs) (b:p.1 < p.2) (hu:¬ p.2 - p.1 > 1):PiT n pl cs:=fun ts f=>by
  obtain ⟨g,e⟩:=f.join (vs:=[.leaf]) (qs:=[p]) ⟨by show ((0:Nat):Int)+1=_; omega,trivial⟩
  obtain ⟨t,e1,pm⟩:=h _ g
  refine ⟨t,e1,?_⟩
  have z:inQ [.leaf] [p]=[]:=rfl
  rw [e,z,List.append_nil] at pm
  exact pm
theorem PiT.split {n:Nat} {pl cs:List Pair} {p:Pair} {c:Int} (h:PiT n (pl++[p]) cs) (c1:p.1 < c) (c2:c < p.2):PiT n (pl++[(p.1,c),(c,p.2)]) (cs++([(p.1,c),(c,p.2)]:List Pair).filter nonU):=fun ts f=>by
  obtain ⟨us,vs,rfl,f1,f2⟩:=f.appI
  match vs,f2 with
  | [x,y],f2 =>
    have x1:=f2.1
    have y1:=f2.2.1
    simp only at x1 y1
    have sn:(Bt.node x y).size=x.size+y.size+1:=rfl
    obtain ⟨g,e⟩:=f1.join (vs:=[.node x y]) (qs:=[p]) ⟨by rw [sn]; omega,trivial⟩
    obtain ⟨t,e1,pm⟩:=h _ g
    refine ⟨t,e1,pm.trans ?_⟩
    rw [e,(f1.join f2).2]
    have en:inQ [.node x y] [p]=(cutT x p.1++cutT y c)++[]:=by
      show (cutT x p.1++cutT y (p.1+1+(x.size:Int)))++[]=_
      rw [show p.1+1+(x.size:Int)=c by omega]
    have ev:inQ [x,y] [(p.1,c),(c,p.2)]=inT x p.1++(inT y c++[]):=rfl
    have nx:nonU (p.1,c)=decide (¬ x.size=0):=by
      unfold nonU
      simp only
      rw [decide_eq_decide]
      omega
    have ny:nonU (c,p.2)=decide (¬ y.size=0):=by
      unfold nonU
      simp only
      rw [decide_eq_decide]
      omega
    have ef:([(p.1,c),(c,p.2)]:List Pair).filter nonU=(if x.size=0 then [] else [(p.1,c)])++(if y.size=0 then [] else [(c,p.2)]):=by
      rw [List.filter_cons,List.filter_cons,List.filter_nil,nx,ny]
      by_cases hx:x.size=0<;>by_cases hy:y.size=0<;>simp [hx,hy]
    rw [en,ev,ef,cut_in x,cut_in y,show p.1+1+(x.size:Int)=c by omega,show c+1+(y.size:Int)=p.2 by omega]
    refine List.perm_iff_count.mpr fun z=>?_
    simp only [List.count_append,List.append_nil]
    omega
theorem PiT.tree {n:Nat} {cs qs:List Pair} (h:PiT n [] cs) (pm:qs.Perm cs):∃ t:Bt,t.size=n∧qs.Perm (inT t 0):=by
  obtain ⟨t,e,p⟩:=h [] trivial
  refine ⟨t,e,pm.trans ?_⟩
  have z:inQ [] []=[]:=rfl
  rw [z,List.append_nil] at p
  exact p.symm
noncomputable def kk (p:Pair):List Key:=[.inl p.1,.inl p.2]
theorem kk_inj {p q:Pair} (h:kk p=kk q):p=q:=by
  unfold kk at h
  injection h with h1 h2
  injection h2 with h2 _
  exact Prod.ext (Sum.inl.inj h1) (Sum.inl.inj h2)
noncomputable def dOf (ks:List Pair):List (List Key × V):=ks.map fun p=>(kk p,.bl true)
theorem val_dOf (p:Pair):∀ ks:List Pair,valV (dOf ks) (kk p)=if p∈ks then some (.bl true) else none
  | []=>by simp [dOf,valV]
  | q::ks=>by
    show valV ((kk q,V.bl true)::dOf ks) (kk p)=_
    by_cases e:q=p
    · subst e
      rw [valV_pos rfl,if_pos (List.mem_cons_self ..)]
    · rw [valV_neg (fun z=>e (kk_inj z)),val_dOf p ks]
      have:p∈q::ks↔p∈ks:=by
        rw [List.mem_cons]
        exact ⟨fun h=>h.elim (fun z=>absurd z.symm e) id,.inr⟩
      simp only [this]
noncomputable def insK (ks:List Pair) (p:Pair):List Pair:=if p∈ks then ks else ks++[p]
theorem put_dOf (ks:List Pair) (p:Pair):putK (dOf ks) (kk p) (.bl true)=dOf (insK ks p):=by
  unfold insK
  by_cases h:p∈ks
  · rw [if_pos h]
    have a:((dOf ks).any fun kv=>decide (kv.1=kk p))=true:=by
      rw [valV_any,val_dOf,if_pos h]
      rfl
    unfold putK
    rw [if_pos a]
    unfold dOf
    rw [List.map_map]
    refine List.map_congr_left fun q _=>?_
    show (if kk q=kk p then (kk q,V.bl true) else (kk q,V.bl true))=_
    split<;>rfl
  · rw [if_neg h,putK_new _ (by rw [val_dOf,if_neg h])]
    unfold dOf
    rw [List.map_append]
    rfl
theorem insK_new {ks:List Pair} {p:Pair} (h:p∉ks):insK ks p=ks++[p]:=if_neg h
noncomputable def lns (n:Nat) (ps:List Pair):List Pair:=ps++((List.range (n+1)).map fun (k:Nat)=>(((k:Int),(k:Int)+1):Pair))
theorem mem_units {n:Nat} {p:Pair}:p∈((List.range n).map fun (k:Nat)=>(((k:Int),(k:Int)+1):Pair))↔p.2=p.1+1∧0≤p.1∧p.1 < (n:Int):=by
  rw [List.mem_map]
  constructor
  · rintro ⟨k,hk,rfl⟩
    have:=List.mem_range.mp hk
    exact ⟨rfl,by show (0:Int)≤(k:Int); omega,by show (k:Int) < (n:Int); omega⟩
  · rintro ⟨h1,h2,h3⟩
    refine ⟨p.1.toNat,List.mem_range.mpr (by omega),Prod.ext ?_ ?_⟩
    · show ((p.1.toNat:Nat):Int)=p.1; omega
    · show ((p.1.toNat:Nat):Int)+1=p.2; omega
noncomputable def edges (n:Nat) (ps:List Pair):List Pair:=insK (lns n ps) (0,(n:Int)+1)
theorem mem_edges {t:Bt} {ps:List Pair} (pm:ps.Perm (inT t 0)) {p:Pair}:p∈edges t.size ps↔Ed t 0 p:=by
  have ml:p∈lns t.size ps↔p∈inT t 0∨(p.2=p.1+1∧0≤p.1∧p.1≤0+(t.size:Int)):=by
    unfold lns
    rw [List.mem_append,mem_units,pm.mem_iff]
    constructor
    · rintro (h | ⟨h1,h2,h3⟩)
      · exact .inl h
      · exact .inr ⟨h1,h2,by omega⟩
    · rintro (h | ⟨h1,h2,h3⟩)
      · exact .inl h
      · exact .inr ⟨h1,h2,by omega⟩
  have me:p∈edges t.size ps↔p∈lns t.size ps∨p=(0,(t.size:Int)+1):=by
    unfold edges insK
    split
    · rename_i h
      exact ⟨.inl,fun z=>z.elim id fun e=>by rw [e]; exact h⟩
    · rw [List.mem_append,List.mem_singleton]
  rw [me,ml]
  unfold Ed
  rw [cut_in,List.mem_append]
  constructor
  · rintro ((h | h) | h)
    · exact .inl (.inr h)
    · exact .inr h
    · have:=Ed.root t 0
      rw [h,show (t.size:Int)+1=0+1+(t.size:Int) by omega]
      unfold Ed at this
      rw [cut_in,List.mem_append] at this
      exact this
  · rintro ((h | h) | h)
    · split at h
      · cases h
      · right
        rw [List.mem_singleton.mp h,show 0+1+(t.size:Int)=(t.size:Int)+1 by omega]
    · exact .inl (.inl h)
    · exact .inl (.inr h)
theorem edges_nd {t:Bt} {ps:List Pair} (pm:ps.Perm (inT t 0)):(edges t.size ps).Nodup:=by
  have nl:(lns t.size ps).Nodup:=by
    unfold lns
    refine List.nodup_append.mpr ⟨?_,?_,fun p hp q hq e=>?_⟩
    · have:=cut_nd t 0
      rw [cut_in] at this
      exact pm.nodup_iff.mpr (List.nodup_append.mp this).2.1
    · refine List.Pairwise.map _ (fun a b h e=>h ?_) (List.nodup_range (n:=t.size+1))
      have:=congrArg Prod.fst e
      simp only at this
      omega
    · have h1:=cut_bd t 0 p (in_cut t 0 p (pm.mem_iff.mp hp))
      have h2:=mem_units.mp hq
      rw [← e] at h2
      omega
  unfold edges insK
  split
  · exact nl
  · rename_i h
    exact List.nodup_append.mpr ⟨nl,List.pairwise_singleton _ _,fun p hp q hq e=>h (by rw [← List.mem_singleton.mp hq,← e]; exact hp)⟩
noncomputable abbrev Trs (H:Hp):List V→List Tri→Prop:=Paired fun v x=>∃ a,v = .ref a∧H a=some (.tup [.int x.1,.int x.2.1,.int x.2.2])
theorem Trs.mono {H H':Hp} {xs:List V} {ts:List Tri} (h:Trs H xs ts) (k:∀ p ys,H p=some (.tup ys)→H' p=some (.tup ys)):Trs H' xs ts:=Paired.mapP h fun v x ⟨a,e,q⟩=>⟨a,e,k _ _ q⟩
theorem Trs.get {H:Hp} {xs:List V} {ts:List Tri} (h:Trs H xs ts):∀ {i:Nat} {v:V},xs[i]? = some v→∃ x a,ts[i]? = some x∧v = .ref a∧H a=some (.tup [.int x.1,.int x.2.1,.int x.2.2]):=by
  induction h with
  | nil=>intro i v e; cases e
  | cons hd tl ih =>
    intro i v e
    cases i with
    | zero=>cases e; obtain ⟨a,e1,e2⟩:=hd; exact ⟨_,a,rfl,e1,e2⟩
    | succ i=>exact ih e
noncomputable def tst (es:List Pair) (p:Pair) (c:Int):Bool:=decide ((p.1,c)∈es)&&decide ((p.2,c)∈es)
noncomputable def inn (es:List Pair) (p:Pair) (m:Nat):List Tri:=((List.range m).filter fun (j:Nat)=>tst es p (p.2+1+(j:Int))).map fun (j:Nat)=>(p.1,p.2,p.2+1+(j:Int))
theorem inn_succ (es:List Pair) (p:Pair) (m:Nat):inn es p (m+1)=inn es p m++(if tst es p (p.2+1+(m:Int))=true then [(p.1,p.2,p.2+1+(m:Int))] else []):=by
  unfold inn
  rw [List.range_succ,List.filter_append,List.map_append]
  refine congrArg _ ?_
  cases h:tst es p (p.2+1+(m:Int)) with
  | true=>rw [List.filter_cons_of_pos (by exact h)]; rfl
  | false=>rw [List.filter_cons_of_neg (by rw [h]; decide)]; rfl
noncomputable def fnd (es:List Pair) (n:Nat) (ks:List Pair):List Tri:=ks.flatMap fun p=>inn es p ((n:Int)+2 - (p.2+1)).toNat
theorem fnd_snoc (es:List Pair) (n:Nat) (ks:List Pair) (p:Pair):fnd es n (ks++[p])=fnd es n ks++inn es p ((n:Int)+2 - (p.2+1)).toNat:=by
  unfold fnd
  rw [List.flatMap_append]
  simp
theorem mem_inn {es:List Pair} {p:Pair} {m:Nat} {x:Tri}:x∈inn es p m↔x.1=p.1∧x.2.1=p.2∧p.2 < x.2.2∧x.2.2 < p.2+1+(m:Int)∧(p.1,x.2.2)∈es∧(p.2,x.2.2)∈es:=by
  unfold inn
  rw [List.mem_map]
  constructor
  · rintro ⟨j,hj,rfl⟩
    obtain ⟨h1,h2⟩:=List.mem_filter.mp hj
    have:=List.mem_range.mp h1
    unfold tst at h2
    rw [Bool.and_eq_true,decide_eq_true_iff,decide_eq_true_iff] at h2
    exact ⟨rfl,rfl,by show p.2 < p.2+1+(j:Int); omega,by show p.2+1+(j:Int) < _; omega,h2.1,h2.2⟩
  · rintro ⟨h1,h2,h3,h4,h5,h6⟩
    have e:p.2+1+(((x.2.2 - p.2 - 1).toNat:Nat):Int)=x.2.2:=by omega
    refine ⟨(x.2.2 - p.2 - 1).toNat,List.mem_filter.mpr ⟨List.mem_range.mpr (by omega),?_⟩,?_⟩
    · unfold tst
      rw [e,decide_eq_true h5,decide_eq_true h6]
      rfl
    · rw [e]
      exact Prod.ext h1.symm (Prod.ext h2.symm rfl)
theorem fnd_tri {t:Bt} {ps:List Pair} (pm:ps.Perm (inT t 0)):(fnd (edges t.size ps) t.size (edges t.size ps)).Perm (triT t 0):=by
  have nd:(fnd (edges t.size ps) t.size (edges t.size ps)).Nodup:=by
    unfold fnd
    refine List.pairwise_flatMap.mpr ⟨fun p _=>?_,?_⟩
    · unfold inn
      refine List.Pairwise.map _ (fun a b h e=>h ?_) (List.Pairwise.filter _ (List.nodup_range (n:=_)))
      have:=congrArg (fun x:Tri=>x.2.2) e
      simp only at this
      omega
    · refine (edges_nd pm).imp fun {p q} h x hx y hy e=>h ?_
      have h1:=mem_inn.mp hx
      have h2:=mem_inn.mp hy
      rw [e] at h1
      exact Prod.ext (h1.1.symm.trans h2.1) (h1.2.1.symm.trans h2.2.1)
  refine (List.perm_ext_iff_of_nodup nd (tri_nd t 0)).mpr fun x=>?_
  obtain ⟨a,b,c⟩:=x
  rw [← tri_iff]
  unfold fnd
  rw [List.mem_flatMap]
  constructor
  · rintro ⟨p,hp,hx⟩
    obtain ⟨h1,h2,h3,h4,h5,h6⟩:=mem_inn.mp hx
    simp only at h1 h2 h3 h4 h5 h6
    have ep:p=(a,b):=Prod.ext h1.symm h2.symm
    subst ep
    exact ⟨(mem_edges pm).mp hp,(mem_edges pm).mp h6,(mem_edges pm).mp h5⟩
  · rintro ⟨h1,h2,h3⟩
    have b3:=h3.bd
    have b2:=h2.bd
    simp only at b3 b2
    refine ⟨(a,b),(mem_edges pm).mpr h1,mem_inn.mpr ⟨rfl,rfl,b2.2.1,?_,(mem_edges pm).mpr h3,(mem_edges pm).mpr h2⟩⟩
    show c < b+1+((((t.size:Int)+2 - (b+1)).toNat:Nat):Int)
    omega
theorem tri_list {t:Bt} {ps ls:List Pair} {ts:List Tri} (pm:ps.Perm (inT t 0)) (pl:ls.Perm (cutT t 0)) (e:ts.map spn=ls) (h:∀ x∈ts,Thd ps x.1 x.2.2 x.2.1):ts.Perm (triT t 0):=by
  have nm:(ts.map spn).Nodup:=by rw [e]; exact pl.nodup_iff.mpr (cut_nd t 0)
  have nd:ts.Nodup:=List.Pairwise.of_map spn (fun a b n e=>n (congrArg spn e)) nm
  have sub:∀ x∈ts,x∈triT t 0:=fun x hx=>(h x hx).tri pm (pl.mem_iff.mp (by rw [← e]; exact List.mem_map_of_mem (f:=spn) hx))
  refine (List.perm_ext_iff_of_nodup nd (tri_nd t 0)).mpr fun x=>⟨sub x,fun hx=>?_⟩
  have hs:spn x∈ts.map spn:=by rw [e,pl.mem_iff,← tri_cut]; exact List.mem_map_of_mem hx
  obtain ⟨y,hy,ey⟩:=List.mem_map.mp hs
  have inj:=map_inj (f:=spn) (l:=triT t 0) (by rw [tri_cut]; exact cut_nd t 0)
  rw [← inj y (sub y hy) x hx ey]
  exact hy
theorem Trs.snoc {H:Hp}:∀ {xs:List V} {ts:List Tri} {a:Addr} {x:Tri},Trs H xs ts→H a=some (.tup [.int x.1,.int x.2.1,.int x.2.2])→Trs H (xs++[.ref a]) (ts++[x]):=fun h e=>Paired.snoc h ⟨_,rfl,e⟩
theorem Trs.len {H:Hp} {xs:List V} {ts:List Tri} (h:Trs H xs ts):xs.length=ts.length:=Paired.length h
theorem tri_len (t:Bt) (a:Int):(triT t a).length=t.size:=by
  have:=cut_len t a
  rw [← tri_cut,List.length_map] at this
  exact this
theorem prs_dOf {H:Hp}:∀ {bs:List Addr} {es:List Pair},Paired (fun b (p:List Key × V)=>H b=some (.tup (p.1.map kV))) bs (dOf es)→Prs H (bs.map V.ref) es:=by
  intro bs es h
  generalize e:dOf es=ks at h
  induction h generalizing es with
  | nil =>
    cases es with
    | nil=>exact .nil
    | cons p es=>cases e
  | @cons b k bs ks hb ht ih =>
    cases es with
    | nil=>cases e
    | cons p es =>
      have e1:(kk p,V.bl true)=k:=(List.cons.inj e).1
      have e2:dOf es=ks:=(List.cons.inj e).2
      subst e1
      exact .cons ⟨b,rfl,hb⟩ (ih e2)
theorem cut_new {t:Bt} {ps:List Pair} (pm:ps.Perm (inT t 0)) {i:Nat} {p:Pair} (h:ps[i]? = some p):insK (ps.take i) p=ps.take (i+1):=by
  have nd:ps.Nodup:=by
    have:=cut_nd t 0
    rw [cut_in] at this
    exact pm.nodup_iff.mpr (List.nodup_append.mp this).2.1
  have e:ps.take (i+1)=ps.take i++[p]:=by rw [List.take_add_one,h]; rfl
  rw [e]
  refine insK_new fun z=>?_
  have n2:(ps.take (i+1)).Nodup:=(List.take_sublist _ _).nodup nd
  rw [e] at n2
  exact (List.nodup_append.mp n2).2.2 p z p (List.mem_singleton.mpr rfl) rfl
theorem unit_new {t:Bt} {ps:List Pair} (pm:ps.Perm (inT t 0)) (i:Nat):insK (ps++((List.range i).map fun (k:Nat)=>(((k:Int),(k:Int)+1):Pair))) ((i:Int),(i:Int)+1)=ps++((List.range (i+1)).map fun (k:Nat)=>(((k:Int),(k:Int)+1):Pair)):=by
  rw [List.range_succ,List.map_append,← List.append_assoc]
  refine insK_new fun z=>?_
  rcases List.mem_append.mp z with z | z
  · have:=cut_bd t 0 _ (in_cut t 0 _ (pm.mem_iff.mp z))
    simp only at this
    omega
  · have:=mem_units.mp z
    simp only at this
    omega
theorem fnd_take (es:List Pair) (n:Nat) (ks:List Pair) (i:Nat):(fnd es n (ks.take i)).length≤(fnd es n ks).length:=by
  have e:fnd es n ks=fnd es n (ks.take i)++fnd es n (ks.drop i):=by
    unfold fnd
    rw [← List.flatMap_append,List.take_append_drop]
  rw [e,List.length_append]
  exact Nat.le_add_right _ _
theorem fnd_len {t:Bt} {ps:List Pair} (pm:ps.Perm (inT t 0)) (i:Nat):(fnd (edges t.size ps) t.size ((edges t.size ps).take i)).length≤t.size:=by
  have h:=fnd_take (edges t.size ps) t.size (edges t.size ps) i
  rw [(fnd_tri pm).length_eq,tri_len] at h
  exact h
theorem edges_len {t:Bt} {ps:List Pair} (pm:ps.Perm (inT t 0)):(edges t.size ps).length≤2*t.size+2:=by
  have l1:(lns t.size ps).length≤2*t.size+1:=by
    unfold lns
    rw [List.length_append,List.length_map,List.length_range,pm.length_eq,in_len]
    omega
  unfold edges insK
  split
  · omega
  · rw [List.length_append]
    show _+1≤_
    omega
end Ck
set_option Elab.async false
set_option linter.all false
set_option maxRecDepth 100000
namespace Ck
open PySem PySem.W PySem.Calls PyProof.Rows
noncomputable def endLook {α:Type} (p q:Program) (loose:List Str) (Xt:Shared→Bool) (Yf:Shared→α) (h0:Heap) (s:Shared) :=
  ((staticsOk (importedModules p.main.body) h0 s.heap&&namesBound p s.heap&&gensDone s&&laidKept h0 s.heap),
    openSeen q loose (importedModules p.main.body) Xt true s,Yf s)
theorem left_whole {p q:Program} {loose:List Str} {Xt:Shared→Bool} {α:Type} {Yf:Shared→α} {Ya:World→α} {N M m:Nat} {H:Params→Heap} {gs:Array GenState} {dr:Drawn} {tk:Nat} {an:Option Value}
    (o:∀ w:World,(fencedOpening treeTable p w N).map (fun s=>(s.heap,s.gens,s.drawn,s.toks))=some (H w.params,gs,dr,tk))
    (z:∀ w:World,((H w.params).isNs mainGlobals&&gs.size == 0,(H w.params).objs.size,(H w.params).nsMap mainGlobals "__annotations__")=(true,m,an))
    (r:∀ (w:World) (os:OsState),∃ e,topRun treeTable p w m an M ⟨H w.params,gs,dr,tk,os⟩ (topStub p)=some e∧endLook p q loose Xt Yf (H w.params) e=(true,openGood q loose,Ya w))
    (le:M≤N):LeftO p q loose Xt Yf Ya N:=by
  intro w
  have ow:=o w
  cases hf:fencedOpening treeTable p w N with
  | none=>rw [hf] at ow; cases ow
  | some s =>
    rw [hf] at ow
    have os:=Option.some.inj ow
    have e1:s.heap=H w.params:=congrArg Prod.fst os
    have e2:s.gens=gs:=congrArg (fun x=>x.2.1) os
    have e3:s.drawn=dr:=congrArg (fun x=>x.2.2.1) os
    have e4:s.toks=tk:=congrArg (fun x=>x.2.2.2) os
    obtain ⟨e,run,look⟩:=r w s.os
    have hs:s=⟨H w.params,gs,dr,tk,s.os⟩:=by rw [← e1,← e2,← e3,← e4]
    have run':=topRun_mono (N - M) _ _ _ _ run
    rw [Nat.add_sub_cancel' le] at run'
    have zw:=z w
    have z1:=congrArg Prod.fst zw
    have z2:=congrArg (fun x=>x.2.1) zw
    have z3:=congrArg (fun x=>x.2.2) zw
    dsimp only at z1 z2 z3
    have l1:=congrArg Prod.fst look
    have l2:=congrArg Prod.snd look
    have tf:topFrom treeTable p w N s=some e:=by
      rw [hs]
      unfold topFrom
      dsimp only
      rw [z1,z2,z3,run']
      unfold endLook at l1
      dsimp only at l1
      dsimp only [Option.bind]
      rw [l1]
    unfold openEnds
    rw [hf,Option.bind_some,tf]
    exact congrArg some l2
noncomputable def alive (o:Obj):Option Obj:=match o with
  | ⟨_,_,.freed,_⟩=>none
  | o=>some o
noncomputable def pickM:List Obj→List Bool→List (Option Obj)
  | _,[]=>[]
  | [],true::m=>none::pickM [] m
  | [],false::m=>pickM [] m
  | o::os,true::m=>alive o::pickM os m
  | _::os,false::m=>pickM os m
noncomputable def idxM:List Bool→Nat→List Nat
  | [],_=>[]
  | true::m,i=>i::idxM m (i+1)
  | false::m,i=>idxM m (i+1)
theorem pick_at:∀ (m:List Bool) (os:List Obj) (pre:List Obj),pickM os m=(idxM m pre.length).map fun a=>(pre++os)[a]?.bind alive
  | [],os,pre=>by cases os<;>rfl
  | b::m,[],pre=>by
    have k:=pick_at m [] (pre++[default])
    rw [List.length_append,List.length_singleton] at k
    have e:∀ i,pre.length < i→((pre++[(default:Obj)])++[])[i]?.bind alive=(pre++[])[i]?.bind alive:=fun i hi=>by
      rw [List.getElem?_eq_none (by simp; omega),List.getElem?_eq_none (by simp; omega)]
    have lt:∀ (m:List Bool) (n i:Nat),i∈idxM m n→n≤i:=by
      intro m
      induction m with
      | nil=>intro n i h; cases h
      | cons b m ih=>intro n i h; cases b with
        | true =>
          rcases List.mem_cons.1 h with h | h
          · omega
          · have:=ih _ _ h; omega
        | false=>have:=ih _ _ h; omega
    have k':pickM [] m=(idxM m (pre.length+1)).map fun a=>(pre++[])[a]?.bind alive:=by
      rw [k]; exact List.map_congr_left fun i hi=>e i (lt _ _ _ hi)
    cases b with
    | true=>show none::pickM [] m=_::_; rw [k']; congr 1; simp
    | false=>exact k'
  | b::m,o::os,pre=>by
    have k:=pick_at m os (pre++[o])
    rw [List.length_append,List.length_singleton,List.append_assoc,List.singleton_append] at k
    cases b with
    | true=>show alive o::pickM os m=_::_; rw [k]; congr 1; simp
    | false=>exact k
theorem get_alive (h:Heap) (a:Addr):h.get? a=h.objs.toList[a]?.bind alive:=by
  unfold Heap.get?
  rw [Array.getElem?_toList]
  cases h.objs[a]? with
  | none=>rfl
  | some o=>obtain ⟨c,d,x,s⟩:=o; cases x<;>rfl
theorem pick_eq {m:List Bool} {as:List Addr} (e:as=idxM m 0) (h:Heap):as.map h.get? = pickM h.objs.toList m:=by
  rw [pick_at m h.objs.toList [],e]
  exact List.map_congr_left fun a _=>get_alive h a
section
variable {tb:String→Option Builtin} {p:Program} {w:World} {m:Nat} {an:Option Value} {env:Env} {q:Pos}
noncomputable def lookEnd {β:Type} (tb:String→Option Builtin) (p:Program) (w:World) (m:Nat) (an:Option Value) (q:Pos) (c:Code) (n4:Nat) (L:Shared→β) (r:Flow × SharedT × Code × Pos):Flow × Code × Option β :=
  (r.1,r.2.2.1,(topRun tb p w m an n4 r.2.1.abs ⟨doneF .next,c,r.2.2.2,[topFrame q]⟩).map L)
theorem run_two {β:Type} {L:Shared→β} {b:List Stmt} {c:Code} {k n1 n2 n3 n4 n5:Nat} {S0 Sa:Shared} {Sb Sc:SharedT} {pos0 pos1 pos2:Pos} {z:β} (hc:c = .body b env)
    (h1:topGo tb p w m an n1 S0 (topStub p)=some (Sa,⟨denote tb c,c,pos0,[topFrame q]⟩))
    (h2:segRun tb p w m an 1 n2 Sa (blockOf b env c pos0 [topFrame q])=some (.next,Sb.abs,c,pos1))
    (h3:segRunT tb p w m an 1 n3 Sb (piecesOf (b.take k) env c pos1 [topFrame q])=some (.next,Sc,c,pos2))
    (h4:(segRunT tb p w m an 1 n5 Sc (piecesOf (b.drop k) env c pos2 [topFrame q])).map (lookEnd tb p w m an q c n4 L)=some (.next,c,some z)) :
    ∃ e,topRun tb p w m an (n1+(n2+(n3+(n5+n4)))) S0 (topStub p)=some e∧L e=z:=by
  cases hr:segRunT tb p w m an 1 n5 Sc (piecesOf (b.drop k) env c pos2 [topFrame q]) with
  | none=>rw [hr] at h4; cases h4
  | some x =>
    obtain ⟨f,s,d,ps⟩:=x
    rw [hr] at h4
    have h4:=Option.some.inj h4
    unfold lookEnd at h4
    have a1:f = .next:=congrArg Prod.fst h4
    have a2:d=c:=congrArg (fun x=>x.2.1) h4
    have a3:=congrArg (fun x=>x.2.2) h4
    dsimp only at a3
    subst a1 a2 hc
    cases ht:topRun tb p w m an n4 s.abs ⟨doneF .next,.body b env,ps,[topFrame q]⟩ with
    | none=>rw [ht] at a3; cases a3
    | some e =>
      rw [ht] at a3
      have k2:=piece_app (rest:=[]) (segRun_of hr) (piece_nil ht)
      rw [List.append_nil] at k2
      have k1:=piece_app (segRun_of h3) k2
      rw [List.take_append_drop] at k1
      exact ⟨e,go_top h1 (piece_block h2 k1),Option.some.inj a3⟩
end
end Ck
set_option maxHeartbeats 4000000
namespace Ck
open PySem L2
noncomputable def top (i:Nat):Stmt:=PySem.Challenge.pw_countkin_k50_marks_of_floors.main.body.getD i (.Pass ⟨0,0,0,0⟩)
structure ClA where
 C_Floors:Addr
 C_Brackets:Addr
 C_Stairs:Addr
 C_Twins:Addr
 C_Bows:Addr
 C_Rooms:Addr
 C_Turns:Addr
 C_Codes:Addr
 C_Trees:Addr
 C_Cars:Addr
 C_SplitFamily:Addr
 C_Family:Addr
 C_RingFamily:Addr
 f_u11:Addr
 f_u0:Addr
 f_u21:Addr
 f_u12:Addr
 f_u2:Addr
 f_u22:Addr
 f_u14:Addr
 f_u6:Addr
 f_u28:Addr
 f_u19:Addr
 f_u8:Addr
 f_u31:Addr
 f_u15:Addr
 f_u5:Addr
 f_u25:Addr
 f_u13:Addr
 f_u1:Addr
 f_u23:Addr
 f_u17:Addr
 f_u3:Addr
 f_u24:Addr
 f_u16:Addr
 f_u7:Addr
 f_u27:Addr
 f_u18:Addr
 f_u9:Addr
 f_u26:Addr
 f_u20:Addr
 f_u10:Addr
 f_u30:Addr
 f_u33:Addr
 f_u4:Addr
 F_cars_rootage:Addr
 F_cars_leaves:Addr
 F_trees_rootage:Addr
 F_trees_leaves:Addr
 F_codes_rootage:Addr
 F_codes_leaves:Addr
 F_turns_height:Addr
 F_turns_returns:Addr
 F_turns_peaks:Addr
 F_floor_returns:Addr
 F_floor_peaks:Addr
 F_rooms_returns:Addr
 F_rooms_peaks:Addr
 F_bows_height:Addr
 F_bows_returns:Addr
 F_bows_peaks:Addr
 F_twins_height:Addr
 F_twins_returns:Addr
 F_twins_peaks:Addr
 F_stairs_height:Addr
 F_stairs_returns:Addr
 F_stairs_peaks:Addr
 F_brackets_height:Addr
 F_brackets_returns:Addr
 F_brackets_peaks:Addr
structure ClOk (K:PySem.W.Frag) (mg:Str→Option Value) (ca:ClA):Prop where
 m_Brackets:mg "Brackets" = some (.ref ca.C_Brackets)
 m_Stairs:mg "Stairs" = some (.ref ca.C_Stairs)
 m_Twins:mg "Twins" = some (.ref ca.C_Twins)
 m_Bows:mg "Bows" = some (.ref ca.C_Bows)
 m_Rooms:mg "Rooms" = some (.ref ca.C_Rooms)
 m_Floors:mg "Floors" = some (.ref ca.C_Floors)
 m_Turns:mg "Turns" = some (.ref ca.C_Turns)
 m_SplitFamily:mg "SplitFamily" = some (.ref ca.C_SplitFamily)
 m_Family:mg "Family" = some (.ref ca.C_Family)
 m_Codes:mg "Codes" = some (.ref ca.C_Codes)
 m_Trees:mg "Trees" = some (.ref ca.C_Trees)
 m_Cars:mg "Cars" = some (.ref ca.C_Cars)
 m_RingFamily:mg "RingFamily" = some (.ref ca.C_RingFamily)
 c_Floors:Cls K ca.C_Floors
 c_Brackets:Cls K ca.C_Brackets
 c_Stairs:Cls K ca.C_Stairs
 c_Twins:Cls K ca.C_Twins
 c_Bows:Cls K ca.C_Bows
 c_Rooms:Cls K ca.C_Rooms
 c_Turns:Cls K ca.C_Turns
 c_Codes:Cls K ca.C_Codes
 c_Trees:Cls K ca.C_Trees
 c_Cars:Cls K ca.C_Cars
 mt_Floors_refuse_other:Meth K ca.C_Floors "refuse_other" ca.f_u4
 mt_Floors_is_one:Meth K ca.C_Floors "is_one" ca.f_u33
 mk_Brackets:Mk K ca.C_Brackets ca.f_u21
 mk_Stairs:Mk K ca.C_Stairs ca.f_u22
 mk_Twins:Mk K ca.C_Twins ca.f_u28
 mk_Bows:Mk K ca.C_Bows ca.f_u31
 mk_Rooms:Mk K ca.C_Rooms ca.f_u25
 mk_Floors:Mk K ca.C_Floors ca.f_u23
 mk_Turns:Mk K ca.C_Turns ca.f_u24
 mk_Codes:Mk K ca.C_Codes ca.f_u27
 mk_Trees:Mk K ca.C_Trees ca.f_u26
 mk_Cars:Mk K ca.C_Cars ca.f_u30
 cm_SplitFamily___init___Brackets:ClsM K ca.C_SplitFamily "__init__" ca.f_u0
 cm_Family___init___Brackets:ClsM K ca.C_Family "__init__" ca.f_u11
 cm_SplitFamily___init___Stairs:ClsM K ca.C_SplitFamily "__init__" ca.f_u2
 cm_Family___init___Stairs:ClsM K ca.C_Family "__init__" ca.f_u12
 cm_SplitFamily___init___Twins:ClsM K ca.C_SplitFamily "__init__" ca.f_u6
 cm_Family___init___Twins:ClsM K ca.C_Family "__init__" ca.f_u14
 cm_SplitFamily___init___Bows:ClsM K ca.C_SplitFamily "__init__" ca.f_u8
 cm_Family___init___Bows:ClsM K ca.C_Family "__init__" ca.f_u19
 cm_SplitFamily___init___Rooms:ClsM K ca.C_SplitFamily "__init__" ca.f_u5
 cm_Family___init___Rooms:ClsM K ca.C_Family "__init__" ca.f_u15
 cm_SplitFamily___init___Floors:ClsM K ca.C_SplitFamily "__init__" ca.f_u1
 cm_Family___init___Floors:ClsM K ca.C_Family "__init__" ca.f_u13
 cm_SplitFamily___init___Turns:ClsM K ca.C_SplitFamily "__init__" ca.f_u3
 cm_Family___init___Turns:ClsM K ca.C_Family "__init__" ca.f_u17
 cm_RingFamily___init___Codes:ClsM K ca.C_RingFamily "__init__" ca.f_u7
 cm_Family___init___Codes:ClsM K ca.C_Family "__init__" ca.f_u16
 cm_RingFamily___init___Trees:ClsM K ca.C_RingFamily "__init__" ca.f_u9
 cm_Family___init___Trees:ClsM K ca.C_Family "__init__" ca.f_u18
 cm_RingFamily___init___Cars:ClsM K ca.C_RingFamily "__init__" ca.f_u10
 cm_Family___init___Cars:ClsM K ca.C_Family "__init__" ca.f_u20
 na_Brackets_word:NoAttr K ca.C_Brackets "word"
 na_Stairs_word:NoAttr K ca.C_Stairs "word"
 na_Twins_word:NoAttr K ca.C_Twins "word"
 na_Bows_word:NoAttr K ca.C_Bows "word"
 na_Rooms_word:NoAttr K ca.C_Rooms "word"
 na_Floors_word:NoAttr K ca.C_Floors "word"
 na_Turns_word:NoAttr K ca.C_Turns "word"
 na_Codes_word:NoAttr K ca.C_Codes "word"
 na_Trees_word:NoAttr K ca.C_Trees "word"
 na_Cars_word:NoAttr K ca.C_Cars "word"
 na_Brackets_least:NoAttr K ca.C_Brackets "least"
 na_Stairs_least:NoAttr K ca.C_Stairs "least"
 na_Twins_least:NoAttr K ca.C_Twins "least"
 na_Bows_least:NoAttr K ca.C_Bows "least"
 na_Rooms_least:NoAttr K ca.C_Rooms "least"
 na_Floors_least:NoAttr K ca.C_Floors "least"
 na_Turns_least:NoAttr K ca.C_Turns "least"
 na_Codes_least:NoAttr K ca.C_Codes "least"
 na_Trees_least:NoAttr K ca.C_Trees "least"
 na_Cars_least:NoAttr K ca.C_Cars "least"
 g_cars_rootage:mg "cars_rootage" = some (.ref ca.F_cars_rootage)
 g_cars_leaves:mg "cars_leaves" = some (.ref ca.F_cars_leaves)
 g_trees_rootage:mg "trees_rootage" = some (.ref ca.F_trees_rootage)
 g_trees_leaves:mg "trees_leaves" = some (.ref ca.F_trees_leaves)
 g_codes_rootage:mg "codes_rootage" = some (.ref ca.F_codes_rootage)
 g_codes_leaves:mg "codes_leaves" = some (.ref ca.F_codes_leaves)
 g_turns_height:mg "turns_height" = some (.ref ca.F_turns_height)
 g_turns_returns:mg "turns_returns" = some (.ref ca.F_turns_returns)
 g_turns_peaks:mg "turns_peaks" = some (.ref ca.F_turns_peaks)
 g_floor_returns:mg "floor_returns" = some (.ref ca.F_floor_returns)
 g_floor_peaks:mg "floor_peaks" = some (.ref ca.F_floor_peaks)
 g_rooms_returns:mg "rooms_returns" = some (.ref ca.F_rooms_returns)
 g_rooms_peaks:mg "rooms_peaks" = some (.ref ca.F_rooms_peaks)
 g_bows_height:mg "bows_height" = some (.ref ca.F_bows_height)
 g_bows_returns:mg "bows_returns" = some (.ref ca.F_bows_returns)
 g_bows_peaks:mg "bows_peaks" = some (.ref ca.F_bows_peaks)
 g_twins_height:mg "twins_height" = some (.ref ca.F_twins_height)
 g_twins_returns:mg "twins_returns" = some (.ref ca.F_twins_returns)
 g_twins_peaks:mg "twins_peaks" = some (.ref ca.F_twins_peaks)
 g_stairs_height:mg "stairs_height" = some (.ref ca.F_stairs_height)
 g_stairs_returns:mg "stairs_returns" = some (.ref ca.F_stairs_returns)
 g_stairs_peaks:mg "stairs_peaks" = some (.ref ca.F_stairs_peaks)
 g_brackets_height:mg "brackets_height" = some (.ref ca.F_brackets_height)
 g_brackets_returns:mg "brackets_returns" = some (.ref ca.F_brackets_returns)
 g_brackets_peaks:mg "brackets_peaks" = some (.ref ca.F_brackets_peaks)
noncomputable abbrev s_u37:Stmt:=top 86
theorem sc_u37:FnScope ["_law_script","_law_k"] ["_law_script","_law_k"] (defScope s_u37):=⟨rfl,rfl,rfl,by decide +kernel,rfl,by decide +kernel,by decide +kernel⟩
noncomputable abbrev s_u40:Stmt:=top 87
theorem sc_u40:FnScope ["_law_script","_law_turn","_law_many","_law_cells","_law_found","_law_left","_law_k","_law_at","_law_place","_law_number"] ["_law_script","_law_turn","_law_many"] (defScope s_u40):=⟨rfl,rfl,rfl,by decide +kernel,rfl,by decide +kernel,by decide +kernel⟩
noncomputable abbrev s_u45:Stmt:=top 88
theorem sc_u45:FnScope ["_law_script","_law_size","_law_turn","_law_draws_here","_law_side","_law_cuts_here","_law_pile","_law_k","_law_a","_law_b","_law_third","_law_part"] ["_law_script","_law_size","_law_turn"] (defScope s_u45):=⟨rfl,rfl,rfl,by decide +kernel,rfl,by decide +kernel,by decide +kernel⟩
noncomputable abbrev s_u32:Stmt:=top 90
theorem sc_u32:FnScope ["_law_corners","_law_cuts_here","_law_joined","_law_cut","_law_k","_law_found","_law_a","_law_b","_law_c"] ["_law_corners","_law_cuts_here"] (defScope s_u32):=⟨rfl,rfl,rfl,by decide +kernel,rfl,by decide +kernel,by decide +kernel⟩
noncomputable abbrev s_u11:Stmt:=inClass (top 16) 0
theorem sc_u11:FnScope ["self","word","least"] ["self","word","least"] (defScope s_u11):=⟨rfl,rfl,rfl,by decide +kernel,rfl,by decide +kernel,by decide +kernel⟩
noncomputable abbrev s_u0:Stmt:=inClass (top 17) 0
theorem sc_u0:FnScope ["self","word"] ["self","word"] (defScope s_u0):=⟨rfl,rfl,rfl,by decide +kernel,rfl,by decide +kernel,by decide +kernel⟩
noncomputable abbrev s_u21:Stmt:=inClass (top 40) 0
theorem sc_u21:FnScope ["self"] ["self"] (defScope s_u21):=⟨rfl,rfl,rfl,by decide +kernel,rfl,by decide +kernel,by decide +kernel⟩
noncomputable abbrev s_u12:Stmt:=inClass (top 16) 0
theorem sc_u12:FnScope ["self","word","least"] ["self","word","least"] (defScope s_u12):=⟨rfl,rfl,rfl,by decide +kernel,rfl,by decide +kernel,by decide +kernel⟩
noncomputable abbrev s_u2:Stmt:=inClass (top 17) 0
theorem sc_u2:FnScope ["self","word"] ["self","word"] (defScope s_u2):=⟨rfl,rfl,rfl,by decide +kernel,rfl,by decide +kernel,by decide +kernel⟩
noncomputable abbrev s_u22:Stmt:=inClass (top 41) 0
theorem sc_u22:FnScope ["self"] ["self"] (defScope s_u22):=⟨rfl,rfl,rfl,by decide +kernel,rfl,by decide +kernel,by decide +kernel⟩
noncomputable abbrev s_u14:Stmt:=inClass (top 16) 0
theorem sc_u14:FnScope ["self","word","least"] ["self","word","least"] (defScope s_u14):=⟨rfl,rfl,rfl,by decide +kernel,rfl,by decide +kernel,by decide +kernel⟩
noncomputable abbrev s_u6:Stmt:=inClass (top 17) 0
theorem sc_u6:FnScope ["self","word"] ["self","word"] (defScope s_u6):=⟨rfl,rfl,rfl,by decide +kernel,rfl,by decide +kernel,by decide +kernel⟩
noncomputable abbrev s_u28:Stmt:=inClass (top 43) 0
theorem sc_u28:FnScope ["self"] ["self"] (defScope s_u28):=⟨rfl,rfl,rfl,by decide +kernel,rfl,by decide +kernel,by decide +kernel⟩
noncomputable abbrev s_u19:Stmt:=inClass (top 16) 0
theorem sc_u19:FnScope ["self","word","least"] ["self","word","least"] (defScope s_u19):=⟨rfl,rfl,rfl,by decide +kernel,rfl,by decide +kernel,by decide +kernel⟩
noncomputable abbrev s_u8:Stmt:=inClass (top 17) 0
theorem sc_u8:FnScope ["self","word"] ["self","word"] (defScope s_u8):=⟨rfl,rfl,rfl,by decide +kernel,rfl,by decide +kernel,by decide +kernel⟩
noncomputable abbrev s_u31:Stmt:=inClass (top 19) 0
theorem sc_u31:FnScope ["self"] ["self"] (defScope s_u31):=⟨rfl,rfl,rfl,by decide +kernel,rfl,by decide +kernel,by decide +kernel⟩
noncomputable abbrev s_u15:Stmt:=inClass (top 16) 0
theorem sc_u15:FnScope ["self","word","least"] ["self","word","least"] (defScope s_u15):=⟨rfl,rfl,rfl,by decide +kernel,rfl,by decide +kernel,by decide +kernel⟩
noncomputable abbrev s_u5:Stmt:=inClass (top 17) 0
theorem sc_u5:FnScope ["self","word"] ["self","word"] (defScope s_u5):=⟨rfl,rfl,rfl,by decide +kernel,rfl,by decide +kernel,by decide +kernel⟩
noncomputable abbrev s_u25:Stmt:=inClass (top 20) 0
theorem sc_u25:FnScope ["self"] ["self"] (defScope s_u25):=⟨rfl,rfl,rfl,by decide +kernel,rfl,by decide +kernel,by decide +kernel⟩
noncomputable abbrev s_u13:Stmt:=inClass (top 16) 0
theorem sc_u13:FnScope ["self","word","least"] ["self","word","least"] (defScope s_u13):=⟨rfl,rfl,rfl,by decide +kernel,rfl,by decide +kernel,by decide +kernel⟩
noncomputable abbrev s_u1:Stmt:=inClass (top 17) 0
theorem sc_u1:FnScope ["self","word"] ["self","word"] (defScope s_u1):=⟨rfl,rfl,rfl,by decide +kernel,rfl,by decide +kernel,by decide +kernel⟩
noncomputable abbrev s_u23:Stmt:=inClass (top 31) 0
theorem sc_u23:FnScope ["self"] ["self"] (defScope s_u23):=⟨rfl,rfl,rfl,by decide +kernel,rfl,by decide +kernel,by decide +kernel⟩
noncomputable abbrev s_u17:Stmt:=inClass (top 16) 0
theorem sc_u17:FnScope ["self","word","least"] ["self","word","least"] (defScope s_u17):=⟨rfl,rfl,rfl,by decide +kernel,rfl,by decide +kernel,by decide +kernel⟩
noncomputable abbrev s_u3:Stmt:=inClass (top 17) 0
theorem sc_u3:FnScope ["self","word"] ["self","word"] (defScope s_u3):=⟨rfl,rfl,rfl,by decide +kernel,rfl,by decide +kernel,by decide +kernel⟩
noncomputable abbrev s_u24:Stmt:=inClass (top 35) 0
theorem sc_u24:FnScope ["self"] ["self"] (defScope s_u24):=⟨rfl,rfl,rfl,by decide +kernel,rfl,by decide +kernel,by decide +kernel⟩
noncomputable abbrev s_u29:Stmt:=top 45
theorem sc_u29:FnScope [] [] (defScope s_u29):=⟨rfl,rfl,rfl,by decide +kernel,rfl,by decide +kernel,by decide +kernel⟩
noncomputable abbrev s_u16:Stmt:=inClass (top 16) 0
theorem sc_u16:FnScope ["self","word","least"] ["self","word","least"] (defScope s_u16):=⟨rfl,rfl,rfl,by decide +kernel,rfl,by decide +kernel,by decide +kernel⟩
noncomputable abbrev s_u7:Stmt:=inClass (top 23) 0
theorem sc_u7:FnScope ["self","word"] ["self","word"] (defScope s_u7):=⟨rfl,rfl,rfl,by decide +kernel,rfl,by decide +kernel,by decide +kernel⟩
noncomputable abbrev s_u27:Stmt:=inClass (top 24) 0
theorem sc_u27:FnScope ["self"] ["self"] (defScope s_u27):=⟨rfl,rfl,rfl,by decide +kernel,rfl,by decide +kernel,by decide +kernel⟩
noncomputable abbrev s_u18:Stmt:=inClass (top 16) 0
theorem sc_u18:FnScope ["self","word","least"] ["self","word","least"] (defScope s_u18):=⟨rfl,rfl,rfl,by decide +kernel,rfl,by decide +kernel,by decide +kernel⟩
noncomputable abbrev s_u9:Stmt:=inClass (top 23) 0
theorem sc_u9:FnScope ["self","word"] ["self","word"] (defScope s_u9):=⟨rfl,rfl,rfl,by decide +kernel,rfl,by decide +kernel,by decide +kernel⟩
noncomputable abbrev s_u26:Stmt:=inClass (top 28) 0
theorem sc_u26:FnScope ["self"] ["self"] (defScope s_u26):=⟨rfl,rfl,rfl,by decide +kernel,rfl,by decide +kernel,by decide +kernel⟩
noncomputable abbrev s_u20:Stmt:=inClass (top 16) 0
theorem sc_u20:FnScope ["self","word","least"] ["self","word","least"] (defScope s_u20):=⟨rfl,rfl,rfl,by decide +kernel,rfl,by decide +kernel,by decide +kernel⟩
noncomputable abbrev s_u10:Stmt:=inClass (top 23) 0
theorem sc_u10:FnScope ["self","word"] ["self","word"] (defScope s_u10):=⟨rfl,rfl,rfl,by decide +kernel,rfl,by decide +kernel,by decide +kernel⟩
noncomputable abbrev s_u30:Stmt:=inClass (top 26) 0
theorem sc_u30:FnScope ["self"] ["self"] (defScope s_u30):=⟨rfl,rfl,rfl,by decide +kernel,rfl,by decide +kernel,by decide +kernel⟩
noncomputable abbrev s_u34:Stmt:=top 46
theorem sc_u34:FnScope [] [] (defScope s_u34):=⟨rfl,rfl,rfl,by decide +kernel,rfl,by decide +kernel,by decide +kernel⟩
noncomputable abbrev s_u42:Stmt:=top 47
theorem sc_u42:FnScope ["word","family"] ["word"] (defScope s_u42):=⟨rfl,rfl,rfl,by decide +kernel,rfl,by decide +kernel,by decide +kernel⟩
noncomputable abbrev s_u38:Stmt:=top 82
theorem sc_u38:FnScope [] [] (defScope s_u38):=⟨rfl,rfl,rfl,by decide +kernel,rfl,by decide +kernel,by decide +kernel⟩
noncomputable abbrev s_u47:Stmt:=top 83
theorem sc_u47:FnScope ["word","family"] ["word"] (defScope s_u47):=⟨rfl,rfl,rfl,by decide +kernel,rfl,by decide +kernel,by decide +kernel⟩
noncomputable abbrev s_u46:Stmt:=top 10
theorem sc_u46:FnScope ["pairs","a","b","c","d"] ["pairs"] (defScope s_u46):=⟨rfl,rfl,rfl,by decide +kernel,rfl,by decide +kernel,by decide +kernel⟩
noncomputable abbrev s_u41:Stmt:=top 32
theorem sc_u41:FnScope ["corners","a","b"] ["corners","a","b"] (defScope s_u41):=⟨rfl,rfl,rfl,by decide +kernel,rfl,by decide +kernel,by decide +kernel⟩
noncomputable abbrev s_u33:Stmt:=inClass (top 31) 2
theorem sc_u33:FnScope ["self","thing","corners","cuts"] ["self","thing"] (defScope s_u33):=⟨rfl,rfl,rfl,by decide +kernel,rfl,by decide +kernel,by decide +kernel⟩
noncomputable abbrev s_u4:Stmt:=inClass (top 16) 7
theorem sc_u4:FnScope ["self","thing"] ["self","thing"] (defScope s_u4):=⟨rfl,rfl,rfl,by decide +kernel,rfl,by decide +kernel,by decide +kernel⟩
noncomputable abbrev s_u36:Stmt:=top 33
theorem sc_u36:FnScope ["cuts","begin","end"] ["cuts","begin","end"] (defScope s_u36):=⟨rfl,rfl,rfl,by decide +kernel,rfl,by decide +kernel,by decide +kernel⟩
noncomputable abbrev s_u44:Stmt:=top 70
theorem sc_u44:FnScope ["thing","last","cuts","lines"] ["thing"] (defScope s_u44):=⟨rfl,rfl,rfl,by decide +kernel,rfl,by decide +kernel,by decide +kernel⟩
noncomputable abbrev s_u39:Stmt:=top 71
theorem sc_u39:FnScope ["thing"] ["thing"] (defScope s_u39):=⟨rfl,rfl,rfl,by decide +kernel,rfl,by decide +kernel,by decide +kernel⟩
noncomputable abbrev s_u35:Stmt:=top 72
theorem sc_u35:FnScope ["thing"] ["thing"] (defScope s_u35):=⟨rfl,rfl,rfl,by decide +kernel,rfl,by decide +kernel,by decide +kernel⟩
noncomputable abbrev s_u48:Stmt:=top 84
theorem sc_u48:FnScope ["word","name","thing","family"] ["word","name","thing"] (defScope s_u48):=⟨rfl,rfl,rfl,by decide +kernel,rfl,by decide +kernel,by decide +kernel⟩
noncomputable abbrev s_u43:Stmt:=top 89
theorem sc_u43:FnScope ["_law_word","_law_names","_law_thing","_law_due","_law_k","_law_j","_law_found"] ["_law_word","_law_names","_law_thing","_law_due"] (defScope s_u43):=⟨rfl,rfl,rfl,by decide +kernel,rfl,by decide +kernel,by decide +kernel⟩
noncomputable abbrev s_u49:Stmt:=top 91
theorem sc_u49:FnScope ["_law_script","_law_size","_law_cuts_here","_law_peaks","_law_returns","_law_a","_law_b","_law_c","_law_handed"] ["_law_script"] (defScope s_u49):=⟨rfl,rfl,rfl,by decide +kernel,rfl,by decide +kernel,by decide +kernel⟩
noncomputable def sp_u37 (K:PySem.W.Frag) (_:ClA):Sp:=fun vs H Q _=>∃ (a:Addr) (ns:List Int) (k:Int),vs=[.ref a,.int k]∧SqL K H a (ns.map V.int)∧0≤k∧Q (.int (ns.getD k.toNat 0)) H
noncomputable def sp_u40 (K:PySem.W.Frag) (_:ClA):Sp:=fun vs H Q _=>∃ (a:Addr) (ns:List Int) (t m:Int),vs=[.ref a,.int t,.int m]∧SqL K H a (ns.map V.int)∧ns.length≤63∧0≤t∧t≤1000∧0≤m∧m≤1000 ∧
 ∀ (p:Addr) (xs:List Int) (H':Hp),Same H H'→H p=none→H' p=some (.lst (xs.map V.int))→xs.length=m.toNat→(∀ x∈xs,0≤x∧x < 2147483587)→Q (.ref p) H'
noncomputable def sp_u45 (K:PySem.W.Frag) (_:ClA):Sp:=fun vs H Q _=>∃ (a:Addr) (ns:List Int) (n:Nat) (t:Int),vs=[.ref a,.int n,.int t]∧SqL K H a (ns.map V.int)∧ns.length≤63∧n≤40∧0≤t∧t≤900 ∧
 ∀ (p:Addr) (ps:List Pair) (H':Hp),Same H H'→H p=none→PLs H' p ps→∀ t:Bt,t.size=n→ps.Perm (inT t 0)→ps.Pairwise leP→Q (.ref p) H'
noncomputable def sp_u32 (K:PySem.W.Frag) (_:ClA):Sp:=fun vs H Q _=>∃ (l:Addr) (t:Bt) (ps:List Pair),vs=[.int ((t.size:Int)+2),.ref l]∧PLs H l ps∧ps.Perm (inT t 0)∧t.size≤40∧∀ (p:Addr) (xs:List V) (ts:List Tri) (H':Hp),Same H H'→H p=none→H' p=some (.lst xs)→Trs H' xs ts→ts.Perm (triT t 0)→Q (.ref p) H'
noncomputable def sp_u11 (_:PySem.W.Frag) (ca:ClA):Sp:=fun vs H Q _=>∃ (x dx:Addr) (w:Str) (l:Int),vs=[.ref x,.str w,.int l]∧H x=some (.ins ca.C_Brackets dx [])∧∀ (fs:List (Str × V)) (H':Hp),H'=upd H x (.ins ca.C_Brackets dx fs)→Flds fs w l→Q .non H'
noncomputable def sp_u0 (_:PySem.W.Frag) (ca:ClA):Sp:=fun vs H Q _=>∃ (x dx:Addr) (w:Str),vs=[.ref x,.str w]∧H x=some (.ins ca.C_Brackets dx [])∧∀ (fs:List (Str × V)) (H':Hp),H'=upd H x (.ins ca.C_Brackets dx fs)→Flds fs w 0→Q .non H'
noncomputable def sp_u21 (_:PySem.W.Frag) (ca:ClA):Sp:=fun vs H Q _=>∃ x dx,vs=[.ref x]∧H x=some (.ins ca.C_Brackets dx [])∧∀ (fs:List (Str × V)) (H':Hp),H'=upd H x (.ins ca.C_Brackets dx fs)→Flds fs "brackets" 0→Q .non H'
noncomputable def sp_u12 (_:PySem.W.Frag) (ca:ClA):Sp:=fun vs H Q _=>∃ (x dx:Addr) (w:Str) (l:Int),vs=[.ref x,.str w,.int l]∧H x=some (.ins ca.C_Stairs dx [])∧∀ (fs:List (Str × V)) (H':Hp),H'=upd H x (.ins ca.C_Stairs dx fs)→Flds fs w l→Q .non H'
noncomputable def sp_u2 (_:PySem.W.Frag) (ca:ClA):Sp:=fun vs H Q _=>∃ (x dx:Addr) (w:Str),vs=[.ref x,.str w]∧H x=some (.ins ca.C_Stairs dx [])∧∀ (fs:List (Str × V)) (H':Hp),H'=upd H x (.ins ca.C_Stairs dx fs)→Flds fs w 0→Q .non H'
noncomputable def sp_u22 (_:PySem.W.Frag) (ca:ClA):Sp:=fun vs H Q _=>∃ x dx,vs=[.ref x]∧H x=some (.ins ca.C_Stairs dx [])∧∀ (fs:List (Str × V)) (H':Hp),H'=upd H x (.ins ca.C_Stairs dx fs)→Flds fs "stairs" 0→Q .non H'
noncomputable def sp_u14 (_:PySem.W.Frag) (ca:ClA):Sp:=fun vs H Q _=>∃ (x dx:Addr) (w:Str) (l:Int),vs=[.ref x,.str w,.int l]∧H x=some (.ins ca.C_Twins dx [])∧∀ (fs:List (Str × V)) (H':Hp),H'=upd H x (.ins ca.C_Twins dx fs)→Flds fs w l→Q .non H'
noncomputable def sp_u6 (_:PySem.W.Frag) (ca:ClA):Sp:=fun vs H Q _=>∃ (x dx:Addr) (w:Str),vs=[.ref x,.str w]∧H x=some (.ins ca.C_Twins dx [])∧∀ (fs:List (Str × V)) (H':Hp),H'=upd H x (.ins ca.C_Twins dx fs)→Flds fs w 0→Q .non H'
noncomputable def sp_u28 (_:PySem.W.Frag) (ca:ClA):Sp:=fun vs H Q _=>∃ x dx,vs=[.ref x]∧H x=some (.ins ca.C_Twins dx [])∧∀ (fs:List (Str × V)) (H':Hp),H'=upd H x (.ins ca.C_Twins dx fs)→Flds fs "twins" 0→Q .non H'
noncomputable def sp_u19 (_:PySem.W.Frag) (ca:ClA):Sp:=fun vs H Q _=>∃ (x dx:Addr) (w:Str) (l:Int),vs=[.ref x,.str w,.int l]∧H x=some (.ins ca.C_Bows dx [])∧∀ (fs:List (Str × V)) (H':Hp),H'=upd H x (.ins ca.C_Bows dx fs)→Flds fs w l→Q .non H'
noncomputable def sp_u8 (_:PySem.W.Frag) (ca:ClA):Sp:=fun vs H Q _=>∃ (x dx:Addr) (w:Str),vs=[.ref x,.str w]∧H x=some (.ins ca.C_Bows dx [])∧∀ (fs:List (Str × V)) (H':Hp),H'=upd H x (.ins ca.C_Bows dx fs)→Flds fs w 0→Q .non H'
noncomputable def sp_u31 (_:PySem.W.Frag) (ca:ClA):Sp:=fun vs H Q _=>∃ x dx,vs=[.ref x]∧H x=some (.ins ca.C_Bows dx [])∧∀ (fs:List (Str × V)) (H':Hp),H'=upd H x (.ins ca.C_Bows dx fs)→Flds fs "bows" 0→Q .non H'
noncomputable def sp_u15 (_:PySem.W.Frag) (ca:ClA):Sp:=fun vs H Q _=>∃ (x dx:Addr) (w:Str) (l:Int),vs=[.ref x,.str w,.int l]∧H x=some (.ins ca.C_Rooms dx [])∧∀ (fs:List (Str × V)) (H':Hp),H'=upd H x (.ins ca.C_Rooms dx fs)→Flds fs w l→Q .non H'
noncomputable def sp_u5 (_:PySem.W.Frag) (ca:ClA):Sp:=fun vs H Q _=>∃ (x dx:Addr) (w:Str),vs=[.ref x,.str w]∧H x=some (.ins ca.C_Rooms dx [])∧∀ (fs:List (Str × V)) (H':Hp),H'=upd H x (.ins ca.C_Rooms dx fs)→Flds fs w 0→Q .non H'
noncomputable def sp_u25 (_:PySem.W.Frag) (ca:ClA):Sp:=fun vs H Q _=>∃ x dx,vs=[.ref x]∧H x=some (.ins ca.C_Rooms dx [])∧∀ (fs:List (Str × V)) (H':Hp),H'=upd H x (.ins ca.C_Rooms dx fs)→Flds fs "rooms" 0→Q .non H'
noncomputable def sp_u13 (_:PySem.W.Frag) (ca:ClA):Sp:=fun vs H Q _=>∃ (x dx:Addr) (w:Str) (l:Int),vs=[.ref x,.str w,.int l]∧H x=some (.ins ca.C_Floors dx [])∧∀ (fs:List (Str × V)) (H':Hp),H'=upd H x (.ins ca.C_Floors dx fs)→Flds fs w l→Q .non H'
noncomputable def sp_u1 (_:PySem.W.Frag) (ca:ClA):Sp:=fun vs H Q _=>∃ (x dx:Addr) (w:Str),vs=[.ref x,.str w]∧H x=some (.ins ca.C_Floors dx [])∧∀ (fs:List (Str × V)) (H':Hp),H'=upd H x (.ins ca.C_Floors dx fs)→Flds fs w 0→Q .non H'
noncomputable def sp_u23 (_:PySem.W.Frag) (ca:ClA):Sp:=fun vs H Q _=>∃ x dx,vs=[.ref x]∧H x=some (.ins ca.C_Floors dx [])∧∀ (fs:List (Str × V)) (H':Hp),H'=upd H x (.ins ca.C_Floors dx fs)→Flds fs "floor" 0→Q .non H'
noncomputable def sp_u17 (_:PySem.W.Frag) (ca:ClA):Sp:=fun vs H Q _=>∃ (x dx:Addr) (w:Str) (l:Int),vs=[.ref x,.str w,.int l]∧H x=some (.ins ca.C_Turns dx [])∧∀ (fs:List (Str × V)) (H':Hp),H'=upd H x (.ins ca.C_Turns dx fs)→Flds fs w l→Q .non H'
noncomputable def sp_u3 (_:PySem.W.Frag) (ca:ClA):Sp:=fun vs H Q _=>∃ (x dx:Addr) (w:Str),vs=[.ref x,.str w]∧H x=some (.ins ca.C_Turns dx [])∧∀ (fs:List (Str × V)) (H':Hp),H'=upd H x (.ins ca.C_Turns dx fs)→Flds fs w 0→Q .non H'
noncomputable def sp_u24 (_:PySem.W.Frag) (ca:ClA):Sp:=fun vs H Q _=>∃ x dx,vs=[.ref x]∧H x=some (.ins ca.C_Turns dx [])∧∀ (fs:List (Str × V)) (H':Hp),H'=upd H x (.ins ca.C_Turns dx fs)→Flds fs "turns" 0→Q .non H'
noncomputable def famS (ca:ClA):List (Str × Addr × Int):=[("brackets",ca.C_Brackets,0),("stairs",ca.C_Stairs,0),("twins",ca.C_Twins,0),("bows",ca.C_Bows,0),("rooms",ca.C_Rooms,0),("floor",ca.C_Floors,0),("turns",ca.C_Turns,0)]
noncomputable def sp_u29 (K:PySem.W.Frag) (ca:ClA):Sp:=fun vs H Q _=>vs=[]∧∀ (p:Addr) (xs:List V) (H':Hp),Same H H'→H p=none→H' p=some (.lst xs)→Paired (FamAt H') xs (famS ca)→Q (.ref p) H'
noncomputable def sp_u16 (_:PySem.W.Frag) (ca:ClA):Sp:=fun vs H Q _=>∃ (x dx:Addr) (w:Str) (l:Int),vs=[.ref x,.str w,.int l]∧H x=some (.ins ca.C_Codes dx [])∧∀ (fs:List (Str × V)) (H':Hp),H'=upd H x (.ins ca.C_Codes dx fs)→Flds fs w l→Q .non H'
noncomputable def sp_u7 (_:PySem.W.Frag) (ca:ClA):Sp:=fun vs H Q _=>∃ (x dx:Addr) (w:Str),vs=[.ref x,.str w]∧H x=some (.ins ca.C_Codes dx [])∧∀ (fs:List (Str × V)) (H':Hp),H'=upd H x (.ins ca.C_Codes dx fs)→Flds fs w 1→Q .non H'
noncomputable def sp_u27 (_:PySem.W.Frag) (ca:ClA):Sp:=fun vs H Q _=>∃ x dx,vs=[.ref x]∧H x=some (.ins ca.C_Codes dx [])∧∀ (fs:List (Str × V)) (H':Hp),H'=upd H x (.ins ca.C_Codes dx fs)→Flds fs "codes" 1→Q .non H'
noncomputable def sp_u18 (_:PySem.W.Frag) (ca:ClA):Sp:=fun vs H Q _=>∃ (x dx:Addr) (w:Str) (l:Int),vs=[.ref x,.str w,.int l]∧H x=some (.ins ca.C_Trees dx [])∧∀ (fs:List (Str × V)) (H':Hp),H'=upd H x (.ins ca.C_Trees dx fs)→Flds fs w l→Q .non H'
noncomputable def sp_u9 (_:PySem.W.Frag) (ca:ClA):Sp:=fun vs H Q _=>∃ (x dx:Addr) (w:Str),vs=[.ref x,.str w]∧H x=some (.ins ca.C_Trees dx [])∧∀ (fs:List (Str × V)) (H':Hp),H'=upd H x (.ins ca.C_Trees dx fs)→Flds fs w 1→Q .non H'
noncomputable def sp_u26 (_:PySem.W.Frag) (ca:ClA):Sp:=fun vs H Q _=>∃ x dx,vs=[.ref x]∧H x=some (.ins ca.C_Trees dx [])∧∀ (fs:List (Str × V)) (H':Hp),H'=upd H x (.ins ca.C_Trees dx fs)→Flds fs "trees" 1→Q .non H'
noncomputable def sp_u20 (_:PySem.W.Frag) (ca:ClA):Sp:=fun vs H Q _=>∃ (x dx:Addr) (w:Str) (l:Int),vs=[.ref x,.str w,.int l]∧H x=some (.ins ca.C_Cars dx [])∧∀ (fs:List (Str × V)) (H':Hp),H'=upd H x (.ins ca.C_Cars dx fs)→Flds fs w l→Q .non H'
noncomputable def sp_u10 (_:PySem.W.Frag) (ca:ClA):Sp:=fun vs H Q _=>∃ (x dx:Addr) (w:Str),vs=[.ref x,.str w]∧H x=some (.ins ca.C_Cars dx [])∧∀ (fs:List (Str × V)) (H':Hp),H'=upd H x (.ins ca.C_Cars dx fs)→Flds fs w 1→Q .non H'
noncomputable def sp_u30 (_:PySem.W.Frag) (ca:ClA):Sp:=fun vs H Q _=>∃ x dx,vs=[.ref x]∧H x=some (.ins ca.C_Cars dx [])∧∀ (fs:List (Str × V)) (H':Hp),H'=upd H x (.ins ca.C_Cars dx fs)→Flds fs "cars" 1→Q .non H'
noncomputable def famR (ca:ClA):List (Str × Addr × Int):=[("codes",ca.C_Codes,1),("trees",ca.C_Trees,1),("cars",ca.C_Cars,1)]
noncomputable def sp_u34 (K:PySem.W.Frag) (ca:ClA):Sp:=fun vs H Q _=>vs=[]∧∀ (p:Addr) (xs:List V) (H':Hp),Same H H'→H p=none→H' p=some (.lst xs)→Paired (FamAt H') xs (famR ca)→Q (.ref p) H'
noncomputable def famA (ca:ClA):List (Str × Addr × Int):=famS ca++famR ca
theorem famA_words (ca:ClA):((famA ca).map (·.1)).Nodup:=by
 show [("brackets" : Str),("stairs" : Str),("twins" : Str),("bows" : Str),("rooms" : Str),("floor" : Str),("turns" : Str),("codes" : Str),("trees" : Str),("cars" : Str)].Nodup
 decide +kernel
theorem famA_one {ca:ClA} {f g:Str × Addr × Int} (hf:f∈famA ca) (hg:g∈famA ca) (e:f.1=g.1):f=g:=by
 have key:∀ {l:List (Str × Addr × Int)},(l.map (·.1)).Nodup→f∈l→g∈l→f=g:=by
  intro l
  induction l with
  | nil=>intro _ h; cases h
  | cons a l ih =>
   intro nd h1 h2
   rw [List.map_cons,List.nodup_cons] at nd
   rcases List.mem_cons.mp h1 with h3 | h3
   ·rcases List.mem_cons.mp h2 with h4 | h4
    ·rw [h3,h4]
    ·exact absurd (List.mem_map.mpr ⟨g,h4,by rw [← e,h3]⟩) nd.1
   ·rcases List.mem_cons.mp h2 with h4 | h4
    ·exact absurd (List.mem_map.mpr ⟨f,h3,by rw [e,h4]⟩) nd.1
    ·exact ih nd.2 h3 h4
 exact key (famA_words ca) hf hg
noncomputable def sp_u42 (K:PySem.W.Frag) (ca:ClA):Sp:=fun vs H Q _=>∃ (f:Str × Addr × Int),vs=[.str f.1]∧f∈famA ca∧∀ (x dx:Addr) (fs:List (Str × V)) (H':Hp),Same H H'→H' x=some (.ins f.2.1 dx fs)→Flds fs f.1 f.2.2→Q (.ref x) H'
noncomputable def measD (ca:ClA):List (Str × List (Str × Addr)):=[("brackets",[("peaks",ca.F_brackets_peaks),("returns",ca.F_brackets_returns),("height",ca.F_brackets_height)]),("stairs",[("peaks",ca.F_stairs_peaks),("returns",ca.F_stairs_returns),("height",ca.F_stairs_height)]),("twins",[("peaks",ca.F_twins_peaks),("returns",ca.F_twins_returns),("height",ca.F_twins_height)]),("bows",[("peaks",ca.F_bows_peaks),("returns",ca.F_bows_returns),("height",ca.F_bows_height)]),("rooms",[("peaks",ca.F_rooms_peaks),("returns",ca.F_rooms_returns)]),("floor",[("peaks",ca.F_floor_peaks),("returns",ca.F_floor_returns)]),("turns",[("peaks",ca.F_turns_peaks),("returns",ca.F_turns_returns),("height",ca.F_turns_height)]),("codes",[("leaves",ca.F_codes_leaves),("rootage",ca.F_codes_rootage)]),("trees",[("leaves",ca.F_trees_leaves),("rootage",ca.F_trees_rootage)]),("cars",[("leaves",ca.F_cars_leaves),("rootage",ca.F_cars_rootage)])]
noncomputable def measN:List (Str × List Str):=[("brackets",["peaks","returns","height"]),("stairs",["peaks","returns","height"]),("twins",["peaks","returns","height"]),("bows",["peaks","returns","height"]),("rooms",["peaks","returns"]),("floor",["peaks","returns"]),("turns",["peaks","returns","height"]),("codes",["leaves","rootage"]),("trees",["leaves","rootage"]),("cars",["leaves","rootage"])]
noncomputable def measS:List (Str × List (Str × Str)):=[("brackets",[("peaks","brackets_peaks"),("returns","brackets_returns"),("height","brackets_height")]),("stairs",[("peaks","stairs_peaks"),("returns","stairs_returns"),("height","stairs_height")]),("twins",[("peaks","twins_peaks"),("returns","twins_returns"),("height","twins_height")]),("bows",[("peaks","bows_peaks"),("returns","bows_returns"),("height","bows_height")]),("rooms",[("peaks","rooms_peaks"),("returns","rooms_returns")]),("floor",[("peaks","floor_peaks"),("returns","floor_returns")]),("turns",[("peaks","turns_peaks"),("returns","turns_returns"),("height","turns_height")]),("codes",[("leaves","codes_leaves"),("rootage","codes_rootage")]),("trees",[("leaves","trees_leaves"),("rootage","trees_rootage")]),("cars",[("leaves","cars_leaves"),("rootage","cars_rootage")])]
theorem measD_names (ca:ClA):(measD ca).map (fun r=>(r.1,r.2.map (·.1)))=measN:=rfl
theorem measN_ok:(∀ r∈measN,r.2.Nodup∧r.2.length≤15)∧(measN.map (·.1)).Nodup:=by decide +kernel
theorem measD_ok (ca:ClA):(∀ r∈measD ca,(r.2.map (·.1)).Nodup∧r.2.length≤15)∧((measD ca).map (·.1)).Nodup:=by
 refine ⟨fun r hr=>?_,?_⟩
 ·have:=measN_ok.1 (r.1,r.2.map (·.1)) (by rw [← measD_names ca]; exact List.mem_map.mpr ⟨r,hr,rfl⟩)
  rw [List.length_map] at this
  exact this
 ·have:=measN_ok.2
  rw [← measD_names ca,List.map_map] at this
  exact this
noncomputable def sp_u38 (K:PySem.W.Frag) (ca:ClA):Sp:=fun vs H Q _=>vs=[]∧∀ (p:Addr) (H':Hp),Same H H'→H p=none→Meas H' p (measD ca)→Q (.ref p) H'
noncomputable def sp_u47 (K:PySem.W.Frag) (ca:ClA):Sp:=fun vs H Q _=>∃ (f:Str × Addr × Int) (items:List (Str × Addr)),vs=[.str f.1]∧f∈famA ca∧(measD ca).lookup f.1=some items∧∀ (p:Addr) (H':Hp),Same H H'→H p=none→H' p=some (.lst ((items.map (·.1)).map V.str))→Q (.ref p) H'
noncomputable def sp_u46 (K:PySem.W.Frag) (_:ClA):Sp:=fun vs H Q _=>∃ (l:Addr) (ps:List Pair),vs=[.ref l]∧PLs H l ps∧Q (.bl (crossB ps)) H
noncomputable def sp_u41 (K:PySem.W.Frag) (_:ClA):Sp:=fun vs H Q _=>∃ (c a b:Int),vs=[.int c,.int a,.int b]∧Ct c (a,b)∧∀ H',Same H H'→Q (.bl true) H'
noncomputable def sp_u33 (K:PySem.W.Frag) (_:ClA):Sp:=fun vs H Q _=>∃ (x t l:Addr) (c:Int) (ps:List Pair),vs=[.ref x,.ref t]∧H t=some (.tup [.int c,.ref l])∧PLs H l ps∧IsFl c ps∧c≤43∧∀ H',Same H H'→Q (.bl true) H'
noncomputable def sp_u4 (K:PySem.W.Frag) (ca:ClA):Sp:=fun vs H Q _=>∃ (x dx:Addr) (fs:List (Str × V)) (t l:Addr) (c:Int) (ps:List Pair),vs=[.ref x,.ref t]∧H x=some (.ins ca.C_Floors dx fs)∧fs.lookup ("is_one" : Str)=none∧H t=some (.tup [.int c,.ref l])∧PLs H l ps∧IsFl c ps∧c≤43∧∀ H',Same H H'→Q .non H'
noncomputable def isC (a la:Int) (p:Pair):Bool:=decide (p.1=a)&&decide (p.2 < la)
theorem thd_of {cs:List Pair} {a la M:Int} (h1:(cs.filter (isC a la)).map (·.2)=[]→M=a+1) (h2:(cs.filter (isC a la)).map (·.2)≠[]→M∈(cs.filter (isC a la)).map (·.2)∧∀ y∈(cs.filter (isC a la)).map (·.2),y≤M):Thd cs a la M:=by
 have mf:∀ q,q∈cs.filter (isC a la)↔q∈cs∧q.1=a∧q.2 < la:=fun q=>by
  rw [List.mem_filter]
  unfold isC
  rw [Bool.and_eq_true,decide_eq_true_iff,decide_eq_true_iff]
 refine ⟨fun h=>h1 ?_,fun h=>?_⟩
 ·rw [List.map_eq_nil_iff]
  exact List.eq_nil_iff_forall_not_mem.mpr fun q hq=>h q ((mf q).mp hq).1 ((mf q).mp hq).2
 ·obtain ⟨q,hq,e1,e2⟩:=h
  have mq:=(mf q).mpr ⟨hq,e1,e2⟩
  obtain ⟨g1,g2⟩:=h2 (fun z=>by rw [List.map_eq_nil_iff] at z; rw [z] at mq; cases mq)
  obtain ⟨r,hr,er⟩:=List.mem_map.mp g1
  obtain ⟨r1,r2,r3⟩:=(mf r).mp hr
  refine ⟨?_,by omega,fun q hq e1 e2=>g2 _ (List.mem_map_of_mem ((mf q).mpr ⟨hq,e1,e2⟩))⟩
  have:r=(a,M):=Prod.ext r2 er
  rw [← this]
  exact r1
noncomputable def sp_u36 (K:PySem.W.Frag) (_:ClA):Sp:=fun vs H Q _=>∃ (l:Addr) (cs:List Pair) (a la:Int),vs=[.ref l,.int a,.int la]∧PLs H l cs∧cs.length≤1000∧∀ (M:Int) (H':Hp),Same H H'→Thd cs a la M→Q (.int M) H'
noncomputable def sp_u44 (K:PySem.W.Frag) (_:ClA):Sp:=fun vs H Q _=>∃ (u l:Addr) (t:Bt) (ps:List Pair),vs=[.ref u]∧H u=some (.tup [.int ((t.size:Int)+2),.ref l])∧PLs H l ps∧ps.Perm (inT t 0)∧t.size≤40∧∀ (p:Addr) (xs:List V) (ts:List Tri) (H':Hp),Same H H'→H p=none→H' p=some (.lst xs)→Trs H' xs ts→ts.Perm (triT t 0)→Q (.ref p) H'
noncomputable def sp_u39 (K:PySem.W.Frag) (_:ClA):Sp:=fun vs H Q _=>∃ (u l:Addr) (t:Bt) (ps:List Pair),vs=[.ref u]∧H u=some (.tup [.int ((t.size:Int)+2),.ref l])∧PLs H l ps∧ps.Perm (inT t 0)∧t.size≤40∧∀ H',Same H H'→Q (.int ((triT t 0).countP (fun x=>decide (x.2.1=x.1+1)):Nat)) H'
noncomputable def sp_u35 (K:PySem.W.Frag) (_:ClA):Sp:=fun vs H Q _=>∃ (u l:Addr) (t:Bt) (ps:List Pair),vs=[.ref u]∧H u=some (.tup [.int ((t.size:Int)+2),.ref l])∧PLs H l ps∧ps.Perm (inT t 0)∧t.size≤40∧∀ H',Same H H'→Q (.int ((triT t 0).countP (fun x=>decide (x.2.2=(t.size:Int)+1)):Nat)) H'
noncomputable def MkOf (H:Hp) (w n:Str) (x:V) (v:Int):Prop:=∃ (u l:Addr) (t:Bt) (ps:List Pair),x = .ref u∧H u=some (.tup [.int ((t.size:Int)+2),.ref l])∧PLs H l ps∧ps.Perm (inT t 0)∧ps.Pairwise leP∧t.size≤40∧w = "floor"∧((n = "peaks"∧v=((triT t 0).countP (fun x=>decide (x.2.1=x.1+1)):Nat))∨(n = "returns"∧v=((triT t 0).countP (fun x=>decide (x.2.2=(t.size:Int)+1)):Nat)))
theorem MkOf.same {H H':Hp} {w n:Str} {x:V} {v:Int} (h:MkOf H w n x v) (s:Same H H'):MkOf H' w n x v:=by
 obtain ⟨u,l,t,ps,h0,h1,h2,h3⟩:=h
 exact ⟨u,l,t,ps,h0,s _ _ h1,h2.same s,h3⟩
noncomputable def sp_u48 (K:PySem.W.Frag) (ca:ClA):Sp:=fun vs H Q _=>∃ (w n:Str) (x:V) (v:Int),vs=[.str w,.str n,x]∧MkOf H w n x v∧∀ H',Same H H'→Q (.int v) H'
noncomputable def sp_u43 (K:PySem.W.Frag) (_:ClA):Sp:=fun vs H Q _=>∃ (w:Str) (a b:Addr) (x:V) (names:List Str) (due:List Int),vs=[.str w,.ref a,x,.ref b]∧H a=some (.lst (names.map V.str))∧H b=some (.lst (due.map V.int))∧names.length≤10∧names.length=due.length∧(∀ (j:Nat) (n:Str) (v:Int),names[j]? = some n→due[j]? = some v→MkOf H w n x v)∧∀ H',Same H H'→Q (.bl true) H'
noncomputable def sp_u49 (K:PySem.W.Frag) (_:ClA):Sp:=fun vs H Q _=>∃ (a:Addr) (ns:List Int),vs=[.ref a]∧SqL K H a (ns.map V.int)∧ns.length≤63∧∀ H',Q (.bl true) H'
section
variable {P:Program} {w:World} {K:PySem.W.Frag} {mg:Str→Option Value} {base:Heap}
theorem ok_u37 {ca:ClA} (CA:ClOk K mg ca) {f:Addr} {fd:FuncData} (F:Fun K "_law_cell_at" "_law_cell_at" s_u37 f fd) (m_len:mg "len" = none):FnOk P w K mg base CX0 1 f fd ["_law_script","_law_k"] (sp_u37 K ca):=by
 refine F.ok sc_u37 (fun vs H Q E h=>?_) (fun cdv A outer s H vs Q E hr h=>?_)
 ·obtain ⟨a,ns,k,rfl,hS,h0,q⟩:=h
  rfl
 obtain ⟨a,ns,k,rfl,hS,h0,q⟩:=h
 refine ⟨_,pss_cons (ps_if (pt_cmpR op_lt (pv 1) (pe_callB call_len_seq rfl m_len bb_len (pa_cons (pv 0) pa_nil)) (nomark _)) (pss_one (ps_ret (pe_ix ix_list (pv 0) (pv 1) (fun _ _=>rfl)))) pss_nil)
  (pss_one (ps_ret pe_int)),?_⟩
 have hl:(ns.map V.int).length=ns.length:=List.length_map _
 refine ⟨_,rfl,_,rfl,a,_,rfl,.inl hS,_,_,rfl,rfl,_,rfl,ite2 (fun c=>?_) (fun c=>?_)⟩
 ·have c':k < (((ns.map V.int).length:Nat):Int):=of_decide_eq_true c
  rw [hl] at c'
  exact ⟨_,rfl,_,rfl,a,_,_,_,rfl,rfl,hS,atI_int h0 c',q⟩
 ·have c':¬ k < (((ns.map V.int).length:Nat):Int):=of_decide_eq_false (Bool.eq_false_iff.mpr c)
  rw [hl] at c'
  have e:ns.getD k.toNat 0=0:=by rw [List.getD_eq_getElem?_getD,List.getElem?_eq_none (by omega)]; rfl
  rw [e] at q
  exact q
theorem ok_u40 {ca:ClA} (CA:ClOk K mg ca) {f:Addr} {fd:FuncData} (F:Fun K "_law_draws" "_law_draws" s_u40 f fd) (m_range:mg "range" = none) (m_len:mg "len" = none):FnOk P w K mg base CX0 1 f fd ["_law_script","_law_turn","_law_many"] (sp_u40 K ca):=by
 refine F.ok sc_u40 (fun vs H Q E h=>?_) (fun cdv A outer s H vs Q E hr h=>?_)
 ·obtain ⟨a,ns,t,m,rfl,hS,h63,t0,t1,m0,m1,q⟩:=h
  rfl
 obtain ⟨a,ns,t,m,rfl,hS,h63,t0,t1,m0,m1,q⟩:=h
 refine ⟨_,pss_cons (ps_set (i:=3) sc_u40.nd rfl (Or.inl rfl) (pe_op op_cat (pe_slice sl_list (pv 0) po_none (po_some pe_int)) (pe_lst (pa_cons (pv 1) pa_nil))))
  (pss_cons (ps_set (i:=4) sc_u40.nd rfl (Or.inl rfl) (pe_lst pa_nil))
  (pss_cons (ps_if (pt_cmpR op_eq (pe_op op_mod (pe_op op_fdivL (pe_ix ix_list (pv 3) pe_int (fun _ _=>rfl)) pe_int) pe_int) pe_int (nomark _)) (pss_cons (ps_setComp (i:=5) sc_u40.nd rfl (Or.inl rfl) rfl rfl (pi_list (pv 3)) rfl rfl rfl rfl (N:=["_law_cell"]) (.own .nil) (fun _ _ _ _ _ _=>(pg_name (i:=0) (by show List.Nodup (["_law_cell"]:List Str); decide +kernel) rfl (Or.inl rfl))) (fun _ _ _ _ _ _=>pts_nil) (fun _ _ _ _ _ _=>(pe_op op_fdivL (pv 0) pe_int)))
  (pss_cons (ps_for PassesOwn.never rfl (pi_range1 rfl m_range (pa_cons (pe_op op_add (pv 1) (pv 2)) pa_nil)) (pg_name (i:=6) sc_u40.nd rfl (Or.inl rfl)) (pss_cons (ps_set (i:=7) sc_u40.nd rfl (Or.inl rfl) (pe_op op_mod (pv 6) (pe_callB call_len_seq rfl m_len bb_len (pa_cons (pv 5) pa_nil))))
  (pss_cons (ps_if (pt_cmpR op_ge (pv 6) (pv 1) (nomark _)) (pss_one (ps_expr (pe_bm PySem.F.plainAttrs_list PySem.F.slot_list_append PySem.F.type_list_append mt_append (pv 4) (pa_cons (pe_op op_mod (pe_ix ix_list (pv 5) (pv 7) (fun _ _=>rfl)) pe_int) pa_nil)))) pss_nil)
  (pss_one (ps_asg (pe_op op_fdivL (pe_ix ix_list (pv 5) (pv 7) (fun _ _=>rfl)) pe_int) (pg_sub (pv 5) (pv 7) set_list))))))
  (pss_one (ps_ret (pv 4))))) pss_nil)
  (pss_cons (ps_for PassesOwn.never rfl (pi_range1 rfl m_range (pa_cons (pv 2) pa_nil)) (pg_name (i:=6) sc_u40.nd rfl (Or.inl rfl)) (pss_cons (ps_set (i:=8) sc_u40.nd rfl (Or.inl rfl) (pe_op op_add (pe_op op_mul (pe_op op_mul (pe_op op_add (pv 6) (pv 1)) (pe_op op_add (pv 6) (pv 1))) pe_int) pe_int))
  (pss_cons (ps_set (i:=9) sc_u40.nd rfl (Or.inl rfl) (pe_op op_mod (pe_op op_mul (pe_op op_add (pe_op op_mod (pe_ix ix_list (pv 3) (pe_op op_mod (pv 6) (pe_callB call_len_seq rfl m_len bb_len (pa_cons (pv 3) pa_nil))) (fun _ _=>rfl)) pe_int) (pv 8)) pe_int) pe_int))
  (pss_cons (ps_set (i:=9) sc_u40.nd rfl (Or.inl rfl) (pe_op op_mod (pe_op op_add (pe_op op_mul (pv 9) (pv 9)) (pe_op op_mul pe_int (pv 6))) pe_int))
  (pss_one (ps_expr (pe_bm PySem.F.plainAttrs_list PySem.F.slot_list_append PySem.F.type_list_append mt_append (pv 4) (pa_cons (pe_op op_mod (pe_op op_mul (pv 9) (pv 9)) pe_int) pa_nil))))))))
  (pss_one (ps_ret (pv 4)))))),?_⟩
 have M:∀ x:Int,0≤x % 2147483587∧x % 2147483587 < 2147483587:=fun x=>⟨Int.emod_nonneg x (by decide),Int.emod_lt_of_pos x (by decide)⟩
 refine ⟨_,rfl,_,rfl,a,_,rfl,hS,fun p1 hp1=>⟨_,rfl,(by show 1≤sizeLine; decide),fun p2 hp2=>?_⟩⟩
 have n12:p1≠p2:=ne_of_none upd_same hp2
 have s1:=Same.new (Same.refl H) hp1 (.lst (cutV (ns.map V.int) none (some 63)))
 have s2:=Same.new s1 hp2 (.lst [.int t])
 have lc:(cutI ns none (some 63)).length≤63:=Nat.le_trans (cutI_length _ _ _) h63
 refine ⟨p1,p2,_,_,rfl,rfl,(upd_ne n12).trans upd_same,upd_same,?_,fun pc hpc=>?_⟩
 ·rw [cutV_map,List.length_map]; exact sz (by simp; omega)
 have s3:=Same.new s2 hpc (.lst (cutV (ns.map V.int) none (some 63)++[.int t]))
 have ecs:cutV (ns.map V.int) none (some 63)++[.int t]=(cutI ns none (some 63)++[t]).map V.int:=by rw [cutV_map,List.map_append]; rfl
 have lcs:1≤(cutI ns none (some 63)++[t]).length∧(cutI ns none (some 63)++[t]).length≤64:=by rw [List.length_append]; constructor<;>simp<;>omega
 rw [ecs] at s3 ⊢
 generalize hH3:upd (upd (upd H p1 (.lst (cutV (ns.map V.int) none (some 63)))) p2 (.lst [.int t])) pc (.lst ((cutI ns none (some 63)++[t]).map V.int))=H3 at s3 ⊢
 have hc3:H3 pc=some (.lst ((cutI ns none (some 63)++[t]).map V.int)):=by rw [← hH3]; exact upd_same
 generalize cutI ns none (some 63)++[t]=cs at hc3 lcs ⊢
 refine ⟨Nat.zero_le _,fun pf hpf=>?_⟩
 have s4:=Same.new s3 hpf (.lst [])
 have fpf:H pf=none:=s3.free hpf
 have ncf:pc≠pf:=ne_of_none hc3 hpf
 have hc4:upd H3 pf (.lst []) pc=some (.lst (cs.map V.int)):=(upd_ne ncf).trans hc3
 have hf4:upd H3 pf (.lst []) pf=some (.lst (([]:List Int).map V.int)):=upd_same
 generalize upd H3 pf (.lst [])=H4 at s4 hc4 hf4 ⊢
 have at0:=atI_int (ns:=cs) (i:=0) (by decide) (by omega)
 have lm:(cs.map V.int).length=cs.length:=List.length_map _
 refine ⟨_,rfl,pc,_,_,_,rfl,rfl,SqL.of hc4,at0,_,_,rfl,rfl,⟨by decide,by decide +kernel⟩,_,_,rfl,rfl,pm (by decide),rfl,_,rfl,ite2 (fun _=>?_) (fun _=>?_)⟩
 ·refine ⟨_,rfl,pc,rfl,⟨_,SqL.of hc4⟩,fun D hD=>comp_list (fun v=>match v with | .int c=>.int (c / 100000) | v=>v) (by rw [lm]; exact sz (by omega)) (SqL.of hc4) hD (fun i x H' R R0 hx hb hR=>?_) ?_⟩
  ·obtain ⟨c,rfl⟩:=get_int hx
   exact ⟨Ext.set rfl,ttN (iteT ⟨_,rfl,_,_,rfl,rfl,⟨by decide,by decide +kernel⟩,hR⟩)⟩
  ·have fD:H D=none:=s4.free hD
   have nfD:pf≠D:=ne_of_none hf4 hD
   have el:(cs.map V.int).map (fun v=>match v with | .int c=>V.int (c / 100000) | v=>v)=(cs.map (· / 100000)).map V.int:=by rw [List.map_map,List.map_map]; rfl
   rw [el]
   refine ⟨_,rfl,_,rfl,_,_,rfl,rfl,_,rfl,by omega,by omega,for_range (lo:=0) (n:=(t+m).toNat) (fun i σ H'=>∃ (o1 o2 o3 o4:Option V) (ls fs:List Int),σ=[some (.ref a),some (.int t),some (.int m),some (.ref pc),some (.ref pf),some (.ref D),o1,o2,o3,o4]∧Same H H'∧H' D=some (.lst (ls.map V.int))∧ls.length=cs.length∧H' pf=some (.lst (fs.map V.int))∧fs.length=i - t.toNat∧∀ x∈fs,0≤x∧x < 2147483587)
    ⟨_,_,_,_,_,[],rfl,Same.new s4 hD _,upd_same,by simp,(upd_ne nfD).trans hf4,by simp,by simp⟩ ?_ ?_⟩
   ·rintro i σ H5 hi ⟨o1,o2,o3,o4,ls,fs,rfl,sm,hl,ll,hf,lf,bf⟩
    have lml:(ls.map V.int).length=ls.length:=List.length_map _
    have pos:(0:Int) < (((ls.map V.int).length:Nat):Int):=by rw [lml]; omega
    have k0:=Int.emod_nonneg ((0:Int)+(i:Int)) (show (((ls.map V.int).length:Nat):Int)≠0 by omega)
    have k1:=Int.emod_lt_of_pos ((0:Int)+(i:Int)) pos
    refine ⟨_,rfl,_,rfl,D,_,rfl,.inl (SqL.of hl),_,_,rfl,rfl,pos,?_⟩
    try dsimp only
    generalize ((0:Int)+(i:Int)) % (((ls.map V.int).length:Nat):Int)=k at k0 k1 ⊢
    rw [lml] at k1
    have atk:=atI_int (ns:=ls) (i:=k) k0 k1
    refine ⟨_,rfl,_,rfl,_,_,rfl,rfl,_,rfl,ite2 (fun c=>?_) (fun c=>?_)⟩
    ·have c':t≤(0:Int)+(i:Int):=of_decide_eq_true c
     refine ⟨_,rfl,.inl ⟨rfl,_,SqL.of hf⟩,_,rfl,_,rfl,D,_,_,_,rfl,rfl,SqL.of hl,atk,_,_,rfl,rfl,pm (by decide),pf,_,_,rfl,rfl,hf,by rw [List.length_map]; exact sz' (by omega),?_⟩
     have hl6:upd H5 pf (.lst (fs.map V.int++[.int (ls.getD k.toNat 0 % 2147483587)])) D=some (.lst (ls.map V.int)):=(upd_ne (Ne.symm nfD)).trans hl
     refine ⟨_,rfl,_,rfl,D,_,_,_,rfl,rfl,SqL.of hl6,atk,_,_,rfl,rfl,⟨by decide,by decide +kernel⟩,_,rfl,_,rfl,D,_,_,_,rfl,rfl,hl6,ixN_nat k0 (by rw [lml]; exact k1),?_⟩
     refine ⟨_,_,_,_,ls.set k.toNat (ls.getD k.toNat 0 / 2147483587),fs++[ls.getD k.toNat 0 % 2147483587],rfl,(sm.upd fpf _).upd fD _,?_,by simpa using ll,?_,by simp [lf]; omega,?_⟩
     ·rw [upd_same,List.map_set]
     ·rw [upd_ne nfD,upd_same,List.map_append]; rfl
     ·intro x hx
      rcases List.mem_append.mp hx with z | z
      ·exact bf x z
      ·have:x=ls.getD k.toNat 0 % 2147483587:=by simpa using z
       rw [this]; exact M _
    ·have c':¬ t≤(0:Int)+(i:Int):=of_decide_eq_false (Bool.eq_false_iff.mpr c)
     refine ⟨_,rfl,_,rfl,D,_,_,_,rfl,rfl,SqL.of hl,atk,_,_,rfl,rfl,⟨by decide,by decide +kernel⟩,_,rfl,_,rfl,D,_,_,_,rfl,rfl,hl,ixN_nat k0 (by rw [lml]; exact k1),?_⟩
     refine ⟨_,_,_,_,ls.set k.toNat (ls.getD k.toNat 0 / 2147483587),fs,rfl,sm.upd fD _,?_,by simpa using ll,(upd_ne nfD).trans hf,by omega,bf⟩
     rw [upd_same,List.map_set]
   ·rintro σ H5 ⟨o1,o2,o3,o4,ls,fs,rfl,sm,hl,ll,hf,lf,bf⟩
    exact ⟨_,rfl,q pf fs H5 sm fpf hf (by omega) bf⟩
 ·refine ⟨_,rfl,_,rfl,by omega,by omega,for_range (lo:=0) (n:=m.toNat) (fun i σ H'=>∃ (o1 o2 o3 o4 o5:Option V) (fs:List Int),σ=[some (.ref a),some (.int t),some (.int m),some (.ref pc),some (.ref pf),o1,o2,o3,o4,o5]∧Same H H'∧H' pc=some (.lst (cs.map V.int))∧H' pf=some (.lst (fs.map V.int))∧fs.length=i∧∀ x∈fs,0≤x∧x < 2147483587)
   ⟨_,_,_,_,_,[],rfl,s4,hc4,hf4,rfl,by simp⟩ ?_ ?_⟩
  ·rintro i σ H5 hi ⟨o1,o2,o3,o4,o5,fs,rfl,sm,hc,hf,lf,bf⟩
   have pos:(0:Int) < (((cs.map V.int).length:Nat):Int):=by rw [lm]; omega
   have k0:=Int.emod_nonneg ((0:Int)+(i:Int)) (show (((cs.map V.int).length:Nat):Int)≠0 by omega)
   have k1:=Int.emod_lt_of_pos ((0:Int)+(i:Int)) pos
   have atk:=atI_int (ns:=cs) (i:=((0:Int)+(i:Int)) % (((cs.map V.int).length:Nat):Int)) k0 (by rw [← lm]; exact k1)
   refine ⟨_,rfl,_,rfl,_,_,rfl,rfl,_,rfl,_,rfl,_,_,rfl,rfl,_,_,rfl,rfl,.inl ⟨by omega,by omega⟩,_,_,rfl,rfl,.inr ⟨by decide,by decide⟩,_,_,rfl,rfl,?_⟩
   refine ⟨_,rfl,_,rfl,_,rfl,pc,_,rfl,.inl (SqL.of hc),_,_,rfl,rfl,pos,pc,_,_,_,rfl,rfl,SqL.of hc,atk,_,_,rfl,rfl,pm (by decide),_,rfl,_,_,rfl,rfl,_,_,rfl,rfl,.inr ⟨by decide,by decide⟩,_,_,rfl,rfl,pm (by decide),?_⟩
   try dsimp only
   generalize hnu:(cs.getD (((0:Int)+(i:Int)) % (((cs.map V.int).length:Nat):Int)).toNat 0 % 2147483647+(((0:Int)+(i:Int)+t)*((0:Int)+(i:Int)+t)*7919+104729))*48271 % 2147483647=nu
   have b0:0≤nu:=by rw [← hnu]; exact Int.emod_nonneg _ (by decide)
   have b1:nu < 2147483647:=by rw [← hnu]; exact Int.emod_lt_of_pos _ (by decide)
   refine ⟨_,rfl,_,rfl,_,_,rfl,rfl,.inl ⟨by omega,by omega⟩,_,rfl,_,_,rfl,rfl,.inl ⟨by decide,by decide⟩,_,_,rfl,rfl,_,_,rfl,rfl,pm (by decide),?_⟩
   try dsimp only
   generalize hnv:(nu*nu+69621*((0:Int)+(i:Int))) % 2147483629=nv
   have d0:0≤nv:=by rw [← hnv]; exact Int.emod_nonneg _ (by decide)
   have d1:nv < 2147483629:=by rw [← hnv]; exact Int.emod_lt_of_pos _ (by decide)
   refine ⟨_,rfl,.inl ⟨rfl,_,SqL.of hf⟩,_,rfl,_,rfl,_,_,rfl,rfl,.inl ⟨by omega,by omega⟩,_,_,rfl,rfl,pm (by decide),pf,_,_,rfl,rfl,hf,by rw [List.length_map]; exact sz' (by omega),?_⟩
   refine ⟨_,_,_,_,_,fs++[nv*nv % 2147483587],rfl,sm.upd fpf _,(upd_ne ncf).trans hc,?_,by simp [lf],?_⟩
   ·rw [upd_same,List.map_append]; rfl
   ·intro y hy
    rcases List.mem_append.mp hy with z | z
    ·exact bf y z
    ·have:y=nv*nv % 2147483587:=by simpa using z
     rw [this]; exact M _
  ·rintro σ H5 ⟨o1,o2,o3,o4,o5,fs,rfl,sm,hc,hf,lf,bf⟩
   exact ⟨_,rfl,q pf fs H5 sm fpf hf lf bf⟩
theorem ok_u45 {ca:ClA} (CA:ClOk K mg ca) {f:Addr} {fd:FuncData} (F:Fun K "_law_cuts" "_law_cuts" s_u45 f fd) {f0:Addr} {fd0:FuncData} (d_u40:Def P w K mg base "_law_draws" ["_law_script","_law_turn","_law_many"] 1 (sp_u40 K ca) f0 fd0) (m_len:mg "len" = none) (m_sorted:mg "sorted" = none):FnOk P w K mg base CX0 2 f fd ["_law_script","_law_size","_law_turn"] (sp_u45 K ca):=by
 refine F.ok sc_u45 (fun vs H Q E h=>?_) (fun cdv A outer s H vs Q E hr h=>?_)
 ·obtain ⟨a,ns,n,t,rfl,hS,h63,hn,t0,t1,q⟩:=h
  rfl
 obtain ⟨a,ns,n,t,rfl,hS,h63,hn,t0,t1,q⟩:=h
 refine ⟨_,pss_cons (ps_set (i:=3) sc_u45.nd rfl (Or.inl rfl) (pcall d_u40 hr (pa_cons (pv 0) (pa_cons (pv 2) (pa_cons (pe_op op_add (pv 1) pe_int) pa_nil)))))
  (pss_cons (ps_set (i:=4) sc_u45.nd rfl (Or.inl rfl) (pe_op op_mod (pe_ix ix_list (pv 3) (pv 1) (fun _ _=>rfl)) pe_int))
  (pss_cons (ps_set (i:=5) sc_u45.nd rfl (Or.inl rfl) (pe_lst pa_nil))
  (pss_cons (ps_set (i:=6) sc_u45.nd rfl (Or.inl rfl) (pe_lst (pa_cons (pe_tup (pa_cons pe_int (pa_cons (pe_op op_add (pv 1) pe_int) pa_nil))) pa_nil)))
  (pss_cons (ps_set (i:=7) sc_u45.nd rfl (Or.inl rfl) pe_int)
  (pss_cons (ps_while PassesOwn.never (pt_cmpR op_gt (pe_callB call_len_seq rfl m_len bb_len (pa_cons (pv 6) pa_nil)) pe_int (nomark _)) (pss_cons (ps_asg (pe_bm0 PySem.F.plainAttrs_list PySem.F.slot_list_pop PySem.F.type_list_pop mt_pop (pv 6)) (pg_tup rfl (pgs_cons (pg_name (i:=8) sc_u45.nd rfl (Or.inl rfl)) (pgs_cons (pg_name (i:=9) sc_u45.nd rfl (Or.inl rfl)) pgs_nil))))
  (pss_one (ps_if (pt_cmpR op_gt (pe_op op_sub (pv 9) (pv 8)) pe_int (nomark _)) (pss_cons (ps_set (i:=10) sc_u45.nd rfl (Or.inl rfl) (pe_op op_add (pe_op op_add (pv 8) pe_int) (pe_op op_mod (pe_op op_fdivL (pe_ix ix_list (pv 3) (pv 7) (fun _ _=>rfl)) pe_int) (pe_op op_sub (pe_op op_sub (pv 9) (pv 8)) pe_int))))
  (pss_cut (ps_if (PW.pt (pw_or (pt_cmpR op_eq (pv 4) pe_int (nomark _)) (pw_or1 (PW.pt (pw_and (pt_cmpR op_gt (pv 4) pe_int (nomark _)) (pw_and1 (pt_cmpR op_eq (pe_op op_mod (pe_ix ix_list (pv 3) (pv 7) (fun _ _=>rfl)) pe_int) pe_int (nomark _)))))))) (pss_one (ps_set (i:=10) sc_u45.nd rfl (Or.inl rfl) (pe_op op_add (pv 8) pe_int))) pss_nil)
  (pss_cut (ps_if (PW.pt (pw_or (pt_cmpR op_eq (pv 4) pe_int (nomark _)) (pw_or1 (PW.pt (pw_and (pt_cmpR op_gt (pv 4) pe_int (nomark _)) (pw_and1 (pt_cmpR op_eq (pe_op op_mod (pe_ix ix_list (pv 3) (pv 7) (fun _ _=>rfl)) pe_int) pe_int (nomark _)))))))) (pss_one (ps_set (i:=10) sc_u45.nd rfl (Or.inl rfl) (pe_op op_sub (pv 9) pe_int))) pss_nil)
  (pss_cons (ps_set (i:=7) sc_u45.nd rfl (Or.inl rfl) (pe_op op_add (pv 7) pe_int))
  (pss_one (ps_for PassesOwn.never rfl (pi_list (pe_lst (pa_cons (pe_tup (pa_cons (pv 8) (pa_cons (pv 10) pa_nil))) (pa_cons (pe_tup (pa_cons (pv 10) (pa_cons (pv 9) pa_nil))) pa_nil)))) (pg_name (i:=11) sc_u45.nd rfl (Or.inl rfl)) (pss_cons (ps_expr (pe_bm PySem.F.plainAttrs_list PySem.F.slot_list_append PySem.F.type_list_append mt_append (pv 6) (pa_cons (pv 11) pa_nil)))
  (pss_one (ps_if (pt_cmpR op_gt (pe_op op_sub (pe_ix ix_tup (pv 11) pe_int (fun _ _=>rfl)) (pe_ix ix_tup (pv 11) pe_int (fun _ _=>rfl))) pe_int (nomark _)) (pss_one (ps_expr (pe_bm PySem.F.plainAttrs_list PySem.F.slot_list_append PySem.F.type_list_append mt_append (pv 5) (pa_cons (pv 11) pa_nil)))) pss_nil))))))))) pss_nil))))
  (pss_one (ps_ret (pe_callB call_sortedP rfl m_sorted bb_sorted (pa_cons (pv 5) pa_nil))))))))),?_⟩
 have ai0:∀ c d:Int,atI [V.int c,.int d] 0=some (.int c):=fun _ _=>rfl
 have ai1:∀ c d:Int,atI [V.int c,.int d] 1=some (.int d):=fun _ _=>rfl
 refine ⟨_,rfl,_,rfl,_,rfl,_,_,rfl,rfl,a,ns,t,_,rfl,hS,h63,t0,by omega,by omega,by omega,fun pd xs H1 sm1 fd hd lx bx=>?_⟩
 have lx':xs.length=n+1:=by omega
 have atz:=atI_int (ns:=xs) (i:=(n:Int)) (by omega) (by omega)
 refine ⟨_,rfl,_,rfl,pd,_,_,_,rfl,rfl,SqL.of hd,atz,_,_,rfl,rfl,pm (by decide),?_⟩
 try dsimp only
 generalize xs.getD ((n:Int)).toNat 0 % 5=e
 refine ⟨Nat.zero_le _,fun pc hpc=>?_⟩
 have s2:=Same.new sm1 hpc (.lst [])
 have fpc:H pc=none:=sm1.free hpc
 have ndc:pd≠pc:=ne_of_none hd hpc
 have hd2:=(upd_ne (o:=.lst []) ndc).trans hd
 have hc2:PLs (upd H1 pc (.lst [])) pc []:=⟨[],upd_same,.nil⟩
 generalize upd H1 pc (.lst [])=H2 at s2 hd2 hc2 ⊢
 refine ⟨_,rfl,_,_,rfl,rfl,(by show 2≤sizeLine; decide),fun t1' ht1=>⟨(by show 1≤sizeLine; decide),fun pp hpp=>?_⟩⟩
 have k1:=Same.new (Same.refl H2) ht1 (.tup [.int 0,.int ((n:Int)+1)])
 have k2:=Same.new (Same.refl _) hpp (.lst [.ref t1'])
 have k12:=k1.trans k2
 have s3:=s2.trans k12
 have fpp:H pp=none:=(s2.trans k1).free hpp
 have hp3:PLs (upd (upd H2 t1' (.tup [.int 0,.int ((n:Int)+1)])) pp (.lst [.ref t1'])) pp [(0,(n:Int)+1)]:=⟨_,upd_same,.cons ⟨t1',rfl,k2 _ _ upd_same⟩ .nil⟩
 have hd3:=k12 _ _ hd2
 have hc3:=hc2.same k12
 have ndp:pd≠pp:=ne_of_none (k1 _ _ hd2) hpp
 have ncp:pc≠pp:=by
  obtain ⟨ys,h,_⟩:=hc2
  exact ne_of_none (k1 _ _ h) hpp
 generalize upd (upd H2 t1' (.tup [.int 0,.int ((n:Int)+1)])) pp (.lst [.ref t1'])=H3 at s3 hp3 hd3 hc3 ⊢
 have pl1:plen [((0:Int),(n:Int)+1)]=n:=by
  unfold plen
  show ((n:Int)+1 - 0 - 1).toNat+0=n
  omega
 refine ⟨fun m σ H'=>∃ (o1 o2 o3 o4:Option V) (k:Nat) (pl cs:List Pair),σ=[some (.ref a),some (.int n),some (.int t),some (.ref pd),some (.int e),some (.ref pc),some (.ref pp),some (.int (k:Int)),o1,o2,o3,o4]∧Same H H'∧H' pd=some (.lst (xs.map V.int))∧PLs H' pc cs∧PLs H' pp pl∧(∀ p∈pl,0≤p.1∧p.1 < p.2∧p.2≤(n:Int)+1)∧k+plen pl=n∧cs.length≤k+pnon pl∧((∀ c∈cs,Cut n c)∧PiT n pl cs)∧pl.length≤k+1∧m=2*plen pl+pl.length,
  ⟨_,_,_,_,_,0,[(0,(n:Int)+1)],[],rfl,s3,hd3,hc3,hp3,(fun p hp=>by rw [List.mem_singleton.mp hp]; exact ⟨Int.le_refl 0,by show (0:Int) < (n:Int)+1; omega,Int.le_refl _⟩),by rw [pl1]; omega,Nat.zero_le _,⟨(fun c hc=>by cases hc),PiT.start n⟩,Nat.le_refl _,rfl⟩,?_⟩
 rintro m σ H4 ⟨o1,o2,o3,o4,k,pl,cs,rfl,s4,hd4,hc4,hp4,bp,hk,hcs,⟨cut,pit⟩,hlen,hm⟩
 have pn:=pnon_le pl
 obtain ⟨ys,ey,ly,pry⟩:=hp4.len
 refine ⟨_,rfl,pp,_,rfl,.inl (SqL.of ey),_,_,rfl,rfl,_,rfl,?_⟩
 by_cases hne:pl=[]
 ·subst hne
  have e0:plen []=0:=rfl
  have e1:pnon []=0:=rfl
  refine iteN (by rw [ly]; simp) ⟨_,rfl,pc,cs,rfl,hc4,by omega,fun p qs H5 s5 f5 h5 pm5 rs5=>?_⟩
  obtain ⟨tr,etr,ptr⟩:=pit.tree pm5
  exact q p qs H5 (s4.trans s5) (s4.free f5) h5 tr etr ptr rs5
 obtain ⟨pl0,p,rfl⟩:∃ pl0 p,pl=pl0++[p]:=⟨pl.dropLast,pl.getLast hne,(List.dropLast_concat_getLast hne).symm⟩
 obtain ⟨zs,tt,rfl,prz,htt⟩:=pry.unsnoc
 have hpos:0 < (zs++[V.ref tt]).length:=by simp
 have bpp:=bp p (by simp)
 have lpl:(pl0++[p]).length=pl0.length+1:=by simp
 have plS:=plen_snoc pl0 p
 have pnS:=pnon_snoc pl0 p
 have b0:∀ p∈pl0,0≤p.1∧p.1 < p.2∧p.2≤(n:Int)+1:=fun p hp=>bp p (List.mem_append_left _ hp)
 refine iteP (by omega) ⟨fun σ' H'=>∃ (o1 o2 o3 o4:Option V) (k:Nat) (pl cs:List Pair),σ'=[some (.ref a),some (.int n),some (.int t),some (.ref pd),some (.int e),some (.ref pc),some (.ref pp),some (.int (k:Int)),o1,o2,o3,o4]∧Same H H'∧H' pd=some (.lst (xs.map V.int))∧PLs H' pc cs∧PLs H' pp pl∧(∀ p∈pl,0≤p.1∧p.1 < p.2∧p.2≤(n:Int)+1)∧k+plen pl=n∧cs.length≤k+pnon pl∧((∀ c∈cs,Cut n c)∧PiT n pl cs)∧pl.length≤k+1∧2*plen pl+pl.length < m,?_,?_⟩
 ·rintro σ' H' ⟨o1,o2,o3,o4,k,pl,cs,rfl,a1,a2,a3,a4,a5,a6,a7,a8,a9,a10⟩
  exact ⟨2*plen pl+pl.length,a10,o1,o2,o3,o4,k,pl,cs,rfl,a1,a2,a3,a4,a5,a6,a7,a8,a9,rfl⟩
 have hlast:(zs++[V.ref tt])[(zs++[V.ref tt]).length - 1]? = some (.ref tt):=by
  rw [List.length_append,List.getElem?_append_right (by simp)]
  simp
 have ntp:tt≠pp:=fun z=>by rw [z,ey] at htt; cases htt
 refine ⟨_,rfl,.inl ⟨rfl,_,SqL.of ey⟩,pp,_,_,rfl,rfl,ey,hlast,?_⟩
 rw [List.dropLast_concat]
 have s5:=s4.upd fpp (.lst zs)
 have hd5:upd H4 pp (.lst zs) pd=some (.lst (xs.map V.int)):=(upd_ne ndp).trans hd4
 have hc5:PLs (upd H4 pp (.lst zs)) pc cs:=hc4.updL ey ncp _
 have hp5:PLs (upd H4 pp (.lst zs)) pp pl0:=⟨zs,upd_same,prz.updL ey _⟩
 have htt5:upd H4 pp (.lst zs) tt=some (.tup [.int p.1,.int p.2]):=(upd_ne ntp).trans htt
 generalize upd H4 pp (.lst zs)=H5 at s5 hd5 hc5 hp5 htt5 ⊢
 refine ⟨tt,_,rfl,SqT.of htt5,rfl,_,_,rfl,_,_,rfl,rfl,?_⟩
 refine ⟨_,rfl,_,rfl,_,_,rfl,rfl,_,_,rfl,rfl,_,rfl,?_⟩
 by_cases hu:p.2 - p.1 > 1
 ·rw [if_pos hu] at pnS
  have atk:=atI_int (ns:=xs) (i:=(k:Int)) (by omega) (by omega)
  refine iteP hu ⟨_,rfl,_,_,rfl,rfl,_,rfl,_,rfl,pd,_,_,_,rfl,rfl,SqL.of hd5,atk,_,_,rfl,rfl,⟨by decide,by decide +kernel⟩,_,rfl,_,rfl,_,_,rfl,rfl,_,_,rfl,rfl,_,_,rfl,rfl,by omega,_,_,rfl,rfl,?_⟩
  have w0:=Int.emod_nonneg (xs.getD ((k:Int)).toNat 0 / 4) (show p.2 - p.1 - 1≠0 by omega)
  have w1:=Int.emod_lt_of_pos (xs.getD ((k:Int)).toNat 0 / 4) (show (0:Int) < p.2 - p.1 - 1 by omega)
  try dsimp only
  generalize xs.getD ((k:Int)).toNat 0 / 4 % (p.2 - p.1 - 1)=w at w0 w1 ⊢
  refine ⟨fun σ H'=>∃ (th:Int),σ=[some (.ref a),some (.int n),some (.int t),some (.ref pd),some (.int e),some (.ref pc),some (.ref pp),some (.int (k:Int)),some (.int p.1),some (.int p.2),some (.int th),o4]∧H5=H'∧p.1 < th∧th < p.2,?_,?_⟩
  ·refine ⟨_,rfl,rfl,_,rfl,ite2 (fun _=>iteT ⟨_,rfl,_,_,rfl,rfl,_,rfl,rfl,by omega,by omega⟩) (fun _=>⟨_,rfl,_,_,rfl,rfl,_,rfl,ite2 (fun _=>?_) (fun _=>iteF ⟨_,rfl,rfl,by omega,by omega⟩)⟩)⟩
   exact ⟨_,rfl,_,rfl,pd,_,_,_,rfl,rfl,SqL.of hd5,atk,_,_,rfl,rfl,pm (by decide),rfl,_,rfl,ite2 (fun _=>⟨_,rfl,_,_,rfl,rfl,_,rfl,rfl,by omega,by omega⟩) (fun _=>⟨_,rfl,rfl,by omega,by omega⟩)⟩
  rintro σ H6 ⟨th,rfl,rfl,h1,h2⟩
  refine ⟨fun σ H'=>∃ (th:Int),σ=[some (.ref a),some (.int n),some (.int t),some (.ref pd),some (.int e),some (.ref pc),some (.ref pp),some (.int (k:Int)),some (.int p.1),some (.int p.2),some (.int th),o4]∧H5=H'∧p.1 < th∧th < p.2,?_,?_⟩
  ·refine ⟨_,rfl,rfl,_,rfl,ite2 (fun _=>iteT ⟨_,rfl,_,_,rfl,rfl,_,rfl,rfl,by omega,by omega⟩) (fun _=>⟨_,rfl,_,_,rfl,rfl,_,rfl,ite2 (fun _=>?_) (fun _=>iteF ⟨_,rfl,rfl,h1,h2⟩)⟩)⟩
   exact ⟨_,rfl,_,rfl,pd,_,_,_,rfl,rfl,SqL.of hd5,atk,_,_,rfl,rfl,pm (by decide),rfl,_,rfl,ite2 (fun _=>⟨_,rfl,_,_,rfl,rfl,_,rfl,rfl,by omega,by omega⟩) (fun _=>⟨_,rfl,rfl,h1,h2⟩)⟩
  rintro σ H6 ⟨th,rfl,rfl,h1,h2⟩
  refine ⟨_,rfl,_,_,rfl,rfl,?_⟩
  refine ⟨_,rfl,_,rfl,(by show 2≤sizeLine; decide),fun u1 hu1=>⟨_,rfl,_,rfl,(by show 2≤sizeLine; decide),fun u2 hu2=>⟨(by show 2≤sizeLine; decide),fun pf hpf=>?_⟩⟩⟩
  have j1:=Same.new (Same.refl H5) hu1 (.tup [.int p.1,.int th])
  have j2:=Same.new (Same.refl _) hu2 (.tup [.int th,.int p.2])
  have j3:=Same.new (Same.refl _) hpf (.lst [.ref u1,.ref u2])
  have j23:=j2.trans j3
  have j13:=j1.trans j23
  have g1:=j23 _ _ (upd_same (H:=H5) (a:=u1) (o:=.tup [.int p.1,.int th]))
  have g2:=j3 _ _ (upd_same (H:=upd H5 u1 (.tup [.int p.1,.int th])) (a:=u2) (o:=.tup [.int th,.int p.2]))
  have g3:upd (upd (upd H5 u1 (.tup [.int p.1,.int th])) u2 (.tup [.int th,.int p.2])) pf (.lst [.ref u1,.ref u2]) pf=some (.lst [.ref u1,.ref u2]):=upd_same
  have s6:=s5.trans j13
  have hd6:=j13 _ _ hd5
  have hc6:=hc5.same j13
  have hp6:=hp5.same j13
  have nfc:pf≠pc:=fun z=>by
   obtain ⟨ys,h,_⟩:=hc5
   rw [z,(j1.trans j2) _ _ h] at hpf
   cases hpf
  have nfp:pf≠pp:=fun z=>by
   obtain ⟨ys,h,_⟩:=hp5
   rw [z,(j1.trans j2) _ _ h] at hpf
   cases hpf
  generalize upd (upd (upd H5 u1 (.tup [.int p.1,.int th])) u2 (.tup [.int th,.int p.2])) pf (.lst [.ref u1,.ref u2])=H6 at g1 g2 g3 s6 hd6 hc6 hp6 ⊢
  have prp:Prs H6 [.ref u1,.ref u2] [(p.1,th),(th,p.2)]:=.cons ⟨u1,rfl,g1⟩ (.cons ⟨u2,rfl,g2⟩ .nil)
  have lpl0:pl0.length≤n:=by omega
  refine ⟨pf,rfl,⟨_,SqL.of g3⟩,for_list (xs:=[.ref u1,.ref u2]) (fun i σ H'=>∃ (o4:Option V),σ=[some (.ref a),some (.int n),some (.int t),some (.ref pd),some (.int e),some (.ref pc),some (.ref pp),some (.int ((k:Int)+1)),some (.int p.1),some (.int p.2),some (.int th),o4]∧Same H H'∧H' pd=some (.lst (xs.map V.int))∧H' pf=some (.lst [.ref u1,.ref u2])∧Prs H' [.ref u1,.ref u2] [(p.1,th),(th,p.2)]∧PLs H' pp (pl0++([(p.1,th),(th,p.2)]:List Pair).take i)∧PLs H' pc (cs++(([(p.1,th),(th,p.2)]:List Pair).take i).filter nonU))
   ⟨_,rfl,s6,hd6,g3,prp,by simpa using hp6,by simpa using hc6⟩ (fun i σ H' _ h=>by obtain ⟨_,_,_,_,h,_⟩:=h; exact SqL.of h) ?_ ?_⟩
  ·rintro i v σ H7 hv ⟨o4,rfl,s7,hd7,hf7,pp7,hp7,hc7⟩
   obtain ⟨pt,tt',hpt,rfl,htt'⟩:=pp7.get hv
   have tk:=filter_take nonU hpt
   have l2:(([(p.1,th),(th,p.2)]:List Pair).take i).length≤2:=by rw [List.length_take]; exact Nat.min_le_right _ _
   obtain ⟨ys7,ey7,ly7,pry7⟩:=hp7.len
   rw [List.length_append] at ly7
   refine ⟨_,rfl,.inl ⟨rfl,_,SqL.of ey7⟩,_,rfl,pp,_,_,rfl,rfl,ey7,sz' (by omega),?_⟩
   have s8:=s7.upd fpp (.lst (ys7++[.ref tt']))
   have hd8:upd H7 pp (.lst (ys7++[.ref tt'])) pd=some (.lst (xs.map V.int)):=(upd_ne ndp).trans hd7
   have hf8:upd H7 pp (.lst (ys7++[.ref tt'])) pf=some (.lst [.ref u1,.ref u2]):=(upd_ne nfp).trans hf7
   have pp8:=pp7.updL ey7 (.lst (ys7++[.ref tt']))
   have hp8:=PLs.put ey7 pry7 htt'
   have hc8:=hc7.updL ey7 ncp (.lst (ys7++[.ref tt']))
   have ht8:upd H7 pp (.lst (ys7++[.ref tt'])) tt'=some (.tup [.int pt.1,.int pt.2]):=(upd_ne (fun z=>by rw [z,ey7] at htt'; cases htt')).trans htt'
   generalize upd H7 pp (.lst (ys7++[.ref tt']))=H8 at s8 hd8 hf8 pp8 hp8 hc8 ht8 ⊢
   have hp8:PLs H8 pp (pl0++([(p.1,th),(th,p.2)]:List Pair).take (i+1)):=by
    rw [List.take_add_one,hpt,← List.append_assoc]
    exact hp8
   refine ⟨_,rfl,tt',_,_,_,rfl,rfl,SqT.of ht8,ai1 _ _,_,rfl,tt',_,_,_,rfl,rfl,SqT.of ht8,ai0 _ _,_,_,rfl,rfl,_,_,rfl,rfl,_,rfl,?_⟩
   by_cases h:pt.2 - pt.1 > 1
   ·obtain ⟨ys8,ey8,ly8,pry8⟩:=hc8.len
    rw [List.length_append] at ly8
    have l3:=List.length_filter_le nonU (([(p.1,th),(th,p.2)]:List Pair).take i)
    refine iteP h ⟨_,rfl,.inl ⟨rfl,_,SqL.of ey8⟩,_,rfl,pc,_,_,rfl,rfl,ey8,sz' (by omega),?_⟩
    refine ⟨_,rfl,s8.upd fpc _,(upd_ne ndc).trans hd8,(upd_ne nfc).trans hf8,pp8.updL ey8 _,hp8.updL ey8 (Ne.symm ncp) _,?_⟩
    rw [tk,if_pos (show nonU _=true from decide_eq_true h),← List.append_assoc]
    exact PLs.put ey8 pry8 ht8
   ·refine iteN h ⟨_,rfl,s8,hd8,hf8,pp8,hp8,?_⟩
    rw [tk,if_neg (by unfold nonU; simpa using h),List.append_nil]
    exact hc8
  ·rintro σ H7 ⟨o4,rfl,s7,hd7,hf7,pp7,hp7,hc7⟩
   have hp7:PLs H7 pp (pl0++[(p.1,th),(th,p.2)]):=hp7
   have hc7:PLs H7 pc (cs++([(p.1,th),(th,p.2)]:List Pair).filter nonU):=hc7
   have pa:=pnon_app pl0 [(p.1,th),(th,p.2)]
   have pb:plen (pl0++[(p.1,th),(th,p.2)])=plen pl0+(th - p.1 - 1).toNat+(p.2 - th - 1).toNat:=by
    rw [show pl0++[(p.1,th),(th,p.2)]=(pl0++[(p.1,th)])++[(th,p.2)] by simp,plen_snoc,plen_snoc]
   have lc:(pl0++[(p.1,th),(th,p.2)]).length=pl0.length+2:=by simp
   refine ⟨_,_,_,_,k+1,pl0++[(p.1,th),(th,p.2)],_,rfl,s7,hd7,hc7,hp7,fun x hx=>?_,by omega,by rw [List.length_append]; omega,⟨fun c hc=>?_,pit.split h1 h2⟩,by omega,by omega⟩
   ·rcases List.mem_append.mp hx with hx | hx
    ·exact b0 x hx
    ·rcases List.mem_cons.mp hx with hx | hx
     ·subst hx; dsimp only; omega
     ·rw [List.mem_singleton.mp hx]; dsimp only; omega
   ·rcases List.mem_append.mp hc with hc | hc
    ·exact cut c hc
    ·obtain ⟨hm,hn2⟩:=List.mem_filter.mp hc
     have hn2:c.2 - c.1 > 1:=of_decide_eq_true hn2
     unfold Cut
     rcases List.mem_cons.mp hm with hx | hx
     ·subst hx; dsimp only at hn2 ⊢; omega
     ·rw [List.mem_singleton.mp hx] at hn2 ⊢; dsimp only at hn2 ⊢; omega
 ·rw [if_neg hu] at pnS
  refine iteN hu ⟨_,_,_,_,k,pl0,cs,rfl,s5,hd5,hc5,hp5,b0,by omega,by omega,⟨cut,pit.unit bpp.2.1 hu⟩,by omega,by omega⟩
theorem ok_u32 {ca:ClA} (CA:ClOk K mg ca) {f:Addr} {fd:FuncData} (F:Fun K "_law_triangles" "_law_triangles" s_u32 f fd) (m_range:mg "range" = none) (m_list:mg "list" = none):FnOk P w K mg base CX0 1 f fd ["_law_corners","_law_cuts_here"] (sp_u32 K ca):=by
 refine F.ok sc_u32 (fun vs H Q E h=>?_) (fun cdv A outer s H vs Q E hr h=>?_)
 ·obtain ⟨l,t,ps,rfl,hl,pm,h40,q⟩:=h
  rfl
 obtain ⟨l,t,ps,rfl,hl,pm,h40,q⟩:=h
 refine ⟨_,pss_cons (ps_set (i:=2) sc_u32.nd rfl (Or.inl rfl) pe_dnewT)
  (pss_cons (ps_for PassesOwn.never rfl (pi_list (pv 1)) (pg_name (i:=3) sc_u32.nd rfl (Or.inl rfl)) (pss_one (ps_dput (hu1 hr) (pv 2) (pv 3) pe_bl rfl)))
  (pss_cons (ps_for PassesOwn.never rfl (pi_range1 rfl m_range (pa_cons (pe_op op_sub (pv 0) pe_int) pa_nil)) (pg_name (i:=4) sc_u32.nd rfl (Or.inl rfl)) (pss_one (ps_dput (hu1 hr) (pv 2) (pe_tup (pa_cons (pv 4) (pa_cons (pe_op op_add (pv 4) pe_int) pa_nil))) pe_bl rfl)))
  (pss_cons (ps_dput (hu1 hr) (pv 2) (pe_tup (pa_cons pe_int (pa_cons (pe_op op_sub (pv 0) pe_int) pa_nil))) pe_bl rfl)
  (pss_cons (ps_set (i:=5) sc_u32.nd rfl (Or.inl rfl) (pe_lst pa_nil))
  (pss_cons (ps_for PassesOwn.never rfl (pi_list (pe_callTy (call_listDT rfl) rfl m_list bb_list (pa_cons (pv 2) pa_nil))) (pg_tup rfl (pgs_cons (pg_name (i:=6) sc_u32.nd rfl (Or.inl rfl)) (pgs_cons (pg_name (i:=7) sc_u32.nd rfl (Or.inl rfl)) pgs_nil))) (pss_one (ps_for PassesOwn.never rfl (pi_range2 rfl m_range (pa_cons (pe_op op_add (pv 7) pe_int) (pa_cons (pv 0) pa_nil))) (pg_name (i:=8) sc_u32.nd rfl (Or.inl rfl)) (pss_one (ps_if (PW.pt (pw_and (pt_cmp (pc_din (hu1 hr) (pe_tup (pa_cons (pv 6) (pa_cons (pv 8) pa_nil))) (pv 2)) (by rfl)) (pw_and1 (pt_cmp (pc_din (hu1 hr) (pe_tup (pa_cons (pv 7) (pa_cons (pv 8) pa_nil))) (pv 2)) (by rfl))))) (pss_one (ps_expr (pe_bm PySem.F.plainAttrs_list PySem.F.slot_list_append PySem.F.type_list_append mt_append (pv 5) (pa_cons (pe_tup (pa_cons (pv 6) (pa_cons (pv 7) (pa_cons (pv 8) pa_nil)))) pa_nil)))) pss_nil)))))
  (pss_one (ps_ret (pv 5)))))))),?_⟩
 have lps:ps.length≤40:=by rw [pm.length_eq,in_len]; omega
 obtain ⟨xs,el,lxs,pr⟩:=hl.len
 have ld:∀ ks:List Pair,(dOf ks).length=ks.length:=fun ks=>by unfold dOf; rw [List.length_map]
 refine fun J hJ=>?_
 have s1:=Same.new (Same.refl H) hJ (.dT [])
 refine ⟨_,rfl,l,rfl,⟨_,SqL.of (s1 _ _ el)⟩,for_list (xs:=xs) (fun i σ H'=>∃ (o:Option V),σ=[some (.int ((t.size:Int)+2)),some (.ref l),some (.ref J),o,none,none,none,none,none]∧Same H H'∧H' J=some (.dT (dOf (ps.take i)))∧i≤ps.length) ⟨_,rfl,s1,upd_same,Nat.zero_le _⟩ (fun i σ H' _ h=>by obtain ⟨_,_,h,_⟩:=h; exact SqL.of (h _ _ el)) ?_ ?_⟩
 ·rintro i v σ H2 hv ⟨o,rfl,s2,hJ2,hi⟩
  obtain ⟨pp,tt,hpp,rfl,htt⟩:=pr.get hv
  have hlt:i < ps.length:=(List.getElem?_eq_some_iff.mp hpp).1
  refine ⟨_,rfl,_,rfl,J,_,rfl,DPut.t (k:=kk pp) hJ2 (s2 _ _ htt) (sz' (by rw [ld,List.length_take]; omega)),_,rfl,s2.upd hJ _,?_,hlt⟩
  rw [upd_same,put_dOf,cut_new pm hpp]
 rintro σ H2 ⟨o,rfl,s2,hJ2,hi⟩
 rw [List.take_of_length_le (by omega)] at hJ2
 refine ⟨_,rfl,_,_,rfl,rfl,_,rfl,by omega,by omega,for_range (lo:=0) (n:=((t.size:Int)+2 - 1).toNat) (fun i σ H'=>∃ (o2:Option V),σ=[some (.int ((t.size:Int)+2)),some (.ref l),some (.ref J),o,o2,none,none,none,none]∧Same H H'∧H' J=some (.dT (dOf (ps++((List.range i).map fun (k:Nat)=>(((k:Int),(k:Int)+1):Pair)))))∧i≤t.size+1) ⟨_,rfl,s2,by rw [hJ2]; simp,Nat.zero_le _⟩ ?_ ?_⟩
 ·rintro i σ H3 hi ⟨o2,rfl,s3,hJ3,hi2⟩
  refine ⟨_,rfl,_,rfl,_,rfl,_,_,rfl,rfl,(by show 2≤sizeLine; decide),fun w hw=>?_⟩
  have k4:=Same.new s3 hw (.tup [.int ((0:Int)+(i:Int)),.int ((0:Int)+(i:Int)+1)])
  have hJ4:=(upd_ne (o:=.tup [.int ((0:Int)+(i:Int)),.int ((0:Int)+(i:Int)+1)]) (ne_of_none hJ3 hw)).trans hJ3
  refine ⟨J,_,rfl,DPut.t (k:=kk ((0:Int)+(i:Int),(0:Int)+(i:Int)+1)) hJ4 upd_same (sz' (by rw [ld,List.length_append,List.length_map,List.length_range]; omega)),_,rfl,k4.upd hJ _,?_,by omega⟩
  rw [upd_same,put_dOf,show (0:Int)+(i:Int)=(i:Int) by omega,unit_new pm]
 rintro σ H3 ⟨o2,rfl,s3,hJ3,hi2⟩
 rw [show ((t.size:Int)+2 - 1).toNat=t.size+1 by omega] at hJ3
 refine ⟨_,rfl,_,rfl,_,_,rfl,rfl,(by show 2≤sizeLine; decide),fun w hw=>?_⟩
 have k4:=Same.new s3 hw (.tup [.int 0,.int ((t.size:Int)+2 - 1)])
 have hJ4:=(upd_ne (o:=.tup [.int 0,.int ((t.size:Int)+2 - 1)]) (ne_of_none hJ3 hw)).trans hJ3
 have hw4:upd H3 w (.tup [.int 0,.int ((t.size:Int)+2 - 1)]) w=some (.tup ((kk (0,(t.size:Int)+2 - 1)).map kV)):=upd_same
 refine ⟨J,_,rfl,DPut.t (k:=kk (0,(t.size:Int)+2 - 1)) hJ4 hw4 (sz' (by rw [ld,List.length_append,List.length_map,List.length_range]; omega)),?_⟩
 have s5:=k4.upd hJ (.dT (putK (dOf (ps++((List.range (t.size+1)).map fun (k:Nat)=>(((k:Int),(k:Int)+1):Pair)))) (kk (0,(t.size:Int)+2 - 1)) (.bl true)))
 have hJ5:upd (upd H3 w (.tup [.int 0,.int ((t.size:Int)+2 - 1)])) J (.dT (putK (dOf (ps++((List.range (t.size+1)).map fun (k:Nat)=>(((k:Int),(k:Int)+1):Pair)))) (kk (0,(t.size:Int)+2 - 1)) (.bl true))) J=some (.dT (dOf (edges t.size ps))):=by
  rw [upd_same,put_dOf,show (t.size:Int)+2 - 1=(t.size:Int)+1 by omega]
  rfl
 generalize upd (upd H3 w (.tup [.int 0,.int ((t.size:Int)+2 - 1)])) J (.dT (putK (dOf (ps++((List.range (t.size+1)).map fun (k:Nat)=>(((k:Int),(k:Int)+1):Pair)))) (kk (0,(t.size:Int)+2 - 1)) (.bl true)))=H5 at s5 hJ5 ⊢
 refine ⟨Nat.zero_le _,fun pf hpf=>?_⟩
 have s6:=Same.new s5 hpf (.lst [])
 have fpf:H pf=none:=s5.free hpf
 have hJ6:=(upd_ne (o:=.lst []) (ne_of_none hJ5 hpf)).trans hJ5
 have hf6:upd H5 pf (.lst []) pf=some (.lst []):=upd_same
 generalize upd H5 pf (.lst [])=H6 at s6 hJ6 hf6 ⊢
 refine ⟨_,rfl,J,_,rfl,hJ6,fun L bs hL pb=>?_⟩
 have pe:=prs_dOf pb
 have k7:=Same.new (Same.refl H6) hL (.lst (bs.map V.ref))
 have s7:=s6.trans k7
 have pe7:=pe.same k7
 have hJ7:=k7 _ _ hJ6
 have hf7:=k7 _ _ hf6
 have hL7:upd H6 L (.lst (bs.map V.ref)) L=some (.lst (bs.map V.ref)):=upd_same
 have nLf:L≠pf:=Ne.symm (ne_of_none hf6 hL)
 have nJf:J≠pf:=fun z=>by rw [z,hf6] at hJ6; cases hJ6
 generalize upd H6 L (.lst (bs.map V.ref))=H7 at s7 pe7 hJ7 hf7 hL7 ⊢
 have lE:=pe7.length
 generalize eE:edges t.size ps=es at hJ7 pe7 lE
 have fl:=fnd_len pm
 have ft:=fnd_tri pm
 rw [eE] at fl ft
 have les:es.length≤82:=by have:=edges_len pm; rw [eE] at this; omega
 refine ⟨L,rfl,⟨_,SqL.of hL7⟩,for_list (xs:=bs.map V.ref) (fun i σ H'=>∃ (oa ob oc:Option V) (zs:List V),σ=[some (.int ((t.size:Int)+2)),some (.ref l),some (.ref J),o,o2,some (.ref pf),oa,ob,oc]∧But pf H7 H'∧H' pf=some (.lst zs)∧Trs H' zs (fnd es t.size (es.take i))∧i≤es.length) ⟨_,_,_,[],rfl,But.refl _ _,hf7,.nil,Nat.zero_le _⟩ (fun i σ H' _ h=>by obtain ⟨_,_,_,_,_,h,_⟩:=h; exact SqL.of (h _ _ nLf hL7)) ?_ ?_⟩
 ·rintro i v σ H8 hv ⟨oa,ob,oc,zs,rfl,b8,hf8,tr8,hi8⟩
  obtain ⟨pp,tt,hpp,rfl,htt⟩:=pe7.get hv
  have hlt:i < es.length:=(List.getElem?_eq_some_iff.mp hpp).1
  have et:es.take (i+1)=es.take i++[pp]:=by rw [List.take_add_one,hpp]; rfl
  have fs:=fl (i+1)
  rw [et,fnd_snoc,List.length_append] at fs
  have bd:=((mem_edges pm).mp (by rw [eE]; exact List.mem_of_getElem? hpp)).bd
  have ia:∀ j,j≤((t.size:Int)+2 - (pp.2+1)).toNat→(inn es pp j).length≤j:=fun j _=>by
   unfold inn
   rw [List.length_map]
   exact Nat.le_trans (List.length_filter_le _ _) (by rw [List.length_range]; exact Nat.le_refl _)
  refine ⟨tt,_,rfl,SqT.of (b8 _ _ (fun z=>by rw [z,hf7] at htt; cases htt) htt),rfl,_,_,rfl,_,_,rfl,rfl,?_⟩
  refine ⟨_,rfl,_,_,rfl,rfl,_,rfl,_,_,rfl,⟨by omega,by omega,by omega,by omega⟩,for_range (lo:=pp.2+1) (n:=((t.size:Int)+2 - (pp.2+1)).toNat) (fun j σ H'=>∃ (oc:Option V) (zs:List V),σ=[some (.int ((t.size:Int)+2)),some (.ref l),some (.ref J),o,o2,some (.ref pf),some (.int pp.1),some (.int pp.2),oc]∧But pf H7 H'∧H' pf=some (.lst zs)∧Trs H' zs (fnd es t.size (es.take i)++inn es pp j)∧j≤((t.size:Int)+2 - (pp.2+1)).toNat) ⟨_,zs,rfl,b8,hf8,by show Trs H8 zs (_++[]); rw [List.append_nil]; exact tr8,Nat.zero_le _⟩ ?_ ?_⟩
  ·rintro j σ H9 hj ⟨oc,zs9,rfl,b9,hf9,tr9,hj9⟩
   have lz:=tr9.len
   rw [List.length_append] at lz
   have lj:=ia j hj9
   have fi:=fl i
   refine ⟨_,rfl,_,rfl,(by show 2≤sizeLine; decide),fun w1 hw1=>?_⟩
   have bA:=b9.new hw1 (.tup [.int pp.1,.int (pp.2+1+(j:Int))])
   have hfA:=(upd_ne (o:=.tup [.int pp.1,.int (pp.2+1+(j:Int))]) (ne_of_none hf9 hw1)).trans hf9
   have trA:Trs (upd H9 w1 (.tup [.int pp.1,.int (pp.2+1+(j:Int))])) zs9 (fnd es t.size (es.take i)++inn es pp j):=tr9.mono fun p ys h=>(upd_ne (ne_of_none h hw1)).trans h
   have hwA:upd H9 w1 (.tup [.int pp.1,.int (pp.2+1+(j:Int))]) w1=some (.tup ((kk (pp.1,pp.2+1+(j:Int))).map kV)):=upd_same
   generalize upd H9 w1 (.tup [.int pp.1,.int (pp.2+1+(j:Int))])=HA at bA hfA trA hwA ⊢
   refine ⟨_,rfl,J,_,rfl,DGet.t (k:=kk (pp.1,pp.2+1+(j:Int))) (bA _ _ nJf hJ7) hwA,_,rfl,?_⟩
   rw [val_dOf]
   have is:=inn_succ es pp j
   unfold tst at is
   by_cases m1:(pp.1,pp.2+1+(j:Int))∈es
   ·rw [if_pos m1]
    rw [decide_eq_true m1,Bool.true_and] at is
    refine iteT ⟨_,rfl,_,rfl,(by show 2≤sizeLine; decide),fun w2 hw2=>?_⟩
    have bB:=bA.new hw2 (.tup [.int pp.2,.int (pp.2+1+(j:Int))])
    have hfB:=(upd_ne (o:=.tup [.int pp.2,.int (pp.2+1+(j:Int))]) (ne_of_none hfA hw2)).trans hfA
    have trB:Trs (upd HA w2 (.tup [.int pp.2,.int (pp.2+1+(j:Int))])) zs9 (fnd es t.size (es.take i)++inn es pp j):=trA.mono fun p ys h=>(upd_ne (ne_of_none h hw2)).trans h
    have hwB:upd HA w2 (.tup [.int pp.2,.int (pp.2+1+(j:Int))]) w2=some (.tup ((kk (pp.2,pp.2+1+(j:Int))).map kV)):=upd_same
    generalize upd HA w2 (.tup [.int pp.2,.int (pp.2+1+(j:Int))])=HB at bB hfB trB hwB ⊢
    refine ⟨_,rfl,J,_,rfl,DGet.t (k:=kk (pp.2,pp.2+1+(j:Int))) (bB _ _ nJf hJ7) hwB,_,rfl,?_⟩
    rw [val_dOf]
    by_cases m2:(pp.2,pp.2+1+(j:Int))∈es
    ·rw [if_pos m2]
     rw [decide_eq_true m2,if_pos rfl] at is
     refine iteT ⟨_,rfl,.inl ⟨rfl,_,SqL.of hfB⟩,_,rfl,_,rfl,_,rfl,(by show 3≤sizeLine; decide),fun w3 hw3=>?_⟩
     have hfC:=(upd_ne (o:=.tup [.int pp.1,.int pp.2,.int (pp.2+1+(j:Int))]) (ne_of_none hfB hw3)).trans hfB
     refine ⟨pf,_,_,rfl,rfl,hfC,sz' (by omega),?_⟩
     have trC:Trs (upd HB w3 (.tup [.int pp.1,.int pp.2,.int (pp.2+1+(j:Int))])) (zs9++[.ref w3]) ((fnd es t.size (es.take i)++inn es pp j)++[(pp.1,pp.2,pp.2+1+(j:Int))]):=(trB.mono fun p ys h=>(upd_ne (ne_of_none h hw3)).trans h).snoc upd_same
     refine ⟨_,zs9++[.ref w3],rfl,(bB.new hw3 _).upd _,upd_same,?_,by omega⟩
     rw [is,← List.append_assoc]
     exact trC.mono fun p ys h=>(upd_ne (fun z=>by rw [z,hfC] at h; cases h)).trans h
    ·rw [if_neg m2]
     rw [decide_eq_false m2,if_neg (by decide),List.append_nil] at is
     exact iteF ⟨_,zs9,rfl,bB,hfB,by rw [is]; exact trB,by omega⟩
   ·rw [if_neg m1]
    rw [decide_eq_false m1,Bool.false_and,if_neg (by decide),List.append_nil] at is
    exact iteF (iteF ⟨_,zs9,rfl,bA,hfA,by rw [is]; exact trA,by omega⟩)
  ·rintro σ H9 ⟨oc,zs9,rfl,b9,hf9,tr9,hj9⟩
   exact ⟨_,_,_,zs9,rfl,b9,hf9,by rw [et,fnd_snoc]; exact tr9,hlt⟩
 ·rintro σ H8 ⟨oa,ob,oc,zs,rfl,b8,hf8,tr8,hi8⟩
  rw [List.take_of_length_le (by omega)] at tr8
  exact ⟨_,rfl,q pf zs _ H8 (b8.same s7 fpf) fpf hf8 tr8 ft⟩
theorem ok_u11 {ca:ClA} (CA:ClOk K mg ca) {fd:FuncData} (F:Fun K "__init__" "Family.__init__" s_u11 ca.f_u11 fd):FnOk P w K mg base CX0 1 ca.f_u11 fd ["self","word","least"] (sp_u11 K ca):=by
 refine F.ok sc_u11 (fun vs H Q E h=>?_) (fun cdv A outer s H vs Q E hr h=>?_)
 ·obtain ⟨x,dx,w,l,rfl,hx,q⟩:=h
  rfl
 obtain ⟨x,dx,w,l,rfl,hx,q⟩:=h
 refine ⟨_,pss_cons (ps_fld (pv 0) (pv 1) rfl)
  (pss_one (ps_fld (pv 0) (pv 2) rfl)),?_⟩
 refine ⟨_,rfl,_,rfl,x,ca.C_Brackets,dx,_,rfl,hx,CA.c_Brackets,CA.na_Brackets_word,(by show 0 < 1000; decide),?_⟩
 refine ⟨_,rfl,_,rfl,x,ca.C_Brackets,dx,_,rfl,upd_same,CA.c_Brackets,CA.na_Brackets_least,(by show 1 < 1000; decide),?_⟩
 exact q _ _ upd_upd (flds_mk w l)
theorem ok_u0 {ca:ClA} (CA:ClOk K mg ca) {fd:FuncData} (F:Fun K "__init__" "SplitFamily.__init__" s_u0 ca.f_u0 fd) {fd0:FuncData} (d_u11:MDef P w K mg base ["self","word","least"] 1 (sp_u11 K ca) ca.f_u11 fd0):FnOk P w K mg base CX0 3 ca.f_u0 fd ["self","word"] (sp_u0 K ca):=by
 refine F.ok sc_u0 (fun vs H Q E h=>?_) (fun cdv A outer s H vs Q E hr h=>?_)
 ·obtain ⟨x,dx,w,rfl,hx,q⟩:=h
  rfl
 obtain ⟨x,dx,w,rfl,hx,q⟩:=h
 refine ⟨_,pss_one (ps_expr (pcls CA.m_Family CA.cm_Family___init___Brackets d_u11 hr (pa_cons (pv 0) (pa_cons (pv 1) (pa_cons pe_int pa_nil))))),?_⟩
 exact ⟨_,rfl,_,rfl,x,dx,w,0,rfl,hx,fun fs H' e f=>q fs H' e f⟩
theorem ok_u21 {ca:ClA} (CA:ClOk K mg ca) {fd:FuncData} (F:Fun K "__init__" "Brackets.__init__" s_u21 ca.f_u21 fd) {fd0:FuncData} (d_u0:MDef P w K mg base ["self","word"] 3 (sp_u0 K ca) ca.f_u0 fd0):FnOk P w K mg base CX0 5 ca.f_u21 fd ["self"] (sp_u21 K ca):=by
 refine F.ok sc_u21 (fun vs H Q E h=>?_) (fun cdv A outer s H vs Q E hr h=>?_)
 ·obtain ⟨x,dx,rfl,hx,q⟩:=h
  rfl
 obtain ⟨x,dx,rfl,hx,q⟩:=h
 refine ⟨_,pss_one (ps_expr (pcls CA.m_SplitFamily CA.cm_SplitFamily___init___Brackets d_u0 hr (pa_cons (pv 0) (pa_cons pe_str pa_nil)))),?_⟩
 exact ⟨_,rfl,x,dx,_,rfl,hx,fun fs H' e f=>q fs H' e f⟩
theorem ok_u12 {ca:ClA} (CA:ClOk K mg ca) {fd:FuncData} (F:Fun K "__init__" "Family.__init__" s_u12 ca.f_u12 fd):FnOk P w K mg base CX0 1 ca.f_u12 fd ["self","word","least"] (sp_u12 K ca):=by
 refine F.ok sc_u12 (fun vs H Q E h=>?_) (fun cdv A outer s H vs Q E hr h=>?_)
 ·obtain ⟨x,dx,w,l,rfl,hx,q⟩:=h
  rfl
 obtain ⟨x,dx,w,l,rfl,hx,q⟩:=h
 refine ⟨_,pss_cons (ps_fld (pv 0) (pv 1) rfl)
  (pss_one (ps_fld (pv 0) (pv 2) rfl)),?_⟩
 refine ⟨_,rfl,_,rfl,x,ca.C_Stairs,dx,_,rfl,hx,CA.c_Stairs,CA.na_Stairs_word,(by show 0 < 1000; decide),?_⟩
 refine ⟨_,rfl,_,rfl,x,ca.C_Stairs,dx,_,rfl,upd_same,CA.c_Stairs,CA.na_Stairs_least,(by show 1 < 1000; decide),?_⟩
 exact q _ _ upd_upd (flds_mk w l)
theorem ok_u2 {ca:ClA} (CA:ClOk K mg ca) {fd:FuncData} (F:Fun K "__init__" "SplitFamily.__init__" s_u2 ca.f_u2 fd) {fd0:FuncData} (d_u12:MDef P w K mg base ["self","word","least"] 1 (sp_u12 K ca) ca.f_u12 fd0):FnOk P w K mg base CX0 3 ca.f_u2 fd ["self","word"] (sp_u2 K ca):=by
 refine F.ok sc_u2 (fun vs H Q E h=>?_) (fun cdv A outer s H vs Q E hr h=>?_)
 ·obtain ⟨x,dx,w,rfl,hx,q⟩:=h
  rfl
 obtain ⟨x,dx,w,rfl,hx,q⟩:=h
 refine ⟨_,pss_one (ps_expr (pcls CA.m_Family CA.cm_Family___init___Stairs d_u12 hr (pa_cons (pv 0) (pa_cons (pv 1) (pa_cons pe_int pa_nil))))),?_⟩
 exact ⟨_,rfl,_,rfl,x,dx,w,0,rfl,hx,fun fs H' e f=>q fs H' e f⟩
theorem ok_u22 {ca:ClA} (CA:ClOk K mg ca) {fd:FuncData} (F:Fun K "__init__" "Stairs.__init__" s_u22 ca.f_u22 fd) {fd0:FuncData} (d_u2:MDef P w K mg base ["self","word"] 3 (sp_u2 K ca) ca.f_u2 fd0):FnOk P w K mg base CX0 5 ca.f_u22 fd ["self"] (sp_u22 K ca):=by
 refine F.ok sc_u22 (fun vs H Q E h=>?_) (fun cdv A outer s H vs Q E hr h=>?_)
 ·obtain ⟨x,dx,rfl,hx,q⟩:=h
  rfl
 obtain ⟨x,dx,rfl,hx,q⟩:=h
 refine ⟨_,pss_one (ps_expr (pcls CA.m_SplitFamily CA.cm_SplitFamily___init___Stairs d_u2 hr (pa_cons (pv 0) (pa_cons pe_str pa_nil)))),?_⟩
 exact ⟨_,rfl,x,dx,_,rfl,hx,fun fs H' e f=>q fs H' e f⟩
theorem ok_u14 {ca:ClA} (CA:ClOk K mg ca) {fd:FuncData} (F:Fun K "__init__" "Family.__init__" s_u14 ca.f_u14 fd):FnOk P w K mg base CX0 1 ca.f_u14 fd ["self","word","least"] (sp_u14 K ca):=by
 refine F.ok sc_u14 (fun vs H Q E h=>?_) (fun cdv A outer s H vs Q E hr h=>?_)
 ·obtain ⟨x,dx,w,l,rfl,hx,q⟩:=h
  rfl
 obtain ⟨x,dx,w,l,rfl,hx,q⟩:=h
 refine ⟨_,pss_cons (ps_fld (pv 0) (pv 1) rfl)
  (pss_one (ps_fld (pv 0) (pv 2) rfl)),?_⟩
 refine ⟨_,rfl,_,rfl,x,ca.C_Twins,dx,_,rfl,hx,CA.c_Twins,CA.na_Twins_word,(by show 0 < 1000; decide),?_⟩
 refine ⟨_,rfl,_,rfl,x,ca.C_Twins,dx,_,rfl,upd_same,CA.c_Twins,CA.na_Twins_least,(by show 1 < 1000; decide),?_⟩
 exact q _ _ upd_upd (flds_mk w l)
theorem ok_u6 {ca:ClA} (CA:ClOk K mg ca) {fd:FuncData} (F:Fun K "__init__" "SplitFamily.__init__" s_u6 ca.f_u6 fd) {fd0:FuncData} (d_u14:MDef P w K mg base ["self","word","least"] 1 (sp_u14 K ca) ca.f_u14 fd0):FnOk P w K mg base CX0 3 ca.f_u6 fd ["self","word"] (sp_u6 K ca):=by
 refine F.ok sc_u6 (fun vs H Q E h=>?_) (fun cdv A outer s H vs Q E hr h=>?_)
 ·obtain ⟨x,dx,w,rfl,hx,q⟩:=h
  rfl
 obtain ⟨x,dx,w,rfl,hx,q⟩:=h
 refine ⟨_,pss_one (ps_expr (pcls CA.m_Family CA.cm_Family___init___Twins d_u14 hr (pa_cons (pv 0) (pa_cons (pv 1) (pa_cons pe_int pa_nil))))),?_⟩
 exact ⟨_,rfl,_,rfl,x,dx,w,0,rfl,hx,fun fs H' e f=>q fs H' e f⟩
theorem ok_u28 {ca:ClA} (CA:ClOk K mg ca) {fd:FuncData} (F:Fun K "__init__" "Twins.__init__" s_u28 ca.f_u28 fd) {fd0:FuncData} (d_u6:MDef P w K mg base ["self","word"] 3 (sp_u6 K ca) ca.f_u6 fd0):FnOk P w K mg base CX0 5 ca.f_u28 fd ["self"] (sp_u28 K ca):=by
 refine F.ok sc_u28 (fun vs H Q E h=>?_) (fun cdv A outer s H vs Q E hr h=>?_)
 ·obtain ⟨x,dx,rfl,hx,q⟩:=h
  rfl
 obtain ⟨x,dx,rfl,hx,q⟩:=h
 refine ⟨_,pss_one (ps_expr (pcls CA.m_SplitFamily CA.cm_SplitFamily___init___Twins d_u6 hr (pa_cons (pv 0) (pa_cons pe_str pa_nil)))),?_⟩
 exact ⟨_,rfl,x,dx,_,rfl,hx,fun fs H' e f=>q fs H' e f⟩
theorem ok_u19 {ca:ClA} (CA:ClOk K mg ca) {fd:FuncData} (F:Fun K "__init__" "Family.__init__" s_u19 ca.f_u19 fd):FnOk P w K mg base CX0 1 ca.f_u19 fd ["self","word","least"] (sp_u19 K ca):=by
 refine F.ok sc_u19 (fun vs H Q E h=>?_) (fun cdv A outer s H vs Q E hr h=>?_)
 ·obtain ⟨x,dx,w,l,rfl,hx,q⟩:=h
  rfl
 obtain ⟨x,dx,w,l,rfl,hx,q⟩:=h
 refine ⟨_,pss_cons (ps_fld (pv 0) (pv 1) rfl)
  (pss_one (ps_fld (pv 0) (pv 2) rfl)),?_⟩
 refine ⟨_,rfl,_,rfl,x,ca.C_Bows,dx,_,rfl,hx,CA.c_Bows,CA.na_Bows_word,(by show 0 < 1000; decide),?_⟩
 refine ⟨_,rfl,_,rfl,x,ca.C_Bows,dx,_,rfl,upd_same,CA.c_Bows,CA.na_Bows_least,(by show 1 < 1000; decide),?_⟩
 exact q _ _ upd_upd (flds_mk w l)
theorem ok_u8 {ca:ClA} (CA:ClOk K mg ca) {fd:FuncData} (F:Fun K "__init__" "SplitFamily.__init__" s_u8 ca.f_u8 fd) {fd0:FuncData} (d_u19:MDef P w K mg base ["self","word","least"] 1 (sp_u19 K ca) ca.f_u19 fd0):FnOk P w K mg base CX0 3 ca.f_u8 fd ["self","word"] (sp_u8 K ca):=by
 refine F.ok sc_u8 (fun vs H Q E h=>?_) (fun cdv A outer s H vs Q E hr h=>?_)
 ·obtain ⟨x,dx,w,rfl,hx,q⟩:=h
  rfl
 obtain ⟨x,dx,w,rfl,hx,q⟩:=h
 refine ⟨_,pss_one (ps_expr (pcls CA.m_Family CA.cm_Family___init___Bows d_u19 hr (pa_cons (pv 0) (pa_cons (pv 1) (pa_cons pe_int pa_nil))))),?_⟩
 exact ⟨_,rfl,_,rfl,x,dx,w,0,rfl,hx,fun fs H' e f=>q fs H' e f⟩
theorem ok_u31 {ca:ClA} (CA:ClOk K mg ca) {fd:FuncData} (F:Fun K "__init__" "Bows.__init__" s_u31 ca.f_u31 fd) {fd0:FuncData} (d_u8:MDef P w K mg base ["self","word"] 3 (sp_u8 K ca) ca.f_u8 fd0):FnOk P w K mg base CX0 5 ca.f_u31 fd ["self"] (sp_u31 K ca):=by
 refine F.ok sc_u31 (fun vs H Q E h=>?_) (fun cdv A outer s H vs Q E hr h=>?_)
 ·obtain ⟨x,dx,rfl,hx,q⟩:=h
  rfl
 obtain ⟨x,dx,rfl,hx,q⟩:=h
 refine ⟨_,pss_one (ps_expr (pcls CA.m_SplitFamily CA.cm_SplitFamily___init___Bows d_u8 hr (pa_cons (pv 0) (pa_cons pe_str pa_nil)))),?_⟩
 exact ⟨_,rfl,x,dx,_,rfl,hx,fun fs H' e f=>q fs H' e f⟩
theorem ok_u15 {ca:ClA} (CA:ClOk K mg ca) {fd:FuncData} (F:Fun K "__init__" "Family.__init__" s_u15 ca.f_u15 fd):FnOk P w K mg base CX0 1 ca.f_u15 fd ["self","word","least"] (sp_u15 K ca):=by
 refine F.ok sc_u15 (fun vs H Q E h=>?_) (fun cdv A outer s H vs Q E hr h=>?_)
 ·obtain ⟨x,dx,w,l,rfl,hx,q⟩:=h
  rfl
 obtain ⟨x,dx,w,l,rfl,hx,q⟩:=h
 refine ⟨_,pss_cons (ps_fld (pv 0) (pv 1) rfl)
  (pss_one (ps_fld (pv 0) (pv 2) rfl)),?_⟩
 refine ⟨_,rfl,_,rfl,x,ca.C_Rooms,dx,_,rfl,hx,CA.c_Rooms,CA.na_Rooms_word,(by show 0 < 1000; decide),?_⟩
 refine ⟨_,rfl,_,rfl,x,ca.C_Rooms,dx,_,rfl,upd_same,CA.c_Rooms,CA.na_Rooms_least,(by show 1 < 1000; decide),?_⟩
 exact q _ _ upd_upd (flds_mk w l)
theorem ok_u5 {ca:ClA} (CA:ClOk K mg ca) {fd:FuncData} (F:Fun K "__init__" "SplitFamily.__init__" s_u5 ca.f_u5 fd) {fd0:FuncData} (d_u15:MDef P w K mg base ["self","word","least"] 1 (sp_u15 K ca) ca.f_u15 fd0):FnOk P w K mg base CX0 3 ca.f_u5 fd ["self","word"] (sp_u5 K ca):=by
 refine F.ok sc_u5 (fun vs H Q E h=>?_) (fun cdv A outer s H vs Q E hr h=>?_)
 ·obtain ⟨x,dx,w,rfl,hx,q⟩:=h
  rfl
 obtain ⟨x,dx,w,rfl,hx,q⟩:=h
 refine ⟨_,pss_one (ps_expr (pcls CA.m_Family CA.cm_Family___init___Rooms d_u15 hr (pa_cons (pv 0) (pa_cons (pv 1) (pa_cons pe_int pa_nil))))),?_⟩
 exact ⟨_,rfl,_,rfl,x,dx,w,0,rfl,hx,fun fs H' e f=>q fs H' e f⟩
theorem ok_u25 {ca:ClA} (CA:ClOk K mg ca) {fd:FuncData} (F:Fun K "__init__" "Rooms.__init__" s_u25 ca.f_u25 fd) {fd0:FuncData} (d_u5:MDef P w K mg base ["self","word"] 3 (sp_u5 K ca) ca.f_u5 fd0):FnOk P w K mg base CX0 5 ca.f_u25 fd ["self"] (sp_u25 K ca):=by
 refine F.ok sc_u25 (fun vs H Q E h=>?_) (fun cdv A outer s H vs Q E hr h=>?_)
 ·obtain ⟨x,dx,rfl,hx,q⟩:=h
  rfl
 obtain ⟨x,dx,rfl,hx,q⟩:=h
 refine ⟨_,pss_one (ps_expr (pcls CA.m_SplitFamily CA.cm_SplitFamily___init___Rooms d_u5 hr (pa_cons (pv 0) (pa_cons pe_str pa_nil)))),?_⟩
 exact ⟨_,rfl,x,dx,_,rfl,hx,fun fs H' e f=>q fs H' e f⟩
theorem ok_u13 {ca:ClA} (CA:ClOk K mg ca) {fd:FuncData} (F:Fun K "__init__" "Family.__init__" s_u13 ca.f_u13 fd):FnOk P w K mg base CX0 1 ca.f_u13 fd ["self","word","least"] (sp_u13 K ca):=by
 refine F.ok sc_u13 (fun vs H Q E h=>?_) (fun cdv A outer s H vs Q E hr h=>?_)
 ·obtain ⟨x,dx,w,l,rfl,hx,q⟩:=h
  rfl
 obtain ⟨x,dx,w,l,rfl,hx,q⟩:=h
 refine ⟨_,pss_cons (ps_fld (pv 0) (pv 1) rfl)
  (pss_one (ps_fld (pv 0) (pv 2) rfl)),?_⟩
 refine ⟨_,rfl,_,rfl,x,ca.C_Floors,dx,_,rfl,hx,CA.c_Floors,CA.na_Floors_word,(by show 0 < 1000; decide),?_⟩
 refine ⟨_,rfl,_,rfl,x,ca.C_Floors,dx,_,rfl,upd_same,CA.c_Floors,CA.na_Floors_least,(by show 1 < 1000; decide),?_⟩
 exact q _ _ upd_upd (flds_mk w l)
theorem ok_u1 {ca:ClA} (CA:ClOk K mg ca) {fd:FuncData} (F:Fun K "__init__" "SplitFamily.__init__" s_u1 ca.f_u1 fd) {fd0:FuncData} (d_u13:MDef P w K mg base ["self","word","least"] 1 (sp_u13 K ca) ca.f_u13 fd0):FnOk P w K mg base CX0 3 ca.f_u1 fd ["self","word"] (sp_u1 K ca):=by
 refine F.ok sc_u1 (fun vs H Q E h=>?_) (fun cdv A outer s H vs Q E hr h=>?_)
 ·obtain ⟨x,dx,w,rfl,hx,q⟩:=h
  rfl
 obtain ⟨x,dx,w,rfl,hx,q⟩:=h
 refine ⟨_,pss_one (ps_expr (pcls CA.m_Family CA.cm_Family___init___Floors d_u13 hr (pa_cons (pv 0) (pa_cons (pv 1) (pa_cons pe_int pa_nil))))),?_⟩
 exact ⟨_,rfl,_,rfl,x,dx,w,0,rfl,hx,fun fs H' e f=>q fs H' e f⟩
theorem ok_u23 {ca:ClA} (CA:ClOk K mg ca) {fd:FuncData} (F:Fun K "__init__" "Floors.__init__" s_u23 ca.f_u23 fd) {fd0:FuncData} (d_u1:MDef P w K mg base ["self","word"] 3 (sp_u1 K ca) ca.f_u1 fd0):FnOk P w K mg base CX0 5 ca.f_u23 fd ["self"] (sp_u23 K ca):=by
 refine F.ok sc_u23 (fun vs H Q E h=>?_) (fun cdv A outer s H vs Q E hr h=>?_)
 ·obtain ⟨x,dx,rfl,hx,q⟩:=h
  rfl
 obtain ⟨x,dx,rfl,hx,q⟩:=h
 refine ⟨_,pss_one (ps_expr (pcls CA.m_SplitFamily CA.cm_SplitFamily___init___Floors d_u1 hr (pa_cons (pv 0) (pa_cons pe_str pa_nil)))),?_⟩
 exact ⟨_,rfl,x,dx,_,rfl,hx,fun fs H' e f=>q fs H' e f⟩
theorem ok_u17 {ca:ClA} (CA:ClOk K mg ca) {fd:FuncData} (F:Fun K "__init__" "Family.__init__" s_u17 ca.f_u17 fd):FnOk P w K mg base CX0 1 ca.f_u17 fd ["self","word","least"] (sp_u17 K ca):=by
 refine F.ok sc_u17 (fun vs H Q E h=>?_) (fun cdv A outer s H vs Q E hr h=>?_)
 ·obtain ⟨x,dx,w,l,rfl,hx,q⟩:=h
  rfl
 obtain ⟨x,dx,w,l,rfl,hx,q⟩:=h
 refine ⟨_,pss_cons (ps_fld (pv 0) (pv 1) rfl)
  (pss_one (ps_fld (pv 0) (pv 2) rfl)),?_⟩
 refine ⟨_,rfl,_,rfl,x,ca.C_Turns,dx,_,rfl,hx,CA.c_Turns,CA.na_Turns_word,(by show 0 < 1000; decide),?_⟩
 refine ⟨_,rfl,_,rfl,x,ca.C_Turns,dx,_,rfl,upd_same,CA.c_Turns,CA.na_Turns_least,(by show 1 < 1000; decide),?_⟩
 exact q _ _ upd_upd (flds_mk w l)
theorem ok_u3 {ca:ClA} (CA:ClOk K mg ca) {fd:FuncData} (F:Fun K "__init__" "SplitFamily.__init__" s_u3 ca.f_u3 fd) {fd0:FuncData} (d_u17:MDef P w K mg base ["self","word","least"] 1 (sp_u17 K ca) ca.f_u17 fd0):FnOk P w K mg base CX0 3 ca.f_u3 fd ["self","word"] (sp_u3 K ca):=by
 refine F.ok sc_u3 (fun vs H Q E h=>?_) (fun cdv A outer s H vs Q E hr h=>?_)
 ·obtain ⟨x,dx,w,rfl,hx,q⟩:=h
  rfl
 obtain ⟨x,dx,w,rfl,hx,q⟩:=h
 refine ⟨_,pss_one (ps_expr (pcls CA.m_Family CA.cm_Family___init___Turns d_u17 hr (pa_cons (pv 0) (pa_cons (pv 1) (pa_cons pe_int pa_nil))))),?_⟩
 exact ⟨_,rfl,_,rfl,x,dx,w,0,rfl,hx,fun fs H' e f=>q fs H' e f⟩
theorem ok_u24 {ca:ClA} (CA:ClOk K mg ca) {fd:FuncData} (F:Fun K "__init__" "Turns.__init__" s_u24 ca.f_u24 fd) {fd0:FuncData} (d_u3:MDef P w K mg base ["self","word"] 3 (sp_u3 K ca) ca.f_u3 fd0):FnOk P w K mg base CX0 5 ca.f_u24 fd ["self"] (sp_u24 K ca):=by
 refine F.ok sc_u24 (fun vs H Q E h=>?_) (fun cdv A outer s H vs Q E hr h=>?_)
 ·obtain ⟨x,dx,rfl,hx,q⟩:=h
  rfl
 obtain ⟨x,dx,rfl,hx,q⟩:=h
 refine ⟨_,pss_one (ps_expr (pcls CA.m_SplitFamily CA.cm_SplitFamily___init___Turns d_u3 hr (pa_cons (pv 0) (pa_cons pe_str pa_nil)))),?_⟩
 exact ⟨_,rfl,x,dx,_,rfl,hx,fun fs H' e f=>q fs H' e f⟩
theorem ok_u29 {ca:ClA} (CA:ClOk K mg ca) {f:Addr} {fd:FuncData} (F:Fun K "split_families" "split_families" s_u29 f fd) {fd0:FuncData} (d_u21:MDef P w K mg base ["self"] 5 (sp_u21 K ca) ca.f_u21 fd0) {fd1:FuncData} (d_u22:MDef P w K mg base ["self"] 5 (sp_u22 K ca) ca.f_u22 fd1) {fd2:FuncData} (d_u28:MDef P w K mg base ["self"] 5 (sp_u28 K ca) ca.f_u28 fd2) {fd3:FuncData} (d_u31:MDef P w K mg base ["self"] 5 (sp_u31 K ca) ca.f_u31 fd3) {fd4:FuncData} (d_u25:MDef P w K mg base ["self"] 5 (sp_u25 K ca) ca.f_u25 fd4) {fd5:FuncData} (d_u23:MDef P w K mg base ["self"] 5 (sp_u23 K ca) ca.f_u23 fd5) {fd6:FuncData} (d_u24:MDef P w K mg base ["self"] 5 (sp_u24 K ca) ca.f_u24 fd6):FnOk P w K mg base CX0 7 f fd [] (sp_u29 K ca):=by
 refine F.ok sc_u29 (fun vs H Q E h=>?_) (fun cdv A outer s H vs Q E hr h=>?_)
 ·obtain ⟨rfl,q⟩:=h
  rfl
 obtain ⟨rfl,q⟩:=h
 refine ⟨_,pss_one (ps_ret (pe_lst (pa_cons (pmake0 CA.mk_Brackets CA.m_Brackets d_u21 hr) (pa_cons (pmake0 CA.mk_Stairs CA.m_Stairs d_u22 hr) (pa_cons (pmake0 CA.mk_Twins CA.m_Twins d_u28 hr) (pa_cons (pmake0 CA.mk_Bows CA.m_Bows d_u31 hr) (pa_cons (pmake0 CA.mk_Rooms CA.m_Rooms d_u25 hr) (pa_cons (pmake0 CA.mk_Floors CA.m_Floors d_u23 hr) (pa_cons (pmake0 CA.mk_Turns CA.m_Turns d_u24 hr) pa_nil))))))))),?_⟩
 intro x0 dx0 nx0 ndx0 nex0
 refine ⟨x0,dx0,rfl,upd_same,fun fs0 H1 e0 fl0=>⟨rfl,?_⟩⟩
 have s0:Same H H1:=by rw [e0]; exact ((Same.new (Same.refl H) ndx0 _).upd nx0 _).upd nx0 _
 have hx0:H1 x0=some (.ins ca.C_Brackets dx0 fs0):=by rw [e0]; exact upd_same
 clear e0
 have t0:=s0
 have pr0:Paired (FamAt H1) [.ref x0] [("brackets",ca.C_Brackets,0)]:=.cons ⟨x0,dx0,fs0,rfl,hx0,fl0⟩ .nil
 clear s0 hx0
 intro x1 dx1 nx1 ndx1 nex1
 refine ⟨x1,dx1,rfl,upd_same,fun fs1 H2 e1 fl1=>⟨rfl,?_⟩⟩
 have s1:Same H1 H2:=by rw [e1]; exact ((Same.new (Same.refl H1) ndx1 _).upd nx1 _).upd nx1 _
 have hx1:H2 x1=some (.ins ca.C_Stairs dx1 fs1):=by rw [e1]; exact upd_same
 clear e1
 have t1:=t0.trans s1
 have pr1:Paired (FamAt H2) [.ref x0,.ref x1] [("brackets",ca.C_Brackets,0),("stairs",ca.C_Stairs,0)]:=fams_app (fams_same pr0 s1) (.cons ⟨x1,dx1,fs1,rfl,hx1,fl1⟩ .nil)
 clear pr0 s1 hx1
 intro x2 dx2 nx2 ndx2 nex2
 refine ⟨x2,dx2,rfl,upd_same,fun fs2 H3 e2 fl2=>⟨rfl,?_⟩⟩
 have s2:Same H2 H3:=by rw [e2]; exact ((Same.new (Same.refl H2) ndx2 _).upd nx2 _).upd nx2 _
 have hx2:H3 x2=some (.ins ca.C_Twins dx2 fs2):=by rw [e2]; exact upd_same
 clear e2
 have t2:=t1.trans s2
 have pr2:Paired (FamAt H3) [.ref x0,.ref x1,.ref x2] [("brackets",ca.C_Brackets,0),("stairs",ca.C_Stairs,0),("twins",ca.C_Twins,0)]:=fams_app (fams_same pr1 s2) (.cons ⟨x2,dx2,fs2,rfl,hx2,fl2⟩ .nil)
 clear pr1 s2 hx2
 intro x3 dx3 nx3 ndx3 nex3
 refine ⟨x3,dx3,rfl,upd_same,fun fs3 H4 e3 fl3=>⟨rfl,?_⟩⟩
 have s3:Same H3 H4:=by rw [e3]; exact ((Same.new (Same.refl H3) ndx3 _).upd nx3 _).upd nx3 _
 have hx3:H4 x3=some (.ins ca.C_Bows dx3 fs3):=by rw [e3]; exact upd_same
 clear e3
 have t3:=t2.trans s3
 have pr3:Paired (FamAt H4) [.ref x0,.ref x1,.ref x2,.ref x3] [("brackets",ca.C_Brackets,0),("stairs",ca.C_Stairs,0),("twins",ca.C_Twins,0),("bows",ca.C_Bows,0)]:=fams_app (fams_same pr2 s3) (.cons ⟨x3,dx3,fs3,rfl,hx3,fl3⟩ .nil)
 clear pr2 s3 hx3
 intro x4 dx4 nx4 ndx4 nex4
 refine ⟨x4,dx4,rfl,upd_same,fun fs4 H5 e4 fl4=>⟨rfl,?_⟩⟩
 have s4:Same H4 H5:=by rw [e4]; exact ((Same.new (Same.refl H4) ndx4 _).upd nx4 _).upd nx4 _
 have hx4:H5 x4=some (.ins ca.C_Rooms dx4 fs4):=by rw [e4]; exact upd_same
 clear e4
 have t4:=t3.trans s4
 have pr4:Paired (FamAt H5) [.ref x0,.ref x1,.ref x2,.ref x3,.ref x4] [("brackets",ca.C_Brackets,0),("stairs",ca.C_Stairs,0),("twins",ca.C_Twins,0),("bows",ca.C_Bows,0),("rooms",ca.C_Rooms,0)]:=fams_app (fams_same pr3 s4) (.cons ⟨x4,dx4,fs4,rfl,hx4,fl4⟩ .nil)
 clear pr3 s4 hx4
 intro x5 dx5 nx5 ndx5 nex5
 refine ⟨x5,dx5,rfl,upd_same,fun fs5 H6 e5 fl5=>⟨rfl,?_⟩⟩
 have s5:Same H5 H6:=by rw [e5]; exact ((Same.new (Same.refl H5) ndx5 _).upd nx5 _).upd nx5 _
 have hx5:H6 x5=some (.ins ca.C_Floors dx5 fs5):=by rw [e5]; exact upd_same
 clear e5
 have t5:=t4.trans s5
 have pr5:Paired (FamAt H6) [.ref x0,.ref x1,.ref x2,.ref x3,.ref x4,.ref x5] [("brackets",ca.C_Brackets,0),("stairs",ca.C_Stairs,0),("twins",ca.C_Twins,0),("bows",ca.C_Bows,0),("rooms",ca.C_Rooms,0),("floor",ca.C_Floors,0)]:=fams_app (fams_same pr4 s5) (.cons ⟨x5,dx5,fs5,rfl,hx5,fl5⟩ .nil)
 clear pr4 s5 hx5
 intro x6 dx6 nx6 ndx6 nex6
 refine ⟨x6,dx6,rfl,upd_same,fun fs6 H7 e6 fl6=>⟨rfl,?_⟩⟩
 have s6:Same H6 H7:=by rw [e6]; exact ((Same.new (Same.refl H6) ndx6 _).upd nx6 _).upd nx6 _
 have hx6:H7 x6=some (.ins ca.C_Turns dx6 fs6):=by rw [e6]; exact upd_same
 clear e6
 have t6:=t5.trans s6
 have pr6:Paired (FamAt H7) [.ref x0,.ref x1,.ref x2,.ref x3,.ref x4,.ref x5,.ref x6] [("brackets",ca.C_Brackets,0),("stairs",ca.C_Stairs,0),("twins",ca.C_Twins,0),("bows",ca.C_Bows,0),("rooms",ca.C_Rooms,0),("floor",ca.C_Floors,0),("turns",ca.C_Turns,0)]:=fams_app (fams_same pr5 s6) (.cons ⟨x6,dx6,fs6,rfl,hx6,fl6⟩ .nil)
 clear pr5 s6 hx6
 refine ⟨(by show 7≤sizeLine; decide),fun p hp=>?_⟩
 exact q p _ _ (Same.new t6 hp _) (t6.free hp) upd_same (fams_same pr6 (Same.new (Same.refl _) hp _))
theorem ok_u16 {ca:ClA} (CA:ClOk K mg ca) {fd:FuncData} (F:Fun K "__init__" "Family.__init__" s_u16 ca.f_u16 fd):FnOk P w K mg base CX0 1 ca.f_u16 fd ["self","word","least"] (sp_u16 K ca):=by
 refine F.ok sc_u16 (fun vs H Q E h=>?_) (fun cdv A outer s H vs Q E hr h=>?_)
 ·obtain ⟨x,dx,w,l,rfl,hx,q⟩:=h
  rfl
 obtain ⟨x,dx,w,l,rfl,hx,q⟩:=h
 refine ⟨_,pss_cons (ps_fld (pv 0) (pv 1) rfl)
  (pss_one (ps_fld (pv 0) (pv 2) rfl)),?_⟩
 refine ⟨_,rfl,_,rfl,x,ca.C_Codes,dx,_,rfl,hx,CA.c_Codes,CA.na_Codes_word,(by show 0 < 1000; decide),?_⟩
 refine ⟨_,rfl,_,rfl,x,ca.C_Codes,dx,_,rfl,upd_same,CA.c_Codes,CA.na_Codes_least,(by show 1 < 1000; decide),?_⟩
 exact q _ _ upd_upd (flds_mk w l)
theorem ok_u7 {ca:ClA} (CA:ClOk K mg ca) {fd:FuncData} (F:Fun K "__init__" "RingFamily.__init__" s_u7 ca.f_u7 fd) {fd0:FuncData} (d_u16:MDef P w K mg base ["self","word","least"] 1 (sp_u16 K ca) ca.f_u16 fd0):FnOk P w K mg base CX0 3 ca.f_u7 fd ["self","word"] (sp_u7 K ca):=by
 refine F.ok sc_u7 (fun vs H Q E h=>?_) (fun cdv A outer s H vs Q E hr h=>?_)
 ·obtain ⟨x,dx,w,rfl,hx,q⟩:=h
  rfl
 obtain ⟨x,dx,w,rfl,hx,q⟩:=h
 refine ⟨_,pss_one (ps_expr (pcls CA.m_Family CA.cm_Family___init___Codes d_u16 hr (pa_cons (pv 0) (pa_cons (pv 1) (pa_cons pe_int pa_nil))))),?_⟩
 exact ⟨_,rfl,_,rfl,x,dx,w,1,rfl,hx,fun fs H' e f=>q fs H' e f⟩
theorem ok_u27 {ca:ClA} (CA:ClOk K mg ca) {fd:FuncData} (F:Fun K "__init__" "Codes.__init__" s_u27 ca.f_u27 fd) {fd0:FuncData} (d_u7:MDef P w K mg base ["self","word"] 3 (sp_u7 K ca) ca.f_u7 fd0):FnOk P w K mg base CX0 5 ca.f_u27 fd ["self"] (sp_u27 K ca):=by
 refine F.ok sc_u27 (fun vs H Q E h=>?_) (fun cdv A outer s H vs Q E hr h=>?_)
 ·obtain ⟨x,dx,rfl,hx,q⟩:=h
  rfl
 obtain ⟨x,dx,rfl,hx,q⟩:=h
 refine ⟨_,pss_one (ps_expr (pcls CA.m_RingFamily CA.cm_RingFamily___init___Codes d_u7 hr (pa_cons (pv 0) (pa_cons pe_str pa_nil)))),?_⟩
 exact ⟨_,rfl,x,dx,_,rfl,hx,fun fs H' e f=>q fs H' e f⟩
theorem ok_u18 {ca:ClA} (CA:ClOk K mg ca) {fd:FuncData} (F:Fun K "__init__" "Family.__init__" s_u18 ca.f_u18 fd):FnOk P w K mg base CX0 1 ca.f_u18 fd ["self","word","least"] (sp_u18 K ca):=by
 refine F.ok sc_u18 (fun vs H Q E h=>?_) (fun cdv A outer s H vs Q E hr h=>?_)
 ·obtain ⟨x,dx,w,l,rfl,hx,q⟩:=h
  rfl
 obtain ⟨x,dx,w,l,rfl,hx,q⟩:=h
 refine ⟨_,pss_cons (ps_fld (pv 0) (pv 1) rfl)
  (pss_one (ps_fld (pv 0) (pv 2) rfl)),?_⟩
 refine ⟨_,rfl,_,rfl,x,ca.C_Trees,dx,_,rfl,hx,CA.c_Trees,CA.na_Trees_word,(by show 0 < 1000; decide),?_⟩
 refine ⟨_,rfl,_,rfl,x,ca.C_Trees,dx,_,rfl,upd_same,CA.c_Trees,CA.na_Trees_least,(by show 1 < 1000; decide),?_⟩
 exact q _ _ upd_upd (flds_mk w l)
theorem ok_u9 {ca:ClA} (CA:ClOk K mg ca) {fd:FuncData} (F:Fun K "__init__" "RingFamily.__init__" s_u9 ca.f_u9 fd) {fd0:FuncData} (d_u18:MDef P w K mg base ["self","word","least"] 1 (sp_u18 K ca) ca.f_u18 fd0):FnOk P w K mg base CX0 3 ca.f_u9 fd ["self","word"] (sp_u9 K ca):=by
 refine F.ok sc_u9 (fun vs H Q E h=>?_) (fun cdv A outer s H vs Q E hr h=>?_)
 ·obtain ⟨x,dx,w,rfl,hx,q⟩:=h
  rfl
 obtain ⟨x,dx,w,rfl,hx,q⟩:=h
 refine ⟨_,pss_one (ps_expr (pcls CA.m_Family CA.cm_Family___init___Trees d_u18 hr (pa_cons (pv 0) (pa_cons (pv 1) (pa_cons pe_int pa_nil))))),?_⟩
 exact ⟨_,rfl,_,rfl,x,dx,w,1,rfl,hx,fun fs H' e f=>q fs H' e f⟩
theorem ok_u26 {ca:ClA} (CA:ClOk K mg ca) {fd:FuncData} (F:Fun K "__init__" "Trees.__init__" s_u26 ca.f_u26 fd) {fd0:FuncData} (d_u9:MDef P w K mg base ["self","word"] 3 (sp_u9 K ca) ca.f_u9 fd0):FnOk P w K mg base CX0 5 ca.f_u26 fd ["self"] (sp_u26 K ca):=by
 refine F.ok sc_u26 (fun vs H Q E h=>?_) (fun cdv A outer s H vs Q E hr h=>?_)
 ·obtain ⟨x,dx,rfl,hx,q⟩:=h
  rfl
 obtain ⟨x,dx,rfl,hx,q⟩:=h
 refine ⟨_,pss_one (ps_expr (pcls CA.m_RingFamily CA.cm_RingFamily___init___Trees d_u9 hr (pa_cons (pv 0) (pa_cons pe_str pa_nil)))),?_⟩
 exact ⟨_,rfl,x,dx,_,rfl,hx,fun fs H' e f=>q fs H' e f⟩
theorem ok_u20 {ca:ClA} (CA:ClOk K mg ca) {fd:FuncData} (F:Fun K "__init__" "Family.__init__" s_u20 ca.f_u20 fd):FnOk P w K mg base CX0 1 ca.f_u20 fd ["self","word","least"] (sp_u20 K ca):=by
 refine F.ok sc_u20 (fun vs H Q E h=>?_) (fun cdv A outer s H vs Q E hr h=>?_)
 ·obtain ⟨x,dx,w,l,rfl,hx,q⟩:=h
  rfl
 obtain ⟨x,dx,w,l,rfl,hx,q⟩:=h
 refine ⟨_,pss_cons (ps_fld (pv 0) (pv 1) rfl)
  (pss_one (ps_fld (pv 0) (pv 2) rfl)),?_⟩
 refine ⟨_,rfl,_,rfl,x,ca.C_Cars,dx,_,rfl,hx,CA.c_Cars,CA.na_Cars_word,(by show 0 < 1000; decide),?_⟩
 refine ⟨_,rfl,_,rfl,x,ca.C_Cars,dx,_,rfl,upd_same,CA.c_Cars,CA.na_Cars_least,(by show 1 < 1000; decide),?_⟩
 exact q _ _ upd_upd (flds_mk w l)
theorem ok_u10 {ca:ClA} (CA:ClOk K mg ca) {fd:FuncData} (F:Fun K "__init__" "RingFamily.__init__" s_u10 ca.f_u10 fd) {fd0:FuncData} (d_u20:MDef P w K mg base ["self","word","least"] 1 (sp_u20 K ca) ca.f_u20 fd0):FnOk P w K mg base CX0 3 ca.f_u10 fd ["self","word"] (sp_u10 K ca):=by
 refine F.ok sc_u10 (fun vs H Q E h=>?_) (fun cdv A outer s H vs Q E hr h=>?_)
 ·obtain ⟨x,dx,w,rfl,hx,q⟩:=h
  rfl
 obtain ⟨x,dx,w,rfl,hx,q⟩:=h
 refine ⟨_,pss_one (ps_expr (pcls CA.m_Family CA.cm_Family___init___Cars d_u20 hr (pa_cons (pv 0) (pa_cons (pv 1) (pa_cons pe_int pa_nil))))),?_⟩
 exact ⟨_,rfl,_,rfl,x,dx,w,1,rfl,hx,fun fs H' e f=>q fs H' e f⟩
theorem ok_u30 {ca:ClA} (CA:ClOk K mg ca) {fd:FuncData} (F:Fun K "__init__" "Cars.__init__" s_u30 ca.f_u30 fd) {fd0:FuncData} (d_u10:MDef P w K mg base ["self","word"] 3 (sp_u10 K ca) ca.f_u10 fd0):FnOk P w K mg base CX0 5 ca.f_u30 fd ["self"] (sp_u30 K ca):=by
 refine F.ok sc_u30 (fun vs H Q E h=>?_) (fun cdv A outer s H vs Q E hr h=>?_)
 ·obtain ⟨x,dx,rfl,hx,q⟩:=h
  rfl
 obtain ⟨x,dx,rfl,hx,q⟩:=h
 refine ⟨_,pss_one (ps_expr (pcls CA.m_RingFamily CA.cm_RingFamily___init___Cars d_u10 hr (pa_cons (pv 0) (pa_cons pe_str pa_nil)))),?_⟩
 exact ⟨_,rfl,x,dx,_,rfl,hx,fun fs H' e f=>q fs H' e f⟩
theorem ok_u34 {ca:ClA} (CA:ClOk K mg ca) {f:Addr} {fd:FuncData} (F:Fun K "ring_families" "ring_families" s_u34 f fd) {fd0:FuncData} (d_u27:MDef P w K mg base ["self"] 5 (sp_u27 K ca) ca.f_u27 fd0) {fd1:FuncData} (d_u26:MDef P w K mg base ["self"] 5 (sp_u26 K ca) ca.f_u26 fd1) {fd2:FuncData} (d_u30:MDef P w K mg base ["self"] 5 (sp_u30 K ca) ca.f_u30 fd2):FnOk P w K mg base CX0 7 f fd [] (sp_u34 K ca):=by
 refine F.ok sc_u34 (fun vs H Q E h=>?_) (fun cdv A outer s H vs Q E hr h=>?_)
 ·obtain ⟨rfl,q⟩:=h
  rfl
 obtain ⟨rfl,q⟩:=h
 refine ⟨_,pss_one (ps_ret (pe_lst (pa_cons (pmake0 CA.mk_Codes CA.m_Codes d_u27 hr) (pa_cons (pmake0 CA.mk_Trees CA.m_Trees d_u26 hr) (pa_cons (pmake0 CA.mk_Cars CA.m_Cars d_u30 hr) pa_nil))))),?_⟩
 intro x0 dx0 nx0 ndx0 nex0
 refine ⟨x0,dx0,rfl,upd_same,fun fs0 H1 e0 fl0=>⟨rfl,?_⟩⟩
 have s0:Same H H1:=by rw [e0]; exact ((Same.new (Same.refl H) ndx0 _).upd nx0 _).upd nx0 _
 have hx0:H1 x0=some (.ins ca.C_Codes dx0 fs0):=by rw [e0]; exact upd_same
 clear e0
 have t0:=s0
 have pr0:Paired (FamAt H1) [.ref x0] [("codes",ca.C_Codes,1)]:=.cons ⟨x0,dx0,fs0,rfl,hx0,fl0⟩ .nil
 clear s0 hx0
 intro x1 dx1 nx1 ndx1 nex1
 refine ⟨x1,dx1,rfl,upd_same,fun fs1 H2 e1 fl1=>⟨rfl,?_⟩⟩
 have s1:Same H1 H2:=by rw [e1]; exact ((Same.new (Same.refl H1) ndx1 _).upd nx1 _).upd nx1 _
 have hx1:H2 x1=some (.ins ca.C_Trees dx1 fs1):=by rw [e1]; exact upd_same
 clear e1
 have t1:=t0.trans s1
 have pr1:Paired (FamAt H2) [.ref x0,.ref x1] [("codes",ca.C_Codes,1),("trees",ca.C_Trees,1)]:=fams_app (fams_same pr0 s1) (.cons ⟨x1,dx1,fs1,rfl,hx1,fl1⟩ .nil)
 clear pr0 s1 hx1
 intro x2 dx2 nx2 ndx2 nex2
 refine ⟨x2,dx2,rfl,upd_same,fun fs2 H3 e2 fl2=>⟨rfl,?_⟩⟩
 have s2:Same H2 H3:=by rw [e2]; exact ((Same.new (Same.refl H2) ndx2 _).upd nx2 _).upd nx2 _
 have hx2:H3 x2=some (.ins ca.C_Cars dx2 fs2):=by rw [e2]; exact upd_same
 clear e2
 have t2:=t1.trans s2
 have pr2:Paired (FamAt H3) [.ref x0,.ref x1,.ref x2] [("codes",ca.C_Codes,1),("trees",ca.C_Trees,1),("cars",ca.C_Cars,1)]:=fams_app (fams_same pr1 s2) (.cons ⟨x2,dx2,fs2,rfl,hx2,fl2⟩ .nil)
 clear pr1 s2 hx2
 refine ⟨(by show 3≤sizeLine; decide),fun p hp=>?_⟩
 exact q p _ _ (Same.new t2 hp _) (t2.free hp) upd_same (fams_same pr2 (Same.new (Same.refl _) hp _))
theorem ok_u42 {ca:ClA} (CA:ClOk K mg ca) {f:Addr} {fd:FuncData} (F:Fun K "family_of" "family_of" s_u42 f fd) {f0:Addr} {fd0:FuncData} (d_u29:Def P w K mg base "split_families" [] 7 (sp_u29 K ca) f0 fd0) {f1:Addr} {fd1:FuncData} (d_u34:Def P w K mg base "ring_families" [] 7 (sp_u34 K ca) f1 fd1):FnOk P w K mg base CX0 8 f fd ["word"] (sp_u42 K ca):=by
 refine F.ok sc_u42 (fun vs H Q E h=>?_) (fun cdv A outer s H vs Q E hr h=>?_)
 ·obtain ⟨f,rfl,hf,q⟩:=h
  rfl
 obtain ⟨f,rfl,hf,q⟩:=h
 refine ⟨_,pss_cons (ps_for PassesOwn.never rfl (pi_list (pe_op op_cat (pcall0 d_u29 hr) (pcall0 d_u34 hr))) (pg_name (i:=1) sc_u42.nd rfl (Or.inl rfl)) (pss_one (ps_if (pt_cmpR op_eq (pe_fld (pv 1) rfl) (pv 0) (nomark _)) (pss_one (ps_ret (pv 1))) pss_nil)))
  pss_never,?_⟩
 have ok:∀ g∈famA ca,Cls K g.2.1∧NoAttr K g.2.1 "word":=List.forall_mem_cons.mpr ⟨⟨CA.c_Brackets,CA.na_Brackets_word⟩,List.forall_mem_cons.mpr ⟨⟨CA.c_Stairs,CA.na_Stairs_word⟩,List.forall_mem_cons.mpr ⟨⟨CA.c_Twins,CA.na_Twins_word⟩,List.forall_mem_cons.mpr ⟨⟨CA.c_Bows,CA.na_Bows_word⟩,List.forall_mem_cons.mpr ⟨⟨CA.c_Rooms,CA.na_Rooms_word⟩,List.forall_mem_cons.mpr ⟨⟨CA.c_Floors,CA.na_Floors_word⟩,List.forall_mem_cons.mpr ⟨⟨CA.c_Turns,CA.na_Turns_word⟩,List.forall_mem_cons.mpr ⟨⟨CA.c_Codes,CA.na_Codes_word⟩,List.forall_mem_cons.mpr ⟨⟨CA.c_Trees,CA.na_Trees_word⟩,List.forall_mem_cons.mpr ⟨⟨CA.c_Cars,CA.na_Cars_word⟩,List.forall_mem_nil _⟩⟩⟩⟩⟩⟩⟩⟩⟩⟩
 refine ⟨rfl,fun p1 xs1 H1 s1 f1 h1 pr1=>⟨rfl,fun p2 xs2 H2 s2 f2 h2 pr2=>?_⟩⟩
 have e2:=pr2.length
 have e1:=pr1.length
 refine ⟨p1,p2,xs1,xs2,rfl,rfl,s2 _ _ h1,h2,(by rw [e1,e2]; show 10≤sizeLine; decide),fun pc hpc=>?_⟩
 have s3:=Same.new (Same.refl H2) hpc (.lst (xs1++xs2))
 have pr:Paired (FamAt (upd H2 pc (.lst (xs1++xs2)))) (xs1++xs2) (famA ca):=fams_app (fams_same pr1 (s2.trans s3)) (fams_same pr2 s3)
 have hc:upd H2 pc (.lst (xs1++xs2)) pc=some (.lst (xs1++xs2)):=upd_same
 have s4:=(s1.trans s2).trans s3
 generalize upd H2 pc (.lst (xs1++xs2))=H3 at s4 pr hc ⊢
 obtain ⟨jf,hjf⟩:=List.getElem?_of_mem hf
 refine ⟨pc,rfl,⟨_,SqL.of hc⟩,for_list (xs:=xs1++xs2) (fun i σ H'=>∃ (o1:Option V),σ=[some (.str f.1),o1]∧H3=H'∧i≤jf) ⟨_,rfl,rfl,Nat.zero_le _⟩ (fun i σ H' _ h=>by obtain ⟨_,_,e,_⟩:=h; rw [← e]; exact SqL.of hc) ?_ ?_⟩
 ·rintro i v σ H' hv ⟨o1,rfl,rfl,hij⟩
  obtain ⟨g,hg,x,dx,fs,rfl,hx,fl⟩:=fams_at pr hv
  have gm:=List.mem_of_getElem? hg
  refine ⟨_,rfl,x,_,dx,fs,_,rfl,hx,(ok g gm).1,(ok g gm).2,fl.word,_,rfl,rfl,_,rfl,?_⟩
  by_cases e:g.1=f.1
  ·have eg:=famA_one gm hf e
   subst eg
   refine iteP rfl ⟨_,rfl,q x dx fs H3 s4 hx fl⟩
  ·refine iteN (fun z=>e (by injection z)) ⟨_,rfl,rfl,?_⟩
   by_cases e2:i=jf
   ·subst e2
    rw [hg] at hjf
    injection hjf with hjf
    exact absurd (by rw [hjf]) e
   ·omega
 ·rintro σ H' ⟨o1,rfl,rfl,hij⟩
  have l:=pr.length
  have:=(List.getElem?_eq_some_iff.mp hjf).1
  omega
theorem ok_u38 {ca:ClA} (CA:ClOk K mg ca) {f:Addr} {fd:FuncData} (F:Fun K "all_measures" "all_measures" s_u38 f fd):FnOk P w K mg base CX0 1 f fd [] (sp_u38 K ca):=by
 refine F.ok sc_u38 (fun vs H Q E h=>?_) (fun cdv A outer s H vs Q E hr h=>?_)
 ·obtain ⟨rfl,q⟩:=h
  rfl
 obtain ⟨rfl,q⟩:=h
 have hb:okBody (defBody s_u38) measS=true:=by decide +kernel
 generalize defBody s_u38=b at hb ⊢
 refine ⟨_,meas_body (ns:=measS) (rows:=measD ca) hb (List.cons_ne_nil _ _) (by decide) (.cons ⟨rfl,(.cons ⟨rfl,rfl,CA.g_brackets_peaks⟩ (.cons ⟨rfl,rfl,CA.g_brackets_returns⟩ (.cons ⟨rfl,rfl,CA.g_brackets_height⟩ .nil)))⟩ (.cons ⟨rfl,(.cons ⟨rfl,rfl,CA.g_stairs_peaks⟩ (.cons ⟨rfl,rfl,CA.g_stairs_returns⟩ (.cons ⟨rfl,rfl,CA.g_stairs_height⟩ .nil)))⟩ (.cons ⟨rfl,(.cons ⟨rfl,rfl,CA.g_twins_peaks⟩ (.cons ⟨rfl,rfl,CA.g_twins_returns⟩ (.cons ⟨rfl,rfl,CA.g_twins_height⟩ .nil)))⟩ (.cons ⟨rfl,(.cons ⟨rfl,rfl,CA.g_bows_peaks⟩ (.cons ⟨rfl,rfl,CA.g_bows_returns⟩ (.cons ⟨rfl,rfl,CA.g_bows_height⟩ .nil)))⟩ (.cons ⟨rfl,(.cons ⟨rfl,rfl,CA.g_rooms_peaks⟩ (.cons ⟨rfl,rfl,CA.g_rooms_returns⟩ .nil))⟩ (.cons ⟨rfl,(.cons ⟨rfl,rfl,CA.g_floor_peaks⟩ (.cons ⟨rfl,rfl,CA.g_floor_returns⟩ .nil))⟩ (.cons ⟨rfl,(.cons ⟨rfl,rfl,CA.g_turns_peaks⟩ (.cons ⟨rfl,rfl,CA.g_turns_returns⟩ (.cons ⟨rfl,rfl,CA.g_turns_height⟩ .nil)))⟩ (.cons ⟨rfl,(.cons ⟨rfl,rfl,CA.g_codes_leaves⟩ (.cons ⟨rfl,rfl,CA.g_codes_rootage⟩ .nil))⟩ (.cons ⟨rfl,(.cons ⟨rfl,rfl,CA.g_trees_leaves⟩ (.cons ⟨rfl,rfl,CA.g_trees_rootage⟩ .nil))⟩ (.cons ⟨rfl,(.cons ⟨rfl,rfl,CA.g_cars_leaves⟩ (.cons ⟨rfl,rfl,CA.g_cars_rootage⟩ .nil))⟩ .nil)))))))))),?_⟩
 exact meas_read (rows:=measD ca) (measD_ok ca).1 (measD_ok ca).2 (by show 10≤15; decide) fun p H' s f m=>q p H' s f m
theorem ok_u47 {ca:ClA} (CA:ClOk K mg ca) {f:Addr} {fd:FuncData} (F:Fun K "marks_of" "marks_of" s_u47 f fd) {f0:Addr} {fd0:FuncData} (d_u42:Def P w K mg base "family_of" ["word"] 8 (sp_u42 K ca) f0 fd0) {f1:Addr} {fd1:FuncData} (d_u38:Def P w K mg base "all_measures" [] 1 (sp_u38 K ca) f1 fd1) (m_list:mg "list" = none):FnOk P w K mg base CX0 9 f fd ["word"] (sp_u47 K ca):=by
 refine F.ok sc_u47 (fun vs H Q E h=>?_) (fun cdv A outer s H vs Q E hr h=>?_)
 ·obtain ⟨f,items,rfl,hf,hi,q⟩:=h
  rfl
 obtain ⟨f,items,rfl,hf,hi,q⟩:=h
 refine ⟨_,pss_cons (ps_set (i:=1) sc_u47.nd rfl (Or.inl rfl) (pcall d_u42 hr (pa_cons (pv 0) pa_nil)))
  (pss_one (ps_ret (pe_callTy (call_listD rfl) rfl m_list bb_list (pa_cons (pe_dget (hu1 hr) (pcall0 d_u38 hr) (pe_fld (pv 1) rfl) (fun _ _=>rfl)) pa_nil)))),?_⟩
 have ok:∀ g∈famA ca,Cls K g.2.1∧NoAttr K g.2.1 "word":=List.forall_mem_cons.mpr ⟨⟨CA.c_Brackets,CA.na_Brackets_word⟩,List.forall_mem_cons.mpr ⟨⟨CA.c_Stairs,CA.na_Stairs_word⟩,List.forall_mem_cons.mpr ⟨⟨CA.c_Twins,CA.na_Twins_word⟩,List.forall_mem_cons.mpr ⟨⟨CA.c_Bows,CA.na_Bows_word⟩,List.forall_mem_cons.mpr ⟨⟨CA.c_Rooms,CA.na_Rooms_word⟩,List.forall_mem_cons.mpr ⟨⟨CA.c_Floors,CA.na_Floors_word⟩,List.forall_mem_cons.mpr ⟨⟨CA.c_Turns,CA.na_Turns_word⟩,List.forall_mem_cons.mpr ⟨⟨CA.c_Codes,CA.na_Codes_word⟩,List.forall_mem_cons.mpr ⟨⟨CA.c_Trees,CA.na_Trees_word⟩,List.forall_mem_cons.mpr ⟨⟨CA.c_Cars,CA.na_Cars_word⟩,List.forall_mem_nil _⟩⟩⟩⟩⟩⟩⟩⟩⟩⟩
 refine ⟨_,rfl,f,rfl,hf,fun x dx fs H1 s1 hx fl=>⟨rfl,fun p H2 s2 f2 m=>⟨_,rfl,x,_,dx,fs,_,rfl,s2 _ _ hx,(ok f hf).1,(ok f hf).2,fl.word,?_⟩⟩⟩
 obtain ⟨d,g1,g2⟩:=m.get hi
 refine ⟨p,_,rfl,g1,d,_,rfl,g2,fun r hr=>?_⟩
 rw [rowD_names]
 exact q r _ (Same.new (s1.trans s2) hr _) ((s1.trans s2).free hr) upd_same
theorem ok_u46 {ca:ClA} (CA:ClOk K mg ca) {f:Addr} {fd:FuncData} (F:Fun K "any_cross" "any_cross" s_u46 f fd):FnOk P w K mg base CX0 1 f fd ["pairs"] (sp_u46 K ca):=by
 refine F.ok sc_u46 (fun vs H Q E h=>?_) (fun cdv A outer s H vs Q E hr h=>?_)
 ·obtain ⟨l,ps,rfl,hl,q⟩:=h
  rfl
 obtain ⟨l,ps,rfl,hl,q⟩:=h
 refine ⟨_,pss_cons (ps_for PassesOwn.never rfl (pi_list (pv 0)) (pg_tup rfl (pgs_cons (pg_name (i:=1) sc_u46.nd rfl (Or.inl rfl)) (pgs_cons (pg_name (i:=2) sc_u46.nd rfl (Or.inl rfl)) pgs_nil))) (pss_one (ps_for PassesOwn.never rfl (pi_list (pv 0)) (pg_tup rfl (pgs_cons (pg_name (i:=3) sc_u46.nd rfl (Or.inl rfl)) (pgs_cons (pg_name (i:=4) sc_u46.nd rfl (Or.inl rfl)) pgs_nil))) (pss_one (ps_if (pt_ch3 op_lt op_lt op_lt (pv 1) (pv 3) (pv 2) (pv 4)) (pss_one (ps_ret pe_bl)) pss_nil)))))
  (pss_one (ps_ret pe_bl)),?_⟩
 obtain ⟨xs,el,lxs,pr⟩:=hl.len
 refine ⟨_,rfl,l,rfl,⟨_,SqL.of el⟩,for_list (xs:=xs) (fun i σ H'=>∃ (o1 o2 o3 o4:Option V),σ=[some (.ref l),o1,o2,o3,o4]∧H=H'∧∀ p∈ps.take i,ps.any (crsP p)=false) ⟨_,_,_,_,rfl,rfl,by simp⟩ (fun i σ H' _ h=>by obtain ⟨_,_,_,_,_,rfl,_⟩:=h; exact SqL.of el) ?_ ?_⟩
 ·rintro i v σ H2 hv ⟨o1,o2,o3,o4,rfl,rfl,al⟩
  obtain ⟨pp,tt,hpp,rfl,htt⟩:=pr.get hv
  refine ⟨tt,_,rfl,SqT.of htt,rfl,_,_,rfl,_,_,rfl,rfl,?_⟩
  refine ⟨_,rfl,l,rfl,⟨_,SqL.of el⟩,for_list (xs:=xs) (fun j σ H'=>∃ (o3 o4:Option V),σ=[some (.ref l),some (.int pp.1),some (.int pp.2),o3,o4]∧H=H'∧∀ r∈ps.take j,crsP pp r=false) ⟨_,_,rfl,rfl,by simp⟩ (fun i σ H' _ h=>by obtain ⟨_,_,_,rfl,_⟩:=h; exact SqL.of el) ?_ ?_⟩
  ·rintro j v σ H3 hv ⟨o3,o4,rfl,rfl,al2⟩
   obtain ⟨rr,t2,hrr,rfl,ht2⟩:=pr.get hv
   refine ⟨t2,_,rfl,SqT.of ht2,rfl,_,_,rfl,_,_,rfl,rfl,?_⟩
   have next:crsP pp rr=false→∀ r∈ps.take (j+1),crsP pp r=false:=fun hc r hr=>by
    rw [List.take_add_one,hrr] at hr
    rcases List.mem_append.mp hr with z | z
    ·exact al2 r z
    ·have:r=rr:=by simpa using z
     rw [this]; exact hc
   refine ⟨_,rfl,_,rfl,_,_,rfl,rfl,_,rfl,?_⟩
   by_cases c1:pp.1 < rr.1
   ·refine iteP c1 ⟨_,rfl,_,_,rfl,rfl,_,rfl,?_⟩
    by_cases c2:rr.1 < pp.2
    ·refine iteP c2 ⟨_,rfl,_,_,rfl,rfl,_,rfl,?_⟩
     by_cases c3:pp.2 < rr.2
     ·refine iteP c3 ?_
      have:crossB ps=true:=crossB_iff.mpr ⟨pp,List.mem_of_getElem? hpp,rr,List.mem_of_getElem? hrr,c1,c2,c3⟩
      rw [this] at q
      exact q
     ·exact iteN c3 ⟨_,_,rfl,rfl,next (by unfold crsP; simp [c3])⟩
    ·exact iteN c2 ⟨_,rfl,iteF ⟨_,_,rfl,rfl,next (by unfold crsP; simp [c2])⟩⟩
   ·exact iteN c1 ⟨_,rfl,iteF ⟨_,_,rfl,rfl,next (by unfold crsP; simp [c1])⟩⟩
  ·rintro σ H3 ⟨o3,o4,rfl,rfl,al2⟩
   rw [List.take_of_length_le (by omega)] at al2
   refine ⟨_,_,_,_,rfl,rfl,fun p hp=>?_⟩
   rw [List.take_add_one,hpp] at hp
   rcases List.mem_append.mp hp with z | z
   ·exact al p z
   ·have:p=pp:=by simpa using z
    rw [this,List.any_eq_false]
    intro r hr
    rw [al2 r hr]
    decide
 ·rintro σ H2 ⟨o1,o2,o3,o4,rfl,rfl,al⟩
  rw [List.take_of_length_le (by omega)] at al
  have:crossB ps=false:=by
   unfold crossB
   rw [List.any_eq_false]
   intro p hp
   rw [al p hp]
   decide
  rw [this] at q
  exact q
theorem ok_u41 {ca:ClA} (CA:ClOk K mg ca) {f:Addr} {fd:FuncData} (F:Fun K "may_be_cut" "may_be_cut" s_u41 f fd):FnOk P w K mg base CX0 1 f fd ["corners","a","b"] (sp_u41 K ca):=by
 refine F.ok sc_u41 (fun vs H Q E h=>?_) (fun cdv A outer s H vs Q E hr h=>?_)
 ·obtain ⟨c,a,b,rfl,ct,q⟩:=h
  rfl
 obtain ⟨c,a,b,rfl,ct,q⟩:=h
 refine ⟨_,pss_one (ps_ret (pe_and (pe_chain op_le op_lt pe_int (pv 1) (pe_op op_sub (pv 2) pe_int)) (pe_and (pe_cmpR op_lt (pv 2) (pv 0) (nomark _)) (pe_one (pe_cmpR (op_neD (hu100 hr)) (pe_tup (pa_cons (pv 1) (pa_cons (pv 2) pa_nil))) (pe_tup (pa_cons pe_int (pa_cons (pe_op op_sub (pv 0) pe_int) pa_nil))) (nomark _)))))),?_⟩
 obtain ⟨c1,c2,c3,c4⟩:=ct
 simp only at c1 c2 c3 c4
 refine ⟨_,rfl,_,_,rfl,rfl,_,rfl,iteP c1 ⟨_,rfl,_,_,rfl,rfl,_,_,rfl,rfl,_,rfl,iteP (by omega) ⟨_,rfl,_,rfl,_,_,rfl,rfl,_,rfl,iteP c3 ?_⟩⟩⟩
 refine ⟨_,rfl,_,rfl,(by show 2≤sizeLine; decide),fun t1 ht1=>⟨_,rfl,_,_,rfl,rfl,(by show 2≤sizeLine; decide),fun t2 ht2=>?_⟩⟩
 have n12:t1≠t2:=ne_of_none upd_same ht2
 have h1:=(upd_ne (o:=.tup [.int 0,.int (c - 1)]) n12).trans (upd_same (H:=H) (a:=t1) (o:=.tup [.int a,.int b]))
 have s2:=Same.new (Same.new (Same.refl H) ht1 (.tup [.int a,.int b])) ht2 (.tup [.int 0,.int (c - 1)])
 refine ⟨1,_,by decide,EqD.two n12 h1 upd_same,⟨t1,t2,rfl,rfl,n12⟩,?_⟩
 have e:(decide (a=0)&&decide (b=c - 1))=false:=by
  cases z:(decide (a=0)&&decide (b=c - 1)) with
  | false=>rfl
  | true =>
   rw [Bool.and_eq_true,decide_eq_true_iff,decide_eq_true_iff] at z
   exact absurd z c4
 rw [e]
 exact q _ s2
theorem ok_u33 {ca:ClA} (CA:ClOk K mg ca) {fd:FuncData} (F:Fun K "is_one" "Floors.is_one" s_u33 ca.f_u33 fd) {f0:Addr} {fd0:FuncData} (d_u46:Def P w K mg base "any_cross" ["pairs"] 1 (sp_u46 K ca) f0 fd0) {f1:Addr} {fd1:FuncData} (d_u41:Def P w K mg base "may_be_cut" ["corners","a","b"] 1 (sp_u41 K ca) f1 fd1) (m_len:mg "len" = none) (m_max:mg "max" = none) (m_sorted:mg "sorted" = none) (m_set:mg "set" = none) (m_all:mg "all" = none):FnOk P w K mg base CX0 2 ca.f_u33 fd ["self","thing"] (sp_u33 K ca):=by
 refine F.ok sc_u33 (fun vs H Q E h=>?_) (fun cdv A outer s H vs Q E hr h=>?_)
 ·obtain ⟨x,t,l,c,ps,rfl,ht,hl,fl,c43,q⟩:=h
  rfl
 obtain ⟨x,t,l,c,ps,rfl,ht,hl,fl,c43,q⟩:=h
 refine ⟨_,pss_cons (ps_set (i:=2) sc_u33.nd rfl (Or.inr rfl) (pe_ix ix_tup (pv 1) pe_int (fun _ _=>rfl)))
  (pss_cons (ps_set (i:=3) sc_u33.nd rfl (Or.inl rfl) (pe_ix ix_tup (pv 1) pe_int (fun _ _=>rfl)))
  (pss_cons (ps_if (PW.pt (pw_or (pt_cmpR op_lt (pv 2) pe_int (nomark _)) (pw_or1 (pt_cmpR op_ne (pe_callB call_len_seq rfl m_len bb_len (pa_cons (pv 3) pa_nil)) (pe_callB (call_max2 rfl) rfl m_max bb_max (pa_cons pe_int (pa_cons (pe_op op_sub (pv 2) pe_int) pa_nil))) (nomark _))))) (pss_one (ps_ret pe_bl)) pss_nil)
  (pss_cons (ps_if (PW.pt (pw_or (pt_cmpR (op_neD (hu100 hr)) (pv 3) (pe_sortset rfl (hu100 hr) rfl m_sorted rfl m_set (pa_cons (pv 3) pa_nil)) (nomark _)) (pw_or1 (pt_val (pcall d_u46 hr (pa_cons (pv 3) pa_nil)))))) (pss_one (ps_ret pe_bl)) pss_nil)
  (pss_one (ps_ret (pe_callB (call_all rfl) rfl m_all bb_all (pa_cons (pe_comp rfl (pi_list (pv 3)) rfl rfl rfl rfl (N:=["a","b","corners"]) (.own (.own (.cap (j:=2) rfl rfl rfl .nil))) (fun _ _ _ _ _ _=>(pg_tupK (K:=K) (n:=2) rfl rfl (pgs_cons (pg_name (i:=0) (by show List.Nodup (["a","b","corners"]:List Str); decide +kernel) rfl (Or.inl rfl)) (pgs_cons (pg_name (i:=1) (by show List.Nodup (["a","b","corners"]:List Str); decide +kernel) rfl (Or.inl rfl)) pgs_nil)))) (fun _ _ _ _ _ _=>pts_nil) (fun _ _ _ _ _ _=>(pcall d_u41 hr (pa_cons (pv 2) (pa_cons (pv 0) (pa_cons (pv 1) pa_nil)))))) pa_nil))))))),?_⟩
 obtain ⟨xs,el,lxs,pr⟩:=hl.len
 have c2:=fl.c2
 have ln:=fl.len
 have l44:ps.length < 64:=by
  have:(ps.length:Int)≤40:=by rw [ln]; split<;>omega
  omega
 refine ⟨_,rfl,t,_,_,_,rfl,rfl,SqT.of ht,rfl,_,rfl,t,_,_,_,rfl,rfl,SqT.of ht,rfl,?_⟩
 refine ⟨_,rfl,_,_,rfl,rfl,_,rfl,iteN (by omega) ⟨_,rfl,l,_,rfl,.inl (SqL.of el),_,rfl,_,_,rfl,rfl,_,_,rfl,rfl,_,rfl,iteNS (congrArg V.int (by rw [lxs]; exact ln)) ?_⟩⟩
 refine ⟨_,rfl,_,rfl,l,ps,rfl,hl,fl.nd,fun p hp=>?_,l44,fun pq qs H1 s1 f1 h1 pm rs=>?_⟩
 ·have:=fl.ct p hp
  exact ⟨this.1,by have:=this.2.1; omega,by have:=this.2.2.1; omega⟩
 have eqs:qs=ps:=ris_uniq rs fl.ris pm
 subst eqs
 have hl1:=hl.same s1
 have ne:l≠pq:=ne_of_none el f1
 refine ⟨2,_,by decide,EqD.prs ne hl1 h1,⟨l,pq,rfl,rfl,ne⟩,_,rfl,?_⟩
 rw [decide_eq_true rfl]
 refine iteF ⟨_,rfl,l,qs,rfl,hl1,_,rfl,?_⟩
 rw [nc_cross.mpr fl.nc]
 refine iteF ⟨_,rfl,l,rfl,⟨_,SqL.of (s1 _ _ el)⟩,fun D hD=>comp_walk (xs:=xs) (fun i ys H'=>Same H1 H'∧H' D=some (.lst ys)∧ys=((qs.take i).map fun _=>true).map V.bl∧i≤qs.length) (sz (by omega)) ⟨Same.new (Same.refl H1) hD _,upd_same,rfl,Nat.zero_le _⟩ (fun i ys H' hi h=>⟨SqL.of (h.1 _ _ (s1 _ _ el)),?_⟩) (fun i y ys H' R R0 hx h r r0=>?_) (fun ys H' h=>?_)⟩
 ·rw [h.2.2.1,List.length_map,List.length_map,List.length_take]
  omega
 ·obtain ⟨sm,hy,ey,hi⟩:=h
  obtain ⟨pp,tt,hpp,rfl,htt⟩:=(pr.same s1).get hx
  have hlt:i < qs.length:=(List.getElem?_eq_some_iff.mp hpp).1
  refine ⟨tt,_,rfl,SqT.of (sm _ _ htt),rfl,_,_,rfl,_,_,rfl,rfl,(Ext.set rfl).trans (Ext.set rfl),ttN (iteT ?_)⟩
  refine ⟨_,rfl,_,rfl,_,rfl,c,pp.1,pp.2,rfl,fl.ct pp (List.mem_of_getElem? hpp),fun H3 s3=>r _ _ (s3 _ _ hy) ⟨(sm.trans s3).upd hD _,upd_same,?_,hlt⟩⟩
  rw [List.take_add_one,hpp,List.map_append,List.map_append,← ey]
  rfl
 ·obtain ⟨sm,hy,ey,hi⟩:=h
  rw [List.take_of_length_le (by omega)] at ey
  rw [ey] at hy
  refine ⟨D,_,rfl,SqL.of hy,?_⟩
  have e2:((qs.map fun _=>true).all id)=true:=by rw [List.all_map]; exact List.all_eq_true.mpr fun _ _=>rfl
  rw [e2]
  exact q _ (s1.trans sm)
theorem ok_u4 {ca:ClA} (CA:ClOk K mg ca) {fd:FuncData} (F:Fun K "refuse_other" "Family.refuse_other" s_u4 ca.f_u4 fd) {fd0:FuncData} (d_u33:MDef P w K mg base ["self","thing"] 2 (sp_u33 K ca) ca.f_u33 fd0):FnOk P w K mg base CX0 3 ca.f_u4 fd ["self","thing"] (sp_u4 K ca):=by
 refine F.ok sc_u4 (fun vs H Q E h=>?_) (fun cdv A outer s H vs Q E hr h=>?_)
 ·obtain ⟨x,dx,fs,t,l,c,ps,rfl,hx,fo,ht,hl,fl,c43,q⟩:=h
  rfl
 obtain ⟨x,dx,fs,t,l,c,ps,rfl,hx,fo,ht,hl,fl,c43,q⟩:=h
 refine ⟨_,pss_one (ps_if (pt_not (pt_val (pmeth (pv 0) CA.c_Floors CA.mt_Floors_is_one d_u33 hr (pa_cons (pv 1) pa_nil)))) (pss_one ps_never) pss_nil),?_⟩
 exact ⟨_,rfl,x,dx,fs,rfl,hx,fo,_,rfl,x,t,l,c,ps,rfl,ht,hl,fl,c43,fun H1 s1=>⟨_,rfl,iteF (q H1 s1)⟩⟩
theorem ok_u36 {ca:ClA} (CA:ClOk K mg ca) {f:Addr} {fd:FuncData} (F:Fun K "third_corner" "third_corner" s_u36 f fd) (m_max:mg "max" = none):FnOk P w K mg base CX0 1 f fd ["cuts","begin","end"] (sp_u36 K ca):=by
 refine F.ok sc_u36 (fun vs H Q E h=>?_) (fun cdv A outer s H vs Q E hr h=>?_)
 ·obtain ⟨l,cs,a,la,rfl,hl,hz,q⟩:=h
  rfl
 obtain ⟨l,cs,a,la,rfl,hl,hz,q⟩:=h
 refine ⟨_,pss_one (ps_ret (pe_callBK (call_maxD rfl) rfl m_max bb_max (pa_cons (pe_comp rfl (pi_list (pv 0)) rfl rfl rfl rfl (N:=["a","b","begin","end"]) (.own (.own (.cap (j:=1) rfl rfl rfl (.cap (j:=2) rfl rfl rfl .nil)))) (fun _ _ _ _ _ _=>(pg_tupK (K:=K) (n:=2) rfl rfl (pgs_cons (pg_name (i:=0) (by show List.Nodup (["a","b","begin","end"]:List Str); decide +kernel) rfl (Or.inl rfl)) (pgs_cons (pg_name (i:=1) (by show List.Nodup (["a","b","begin","end"]:List Str); decide +kernel) rfl (Or.inl rfl)) pgs_nil)))) (fun _ _ _ _ _ _=>(pts_one (PW.pt (pw_and (pt_cmpR op_eq (pv 0) (pv 2) (nomark _)) (pw_and1 (pt_cmpR op_lt (pv 1) (pv 3) (nomark _))))))) (fun _ _ _ _ _ _=>(pv 1))) pa_nil) (pk_cons (pe_op op_add (pv 1) pe_int) pk_nil))),?_⟩
 have q:∀ (M:Int) (H':Hp),Same H H'→((cs.filter (isC a la)).map (·.2)=[]→M=a+1)→((cs.filter (isC a la)).map (·.2)≠[]→M∈(cs.filter (isC a la)).map (·.2)∧∀ y∈(cs.filter (isC a la)).map (·.2),y≤M)→Q (.int M) H':=fun M H' s h1 h2=>q M H' s (thd_of h1 h2)
 obtain ⟨xs,el,lxs,pr⟩:=hl.len
 refine ⟨_,rfl,l,rfl,⟨_,SqL.of el⟩,fun D hD=>comp_walk (xs:=xs) (fun i ys H'=>Same H H'∧H' D=some (.lst ys)∧ys=(((cs.take i).filter (isC a la)).map (·.2)).map V.int∧i≤cs.length) (sz (by omega)) ⟨Same.new (Same.refl H) hD _,upd_same,rfl,Nat.zero_le _⟩ (fun i ys H' hi h=>⟨SqL.of (h.1 _ _ el),?_⟩) (fun i x ys H' R R0 hx h r r0=>?_) (fun ys H' h=>?_)⟩
 ·rw [h.2.2.1,List.length_map,List.length_map]
  exact Nat.le_trans (List.length_filter_le _ _) (by rw [List.length_take]; omega)
 ·obtain ⟨sm,hy,ey,hi⟩:=h
  obtain ⟨pp,tt,hpp,rfl,htt⟩:=pr.get hx
  have hlt:i < cs.length:=(List.getElem?_eq_some_iff.mp hpp).1
  have tk:(cs.take (i+1)).filter (isC a la)=(cs.take i).filter (isC a la)++(if isC a la pp=true then [pp] else []):=by
   rw [List.take_add_one,hpp,List.filter_append]
   congr 1
   by_cases h:isC a la pp=true
   ·rw [if_pos h]; exact List.filter_cons_of_pos h
   ·rw [if_neg h]; exact List.filter_cons_of_neg h
  refine ⟨tt,_,rfl,SqT.of (sm _ _ htt),rfl,_,_,rfl,_,_,rfl,rfl,(Ext.set rfl).trans (Ext.set rfl),?_⟩
  refine ⟨_,rfl,_,rfl,rfl,_,rfl,?_⟩
  by_cases e1:pp.1=a
  ·refine iteP (congrArg V.int e1) ⟨_,rfl,_,rfl,_,_,rfl,rfl,_,rfl,?_⟩
   by_cases e2:pp.2 < la
   ·have ht:isC a la pp=true:=by unfold isC; simp [e1,e2]
    refine iteP e2 ⟨_,rfl,r _ _ hy ⟨sm.upd hD _,upd_same,?_,hlt⟩⟩
    rw [tk,if_pos ht,List.map_append,List.map_append,← ey]
    rfl
   ·have ht:¬ isC a la pp=true:=by unfold isC; simp [e2]
    refine iteN e2 (r0 _ ⟨sm,hy,?_,hlt⟩)
    rw [tk,if_neg ht,List.append_nil]
    exact ey
  ·have ht:¬ isC a la pp=true:=by unfold isC; simp [e1]
   refine iteN (neI e1) (iteF (r0 _ ⟨sm,hy,?_,hlt⟩))
   rw [tk,if_neg ht,List.append_nil]
   exact ey
 ·obtain ⟨sm,hy,ey,hi⟩:=h
  rw [List.take_of_length_le (by omega)] at ey
  rw [ey] at hy
  refine ⟨_,rfl,_,_,rfl,rfl,D,_,_,rfl,rfl,SqL.of hy,fun e=>?_,fun ne M hM al=>?_⟩
  ·exact q _ H' sm (fun _=>rfl) (fun z=>absurd e z)
  ·exact q M H' sm (fun z=>absurd z ne) (fun _=>⟨hM,al⟩)
theorem ok_u44 {ca:ClA} (CA:ClOk K mg ca) {f:Addr} {fd:FuncData} (F:Fun K "triangles" "triangles" s_u44 f fd) {f0:Addr} {fd0:FuncData} (d_u36:Def P w K mg base "third_corner" ["cuts","begin","end"] 1 (sp_u36 K ca) f0 fd0):FnOk P w K mg base CX0 2 f fd ["thing"] (sp_u44 K ca):=by
 refine F.ok sc_u44 (fun vs H Q E h=>?_) (fun cdv A outer s H vs Q E hr h=>?_)
 ·obtain ⟨u,l,t,ps,rfl,hu,hl,pm,h40,q⟩:=h
  rfl
 obtain ⟨u,l,t,ps,rfl,hu,hl,pm,h40,q⟩:=h
 refine ⟨_,pss_cons (ps_set (i:=1) sc_u44.nd rfl (Or.inl rfl) (pe_op op_sub (pe_ix ix_tup (pv 0) pe_int (fun _ _=>rfl)) pe_int))
  (pss_cons (ps_set (i:=2) sc_u44.nd rfl (Or.inr rfl) (pe_ix ix_tup (pv 0) pe_int (fun _ _=>rfl)))
  (pss_cons (ps_set (i:=3) sc_u44.nd rfl (Or.inl rfl) (pe_ifExp (pt_cmpR op_gt (pv 1) pe_int (nomark _)) (pe_op op_cat (pv 2) (pe_lst (pa_cons (pe_tup (pa_cons pe_int (pa_cons (pv 1) pa_nil))) pa_nil))) (pe_lst pa_nil)))
  (pss_one (ps_ret (pe_comp rfl (pi_list (pv 3)) rfl rfl rfl rfl (N:=["a","b","cuts"]) (.own (.own (.cap (j:=2) rfl rfl rfl .nil))) (fun _ _ _ _ _ _=>(pg_tupK (K:=K) (n:=2) rfl rfl (pgs_cons (pg_name (i:=0) (by show List.Nodup (["a","b","cuts"]:List Str); decide +kernel) rfl (Or.inl rfl)) (pgs_cons (pg_name (i:=1) (by show List.Nodup (["a","b","cuts"]:List Str); decide +kernel) rfl (Or.inl rfl)) pgs_nil)))) (fun _ _ _ _ _ _=>pts_nil) (fun _ _ _ _ _ _=>(pe_tup (pa_cons (pv 0) (pa_cons (pcall d_u36 hr (pa_cons (pv 2) (pa_cons (pv 0) (pa_cons (pv 1) pa_nil)))) (pa_cons (pv 1) pa_nil)))))))))),?_⟩
 have lps:ps.length≤40:=by rw [pm.length_eq,in_len]; omega
 obtain ⟨xs,el,lxs,pr⟩:=hl.len
 refine ⟨_,rfl,u,_,_,_,rfl,rfl,SqT.of hu,rfl,_,_,rfl,rfl,?_⟩
 refine ⟨_,rfl,u,_,_,_,rfl,rfl,SqT.of hu,rfl,?_⟩
 refine ⟨_,rfl,_,_,rfl,rfl,_,rfl,?_⟩
 by_cases z:t.size=0
 ·refine iteN (by omega) ⟨Nat.zero_le _,fun pl hp0=>?_⟩
  have s1:=Same.new (Same.refl H) hp0 (.lst [])
  have hpl:PLs (upd H pl (.lst [])) pl []:=⟨[],upd_same,.nil⟩
  generalize upd H pl (.lst [])=H1 at s1 hpl ⊢
  generalize els:([]:List Pair)=ls at hpl
  have pml:ls.Perm (cutT t 0):=by
   have:=cut_len t 0
   rw [z] at this
   rw [← els,List.length_eq_zero_iff.mp this]
  have lls:ls.length≤41:=by rw [← els]; exact Nat.zero_le _
  obtain ⟨ys,ely,lys,pry⟩:=hpl.len
  have hl1:=hl.same s1
  refine ⟨_,rfl,pl,rfl,⟨_,SqL.of ely⟩,fun D hD=>comp_walk (xs:=ys) (fun i zs H'=>Same H1 H'∧H' D=some (.lst zs)∧(∃ ts:List Tri,Trs H' zs ts∧ts.map spn=ls.take i∧∀ x∈ts,Thd ps x.1 x.2.2 x.2.1)∧i≤ls.length) (sz (by omega)) ⟨Same.new (Same.refl H1) hD _,upd_same,⟨[],.nil,rfl,fun x hx=>nomatch hx⟩,Nat.zero_le _⟩ (fun i zs H' hi h=>⟨SqL.of (h.1 _ _ ely),?_⟩) (fun i x zs H' R R0 hx h r r0=>?_) (fun zs H' h=>?_)⟩
  ·obtain ⟨_,_,⟨ts,tr,es,_⟩,_⟩:=h
   have:=congrArg List.length es
   rw [List.length_map,List.length_take] at this
   rw [tr.len]
   omega
  ·obtain ⟨sm,hz,⟨ts,tr,es,th⟩,hi⟩:=h
   obtain ⟨pp,tt,hpp,rfl,htt⟩:=pry.get hx
   have hlt:i < ls.length:=(List.getElem?_eq_some_iff.mp hpp).1
   refine ⟨tt,_,rfl,SqT.of (sm _ _ htt),rfl,_,_,rfl,_,_,rfl,rfl,(Ext.set rfl).trans (Ext.set rfl),ttN (iteT ?_)⟩
   refine ⟨_,rfl,_,rfl,_,rfl,_,rfl,l,ps,pp.1,pp.2,rfl,hl1.same sm,by omega,fun M H3 s3 hM=>⟨_,rfl,(by show 3≤sizeLine; decide),fun w hw=>?_⟩⟩
   have hz3:=s3 _ _ hz
   have k4:=s3.trans (Same.new (Same.refl H3) hw (.tup [.int pp.1,.int M,.int pp.2]))
   have hz4:=(upd_ne (o:=.tup [.int pp.1,.int M,.int pp.2]) (ne_of_none hz3 hw)).trans hz3
   have tr4:Trs (upd H3 w (.tup [.int pp.1,.int M,.int pp.2])) (zs++[.ref w]) (ts++[(pp.1,M,pp.2)]):=(tr.mono fun p ys h=>k4 _ _ h).snoc upd_same
   refine r _ _ hz4 ⟨(sm.trans k4).upd hD _,upd_same,⟨_,tr4.mono fun p ys h=>(upd_ne (fun z=>by rw [z,hz4] at h; cases h)).trans h,?_,fun x hx=>?_⟩,hlt⟩
   ·rw [List.map_append,es,List.take_add_one,hpp]
    rfl
   ·rcases List.mem_append.mp hx with hx | hx
    ·exact th x hx
    ·rw [List.mem_singleton.mp hx]; exact hM
  ·obtain ⟨sm,hz,⟨ts,tr,es,th⟩,hi⟩:=h
   rw [List.take_of_length_le (by omega)] at es
   exact q D zs ts H' (s1.trans sm) (s1.free hD) hz tr (tri_list pm pml es th)
 ·refine iteP (by omega) ⟨_,rfl,_,rfl,(by show 2≤sizeLine; decide),fun u1 hu1=>⟨(by show 1≤sizeLine; decide),fun p1 hp1=>?_⟩⟩
  have k1:=Same.new (Same.refl H) hu1 (.tup [.int 0,.int ((t.size:Int)+2 - 1)])
  have k2:=k1.trans (Same.new (Same.refl _) hp1 (.lst [.ref u1]))
  have el2:=k2 _ _ el
  refine ⟨l,p1,_,_,rfl,rfl,el2,upd_same,sz (by simp; omega),fun pl hp0=>?_⟩
  have s1:=Same.new k2 hp0 (.lst (xs++[.ref u1]))
  have hu2:=(Same.new (Same.refl _) hp1 (.lst [.ref u1])) _ _ (upd_same (H:=H) (a:=u1) (o:=.tup [.int 0,.int ((t.size:Int)+2 - 1)]))
  have hpl:PLs (upd (upd (upd H u1 (.tup [.int 0,.int ((t.size:Int)+2 - 1)])) p1 (.lst [.ref u1])) pl (.lst (xs++[.ref u1]))) pl (ps++[(0,(t.size:Int)+2 - 1)]):=⟨_,upd_same,((pr.same k2).snoc (p:=(0,(t.size:Int)+2 - 1)) hu2).updN hp0 _⟩
  generalize upd (upd (upd H u1 (.tup [.int 0,.int ((t.size:Int)+2 - 1)])) p1 (.lst [.ref u1])) pl (.lst (xs++[.ref u1]))=H1 at s1 hpl ⊢
  generalize els:(ps++[(0,(t.size:Int)+2 - 1)]:List Pair)=ls at hpl
  have pml:ls.Perm (cutT t 0):=by
   rw [← els,cut_in,if_neg z,show (t.size:Int)+2 - 1=0+1+(t.size:Int) by omega]
   exact (List.perm_append_singleton _ _).trans (pm.cons _)
  have lls:ls.length≤41:=by rw [← els,List.length_append]; simp; omega
  obtain ⟨ys,ely,lys,pry⟩:=hpl.len
  have hl1:=hl.same s1
  refine ⟨_,rfl,pl,rfl,⟨_,SqL.of ely⟩,fun D hD=>comp_walk (xs:=ys) (fun i zs H'=>Same H1 H'∧H' D=some (.lst zs)∧(∃ ts:List Tri,Trs H' zs ts∧ts.map spn=ls.take i∧∀ x∈ts,Thd ps x.1 x.2.2 x.2.1)∧i≤ls.length) (sz (by omega)) ⟨Same.new (Same.refl H1) hD _,upd_same,⟨[],.nil,rfl,fun x hx=>nomatch hx⟩,Nat.zero_le _⟩ (fun i zs H' hi h=>⟨SqL.of (h.1 _ _ ely),?_⟩) (fun i x zs H' R R0 hx h r r0=>?_) (fun zs H' h=>?_)⟩
  ·obtain ⟨_,_,⟨ts,tr,es,_⟩,_⟩:=h
   have:=congrArg List.length es
   rw [List.length_map,List.length_take] at this
   rw [tr.len]
   omega
  ·obtain ⟨sm,hz,⟨ts,tr,es,th⟩,hi⟩:=h
   obtain ⟨pp,tt,hpp,rfl,htt⟩:=pry.get hx
   have hlt:i < ls.length:=(List.getElem?_eq_some_iff.mp hpp).1
   refine ⟨tt,_,rfl,SqT.of (sm _ _ htt),rfl,_,_,rfl,_,_,rfl,rfl,(Ext.set rfl).trans (Ext.set rfl),ttN (iteT ?_)⟩
   refine ⟨_,rfl,_,rfl,_,rfl,_,rfl,l,ps,pp.1,pp.2,rfl,hl1.same sm,by omega,fun M H3 s3 hM=>⟨_,rfl,(by show 3≤sizeLine; decide),fun w hw=>?_⟩⟩
   have hz3:=s3 _ _ hz
   have k4:=s3.trans (Same.new (Same.refl H3) hw (.tup [.int pp.1,.int M,.int pp.2]))
   have hz4:=(upd_ne (o:=.tup [.int pp.1,.int M,.int pp.2]) (ne_of_none hz3 hw)).trans hz3
   have tr4:Trs (upd H3 w (.tup [.int pp.1,.int M,.int pp.2])) (zs++[.ref w]) (ts++[(pp.1,M,pp.2)]):=(tr.mono fun p ys h=>k4 _ _ h).snoc upd_same
   refine r _ _ hz4 ⟨(sm.trans k4).upd hD _,upd_same,⟨_,tr4.mono fun p ys h=>(upd_ne (fun z=>by rw [z,hz4] at h; cases h)).trans h,?_,fun x hx=>?_⟩,hlt⟩
   ·rw [List.map_append,es,List.take_add_one,hpp]
    rfl
   ·rcases List.mem_append.mp hx with hx | hx
    ·exact th x hx
    ·rw [List.mem_singleton.mp hx]; exact hM
  ·obtain ⟨sm,hz,⟨ts,tr,es,th⟩,hi⟩:=h
   rw [List.take_of_length_le (by omega)] at es
   exact q D zs ts H' (s1.trans sm) (s1.free hD) hz tr (tri_list pm pml es th)
theorem ok_u39 {ca:ClA} (CA:ClOk K mg ca) {f:Addr} {fd:FuncData} (F:Fun K "floor_peaks" "floor_peaks" s_u39 f fd) {f0:Addr} {fd0:FuncData} (d_u44:Def P w K mg base "triangles" ["thing"] 2 (sp_u44 K ca) f0 fd0) (m_len:mg "len" = none):FnOk P w K mg base CX0 3 f fd ["thing"] (sp_u39 K ca):=by
 refine F.ok sc_u39 (fun vs H Q E h=>?_) (fun cdv A outer s H vs Q E hr h=>?_)
 ·obtain ⟨u,l,t,ps,rfl,hu,hl,pm,h40,q⟩:=h
  rfl
 obtain ⟨u,l,t,ps,rfl,hu,hl,pm,h40,q⟩:=h
 refine ⟨_,pss_one (ps_ret (pe_callB call_len_seq rfl m_len bb_len (pa_cons (pe_comp rfl (pi_list (pcall d_u44 hr (pa_cons (pv 0) pa_nil))) rfl rfl rfl rfl (N:=["least","middle","greatest"]) (.own (.own (.own .nil))) (fun _ _ _ _ _ _=>(pg_tupK (K:=K) (n:=3) rfl rfl (pgs_cons (pg_name (i:=0) (by show List.Nodup (["least","middle","greatest"]:List Str); decide +kernel) rfl (Or.inl rfl)) (pgs_cons (pg_name (i:=1) (by show List.Nodup (["least","middle","greatest"]:List Str); decide +kernel) rfl (Or.inl rfl)) (pgs_cons (pg_name (i:=2) (by show List.Nodup (["least","middle","greatest"]:List Str); decide +kernel) rfl (Or.inl rfl)) pgs_nil))))) (fun _ _ _ _ _ _=>(pts_one (pt_cmpR op_eq (pv 1) (pe_op op_add (pv 0) pe_int) (nomark _)))) (fun _ _ _ _ _ _=>(pv 0))) pa_nil))),?_⟩
 refine ⟨_,rfl,u,l,t,ps,rfl,hu,hl,pm,h40,fun p xs ts H1 s1 f1 h1 tr pt=>?_⟩
 have lts:ts.length≤40:=by rw [pt.length_eq,tri_len]; exact h40
 have lxs:=tr.len
 refine ⟨p,rfl,⟨_,SqL.of h1⟩,fun D hD=>comp_walk (xs:=xs) (fun i ys H'=>Same H1 H'∧H' D=some (.lst ys)∧ys.length=(ts.take i).countP (fun x=>decide (x.2.1=x.1+1))∧i≤ts.length) (sz (by omega)) ⟨Same.new (Same.refl H1) hD _,upd_same,rfl,Nat.zero_le _⟩ (fun i ys H' hi h=>⟨SqL.of (h.1 _ _ h1),?_⟩) (fun i v ys H' R R0 hx h r r0=>?_) (fun ys H' h=>?_)⟩
 ·rw [h.2.2.1]
  refine Nat.le_trans List.countP_le_length ?_
  rw [List.length_take]
  omega
 ·obtain ⟨sm,hy,ey,hi⟩:=h
  obtain ⟨x,tt,hpp,rfl,htt⟩:=tr.get hx
  have hlt:i < ts.length:=(List.getElem?_eq_some_iff.mp hpp).1
  have ec:(ts.take (i+1)).countP (fun x=>decide (x.2.1=x.1+1))=(ts.take i).countP (fun x=>decide (x.2.1=x.1+1))+(if x.2.1=x.1+1 then 1 else 0):=by
   rw [List.take_add_one,hpp,List.countP_append]
   show _+[x].countP _=_
   rw [List.countP_singleton]
   simp only [decide_eq_true_eq]
  refine ⟨tt,_,rfl,SqT.of (sm _ _ htt),rfl,_,_,rfl,_,_,rfl,_,_,rfl,rfl,((Ext.set rfl).trans (Ext.set rfl)).trans (Ext.set rfl),?_⟩
  refine ⟨_,rfl,_,rfl,_,_,rfl,rfl,rfl,_,rfl,?_⟩
  by_cases e:x.2.1=x.1+1
  ·refine iteP (congrArg V.int e) ⟨_,rfl,r _ _ hy ⟨sm.upd hD _,upd_same,?_,hlt⟩⟩
   rw [List.length_append,ey,ec,if_pos e]
   rfl
  ·refine iteN (neI e) (r0 _ ⟨sm,hy,?_,hlt⟩)
   rw [ey,ec,if_neg e,Nat.add_zero]
 ·obtain ⟨sm,hy,ey,hi⟩:=h
  rw [List.take_of_length_le (by omega),pt.countP_eq] at ey
  refine ⟨D,_,rfl,.inl (SqL.of hy),?_⟩
  rw [ey]
  exact q _ (s1.trans sm)
theorem ok_u35 {ca:ClA} (CA:ClOk K mg ca) {f:Addr} {fd:FuncData} (F:Fun K "floor_returns" "floor_returns" s_u35 f fd) {f0:Addr} {fd0:FuncData} (d_u44:Def P w K mg base "triangles" ["thing"] 2 (sp_u44 K ca) f0 fd0) (m_len:mg "len" = none):FnOk P w K mg base CX0 3 f fd ["thing"] (sp_u35 K ca):=by
 refine F.ok sc_u35 (fun vs H Q E h=>?_) (fun cdv A outer s H vs Q E hr h=>?_)
 ·obtain ⟨u,l,t,ps,rfl,hu,hl,pm,h40,q⟩:=h
  rfl
 obtain ⟨u,l,t,ps,rfl,hu,hl,pm,h40,q⟩:=h
 refine ⟨_,pss_one (ps_ret (pe_callB call_len_seq rfl m_len bb_len (pa_cons (pe_comp rfl (pi_list (pcall d_u44 hr (pa_cons (pv 0) pa_nil))) rfl rfl rfl rfl (N:=["least","middle","greatest","thing"]) (.own (.own (.own (.cap (j:=0) rfl rfl rfl .nil)))) (fun _ _ _ _ _ _=>(pg_tupK (K:=K) (n:=3) rfl rfl (pgs_cons (pg_name (i:=0) (by show List.Nodup (["least","middle","greatest","thing"]:List Str); decide +kernel) rfl (Or.inl rfl)) (pgs_cons (pg_name (i:=1) (by show List.Nodup (["least","middle","greatest","thing"]:List Str); decide +kernel) rfl (Or.inl rfl)) (pgs_cons (pg_name (i:=2) (by show List.Nodup (["least","middle","greatest","thing"]:List Str); decide +kernel) rfl (Or.inl rfl)) pgs_nil))))) (fun _ _ _ _ _ _=>(pts_one (pt_cmpR op_eq (pv 2) (pe_op op_sub (pe_ix (ix_tupK (K:=K) rfl) (pv 3) pe_int (fun _ _=>rfl)) pe_int) (nomark _)))) (fun _ _ _ _ _ _=>(pv 2))) pa_nil))),?_⟩
 refine ⟨_,rfl,u,l,t,ps,rfl,hu,hl,pm,h40,fun p xs ts H1 s1 f1 h1 tr pt=>?_⟩
 have lts:ts.length≤40:=by rw [pt.length_eq,tri_len]; exact h40
 have lxs:=tr.len
 refine ⟨p,rfl,⟨_,SqL.of h1⟩,fun D hD=>comp_walk (xs:=xs) (fun i ys H'=>Same H1 H'∧H' D=some (.lst ys)∧ys.length=(ts.take i).countP (fun x=>decide (x.2.2=(t.size:Int)+1))∧i≤ts.length) (sz (by omega)) ⟨Same.new (Same.refl H1) hD _,upd_same,rfl,Nat.zero_le _⟩ (fun i ys H' hi h=>⟨SqL.of (h.1 _ _ h1),?_⟩) (fun i v ys H' R R0 hx h r r0=>?_) (fun ys H' h=>?_)⟩
 ·rw [h.2.2.1]
  refine Nat.le_trans List.countP_le_length ?_
  rw [List.length_take]
  omega
 ·obtain ⟨sm,hy,ey,hi⟩:=h
  obtain ⟨x,tt,hpp,rfl,htt⟩:=tr.get hx
  have hlt:i < ts.length:=(List.getElem?_eq_some_iff.mp hpp).1
  have ec:(ts.take (i+1)).countP (fun x=>decide (x.2.2=(t.size:Int)+1))=(ts.take i).countP (fun x=>decide (x.2.2=(t.size:Int)+1))+(if x.2.2=(t.size:Int)+1 then 1 else 0):=by
   rw [List.take_add_one,hpp,List.countP_append]
   show _+[x].countP _=_
   rw [List.countP_singleton]
   simp only [decide_eq_true_eq]
  refine ⟨tt,_,rfl,SqT.of (sm _ _ htt),rfl,_,_,rfl,_,_,rfl,_,_,rfl,rfl,((Ext.set rfl).trans (Ext.set rfl)).trans (Ext.set rfl),?_⟩
  refine ⟨_,rfl,_,rfl,u,_,_,_,rfl,rfl,SqT.of (sm _ _ (s1 _ _ hu)),rfl,_,_,rfl,rfl,rfl,_,rfl,?_⟩
  by_cases e:x.2.2=(t.size:Int)+1
  ·refine iteP (congrArg V.int (show x.2.2=(t.size:Int)+2 - 1 by omega)) ⟨_,rfl,r _ _ hy ⟨sm.upd hD _,upd_same,?_,hlt⟩⟩
   rw [List.length_append,ey,ec,if_pos e]
   rfl
  ·refine iteN (neI (show ¬ x.2.2=(t.size:Int)+2 - 1 by omega)) (r0 _ ⟨sm,hy,?_,hlt⟩)
   rw [ey,ec,if_neg e,Nat.add_zero]
 ·obtain ⟨sm,hy,ey,hi⟩:=h
  rw [List.take_of_length_le (by omega),pt.countP_eq] at ey
  refine ⟨D,_,rfl,.inl (SqL.of hy),?_⟩
  rw [ey]
  exact q _ (s1.trans sm)
theorem ok_u48 {ca:ClA} (CA:ClOk K mg ca) {f:Addr} {fd:FuncData} (F:Fun K "mark" "mark" s_u48 f fd) {f0:Addr} {fd0:FuncData} (d_u42:Def P w K mg base "family_of" ["word"] 8 (sp_u42 K ca) f0 fd0) {f1:Addr} {fd1:FuncData} (d_u47:Def P w K mg base "marks_of" ["word"] 9 (sp_u47 K ca) f1 fd1) {fd2:FuncData} (d_u4:MDef P w K mg base ["self","thing"] 3 (sp_u4 K ca) ca.f_u4 fd2) {f3:Addr} {fd3:FuncData} (d_u38:Def P w K mg base "all_measures" [] 1 (sp_u38 K ca) f3 fd3) {f4:Addr} {fd4:FuncData} (d_u39:Def P w K mg base "floor_peaks" ["thing"] 3 (sp_u39 K ca) f4 fd4) {f5:Addr} {fd5:FuncData} (d_u35:Def P w K mg base "floor_returns" ["thing"] 3 (sp_u35 K ca) f5 fd5):FnOk P w K mg base CX0 10 f fd ["word","name","thing"] (sp_u48 K ca):=by
 refine F.ok sc_u48 (fun vs H Q E h=>?_) (fun cdv A outer s H vs Q E hr h=>?_)
 ·obtain ⟨w,n,x,v,rfl,hm,q⟩:=h
  rfl
 obtain ⟨w,n,x,v,rfl,hm,q⟩:=h
 refine ⟨_,pss_cons (ps_set (i:=3) sc_u48.nd rfl (Or.inl rfl) (pcall d_u42 hr (pa_cons (pv 0) pa_nil)))
  (pss_cons (ps_if (pt_cmpR op_notinS (pv 1) (pcall d_u47 hr (pa_cons (pv 0) pa_nil)) (by rfl)) (pss_one ps_never) pss_nil)
  (pss_cons (ps_expr (pmeth (pv 3) CA.c_Floors CA.mt_Floors_refuse_other d_u4 hr (pa_cons (pv 2) pa_nil)))
  (pss_one (ps_ret (pe_eit (pcallV0 (pe_dget (hu1 hr) (pe_dget (hu1 hr) (pcall0 d_u38 hr) (pv 0) (fun _ _=>rfl)) (pv 1) (fun _ _=>rfl)) d_u39 hr (pa_cons (pv 2) pa_nil)) (pcallV0 (pe_dget (hu1 hr) (pe_dget (hu1 hr) (pcall0 d_u38 hr) (pv 0) (fun _ _=>rfl)) (pv 1) (fun _ _=>rfl)) d_u35 hr (pa_cons (pv 2) pa_nil))))))),?_⟩
 obtain ⟨u,l,t,ps,rfl,hu,hl,pmt,rst,h40,rfl,hm⟩:=hm
 ·have hf:((("floor" : Str),ca.C_Floors,(0:Int)):Str × Addr × Int)∈famA ca:=List.mem_append_left _ (List.mem_cons_of_mem _ (List.mem_cons_of_mem _ (List.mem_cons_of_mem _ (List.mem_cons_of_mem _ (List.mem_cons_of_mem _ (List.mem_cons_self ..))))))
  have hi:(measD ca).lookup ("floor" : Str)=some ([("peaks",ca.F_floor_peaks),("returns",ca.F_floor_returns)]:List (Str × Addr)):=rfl
  have hn:n∈(["peaks","returns"]:List Str):=by
   rcases hm with ⟨rfl,_⟩ | ⟨rfl,_⟩
   all_goals simp
  refine ⟨_,rfl,("floor",ca.C_Floors,0),rfl,hf,fun x dx fs H1 s1 hx fl=>?_⟩
  refine ⟨_,rfl,_,rfl,("floor",ca.C_Floors,0),_,rfl,hf,hi,fun p H2 s2 f2 h2=>⟨n,p,_,rfl,rfl,SqL.of h2,_,rfl,iteNS hn ?_⟩⟩
  have t2:=s1.trans s2
  refine ⟨_,rfl,x,dx,fs,rfl,s2 _ _ hx,fl.no "refuse_other" (by decide) (by decide),_,rfl,x,dx,fs,u,l,_,ps,rfl,s2 _ _ hx,fl.no "is_one" (by decide) (by decide),t2 _ _ hu,hl.same t2,fl_of pmt rst,by omega,fun H3 s3=>?_⟩
  have t3:=t2.trans s3
  rcases hm with ⟨rfl,rfl⟩ | ⟨rfl,rfl⟩
  ·refine .inl ⟨rfl,fun pm H4 s4 f4 m4=>?_⟩
   obtain ⟨d,g1,g2⟩:=m4.get hi
   have t4:=t3.trans s4
   exact ⟨_,rfl,pm,_,rfl,g1,_,rfl,d,_,rfl,mrow_get g2 rfl,refV_same CA.g_floor_peaks d_u39.m,_,rfl,u,l,t,ps,rfl,t4 _ _ hu,hl.same t4,pmt,h40,fun H5 s5=>q H5 (t4.trans s5)⟩
  ·refine .inr (⟨rfl,fun pm H4 s4 f4 m4=>?_⟩)
   obtain ⟨d,g1,g2⟩:=m4.get hi
   have t4:=t3.trans s4
   exact ⟨_,rfl,pm,_,rfl,g1,_,rfl,d,_,rfl,mrow_get g2 rfl,refV_same CA.g_floor_returns d_u35.m,_,rfl,u,l,t,ps,rfl,t4 _ _ hu,hl.same t4,pmt,h40,fun H5 s5=>q H5 (t4.trans s5)⟩
theorem ok_u43 {ca:ClA} (CA:ClOk K mg ca) {f:Addr} {fd:FuncData} (F:Fun K "_law_told" "_law_told" s_u43 f fd) {f0:Addr} {fd0:FuncData} (d_u48:Def P w K mg base "mark" ["word","name","thing"] 10 (sp_u48 K ca) f0 fd0) (m_range:mg "range" = none) (m_len:mg "len" = none) (m_isinstance:mg "isinstance" = none) (m_int:mg "int" = none) (m_bool:mg "bool" = none):FnOk P w K mg base CX0 11 f fd ["_law_word","_law_names","_law_thing","_law_due"] (sp_u43 K ca):=by
 refine F.ok sc_u43 (fun vs H Q E h=>?_) (fun cdv A outer s H vs Q E hr h=>?_)
 ·obtain ⟨w,a,b,x,names,due,rfl,ha,hb,h10,hlen,hm,q⟩:=h
  rfl
 obtain ⟨w,a,b,x,names,due,rfl,ha,hb,h10,hlen,hm,q⟩:=h
 refine ⟨_,pss_cons (ps_for PassesOwn.never rfl (pi_range1 rfl m_range (pa_cons pe_int pa_nil)) (pg_name (i:=4) sc_u43.nd rfl (Or.inl rfl)) (pss_one (ps_for PassesOwn.never rfl (pi_range1 rfl m_range (pa_cons (pe_callB call_len_seq rfl m_len bb_len (pa_cons (pv 1) pa_nil)) pa_nil)) (pg_name (i:=5) sc_u43.nd rfl (Or.inl rfl)) (pss_cons (ps_set (i:=6) sc_u43.nd rfl (Or.inl rfl) (pcall d_u48 hr (pa_cons (pv 0) (pa_cons (pe_ix ix_list (pv 1) (pv 5) (fun _ _=>rfl)) (pa_cons (pv 2) pa_nil)))))
  (pss_one (ps_if (PW.pt (pw_or (pt_not (pt_val (pe_callB call_isinst rfl m_isinstance bb_isinstance (pa_cons (pv 6) (pa_cons (pe_bltn (v:=.ty "int") rfl m_int bb_int rfl) pa_nil))))) (pw_or (pt_val (pe_callB call_isinst rfl m_isinstance bb_isinstance (pa_cons (pv 6) (pa_cons (pe_bltn (v:=.ty "bool") rfl m_bool bb_bool rfl) pa_nil)))) (pw_or1 (pt_cmpR op_ne (pv 6) (pe_ix ix_list (pv 3) (pv 5) (fun _ _=>rfl)) (nomark _)))))) (pss_one (ps_ret pe_bl)) pss_nil))))))
  (pss_one (ps_ret pe_bl)),?_⟩
 have lm:(names.map V.str).length=names.length:=List.length_map _
 refine ⟨_,rfl,by decide,by decide,for_range (lo:=0) (n:=2) (fun i σ H'=>∃ (o1 o2 o3:Option V),σ=[some (.str w),some (.ref a),some x,some (.ref b),o1,o2,o3]∧Same H H') ⟨_,_,_,rfl,Same.refl H⟩ ?_ ?_⟩
 ·rintro i σ H1 hi ⟨o1,o2,o3,rfl,s1⟩
  refine ⟨_,rfl,a,_,rfl,.inl (SqL.of (s1 _ _ ha)),_,rfl,by omega,by omega,for_range (lo:=0) (n:=(((names.map V.str).length:Nat):Int).toNat) (fun j σ H'=>∃ (o2 o3:Option V),σ=[some (.str w),some (.ref a),some x,some (.ref b),some (.int ((0:Int)+(i:Int))),o2,o3]∧Same H H') ⟨_,_,rfl,s1⟩ ?_ ?_⟩
  ·rintro j σ H2 hj ⟨o2,o3,rfl,s2⟩
   have hj1:j < names.length:=by omega
   have hj2:j < due.length:=by omega
   have n1:names[j]? = some names[j]:=List.getElem?_eq_getElem hj1
   have n2:due[j]? = some due[j]:=List.getElem?_eq_getElem hj2
   have at1:atI (names.map V.str) ((0:Int)+(j:Int))=some (.str names[j]):=by
    rw [Int.zero_add]; exact atI_nat (by rw [List.getElem?_map,n1]; rfl)
   have at2:atI (due.map V.int) ((0:Int)+(j:Int))=some (.int due[j]):=by
    rw [Int.zero_add]; exact atI_nat (by rw [List.getElem?_map,n2]; rfl)
   refine ⟨_,rfl,_,rfl,_,rfl,a,_,_,_,rfl,rfl,SqL.of (s2 _ _ ha),at1,_,rfl,w,_,x,_,rfl,(hm j _ _ n1 n2).same s2,fun H3 s3=>?_⟩
   have s4:=s2.trans s3
   exact ⟨_,rfl,_,_,_,_,_,rfl,relTy,.int _,kit_int_int,_,rfl,iteF ⟨_,rfl,_,_,_,_,_,rfl,relTy,.int _,kit_int_bool,_,rfl,iteF ⟨_,rfl,_,rfl,_,rfl,b,_,_,_,rfl,rfl,SqL.of (s4 _ _ hb),at2,rfl,_,rfl,iteNS rfl ⟨_,_,rfl,s4⟩⟩⟩⟩
  ·rintro σ H2 ⟨o2,o3,rfl,s2⟩
   exact ⟨_,_,_,rfl,s2⟩
 ·rintro σ H1 ⟨o1,o2,o3,rfl,s1⟩
  exact q H1 s1
theorem ok_u49 {ca:ClA} (CA:ClOk K mg ca) {f:Addr} {fd:FuncData} (F:Fun K "law" "law" s_u49 f fd) {f0:Addr} {fd0:FuncData} (d_u37:Def P w K mg base "_law_cell_at" ["_law_script","_law_k"] 1 (sp_u37 K ca) f0 fd0) {f1:Addr} {fd1:FuncData} (d_u45:Def P w K mg base "_law_cuts" ["_law_script","_law_size","_law_turn"] 2 (sp_u45 K ca) f1 fd1) {f2:Addr} {fd2:FuncData} (d_u32:Def P w K mg base "_law_triangles" ["_law_corners","_law_cuts_here"] 1 (sp_u32 K ca) f2 fd2) {f3:Addr} {fd3:FuncData} (d_u43:Def P w K mg base "_law_told" ["_law_word","_law_names","_law_thing","_law_due"] 11 (sp_u43 K ca) f3 fd3) (m_int:mg "int" = none) (m_list:mg "list" = none):FnOk P w K mg base CX0 12 f fd ["_law_script"] (sp_u49 K ca):=by
 refine F.ok sc_u49 (fun vs H Q E h=>?_) (fun cdv A outer s H vs Q E hr h=>?_)
 ·obtain ⟨a,ns,rfl,hS,h63,q⟩:=h
  rfl
 obtain ⟨a,ns,rfl,hS,h63,q⟩:=h
 refine ⟨_,pss_cons (ps_set (i:=1) sc_u49.nd rfl (Or.inl rfl) (pe_op op_mod (pcall d_u37 hr (pa_cons (pv 0) (pa_cons pe_int pa_nil))) pe_int))
  (pss_cons (ps_set (i:=2) sc_u49.nd rfl (Or.inl rfl) (pcall d_u45 hr (pa_cons (pv 0) (pa_cons (pv 1) (pa_cons pe_int pa_nil)))))
  (pss_cons (ps_set (i:=3) sc_u49.nd rfl (Or.inl rfl) pe_int)
  (pss_cons (ps_set (i:=4) sc_u49.nd rfl (Or.inl rfl) pe_int)
  (pss_cons (ps_for PassesOwn.never rfl (pi_list (pcall d_u32 hr (pa_cons (pe_op op_add (pv 1) pe_int) (pa_cons (pv 2) pa_nil)))) (pg_tup rfl (pgs_cons (pg_name (i:=5) sc_u49.nd rfl (Or.inl rfl)) (pgs_cons (pg_name (i:=6) sc_u49.nd rfl (Or.inl rfl)) (pgs_cons (pg_name (i:=7) sc_u49.nd rfl (Or.inl rfl)) pgs_nil)))) (pss_cons (ps_set (i:=3) sc_u49.nd rfl (Or.inl rfl) (pe_op op_add (pv 3) (pe_callTy call_int1 rfl m_int bb_int (pa_cons (pe_cmpR op_eq (pv 6) (pe_op op_add (pv 5) pe_int) (nomark _)) pa_nil))))
  (pss_one (ps_set (i:=4) sc_u49.nd rfl (Or.inl rfl) (pe_op op_add (pv 4) (pe_callTy call_int1 rfl m_int bb_int (pa_cons (pe_cmpR op_eq (pv 7) (pe_op op_add (pv 1) pe_int) (nomark _)) pa_nil)))))))
  (pss_cons (ps_set (i:=8) sc_u49.nd rfl (Or.inl rfl) (pe_callTy call_list_of rfl m_list bb_list (pa_cons (pv 2) pa_nil)))
  (pss_one (ps_ret (pe_and (pcall d_u43 hr (pa_cons pe_str (pa_cons (pe_lst (pa_cons pe_str (pa_cons pe_str pa_nil))) (pa_cons (pe_tup (pa_cons (pe_op op_add (pv 1) pe_int) (pa_cons (pv 8) pa_nil))) (pa_cons (pe_lst (pa_cons (pv 3) (pa_cons (pv 4) pa_nil))) pa_nil))))) (pe_one (pe_cmpR (op_eqD (hu100 hr)) (pv 8) (pv 2) (nomark _))))))))))),?_⟩
 have m0:=Int.emod_nonneg (ns.getD (0:Int).toNat 0) (show (41:Int)≠0 by decide)
 have m1:=Int.emod_lt_of_pos (ns.getD (0:Int).toNat 0) (show (0:Int) < 41 by decide)
 refine ⟨_,rfl,a,ns,0,rfl,hS,by decide,_,_,rfl,rfl,pm (by decide),?_⟩
 try dsimp only
 generalize ns.getD (0:Int).toNat 0 % 41=z at m0 m1 ⊢
 obtain ⟨n,rfl⟩:∃ n:Nat,z=(n:Int):=⟨z.toNat,by omega⟩
 refine ⟨_,rfl,_,rfl,a,ns,n,2,rfl,hS,h63,by omega,by decide,by decide,fun c ps H1 s1 fc hc t et pmt rst=>?_⟩
 subst et
 have h40:t.size≤40:=by omega
 refine ⟨_,rfl,_,_,rfl,rfl,_,rfl,c,t,ps,rfl,hc,pmt,h40,fun p xs ts H2 s2 f2 h2 tr pt=>?_⟩
 have lts:ts.length=t.size:=by rw [pt.length_eq,tri_len]
 have lxs:=tr.len
 refine ⟨p,rfl,⟨_,SqL.of h2⟩,for_list (xs:=xs) (fun i σ H'=>H2=H'∧∃ (o1 o2 o3 o4:Option V),σ=[some (.ref a),some (.int (t.size:Int)),some (.ref c),some (.int (((ts.take i).countP (fun x=>decide (x.2.1=x.1+1)):Nat):Int)),some (.int (((ts.take i).countP (fun x=>decide (x.2.2=(t.size:Int)+1)):Nat):Int)),o1,o2,o3,o4]∧i≤ts.length) ⟨rfl,_,_,_,_,rfl,Nat.zero_le _⟩ (fun i σ H' _ h=>by obtain ⟨rfl,_⟩:=h; exact SqL.of h2) ?_ ?_⟩
 ·rintro i v σ H3 hv ⟨rfl,o1,o2,o3,o4,rfl,hi⟩
  obtain ⟨x,tt,hpp,rfl,htt⟩:=tr.get hv
  have hlt:i < ts.length:=(List.getElem?_eq_some_iff.mp hpp).1
  refine ⟨tt,_,rfl,SqT.of htt,rfl,_,_,rfl,_,_,rfl,_,_,rfl,rfl,?_⟩
  have ec:∀ (f:Tri→Prop) [DecidablePred f],(ts.take (i+1)).countP (fun x=>decide (f x))=(ts.take i).countP (fun x=>decide (f x))+(if f x then 1 else 0):=fun f _=>by
   rw [List.take_add_one,hpp,List.countP_append]
   show _+[x].countP _=_
   rw [List.countP_singleton]
   simp only [decide_eq_true_eq]
  have e1:=ec (fun x=>x.2.1=x.1+1)
  have e2:=ec (fun x=>x.2.2=(t.size:Int)+1)
  have iv:∀ y z:Int,(if decide (V.int y=V.int z)=true then (1:Int) else 0)=if y=z then 1 else 0:=fun y z=>by
   by_cases h:y=z
   ·rw [if_pos h,h]; simp
   ·rw [if_neg h,if_neg (by rw [decide_eq_false (fun w=>h (by injection w))]; decide)]
  refine ⟨_,rfl,_,rfl,_,rfl,_,_,rfl,rfl,rfl,.inr ⟨_,rfl,_,_,rfl,rfl,?_⟩⟩
  refine ⟨_,rfl,_,rfl,_,rfl,_,_,rfl,rfl,rfl,.inr ⟨_,rfl,_,_,rfl,rfl,?_⟩⟩
  refine ⟨rfl,some (.int x.1),some (.int x.2.1),some (.int x.2.2),o4,?_,hlt⟩
  rw [e1,e2]
  have i1:=iv x.2.1 (x.1+1)
  have i2:=iv x.2.2 ((t.size:Int)+1)
  try dsimp only [List.set]
  rw [i1,i2]
  split<;>split<;>simp
 rintro σ H3 ⟨rfl,o1,o2,o3,o4,rfl,hi⟩
 rw [List.take_of_length_le (by omega),pt.countP_eq,pt.countP_eq]
 have t2:=s1.trans s2
 obtain ⟨ys,ey,ly,pry⟩:=(hc.same s2).len
 refine ⟨_,rfl,c,_,rfl,.inl (SqL.of ey),fun d hd=>?_⟩
 have k4:=Same.new (Same.refl H2) hd (.lst ys)
 have ncd:c≠d:=ne_of_none ey hd
 have hcp:=(hc.same s2).same k4
 have hdp:PLs (upd H2 d (.lst ys)) d ps:=⟨ys,upd_same,pry.same k4⟩
 generalize upd H2 d (.lst ys)=H4 at hcp hdp ⊢
 refine ⟨(by show 2≤sizeLine; decide),fun pn hpn=>?_⟩
 have s5:=Same.new (Same.refl H4) hpn (.lst [.str "peaks",.str "returns"])
 have hn5:upd H4 pn (.lst [.str "peaks",.str "returns"]) pn=some (.lst ((["peaks","returns"]:List Str).map V.str)):=upd_same
 generalize upd H4 pn (.lst [.str "peaks",.str "returns"])=H5 at s5 hn5 ⊢
 refine ⟨_,rfl,_,_,rfl,rfl,_,rfl,(by show 2≤sizeLine; decide),fun u hu=>?_⟩
 have s6:=Same.new (Same.refl H5) hu (.tup [.int ((t.size:Int)+2),.ref d])
 have hu6:upd H5 u (.tup [.int ((t.size:Int)+2),.ref d]) u=some (.tup [.int ((t.size:Int)+2),.ref d]):=upd_same
 generalize upd H5 u (.tup [.int ((t.size:Int)+2),.ref d])=H6 at s6 hu6 ⊢
 refine ⟨_,rfl,_,rfl,(by show 2≤sizeLine; decide),fun pv hpv=>?_⟩
 have s7:=Same.new (Same.refl H6) hpv (.lst [.int (((triT t 0).countP (fun x=>decide (x.2.1=x.1+1)):Nat):Int),.int (((triT t 0).countP (fun x=>decide (x.2.2=(t.size:Int)+1)):Nat):Int)])
 have hv7:upd H6 pv (.lst [.int (((triT t 0).countP (fun x=>decide (x.2.1=x.1+1)):Nat):Int),.int (((triT t 0).countP (fun x=>decide (x.2.2=(t.size:Int)+1)):Nat):Int)]) pv=some (.lst (([(((triT t 0).countP (fun x=>decide (x.2.1=x.1+1)):Nat):Int),(((triT t 0).countP (fun x=>decide (x.2.2=(t.size:Int)+1)):Nat):Int)]:List Int).map V.int)):=upd_same
 generalize upd H6 pv (.lst [.int (((triT t 0).countP (fun x=>decide (x.2.1=x.1+1)):Nat):Int),.int (((triT t 0).countP (fun x=>decide (x.2.2=(t.size:Int)+1)):Nat):Int)])=H7 at s7 hv7 ⊢
 have s57:=s6.trans s7
 have s47:=s5.trans s57
 refine ⟨"floor",pn,pv,.ref u,["peaks","returns"],[(((triT t 0).countP (fun x=>decide (x.2.1=x.1+1)):Nat):Int),(((triT t 0).countP (fun x=>decide (x.2.2=(t.size:Int)+1)):Nat):Int)],rfl,s57 _ _ hn5,hv7,by decide,rfl,fun j nm k en ev=>⟨u,d,t,ps,rfl,s7 _ _ hu6,hdp.same s47,pmt,rst,h40,rfl,?_⟩,fun H8 s8=>⟨_,rfl,iteT ?_⟩⟩
 ·match j,en,ev with
  | 0,en,ev =>
   injection en with en
   injection ev with ev
   exact .inl ⟨en.symm,ev.symm⟩
  | 1,en,ev =>
   injection en with en
   injection ev with ev
   exact .inr ⟨en.symm,ev.symm⟩
  | j+2,en,ev=>cases en
 ·have s48:=s47.trans s8
  refine ⟨_,rfl,_,rfl,2,_,by decide,EqD.prs (Ne.symm ncd) (hdp.same s48) (hcp.same s48),⟨d,c,rfl,rfl,Ne.symm ncd⟩,?_⟩
  rw [decide_eq_true rfl]
  exact q _
end
noncomputable def spL (K:PySem.W.Frag):Sp:=fun vs H Q _=>∃ (a:Addr) (ns:List Int),vs=[.ref a]∧SqL K H a (ns.map V.int)∧ns.length≤63∧∀ H',Q (.bl true) H'
theorem lenAll0 {P:List Value→Prop} (h:P []):∀ us:List Value,us.length=0→P us
 | [],_=>h
theorem lenAll1 {P:List Value→Prop} (h:∀ a0:Value,P [a0]):∀ us:List Value,us.length=1→P us
 | [a0],_=>h a0
theorem lenAll2 {P:List Value→Prop} (h:∀ a0 a1:Value,P [a0,a1]):∀ us:List Value,us.length=2→P us
 | [a0,a1],_=>h a0 a1
theorem lenAll3 {P:List Value→Prop} (h:∀ a0 a1 a2:Value,P [a0,a1,a2]):∀ us:List Value,us.length=3→P us
 | [a0,a1,a2],_=>h a0 a1 a2
theorem lenAll4 {P:List Value→Prop} (h:∀ a0 a1 a2 a3:Value,P [a0,a1,a2,a3]):∀ us:List Value,us.length=4→P us
 | [a0,a1,a2,a3],_=>h a0 a1 a2 a3
theorem all_mk {l:PySem.W.OpenLaw} {w:World} {K:PySem.W.Frag} {h:Heap} {mg:Str→Option Value} {fa:Addr} (X:K.In h) (G:h.Ns mainGlobals mg) (hfa:mg "law" = some (.ref fa)) {C_Floors:Addr} {C_Brackets:Addr} {C_Stairs:Addr} {C_Twins:Addr} {C_Bows:Addr} {C_Rooms:Addr} {C_Turns:Addr} {C_Codes:Addr} {C_Trees:Addr} {C_Cars:Addr} {C_SplitFamily:Addr} {C_Family:Addr} {C_RingFamily:Addr} {F_cars_rootage:Addr} {F_cars_leaves:Addr} {F_trees_rootage:Addr} {F_trees_leaves:Addr} {F_codes_rootage:Addr} {F_codes_leaves:Addr} {F_turns_height:Addr} {F_turns_returns:Addr} {F_turns_peaks:Addr} {F_floor_returns:Addr} {F_floor_peaks:Addr} {F_rooms_returns:Addr} {F_rooms_peaks:Addr} {F_bows_height:Addr} {F_bows_returns:Addr} {F_bows_peaks:Addr} {F_twins_height:Addr} {F_twins_returns:Addr} {F_twins_peaks:Addr} {F_stairs_height:Addr} {F_stairs_returns:Addr} {F_stairs_peaks:Addr} {F_brackets_height:Addr} {F_brackets_returns:Addr} {F_brackets_peaks:Addr}
 {f1 f2 f3 f4 f5 f6 f7 f8 f9 f10 f11 f12 f13 f14 f15 f16 f17 f18 f19 f20 f21 f22 f23 f24 f25 f26 f27 f28 f29 f30 f31 f32 f33 f34 f35 f36 f37 f38 f39 f40 f41 f42 f43 f44 f45 f46 f47 f48 f49 f50:Addr} {od1 an1 od2 an2 od3 an3 od4 an4 od5 an5 od6 an6 od7 an7 od8 an8 od9 an9 od10 an10 od11 an11 od12 an12 od13 an13 od14 an14 od15 an15 od16 an16 od17 an17 od18 an18 od19 an19 od20 an20 od21 an21 od22 an22 od23 an23 od24 an24 od25 an25 od26 an26 od27 an27 od28 an28 od29 an29 od30 an30 od31 an31 od32 an32 od33 an33 od34 an34 od35 an35 od36 an36 od37 an37 od38 an38 od39 an39 od40 an40 od41 an41 od42 an42 od43 an43 od44 an44 od45 an45 od46 an46 od47 an47 od48 an48 od49 an49 od50 an50:Option Addr} {sl1 sl2 sl3 sl4 sl5 sl6 sl7 sl8 sl9 sl10 sl11 sl12 sl13 sl14 sl15 sl16 sl17 sl18 sl19 sl20 sl21 sl22 sl23 sl24 sl25 sl26 sl27 sl28 sl29 sl30 sl31 sl32 sl33 sl34 sl35 sl36 sl37 sl38 sl39 sl40 sl41 sl42 sl43 sl44 sl45 sl46 sl47 sl48 sl49 sl50:Array (Option Value)} {oc1 kV1 dc1 pm1 cd1 ct1 oc2 kV2 dc2 pm2 cd2 ct2 oc3 kV3 dc3 pm3 cd3 ct3 oc4 kV4 dc4 pm4 cd4 ct4 oc5 kV5 dc5 pm5 cd5 ct5 oc6 kV6 dc6 pm6 cd6 ct6 oc7 kV7 dc7 pm7 cd7 ct7 oc8 kV8 dc8 pm8 cd8 ct8 oc9 kV9 dc9 pm9 cd9 ct9 oc10 kV10 dc10 pm10 cd10 ct10 oc11 kV11 dc11 pm11 cd11 ct11 oc12 kV12 dc12 pm12 cd12 ct12 oc13 kV13 dc13 pm13 cd13 ct13 oc14 kV14 dc14 pm14 cd14 ct14 oc15 kV15 dc15 pm15 cd15 ct15 oc16 kV16 dc16 pm16 cd16 ct16 oc17 kV17 dc17 pm17 cd17 ct17 oc18 kV18 dc18 pm18 cd18 ct18 oc19 kV19 dc19 pm19 cd19 ct19 oc20 kV20 dc20 pm20 cd20 ct20 oc21 kV21 dc21 pm21 cd21 ct21 oc22 kV22 dc22 pm22 cd22 ct22 oc23 kV23 dc23 pm23 cd23 ct23 oc24 kV24 dc24 pm24 cd24 ct24 oc25 kV25 dc25 pm25 cd25 ct25 oc26 kV26 dc26 pm26 cd26 ct26 oc27 kV27 dc27 pm27 cd27 ct27 oc28 kV28 dc28 pm28 cd28 ct28 oc29 kV29 dc29 pm29 cd29 ct29 oc30 kV30 dc30 pm30 cd30 ct30 oc31 kV31 dc31 pm31 cd31 ct31 oc32 kV32 dc32 pm32 cd32 ct32 oc33 kV33 dc33 pm33 cd33 ct33 oc34 kV34 dc34 pm34 cd34 ct34 oc35 kV35 dc35 pm35 cd35 ct35 oc36 kV36 dc36 pm36 cd36 ct36 oc37 kV37 dc37 pm37 cd37 ct37 oc38 kV38 dc38 pm38 cd38 ct38 oc39 kV39 dc39 pm39 cd39 ct39 oc40 kV40 dc40 pm40 cd40 ct40 oc41 kV41 dc41 pm41 cd41 ct41 oc42 kV42 dc42 pm42 cd42 ct42 oc43 kV43 dc43 pm43 cd43 ct43 oc44 kV44 dc44 pm44 cd44 ct44 oc45 kV45 dc45 pm45 cd45 ct45 oc46 kV46 dc46 pm46 cd46 ct46 oc47 kV47 dc47 pm47 cd47 ct47 oc48 kV48 dc48 pm48 cd48 ct48 oc49 kV49 dc49 pm49 cd49 ct49 oc50 kV50 dc50 pm50 cd50 ct50:Value}
  (nc_Brackets:PySem.W.nsIn K mainGlobals "Brackets" = some (some (.ref C_Brackets)))
  (nc_Stairs:PySem.W.nsIn K mainGlobals "Stairs" = some (some (.ref C_Stairs)))
  (nc_Twins:PySem.W.nsIn K mainGlobals "Twins" = some (some (.ref C_Twins)))
  (nc_Bows:PySem.W.nsIn K mainGlobals "Bows" = some (some (.ref C_Bows)))
  (nc_Rooms:PySem.W.nsIn K mainGlobals "Rooms" = some (some (.ref C_Rooms)))
  (nc_Floors:PySem.W.nsIn K mainGlobals "Floors" = some (some (.ref C_Floors)))
  (nc_Turns:PySem.W.nsIn K mainGlobals "Turns" = some (some (.ref C_Turns)))
  (nc_SplitFamily:PySem.W.nsIn K mainGlobals "SplitFamily" = some (some (.ref C_SplitFamily)))
  (nc_Family:PySem.W.nsIn K mainGlobals "Family" = some (some (.ref C_Family)))
  (nc_Codes:PySem.W.nsIn K mainGlobals "Codes" = some (some (.ref C_Codes)))
  (nc_Trees:PySem.W.nsIn K mainGlobals "Trees" = some (some (.ref C_Trees)))
  (nc_Cars:PySem.W.nsIn K mainGlobals "Cars" = some (some (.ref C_Cars)))
  (nc_RingFamily:PySem.W.nsIn K mainGlobals "RingFamily" = some (some (.ref C_RingFamily)))
  (a_Floors_refuse_other:PySem.W.findIn K (.ref C_Floors) "refuse_other" = some (some (.ref f43)))
  (a_Floors_is_one:PySem.W.findIn K (.ref C_Floors) "is_one" = some (some (.ref f42)))
  (ai_Brackets:PySem.W.findIn K (.ref C_Brackets) "__init__" = some (some (.ref f7)))
  (ai_Stairs:PySem.W.findIn K (.ref C_Stairs) "__init__" = some (some (.ref f10)))
  (ai_Twins:PySem.W.findIn K (.ref C_Twins) "__init__" = some (some (.ref f13)))
  (ai_Bows:PySem.W.findIn K (.ref C_Bows) "__init__" = some (some (.ref f16)))
  (ai_Rooms:PySem.W.findIn K (.ref C_Rooms) "__init__" = some (some (.ref f19)))
  (ai_Floors:PySem.W.findIn K (.ref C_Floors) "__init__" = some (some (.ref f22)))
  (ai_Turns:PySem.W.findIn K (.ref C_Turns) "__init__" = some (some (.ref f25)))
  (ai_Codes:PySem.W.findIn K (.ref C_Codes) "__init__" = some (some (.ref f29)))
  (ai_Trees:PySem.W.findIn K (.ref C_Trees) "__init__" = some (some (.ref f32)))
  (ai_Cars:PySem.W.findIn K (.ref C_Cars) "__init__" = some (some (.ref f35)))
  (ch_SplitFamily___init___Brackets:PySem.W.findCls K (.ref C_SplitFamily) (.type "type") "__init__" = some (.val (.ref f6)))
  (cg_SplitFamily___init___Brackets:PySem.W.specialIn K (.ref C_SplitFamily) "__getattribute__" = some (some (.builtin "type.__getattribute__")))
  (cr_SplitFamily___init___Brackets:PySem.W.readsIn K C_SplitFamily (.type "type")=true)
  (ch_Family___init___Brackets:PySem.W.findCls K (.ref C_Family) (.type "type") "__init__" = some (.val (.ref f5)))
  (cg_Family___init___Brackets:PySem.W.specialIn K (.ref C_Family) "__getattribute__" = some (some (.builtin "type.__getattribute__")))
  (cr_Family___init___Brackets:PySem.W.readsIn K C_Family (.type "type")=true)
  (ch_SplitFamily___init___Stairs:PySem.W.findCls K (.ref C_SplitFamily) (.type "type") "__init__" = some (.val (.ref f9)))
  (cg_SplitFamily___init___Stairs:PySem.W.specialIn K (.ref C_SplitFamily) "__getattribute__" = some (some (.builtin "type.__getattribute__")))
  (cr_SplitFamily___init___Stairs:PySem.W.readsIn K C_SplitFamily (.type "type")=true)
  (ch_Family___init___Stairs:PySem.W.findCls K (.ref C_Family) (.type "type") "__init__" = some (.val (.ref f8)))
  (cg_Family___init___Stairs:PySem.W.specialIn K (.ref C_Family) "__getattribute__" = some (some (.builtin "type.__getattribute__")))
  (cr_Family___init___Stairs:PySem.W.readsIn K C_Family (.type "type")=true)
  (ch_SplitFamily___init___Twins:PySem.W.findCls K (.ref C_SplitFamily) (.type "type") "__init__" = some (.val (.ref f12)))
  (cg_SplitFamily___init___Twins:PySem.W.specialIn K (.ref C_SplitFamily) "__getattribute__" = some (some (.builtin "type.__getattribute__")))
  (cr_SplitFamily___init___Twins:PySem.W.readsIn K C_SplitFamily (.type "type")=true)
  (ch_Family___init___Twins:PySem.W.findCls K (.ref C_Family) (.type "type") "__init__" = some (.val (.ref f11)))
  (cg_Family___init___Twins:PySem.W.specialIn K (.ref C_Family) "__getattribute__" = some (some (.builtin "type.__getattribute__")))
  (cr_Family___init___Twins:PySem.W.readsIn K C_Family (.type "type")=true)
  (ch_SplitFamily___init___Bows:PySem.W.findCls K (.ref C_SplitFamily) (.type "type") "__init__" = some (.val (.ref f15)))
  (cg_SplitFamily___init___Bows:PySem.W.specialIn K (.ref C_SplitFamily) "__getattribute__" = some (some (.builtin "type.__getattribute__")))
  (cr_SplitFamily___init___Bows:PySem.W.readsIn K C_SplitFamily (.type "type")=true)
  (ch_Family___init___Bows:PySem.W.findCls K (.ref C_Family) (.type "type") "__init__" = some (.val (.ref f14)))
  (cg_Family___init___Bows:PySem.W.specialIn K (.ref C_Family) "__getattribute__" = some (some (.builtin "type.__getattribute__")))
  (cr_Family___init___Bows:PySem.W.readsIn K C_Family (.type "type")=true)
  (ch_SplitFamily___init___Rooms:PySem.W.findCls K (.ref C_SplitFamily) (.type "type") "__init__" = some (.val (.ref f18)))
  (cg_SplitFamily___init___Rooms:PySem.W.specialIn K (.ref C_SplitFamily) "__getattribute__" = some (some (.builtin "type.__getattribute__")))
  (cr_SplitFamily___init___Rooms:PySem.W.readsIn K C_SplitFamily (.type "type")=true)
  (ch_Family___init___Rooms:PySem.W.findCls K (.ref C_Family) (.type "type") "__init__" = some (.val (.ref f17)))
  (cg_Family___init___Rooms:PySem.W.specialIn K (.ref C_Family) "__getattribute__" = some (some (.builtin "type.__getattribute__")))
  (cr_Family___init___Rooms:PySem.W.readsIn K C_Family (.type "type")=true)
  (ch_SplitFamily___init___Floors:PySem.W.findCls K (.ref C_SplitFamily) (.type "type") "__init__" = some (.val (.ref f21)))
  (cg_SplitFamily___init___Floors:PySem.W.specialIn K (.ref C_SplitFamily) "__getattribute__" = some (some (.builtin "type.__getattribute__")))
  (cr_SplitFamily___init___Floors:PySem.W.readsIn K C_SplitFamily (.type "type")=true)
  (ch_Family___init___Floors:PySem.W.findCls K (.ref C_Family) (.type "type") "__init__" = some (.val (.ref f20)))
  (cg_Family___init___Floors:PySem.W.specialIn K (.ref C_Family) "__getattribute__" = some (some (.builtin "type.__getattribute__")))
  (cr_Family___init___Floors:PySem.W.readsIn K C_Family (.type "type")=true)
  (ch_SplitFamily___init___Turns:PySem.W.findCls K (.ref C_SplitFamily) (.type "type") "__init__" = some (.val (.ref f24)))
  (cg_SplitFamily___init___Turns:PySem.W.specialIn K (.ref C_SplitFamily) "__getattribute__" = some (some (.builtin "type.__getattribute__")))
  (cr_SplitFamily___init___Turns:PySem.W.readsIn K C_SplitFamily (.type "type")=true)
  (ch_Family___init___Turns:PySem.W.findCls K (.ref C_Family) (.type "type") "__init__" = some (.val (.ref f23)))
  (cg_Family___init___Turns:PySem.W.specialIn K (.ref C_Family) "__getattribute__" = some (some (.builtin "type.__getattribute__")))
  (cr_Family___init___Turns:PySem.W.readsIn K C_Family (.type "type")=true)
  (ch_RingFamily___init___Codes:PySem.W.findCls K (.ref C_RingFamily) (.type "type") "__init__" = some (.val (.ref f28)))
  (cg_RingFamily___init___Codes:PySem.W.specialIn K (.ref C_RingFamily) "__getattribute__" = some (some (.builtin "type.__getattribute__")))
  (cr_RingFamily___init___Codes:PySem.W.readsIn K C_RingFamily (.type "type")=true)
  (ch_Family___init___Codes:PySem.W.findCls K (.ref C_Family) (.type "type") "__init__" = some (.val (.ref f27)))
  (cg_Family___init___Codes:PySem.W.specialIn K (.ref C_Family) "__getattribute__" = some (some (.builtin "type.__getattribute__")))
  (cr_Family___init___Codes:PySem.W.readsIn K C_Family (.type "type")=true)
  (ch_RingFamily___init___Trees:PySem.W.findCls K (.ref C_RingFamily) (.type "type") "__init__" = some (.val (.ref f31)))
  (cg_RingFamily___init___Trees:PySem.W.specialIn K (.ref C_RingFamily) "__getattribute__" = some (some (.builtin "type.__getattribute__")))
  (cr_RingFamily___init___Trees:PySem.W.readsIn K C_RingFamily (.type "type")=true)
  (ch_Family___init___Trees:PySem.W.findCls K (.ref C_Family) (.type "type") "__init__" = some (.val (.ref f30)))
  (cg_Family___init___Trees:PySem.W.specialIn K (.ref C_Family) "__getattribute__" = some (some (.builtin "type.__getattribute__")))
  (cr_Family___init___Trees:PySem.W.readsIn K C_Family (.type "type")=true)
  (ch_RingFamily___init___Cars:PySem.W.findCls K (.ref C_RingFamily) (.type "type") "__init__" = some (.val (.ref f34)))
  (cg_RingFamily___init___Cars:PySem.W.specialIn K (.ref C_RingFamily) "__getattribute__" = some (some (.builtin "type.__getattribute__")))
  (cr_RingFamily___init___Cars:PySem.W.readsIn K C_RingFamily (.type "type")=true)
  (ch_Family___init___Cars:PySem.W.findCls K (.ref C_Family) (.type "type") "__init__" = some (.val (.ref f33)))
  (cg_Family___init___Cars:PySem.W.specialIn K (.ref C_Family) "__getattribute__" = some (some (.builtin "type.__getattribute__")))
  (cr_Family___init___Cars:PySem.W.readsIn K C_Family (.type "type")=true)
  (a1:PySem.W.nsIn K mainGlobals "_law_cell_at" = some (some (.ref f1)))
  (l1:K.lookup f1=some ⟨oc1,od1,.func (PySem.W.fnOf "_law_cell_at" "_law_cell_at" (defArgs s_u37) (defBody s_u37) (defScope s_u37) .none kV1 dc1 pm1 an1 cd1 ct1),sl1⟩)
  (c1:PySem.W.codeIn K cd1 "_law_cell_at" = true)
  (k1:PySem.W.keepIn K (.ref f1)=true)
  (a2:PySem.W.nsIn K mainGlobals "_law_draws" = some (some (.ref f2)))
  (l2:K.lookup f2=some ⟨oc2,od2,.func (PySem.W.fnOf "_law_draws" "_law_draws" (defArgs s_u40) (defBody s_u40) (defScope s_u40) .none kV2 dc2 pm2 an2 cd2 ct2),sl2⟩)
  (c2:PySem.W.codeIn K cd2 "_law_draws" = true)
  (k2:PySem.W.keepIn K (.ref f2)=true)
  (a3:PySem.W.nsIn K mainGlobals "_law_cuts" = some (some (.ref f3)))
  (l3:K.lookup f3=some ⟨oc3,od3,.func (PySem.W.fnOf "_law_cuts" "_law_cuts" (defArgs s_u45) (defBody s_u45) (defScope s_u45) .none kV3 dc3 pm3 an3 cd3 ct3),sl3⟩)
  (c3:PySem.W.codeIn K cd3 "_law_cuts" = true)
  (k3:PySem.W.keepIn K (.ref f3)=true)
  (a4:PySem.W.nsIn K mainGlobals "_law_triangles" = some (some (.ref f4)))
  (l4:K.lookup f4=some ⟨oc4,od4,.func (PySem.W.fnOf "_law_triangles" "_law_triangles" (defArgs s_u32) (defBody s_u32) (defScope s_u32) .none kV4 dc4 pm4 an4 cd4 ct4),sl4⟩)
  (c4:PySem.W.codeIn K cd4 "_law_triangles" = true)
  (k4:PySem.W.keepIn K (.ref f4)=true)
  (l5:K.lookup f5=some ⟨oc5,od5,.func (PySem.W.fnOf "__init__" "Family.__init__" (defArgs s_u11) (defBody s_u11) (defScope s_u11) .none kV5 dc5 pm5 an5 cd5 ct5),sl5⟩)
  (c5:PySem.W.codeIn K cd5 "Family.__init__" = true)
  (k5:PySem.W.keepIn K (.ref f5)=true)
  (i5:PySem.W.isFn K (.ref f5)=true)
  (l6:K.lookup f6=some ⟨oc6,od6,.func (PySem.W.fnOf "__init__" "SplitFamily.__init__" (defArgs s_u0) (defBody s_u0) (defScope s_u0) .none kV6 dc6 pm6 an6 cd6 ct6),sl6⟩)
  (c6:PySem.W.codeIn K cd6 "SplitFamily.__init__" = true)
  (k6:PySem.W.keepIn K (.ref f6)=true)
  (i6:PySem.W.isFn K (.ref f6)=true)
  (l7:K.lookup f7=some ⟨oc7,od7,.func (PySem.W.fnOf "__init__" "Brackets.__init__" (defArgs s_u21) (defBody s_u21) (defScope s_u21) .none kV7 dc7 pm7 an7 cd7 ct7),sl7⟩)
  (c7:PySem.W.codeIn K cd7 "Brackets.__init__" = true)
  (k7:PySem.W.keepIn K (.ref f7)=true)
  (i7:PySem.W.isFn K (.ref f7)=true)
  (l8:K.lookup f8=some ⟨oc8,od8,.func (PySem.W.fnOf "__init__" "Family.__init__" (defArgs s_u12) (defBody s_u12) (defScope s_u12) .none kV8 dc8 pm8 an8 cd8 ct8),sl8⟩)
  (c8:PySem.W.codeIn K cd8 "Family.__init__" = true)
  (k8:PySem.W.keepIn K (.ref f8)=true)
  (i8:PySem.W.isFn K (.ref f8)=true)
  (l9:K.lookup f9=some ⟨oc9,od9,.func (PySem.W.fnOf "__init__" "SplitFamily.__init__" (defArgs s_u2) (defBody s_u2) (defScope s_u2) .none kV9 dc9 pm9 an9 cd9 ct9),sl9⟩)
  (c9:PySem.W.codeIn K cd9 "SplitFamily.__init__" = true)
  (k9:PySem.W.keepIn K (.ref f9)=true)
  (i9:PySem.W.isFn K (.ref f9)=true)
  (l10:K.lookup f10=some ⟨oc10,od10,.func (PySem.W.fnOf "__init__" "Stairs.__init__" (defArgs s_u22) (defBody s_u22) (defScope s_u22) .none kV10 dc10 pm10 an10 cd10 ct10),sl10⟩)
  (c10:PySem.W.codeIn K cd10 "Stairs.__init__" = true)
  (k10:PySem.W.keepIn K (.ref f10)=true)
  (i10:PySem.W.isFn K (.ref f10)=true)
  (l11:K.lookup f11=some ⟨oc11,od11,.func (PySem.W.fnOf "__init__" "Family.__init__" (defArgs s_u14) (defBody s_u14) (defScope s_u14) .none kV11 dc11 pm11 an11 cd11 ct11),sl11⟩)
  (c11:PySem.W.codeIn K cd11 "Family.__init__" = true)
  (k11:PySem.W.keepIn K (.ref f11)=true)
  (i11:PySem.W.isFn K (.ref f11)=true)
  (l12:K.lookup f12=some ⟨oc12,od12,.func (PySem.W.fnOf "__init__" "SplitFamily.__init__" (defArgs s_u6) (defBody s_u6) (defScope s_u6) .none kV12 dc12 pm12 an12 cd12 ct12),sl12⟩)
  (c12:PySem.W.codeIn K cd12 "SplitFamily.__init__" = true)
  (k12:PySem.W.keepIn K (.ref f12)=true)
  (i12:PySem.W.isFn K (.ref f12)=true)
  (l13:K.lookup f13=some ⟨oc13,od13,.func (PySem.W.fnOf "__init__" "Twins.__init__" (defArgs s_u28) (defBody s_u28) (defScope s_u28) .none kV13 dc13 pm13 an13 cd13 ct13),sl13⟩)
  (c13:PySem.W.codeIn K cd13 "Twins.__init__" = true)
  (k13:PySem.W.keepIn K (.ref f13)=true)
  (i13:PySem.W.isFn K (.ref f13)=true)
  (l14:K.lookup f14=some ⟨oc14,od14,.func (PySem.W.fnOf "__init__" "Family.__init__" (defArgs s_u19) (defBody s_u19) (defScope s_u19) .none kV14 dc14 pm14 an14 cd14 ct14),sl14⟩)
  (c14:PySem.W.codeIn K cd14 "Family.__init__" = true)
  (k14:PySem.W.keepIn K (.ref f14)=true)
  (i14:PySem.W.isFn K (.ref f14)=true)
  (l15:K.lookup f15=some ⟨oc15,od15,.func (PySem.W.fnOf "__init__" "SplitFamily.__init__" (defArgs s_u8) (defBody s_u8) (defScope s_u8) .none kV15 dc15 pm15 an15 cd15 ct15),sl15⟩)
  (c15:PySem.W.codeIn K cd15 "SplitFamily.__init__" = true)
  (k15:PySem.W.keepIn K (.ref f15)=true)
  (i15:PySem.W.isFn K (.ref f15)=true)
  (l16:K.lookup f16=some ⟨oc16,od16,.func (PySem.W.fnOf "__init__" "Bows.__init__" (defArgs s_u31) (defBody s_u31) (defScope s_u31) .none kV16 dc16 pm16 an16 cd16 ct16),sl16⟩)
  (c16:PySem.W.codeIn K cd16 "Bows.__init__" = true)
  (k16:PySem.W.keepIn K (.ref f16)=true)
  (i16:PySem.W.isFn K (.ref f16)=true)
  (l17:K.lookup f17=some ⟨oc17,od17,.func (PySem.W.fnOf "__init__" "Family.__init__" (defArgs s_u15) (defBody s_u15) (defScope s_u15) .none kV17 dc17 pm17 an17 cd17 ct17),sl17⟩)
  (c17:PySem.W.codeIn K cd17 "Family.__init__" = true)
  (k17:PySem.W.keepIn K (.ref f17)=true)
  (i17:PySem.W.isFn K (.ref f17)=true)
  (l18:K.lookup f18=some ⟨oc18,od18,.func (PySem.W.fnOf "__init__" "SplitFamily.__init__" (defArgs s_u5) (defBody s_u5) (defScope s_u5) .none kV18 dc18 pm18 an18 cd18 ct18),sl18⟩)
  (c18:PySem.W.codeIn K cd18 "SplitFamily.__init__" = true)
  (k18:PySem.W.keepIn K (.ref f18)=true)
  (i18:PySem.W.isFn K (.ref f18)=true)
  (l19:K.lookup f19=some ⟨oc19,od19,.func (PySem.W.fnOf "__init__" "Rooms.__init__" (defArgs s_u25) (defBody s_u25) (defScope s_u25) .none kV19 dc19 pm19 an19 cd19 ct19),sl19⟩)
  (c19:PySem.W.codeIn K cd19 "Rooms.__init__" = true)
  (k19:PySem.W.keepIn K (.ref f19)=true)
  (i19:PySem.W.isFn K (.ref f19)=true)
  (l20:K.lookup f20=some ⟨oc20,od20,.func (PySem.W.fnOf "__init__" "Family.__init__" (defArgs s_u13) (defBody s_u13) (defScope s_u13) .none kV20 dc20 pm20 an20 cd20 ct20),sl20⟩)
  (c20:PySem.W.codeIn K cd20 "Family.__init__" = true)
  (k20:PySem.W.keepIn K (.ref f20)=true)
  (i20:PySem.W.isFn K (.ref f20)=true)
  (l21:K.lookup f21=some ⟨oc21,od21,.func (PySem.W.fnOf "__init__" "SplitFamily.__init__" (defArgs s_u1) (defBody s_u1) (defScope s_u1) .none kV21 dc21 pm21 an21 cd21 ct21),sl21⟩)
  (c21:PySem.W.codeIn K cd21 "SplitFamily.__init__" = true)
  (k21:PySem.W.keepIn K (.ref f21)=true)
  (i21:PySem.W.isFn K (.ref f21)=true)
  (l22:K.lookup f22=some ⟨oc22,od22,.func (PySem.W.fnOf "__init__" "Floors.__init__" (defArgs s_u23) (defBody s_u23) (defScope s_u23) .none kV22 dc22 pm22 an22 cd22 ct22),sl22⟩)
  (c22:PySem.W.codeIn K cd22 "Floors.__init__" = true)
  (k22:PySem.W.keepIn K (.ref f22)=true)
  (i22:PySem.W.isFn K (.ref f22)=true)
  (l23:K.lookup f23=some ⟨oc23,od23,.func (PySem.W.fnOf "__init__" "Family.__init__" (defArgs s_u17) (defBody s_u17) (defScope s_u17) .none kV23 dc23 pm23 an23 cd23 ct23),sl23⟩)
  (c23:PySem.W.codeIn K cd23 "Family.__init__" = true)
  (k23:PySem.W.keepIn K (.ref f23)=true)
  (i23:PySem.W.isFn K (.ref f23)=true)
  (l24:K.lookup f24=some ⟨oc24,od24,.func (PySem.W.fnOf "__init__" "SplitFamily.__init__" (defArgs s_u3) (defBody s_u3) (defScope s_u3) .none kV24 dc24 pm24 an24 cd24 ct24),sl24⟩)
  (c24:PySem.W.codeIn K cd24 "SplitFamily.__init__" = true)
  (k24:PySem.W.keepIn K (.ref f24)=true)
  (i24:PySem.W.isFn K (.ref f24)=true)
  (l25:K.lookup f25=some ⟨oc25,od25,.func (PySem.W.fnOf "__init__" "Turns.__init__" (defArgs s_u24) (defBody s_u24) (defScope s_u24) .none kV25 dc25 pm25 an25 cd25 ct25),sl25⟩)
  (c25:PySem.W.codeIn K cd25 "Turns.__init__" = true)
  (k25:PySem.W.keepIn K (.ref f25)=true)
  (i25:PySem.W.isFn K (.ref f25)=true)
  (a26:PySem.W.nsIn K mainGlobals "split_families" = some (some (.ref f26)))
  (l26:K.lookup f26=some ⟨oc26,od26,.func (PySem.W.fnOf "split_families" "split_families" (defArgs s_u29) (defBody s_u29) (defScope s_u29) .none kV26 dc26 pm26 an26 cd26 ct26),sl26⟩)
  (c26:PySem.W.codeIn K cd26 "split_families" = true)
  (k26:PySem.W.keepIn K (.ref f26)=true)
  (l27:K.lookup f27=some ⟨oc27,od27,.func (PySem.W.fnOf "__init__" "Family.__init__" (defArgs s_u16) (defBody s_u16) (defScope s_u16) .none kV27 dc27 pm27 an27 cd27 ct27),sl27⟩)
  (c27:PySem.W.codeIn K cd27 "Family.__init__" = true)
  (k27:PySem.W.keepIn K (.ref f27)=true)
  (i27:PySem.W.isFn K (.ref f27)=true)
  (l28:K.lookup f28=some ⟨oc28,od28,.func (PySem.W.fnOf "__init__" "RingFamily.__init__" (defArgs s_u7) (defBody s_u7) (defScope s_u7) .none kV28 dc28 pm28 an28 cd28 ct28),sl28⟩)
  (c28:PySem.W.codeIn K cd28 "RingFamily.__init__" = true)
  (k28:PySem.W.keepIn K (.ref f28)=true)
  (i28:PySem.W.isFn K (.ref f28)=true)
  (l29:K.lookup f29=some ⟨oc29,od29,.func (PySem.W.fnOf "__init__" "Codes.__init__" (defArgs s_u27) (defBody s_u27) (defScope s_u27) .none kV29 dc29 pm29 an29 cd29 ct29),sl29⟩)
  (c29:PySem.W.codeIn K cd29 "Codes.__init__" = true)
  (k29:PySem.W.keepIn K (.ref f29)=true)
  (i29:PySem.W.isFn K (.ref f29)=true)
  (l30:K.lookup f30=some ⟨oc30,od30,.func (PySem.W.fnOf "__init__" "Family.__init__" (defArgs s_u18) (defBody s_u18) (defScope s_u18) .none kV30 dc30 pm30 an30 cd30 ct30),sl30⟩)
  (c30:PySem.W.codeIn K cd30 "Family.__init__" = true)
  (k30:PySem.W.keepIn K (.ref f30)=true)
  (i30:PySem.W.isFn K (.ref f30)=true)
  (l31:K.lookup f31=some ⟨oc31,od31,.func (PySem.W.fnOf "__init__" "RingFamily.__init__" (defArgs s_u9) (defBody s_u9) (defScope s_u9) .none kV31 dc31 pm31 an31 cd31 ct31),sl31⟩)
  (c31:PySem.W.codeIn K cd31 "RingFamily.__init__" = true)
  (k31:PySem.W.keepIn K (.ref f31)=true)
  (i31:PySem.W.isFn K (.ref f31)=true)
  (l32:K.lookup f32=some ⟨oc32,od32,.func (PySem.W.fnOf "__init__" "Trees.__init__" (defArgs s_u26) (defBody s_u26) (defScope s_u26) .none kV32 dc32 pm32 an32 cd32 ct32),sl32⟩)
  (c32:PySem.W.codeIn K cd32 "Trees.__init__" = true)
  (k32:PySem.W.keepIn K (.ref f32)=true)
  (i32:PySem.W.isFn K (.ref f32)=true)
  (l33:K.lookup f33=some ⟨oc33,od33,.func (PySem.W.fnOf "__init__" "Family.__init__" (defArgs s_u20) (defBody s_u20) (defScope s_u20) .none kV33 dc33 pm33 an33 cd33 ct33),sl33⟩)
  (c33:PySem.W.codeIn K cd33 "Family.__init__" = true)
  (k33:PySem.W.keepIn K (.ref f33)=true)
  (i33:PySem.W.isFn K (.ref f33)=true)
  (l34:K.lookup f34=some ⟨oc34,od34,.func (PySem.W.fnOf "__init__" "RingFamily.__init__" (defArgs s_u10) (defBody s_u10) (defScope s_u10) .none kV34 dc34 pm34 an34 cd34 ct34),sl34⟩)
  (c34:PySem.W.codeIn K cd34 "RingFamily.__init__" = true)
  (k34:PySem.W.keepIn K (.ref f34)=true)
  (i34:PySem.W.isFn K (.ref f34)=true)
  (l35:K.lookup f35=some ⟨oc35,od35,.func (PySem.W.fnOf "__init__" "Cars.__init__" (defArgs s_u30) (defBody s_u30) (defScope s_u30) .none kV35 dc35 pm35 an35 cd35 ct35),sl35⟩)
  (c35:PySem.W.codeIn K cd35 "Cars.__init__" = true)
  (k35:PySem.W.keepIn K (.ref f35)=true)
  (i35:PySem.W.isFn K (.ref f35)=true)
  (a36:PySem.W.nsIn K mainGlobals "ring_families" = some (some (.ref f36)))
  (l36:K.lookup f36=some ⟨oc36,od36,.func (PySem.W.fnOf "ring_families" "ring_families" (defArgs s_u34) (defBody s_u34) (defScope s_u34) .none kV36 dc36 pm36 an36 cd36 ct36),sl36⟩)
  (c36:PySem.W.codeIn K cd36 "ring_families" = true)
  (k36:PySem.W.keepIn K (.ref f36)=true)
  (a37:PySem.W.nsIn K mainGlobals "family_of" = some (some (.ref f37)))
  (l37:K.lookup f37=some ⟨oc37,od37,.func (PySem.W.fnOf "family_of" "family_of" (defArgs s_u42) (defBody s_u42) (defScope s_u42) .none kV37 dc37 pm37 an37 cd37 ct37),sl37⟩)
  (c37:PySem.W.codeIn K cd37 "family_of" = true)
  (k37:PySem.W.keepIn K (.ref f37)=true)
  (a38:PySem.W.nsIn K mainGlobals "all_measures" = some (some (.ref f38)))
  (l38:K.lookup f38=some ⟨oc38,od38,.func (PySem.W.fnOf "all_measures" "all_measures" (defArgs s_u38) (defBody s_u38) (defScope s_u38) .none kV38 dc38 pm38 an38 cd38 ct38),sl38⟩)
  (c38:PySem.W.codeIn K cd38 "all_measures" = true)
  (k38:PySem.W.keepIn K (.ref f38)=true)
  (a39:PySem.W.nsIn K mainGlobals "marks_of" = some (some (.ref f39)))
  (l39:K.lookup f39=some ⟨oc39,od39,.func (PySem.W.fnOf "marks_of" "marks_of" (defArgs s_u47) (defBody s_u47) (defScope s_u47) .none kV39 dc39 pm39 an39 cd39 ct39),sl39⟩)
  (c39:PySem.W.codeIn K cd39 "marks_of" = true)
  (k39:PySem.W.keepIn K (.ref f39)=true)
  (a40:PySem.W.nsIn K mainGlobals "any_cross" = some (some (.ref f40)))
  (l40:K.lookup f40=some ⟨oc40,od40,.func (PySem.W.fnOf "any_cross" "any_cross" (defArgs s_u46) (defBody s_u46) (defScope s_u46) .none kV40 dc40 pm40 an40 cd40 ct40),sl40⟩)
  (c40:PySem.W.codeIn K cd40 "any_cross" = true)
  (k40:PySem.W.keepIn K (.ref f40)=true)
  (a41:PySem.W.nsIn K mainGlobals "may_be_cut" = some (some (.ref f41)))
  (l41:K.lookup f41=some ⟨oc41,od41,.func (PySem.W.fnOf "may_be_cut" "may_be_cut" (defArgs s_u41) (defBody s_u41) (defScope s_u41) .none kV41 dc41 pm41 an41 cd41 ct41),sl41⟩)
  (c41:PySem.W.codeIn K cd41 "may_be_cut" = true)
  (k41:PySem.W.keepIn K (.ref f41)=true)
  (l42:K.lookup f42=some ⟨oc42,od42,.func (PySem.W.fnOf "is_one" "Floors.is_one" (defArgs s_u33) (defBody s_u33) (defScope s_u33) .none kV42 dc42 pm42 an42 cd42 ct42),sl42⟩)
  (c42:PySem.W.codeIn K cd42 "Floors.is_one" = true)
  (k42:PySem.W.keepIn K (.ref f42)=true)
  (i42:PySem.W.isFn K (.ref f42)=true)
  (l43:K.lookup f43=some ⟨oc43,od43,.func (PySem.W.fnOf "refuse_other" "Family.refuse_other" (defArgs s_u4) (defBody s_u4) (defScope s_u4) .none kV43 dc43 pm43 an43 cd43 ct43),sl43⟩)
  (c43:PySem.W.codeIn K cd43 "Family.refuse_other" = true)
  (k43:PySem.W.keepIn K (.ref f43)=true)
  (i43:PySem.W.isFn K (.ref f43)=true)
  (a44:PySem.W.nsIn K mainGlobals "third_corner" = some (some (.ref f44)))
  (l44:K.lookup f44=some ⟨oc44,od44,.func (PySem.W.fnOf "third_corner" "third_corner" (defArgs s_u36) (defBody s_u36) (defScope s_u36) .none kV44 dc44 pm44 an44 cd44 ct44),sl44⟩)
  (c44:PySem.W.codeIn K cd44 "third_corner" = true)
  (k44:PySem.W.keepIn K (.ref f44)=true)
  (a45:PySem.W.nsIn K mainGlobals "triangles" = some (some (.ref f45)))
  (l45:K.lookup f45=some ⟨oc45,od45,.func (PySem.W.fnOf "triangles" "triangles" (defArgs s_u44) (defBody s_u44) (defScope s_u44) .none kV45 dc45 pm45 an45 cd45 ct45),sl45⟩)
  (c45:PySem.W.codeIn K cd45 "triangles" = true)
  (k45:PySem.W.keepIn K (.ref f45)=true)
  (a46:PySem.W.nsIn K mainGlobals "floor_peaks" = some (some (.ref f46)))
  (l46:K.lookup f46=some ⟨oc46,od46,.func (PySem.W.fnOf "floor_peaks" "floor_peaks" (defArgs s_u39) (defBody s_u39) (defScope s_u39) .none kV46 dc46 pm46 an46 cd46 ct46),sl46⟩)
  (c46:PySem.W.codeIn K cd46 "floor_peaks" = true)
  (k46:PySem.W.keepIn K (.ref f46)=true)
  (a47:PySem.W.nsIn K mainGlobals "floor_returns" = some (some (.ref f47)))
  (l47:K.lookup f47=some ⟨oc47,od47,.func (PySem.W.fnOf "floor_returns" "floor_returns" (defArgs s_u35) (defBody s_u35) (defScope s_u35) .none kV47 dc47 pm47 an47 cd47 ct47),sl47⟩)
  (c47:PySem.W.codeIn K cd47 "floor_returns" = true)
  (k47:PySem.W.keepIn K (.ref f47)=true)
  (a48:PySem.W.nsIn K mainGlobals "mark" = some (some (.ref f48)))
  (l48:K.lookup f48=some ⟨oc48,od48,.func (PySem.W.fnOf "mark" "mark" (defArgs s_u48) (defBody s_u48) (defScope s_u48) .none kV48 dc48 pm48 an48 cd48 ct48),sl48⟩)
  (c48:PySem.W.codeIn K cd48 "mark" = true)
  (k48:PySem.W.keepIn K (.ref f48)=true)
  (a49:PySem.W.nsIn K mainGlobals "_law_told" = some (some (.ref f49)))
  (l49:K.lookup f49=some ⟨oc49,od49,.func (PySem.W.fnOf "_law_told" "_law_told" (defArgs s_u43) (defBody s_u43) (defScope s_u43) .none kV49 dc49 pm49 an49 cd49 ct49),sl49⟩)
  (c49:PySem.W.codeIn K cd49 "_law_told" = true)
  (k49:PySem.W.keepIn K (.ref f49)=true)
  (a50:PySem.W.nsIn K mainGlobals "law" = some (some (.ref f50)))
  (l50:K.lookup f50=some ⟨oc50,od50,.func (PySem.W.fnOf "law" "law" (defArgs s_u49) (defBody s_u49) (defScope s_u49) .none kV50 dc50 pm50 an50 cd50 ct50),sl50⟩)
  (c50:PySem.W.codeIn K cd50 "law" = true)
  (k50:PySem.W.keepIn K (.ref f50)=true)
  (pg_Floors:PySem.W.plainGet K C_Floors Str.empty=true)
  (hd_Floors:PySem.W.hasDictIn K C_Floors=true)
  (po_Floors:PySem.W.plainOver K C_Floors=true)
  (sa_Floors:PySem.W.findIn K (.ref C_Floors) "__setattr__" = some (some (.builtin "object.__setattr__")))
  (pg_Brackets:PySem.W.plainGet K C_Brackets Str.empty=true)
  (hd_Brackets:PySem.W.hasDictIn K C_Brackets=true)
  (po_Brackets:PySem.W.plainOver K C_Brackets=true)
  (sa_Brackets:PySem.W.findIn K (.ref C_Brackets) "__setattr__" = some (some (.builtin "object.__setattr__")))
  (pg_Stairs:PySem.W.plainGet K C_Stairs Str.empty=true)
  (hd_Stairs:PySem.W.hasDictIn K C_Stairs=true)
  (po_Stairs:PySem.W.plainOver K C_Stairs=true)
  (sa_Stairs:PySem.W.findIn K (.ref C_Stairs) "__setattr__" = some (some (.builtin "object.__setattr__")))
  (pg_Twins:PySem.W.plainGet K C_Twins Str.empty=true)
  (hd_Twins:PySem.W.hasDictIn K C_Twins=true)
  (po_Twins:PySem.W.plainOver K C_Twins=true)
  (sa_Twins:PySem.W.findIn K (.ref C_Twins) "__setattr__" = some (some (.builtin "object.__setattr__")))
  (pg_Bows:PySem.W.plainGet K C_Bows Str.empty=true)
  (hd_Bows:PySem.W.hasDictIn K C_Bows=true)
  (po_Bows:PySem.W.plainOver K C_Bows=true)
  (sa_Bows:PySem.W.findIn K (.ref C_Bows) "__setattr__" = some (some (.builtin "object.__setattr__")))
  (pg_Rooms:PySem.W.plainGet K C_Rooms Str.empty=true)
  (hd_Rooms:PySem.W.hasDictIn K C_Rooms=true)
  (po_Rooms:PySem.W.plainOver K C_Rooms=true)
  (sa_Rooms:PySem.W.findIn K (.ref C_Rooms) "__setattr__" = some (some (.builtin "object.__setattr__")))
  (pg_Turns:PySem.W.plainGet K C_Turns Str.empty=true)
  (hd_Turns:PySem.W.hasDictIn K C_Turns=true)
  (po_Turns:PySem.W.plainOver K C_Turns=true)
  (sa_Turns:PySem.W.findIn K (.ref C_Turns) "__setattr__" = some (some (.builtin "object.__setattr__")))
  (pg_Codes:PySem.W.plainGet K C_Codes Str.empty=true)
  (hd_Codes:PySem.W.hasDictIn K C_Codes=true)
  (po_Codes:PySem.W.plainOver K C_Codes=true)
  (sa_Codes:PySem.W.findIn K (.ref C_Codes) "__setattr__" = some (some (.builtin "object.__setattr__")))
  (pg_Trees:PySem.W.plainGet K C_Trees Str.empty=true)
  (hd_Trees:PySem.W.hasDictIn K C_Trees=true)
  (po_Trees:PySem.W.plainOver K C_Trees=true)
  (sa_Trees:PySem.W.findIn K (.ref C_Trees) "__setattr__" = some (some (.builtin "object.__setattr__")))
  (pg_Cars:PySem.W.plainGet K C_Cars Str.empty=true)
  (hd_Cars:PySem.W.hasDictIn K C_Cars=true)
  (po_Cars:PySem.W.plainOver K C_Cars=true)
  (sa_Cars:PySem.W.findIn K (.ref C_Cars) "__setattr__" = some (some (.builtin "object.__setattr__")))
  (mk_Brackets:PySem.W.makesIn K C_Brackets=true)
  (kc_Brackets:PySem.W.keepIn K (.ref C_Brackets)=true)
  (mk_Stairs:PySem.W.makesIn K C_Stairs=true)
  (kc_Stairs:PySem.W.keepIn K (.ref C_Stairs)=true)
  (mk_Twins:PySem.W.makesIn K C_Twins=true)
  (kc_Twins:PySem.W.keepIn K (.ref C_Twins)=true)
  (mk_Bows:PySem.W.makesIn K C_Bows=true)
  (kc_Bows:PySem.W.keepIn K (.ref C_Bows)=true)
  (mk_Rooms:PySem.W.makesIn K C_Rooms=true)
  (kc_Rooms:PySem.W.keepIn K (.ref C_Rooms)=true)
  (mk_Floors:PySem.W.makesIn K C_Floors=true)
  (kc_Floors:PySem.W.keepIn K (.ref C_Floors)=true)
  (mk_Turns:PySem.W.makesIn K C_Turns=true)
  (kc_Turns:PySem.W.keepIn K (.ref C_Turns)=true)
  (mk_Codes:PySem.W.makesIn K C_Codes=true)
  (kc_Codes:PySem.W.keepIn K (.ref C_Codes)=true)
  (mk_Trees:PySem.W.makesIn K C_Trees=true)
  (kc_Trees:PySem.W.keepIn K (.ref C_Trees)=true)
  (mk_Cars:PySem.W.makesIn K C_Cars=true)
  (kc_Cars:PySem.W.keepIn K (.ref C_Cars)=true)
  (na_Brackets_word:PySem.W.findIn K (.ref C_Brackets) "word" = some none)
  (na_Stairs_word:PySem.W.findIn K (.ref C_Stairs) "word" = some none)
  (na_Twins_word:PySem.W.findIn K (.ref C_Twins) "word" = some none)
  (na_Bows_word:PySem.W.findIn K (.ref C_Bows) "word" = some none)
  (na_Rooms_word:PySem.W.findIn K (.ref C_Rooms) "word" = some none)
  (na_Floors_word:PySem.W.findIn K (.ref C_Floors) "word" = some none)
  (na_Turns_word:PySem.W.findIn K (.ref C_Turns) "word" = some none)
  (na_Codes_word:PySem.W.findIn K (.ref C_Codes) "word" = some none)
  (na_Trees_word:PySem.W.findIn K (.ref C_Trees) "word" = some none)
  (na_Cars_word:PySem.W.findIn K (.ref C_Cars) "word" = some none)
  (na_Brackets_least:PySem.W.findIn K (.ref C_Brackets) "least" = some none)
  (na_Stairs_least:PySem.W.findIn K (.ref C_Stairs) "least" = some none)
  (na_Twins_least:PySem.W.findIn K (.ref C_Twins) "least" = some none)
  (na_Bows_least:PySem.W.findIn K (.ref C_Bows) "least" = some none)
  (na_Rooms_least:PySem.W.findIn K (.ref C_Rooms) "least" = some none)
  (na_Floors_least:PySem.W.findIn K (.ref C_Floors) "least" = some none)
  (na_Turns_least:PySem.W.findIn K (.ref C_Turns) "least" = some none)
  (na_Codes_least:PySem.W.findIn K (.ref C_Codes) "least" = some none)
  (na_Trees_least:PySem.W.findIn K (.ref C_Trees) "least" = some none)
  (na_Cars_least:PySem.W.findIn K (.ref C_Cars) "least" = some none)
  (nf_cars_rootage:PySem.W.nsIn K mainGlobals "cars_rootage" = some (some (.ref F_cars_rootage)))
  (nf_cars_leaves:PySem.W.nsIn K mainGlobals "cars_leaves" = some (some (.ref F_cars_leaves)))
  (nf_trees_rootage:PySem.W.nsIn K mainGlobals "trees_rootage" = some (some (.ref F_trees_rootage)))
  (nf_trees_leaves:PySem.W.nsIn K mainGlobals "trees_leaves" = some (some (.ref F_trees_leaves)))
  (nf_codes_rootage:PySem.W.nsIn K mainGlobals "codes_rootage" = some (some (.ref F_codes_rootage)))
  (nf_codes_leaves:PySem.W.nsIn K mainGlobals "codes_leaves" = some (some (.ref F_codes_leaves)))
  (nf_turns_height:PySem.W.nsIn K mainGlobals "turns_height" = some (some (.ref F_turns_height)))
  (nf_turns_returns:PySem.W.nsIn K mainGlobals "turns_returns" = some (some (.ref F_turns_returns)))
  (nf_turns_peaks:PySem.W.nsIn K mainGlobals "turns_peaks" = some (some (.ref F_turns_peaks)))
  (nf_floor_returns:PySem.W.nsIn K mainGlobals "floor_returns" = some (some (.ref F_floor_returns)))
  (nf_floor_peaks:PySem.W.nsIn K mainGlobals "floor_peaks" = some (some (.ref F_floor_peaks)))
  (nf_rooms_returns:PySem.W.nsIn K mainGlobals "rooms_returns" = some (some (.ref F_rooms_returns)))
  (nf_rooms_peaks:PySem.W.nsIn K mainGlobals "rooms_peaks" = some (some (.ref F_rooms_peaks)))
  (nf_bows_height:PySem.W.nsIn K mainGlobals "bows_height" = some (some (.ref F_bows_height)))
  (nf_bows_returns:PySem.W.nsIn K mainGlobals "bows_returns" = some (some (.ref F_bows_returns)))
  (nf_bows_peaks:PySem.W.nsIn K mainGlobals "bows_peaks" = some (some (.ref F_bows_peaks)))
  (nf_twins_height:PySem.W.nsIn K mainGlobals "twins_height" = some (some (.ref F_twins_height)))
  (nf_twins_returns:PySem.W.nsIn K mainGlobals "twins_returns" = some (some (.ref F_twins_returns)))
  (nf_twins_peaks:PySem.W.nsIn K mainGlobals "twins_peaks" = some (some (.ref F_twins_peaks)))
  (nf_stairs_height:PySem.W.nsIn K mainGlobals "stairs_height" = some (some (.ref F_stairs_height)))
  (nf_stairs_returns:PySem.W.nsIn K mainGlobals "stairs_returns" = some (some (.ref F_stairs_returns)))
  (nf_stairs_peaks:PySem.W.nsIn K mainGlobals "stairs_peaks" = some (some (.ref F_stairs_peaks)))
  (nf_brackets_height:PySem.W.nsIn K mainGlobals "brackets_height" = some (some (.ref F_brackets_height)))
  (nf_brackets_returns:PySem.W.nsIn K mainGlobals "brackets_returns" = some (some (.ref F_brackets_returns)))
  (nf_brackets_peaks:PySem.W.nsIn K mainGlobals "brackets_peaks" = some (some (.ref F_brackets_peaks)))
  (z_len:PySem.W.nsIn K mainGlobals "len" = some none)
  (z_range:PySem.W.nsIn K mainGlobals "range" = some none)
  (z_sorted:PySem.W.nsIn K mainGlobals "sorted" = some none)
  (z_list:PySem.W.nsIn K mainGlobals "list" = some none)
  (z_max:PySem.W.nsIn K mainGlobals "max" = some none)
  (z_set:PySem.W.nsIn K mainGlobals "set" = some none)
  (z_all:PySem.W.nsIn K mainGlobals "all" = some none)
  (z_isinstance:PySem.W.nsIn K mainGlobals "isinstance" = some none)
  (z_int:PySem.W.nsIn K mainGlobals "int" = some none)
  (z_bool:PySem.W.nsIn K mainGlobals "bool" = some none) :
  ∃ fd:FuncData,(∀ (s:Shared) (v:Value),BindsTo s fd ⟨[v],[]⟩ [("_law_script",v)])∧∀ base:Heap,K.In base→base.Ns mainGlobals mg→FnOk l.prog w K mg base CX0 12 fa fd ["_law_script"] (spL K):=by
 have e:=hfa.symm.trans (PySem.W.mg_of X G a50)
 cases e
 have CA:ClOk K mg ⟨C_Floors,C_Brackets,C_Stairs,C_Twins,C_Bows,C_Rooms,C_Turns,C_Codes,C_Trees,C_Cars,C_SplitFamily,C_Family,C_RingFamily,f5,f6,f7,f8,f9,f10,f11,f12,f13,f14,f15,f16,f17,f18,f19,f20,f21,f22,f23,f24,f25,f27,f28,f29,f30,f31,f32,f33,f34,f35,f42,f43,F_cars_rootage,F_cars_leaves,F_trees_rootage,F_trees_leaves,F_codes_rootage,F_codes_leaves,F_turns_height,F_turns_returns,F_turns_peaks,F_floor_returns,F_floor_peaks,F_rooms_returns,F_rooms_peaks,F_bows_height,F_bows_returns,F_bows_peaks,F_twins_height,F_twins_returns,F_twins_peaks,F_stairs_height,F_stairs_returns,F_stairs_peaks,F_brackets_height,F_brackets_returns,F_brackets_peaks⟩:=⟨PySem.W.mg_of X G nc_Brackets,PySem.W.mg_of X G nc_Stairs,PySem.W.mg_of X G nc_Twins,PySem.W.mg_of X G nc_Bows,PySem.W.mg_of X G nc_Rooms,PySem.W.mg_of X G nc_Floors,PySem.W.mg_of X G nc_Turns,PySem.W.mg_of X G nc_SplitFamily,PySem.W.mg_of X G nc_Family,PySem.W.mg_of X G nc_Codes,PySem.W.mg_of X G nc_Trees,PySem.W.mg_of X G nc_Cars,PySem.W.mg_of X G nc_RingFamily,⟨pg_Floors,hd_Floors,po_Floors,sa_Floors⟩,⟨pg_Brackets,hd_Brackets,po_Brackets,sa_Brackets⟩,⟨pg_Stairs,hd_Stairs,po_Stairs,sa_Stairs⟩,⟨pg_Twins,hd_Twins,po_Twins,sa_Twins⟩,⟨pg_Bows,hd_Bows,po_Bows,sa_Bows⟩,⟨pg_Rooms,hd_Rooms,po_Rooms,sa_Rooms⟩,⟨pg_Turns,hd_Turns,po_Turns,sa_Turns⟩,⟨pg_Codes,hd_Codes,po_Codes,sa_Codes⟩,⟨pg_Trees,hd_Trees,po_Trees,sa_Trees⟩,⟨pg_Cars,hd_Cars,po_Cars,sa_Cars⟩,⟨a_Floors_refuse_other,i43,k43⟩,⟨a_Floors_is_one,i42,k42⟩,⟨mk_Brackets,ai_Brackets,i7,kc_Brackets⟩,⟨mk_Stairs,ai_Stairs,i10,kc_Stairs⟩,⟨mk_Twins,ai_Twins,i13,kc_Twins⟩,⟨mk_Bows,ai_Bows,i16,kc_Bows⟩,⟨mk_Rooms,ai_Rooms,i19,kc_Rooms⟩,⟨mk_Floors,ai_Floors,i22,kc_Floors⟩,⟨mk_Turns,ai_Turns,i25,kc_Turns⟩,⟨mk_Codes,ai_Codes,i29,kc_Codes⟩,⟨mk_Trees,ai_Trees,i32,kc_Trees⟩,⟨mk_Cars,ai_Cars,i35,kc_Cars⟩,⟨cg_SplitFamily___init___Brackets,cr_SplitFamily___init___Brackets,ch_SplitFamily___init___Brackets,k6⟩,⟨cg_Family___init___Brackets,cr_Family___init___Brackets,ch_Family___init___Brackets,k5⟩,⟨cg_SplitFamily___init___Stairs,cr_SplitFamily___init___Stairs,ch_SplitFamily___init___Stairs,k9⟩,⟨cg_Family___init___Stairs,cr_Family___init___Stairs,ch_Family___init___Stairs,k8⟩,⟨cg_SplitFamily___init___Twins,cr_SplitFamily___init___Twins,ch_SplitFamily___init___Twins,k12⟩,⟨cg_Family___init___Twins,cr_Family___init___Twins,ch_Family___init___Twins,k11⟩,⟨cg_SplitFamily___init___Bows,cr_SplitFamily___init___Bows,ch_SplitFamily___init___Bows,k15⟩,⟨cg_Family___init___Bows,cr_Family___init___Bows,ch_Family___init___Bows,k14⟩,⟨cg_SplitFamily___init___Rooms,cr_SplitFamily___init___Rooms,ch_SplitFamily___init___Rooms,k18⟩,⟨cg_Family___init___Rooms,cr_Family___init___Rooms,ch_Family___init___Rooms,k17⟩,⟨cg_SplitFamily___init___Floors,cr_SplitFamily___init___Floors,ch_SplitFamily___init___Floors,k21⟩,⟨cg_Family___init___Floors,cr_Family___init___Floors,ch_Family___init___Floors,k20⟩,⟨cg_SplitFamily___init___Turns,cr_SplitFamily___init___Turns,ch_SplitFamily___init___Turns,k24⟩,⟨cg_Family___init___Turns,cr_Family___init___Turns,ch_Family___init___Turns,k23⟩,⟨cg_RingFamily___init___Codes,cr_RingFamily___init___Codes,ch_RingFamily___init___Codes,k28⟩,⟨cg_Family___init___Codes,cr_Family___init___Codes,ch_Family___init___Codes,k27⟩,⟨cg_RingFamily___init___Trees,cr_RingFamily___init___Trees,ch_RingFamily___init___Trees,k31⟩,⟨cg_Family___init___Trees,cr_Family___init___Trees,ch_Family___init___Trees,k30⟩,⟨cg_RingFamily___init___Cars,cr_RingFamily___init___Cars,ch_RingFamily___init___Cars,k34⟩,⟨cg_Family___init___Cars,cr_Family___init___Cars,ch_Family___init___Cars,k33⟩,na_Brackets_word,na_Stairs_word,na_Twins_word,na_Bows_word,na_Rooms_word,na_Floors_word,na_Turns_word,na_Codes_word,na_Trees_word,na_Cars_word,na_Brackets_least,na_Stairs_least,na_Twins_least,na_Bows_least,na_Rooms_least,na_Floors_least,na_Turns_least,na_Codes_least,na_Trees_least,na_Cars_least,PySem.W.mg_of X G nf_cars_rootage,PySem.W.mg_of X G nf_cars_leaves,PySem.W.mg_of X G nf_trees_rootage,PySem.W.mg_of X G nf_trees_leaves,PySem.W.mg_of X G nf_codes_rootage,PySem.W.mg_of X G nf_codes_leaves,PySem.W.mg_of X G nf_turns_height,PySem.W.mg_of X G nf_turns_returns,PySem.W.mg_of X G nf_turns_peaks,PySem.W.mg_of X G nf_floor_returns,PySem.W.mg_of X G nf_floor_peaks,PySem.W.mg_of X G nf_rooms_returns,PySem.W.mg_of X G nf_rooms_peaks,PySem.W.mg_of X G nf_bows_height,PySem.W.mg_of X G nf_bows_returns,PySem.W.mg_of X G nf_bows_peaks,PySem.W.mg_of X G nf_twins_height,PySem.W.mg_of X G nf_twins_returns,PySem.W.mg_of X G nf_twins_peaks,PySem.W.mg_of X G nf_stairs_height,PySem.W.mg_of X G nf_stairs_returns,PySem.W.mg_of X G nf_stairs_peaks,PySem.W.mg_of X G nf_brackets_height,PySem.W.mg_of X G nf_brackets_returns,PySem.W.mg_of X G nf_brackets_peaks⟩
 have F1:=fun_mk (st:=s_u37) l1 c1 k1
 have b1:=F1.binds (ps:=["_law_script","_law_k"]) fun _ _ _ _ _ _=>lenAll2 (fun _ _=>rfl)
 have F2:=fun_mk (st:=s_u40) l2 c2 k2
 have b2:=F2.binds (ps:=["_law_script","_law_turn","_law_many"]) fun _ _ _ _ _ _=>lenAll3 (fun _ _ _=>rfl)
 have F3:=fun_mk (st:=s_u45) l3 c3 k3
 have b3:=F3.binds (ps:=["_law_script","_law_size","_law_turn"]) fun _ _ _ _ _ _=>lenAll3 (fun _ _ _=>rfl)
 have F4:=fun_mk (st:=s_u32) l4 c4 k4
 have b4:=F4.binds (ps:=["_law_corners","_law_cuts_here"]) fun _ _ _ _ _ _=>lenAll2 (fun _ _=>rfl)
 have F5:=fun_mk (st:=s_u11) l5 c5 k5
 have b5:=F5.binds (ps:=["self","word","least"]) fun _ _ _ _ _ _=>lenAll3 (fun _ _ _=>rfl)
 have F6:=fun_mk (st:=s_u0) l6 c6 k6
 have b6:=F6.binds (ps:=["self","word"]) fun _ _ _ _ _ _=>lenAll2 (fun _ _=>rfl)
 have F7:=fun_mk (st:=s_u21) l7 c7 k7
 have b7:=F7.binds (ps:=["self"]) fun _ _ _ _ _ _=>lenAll1 (fun _=>rfl)
 have F8:=fun_mk (st:=s_u12) l8 c8 k8
 have b8:=F8.binds (ps:=["self","word","least"]) fun _ _ _ _ _ _=>lenAll3 (fun _ _ _=>rfl)
 have F9:=fun_mk (st:=s_u2) l9 c9 k9
 have b9:=F9.binds (ps:=["self","word"]) fun _ _ _ _ _ _=>lenAll2 (fun _ _=>rfl)
 have F10:=fun_mk (st:=s_u22) l10 c10 k10
 have b10:=F10.binds (ps:=["self"]) fun _ _ _ _ _ _=>lenAll1 (fun _=>rfl)
 have F11:=fun_mk (st:=s_u14) l11 c11 k11
 have b11:=F11.binds (ps:=["self","word","least"]) fun _ _ _ _ _ _=>lenAll3 (fun _ _ _=>rfl)
 have F12:=fun_mk (st:=s_u6) l12 c12 k12
 have b12:=F12.binds (ps:=["self","word"]) fun _ _ _ _ _ _=>lenAll2 (fun _ _=>rfl)
 have F13:=fun_mk (st:=s_u28) l13 c13 k13
 have b13:=F13.binds (ps:=["self"]) fun _ _ _ _ _ _=>lenAll1 (fun _=>rfl)
 have F14:=fun_mk (st:=s_u19) l14 c14 k14
 have b14:=F14.binds (ps:=["self","word","least"]) fun _ _ _ _ _ _=>lenAll3 (fun _ _ _=>rfl)
 have F15:=fun_mk (st:=s_u8) l15 c15 k15
 have b15:=F15.binds (ps:=["self","word"]) fun _ _ _ _ _ _=>lenAll2 (fun _ _=>rfl)
 have F16:=fun_mk (st:=s_u31) l16 c16 k16
 have b16:=F16.binds (ps:=["self"]) fun _ _ _ _ _ _=>lenAll1 (fun _=>rfl)
 have F17:=fun_mk (st:=s_u15) l17 c17 k17
 have b17:=F17.binds (ps:=["self","word","least"]) fun _ _ _ _ _ _=>lenAll3 (fun _ _ _=>rfl)
 have F18:=fun_mk (st:=s_u5) l18 c18 k18
 have b18:=F18.binds (ps:=["self","word"]) fun _ _ _ _ _ _=>lenAll2 (fun _ _=>rfl)
 have F19:=fun_mk (st:=s_u25) l19 c19 k19
 have b19:=F19.binds (ps:=["self"]) fun _ _ _ _ _ _=>lenAll1 (fun _=>rfl)
 have F20:=fun_mk (st:=s_u13) l20 c20 k20
 have b20:=F20.binds (ps:=["self","word","least"]) fun _ _ _ _ _ _=>lenAll3 (fun _ _ _=>rfl)
 have F21:=fun_mk (st:=s_u1) l21 c21 k21
 have b21:=F21.binds (ps:=["self","word"]) fun _ _ _ _ _ _=>lenAll2 (fun _ _=>rfl)
 have F22:=fun_mk (st:=s_u23) l22 c22 k22
 have b22:=F22.binds (ps:=["self"]) fun _ _ _ _ _ _=>lenAll1 (fun _=>rfl)
 have F23:=fun_mk (st:=s_u17) l23 c23 k23
 have b23:=F23.binds (ps:=["self","word","least"]) fun _ _ _ _ _ _=>lenAll3 (fun _ _ _=>rfl)
 have F24:=fun_mk (st:=s_u3) l24 c24 k24
 have b24:=F24.binds (ps:=["self","word"]) fun _ _ _ _ _ _=>lenAll2 (fun _ _=>rfl)
 have F25:=fun_mk (st:=s_u24) l25 c25 k25
 have b25:=F25.binds (ps:=["self"]) fun _ _ _ _ _ _=>lenAll1 (fun _=>rfl)
 have F26:=fun_mk (st:=s_u29) l26 c26 k26
 have b26:=F26.binds (ps:=[]) fun _ _ _ _ _ _=>lenAll0 rfl
 have F27:=fun_mk (st:=s_u16) l27 c27 k27
 have b27:=F27.binds (ps:=["self","word","least"]) fun _ _ _ _ _ _=>lenAll3 (fun _ _ _=>rfl)
 have F28:=fun_mk (st:=s_u7) l28 c28 k28
 have b28:=F28.binds (ps:=["self","word"]) fun _ _ _ _ _ _=>lenAll2 (fun _ _=>rfl)
 have F29:=fun_mk (st:=s_u27) l29 c29 k29
 have b29:=F29.binds (ps:=["self"]) fun _ _ _ _ _ _=>lenAll1 (fun _=>rfl)
 have F30:=fun_mk (st:=s_u18) l30 c30 k30
 have b30:=F30.binds (ps:=["self","word","least"]) fun _ _ _ _ _ _=>lenAll3 (fun _ _ _=>rfl)
 have F31:=fun_mk (st:=s_u9) l31 c31 k31
 have b31:=F31.binds (ps:=["self","word"]) fun _ _ _ _ _ _=>lenAll2 (fun _ _=>rfl)
 have F32:=fun_mk (st:=s_u26) l32 c32 k32
 have b32:=F32.binds (ps:=["self"]) fun _ _ _ _ _ _=>lenAll1 (fun _=>rfl)
 have F33:=fun_mk (st:=s_u20) l33 c33 k33
 have b33:=F33.binds (ps:=["self","word","least"]) fun _ _ _ _ _ _=>lenAll3 (fun _ _ _=>rfl)
 have F34:=fun_mk (st:=s_u10) l34 c34 k34
 have b34:=F34.binds (ps:=["self","word"]) fun _ _ _ _ _ _=>lenAll2 (fun _ _=>rfl)
 have F35:=fun_mk (st:=s_u30) l35 c35 k35
 have b35:=F35.binds (ps:=["self"]) fun _ _ _ _ _ _=>lenAll1 (fun _=>rfl)
 have F36:=fun_mk (st:=s_u34) l36 c36 k36
 have b36:=F36.binds (ps:=[]) fun _ _ _ _ _ _=>lenAll0 rfl
 have F37:=fun_mk (st:=s_u42) l37 c37 k37
 have b37:=F37.binds (ps:=["word"]) fun _ _ _ _ _ _=>lenAll1 (fun _=>rfl)
 have F38:=fun_mk (st:=s_u38) l38 c38 k38
 have b38:=F38.binds (ps:=[]) fun _ _ _ _ _ _=>lenAll0 rfl
 have F39:=fun_mk (st:=s_u47) l39 c39 k39
 have b39:=F39.binds (ps:=["word"]) fun _ _ _ _ _ _=>lenAll1 (fun _=>rfl)
 have F40:=fun_mk (st:=s_u46) l40 c40 k40
 have b40:=F40.binds (ps:=["pairs"]) fun _ _ _ _ _ _=>lenAll1 (fun _=>rfl)
 have F41:=fun_mk (st:=s_u41) l41 c41 k41
 have b41:=F41.binds (ps:=["corners","a","b"]) fun _ _ _ _ _ _=>lenAll3 (fun _ _ _=>rfl)
 have F42:=fun_mk (st:=s_u33) l42 c42 k42
 have b42:=F42.binds (ps:=["self","thing"]) fun _ _ _ _ _ _=>lenAll2 (fun _ _=>rfl)
 have F43:=fun_mk (st:=s_u4) l43 c43 k43
 have b43:=F43.binds (ps:=["self","thing"]) fun _ _ _ _ _ _=>lenAll2 (fun _ _=>rfl)
 have F44:=fun_mk (st:=s_u36) l44 c44 k44
 have b44:=F44.binds (ps:=["cuts","begin","end"]) fun _ _ _ _ _ _=>lenAll3 (fun _ _ _=>rfl)
 have F45:=fun_mk (st:=s_u44) l45 c45 k45
 have b45:=F45.binds (ps:=["thing"]) fun _ _ _ _ _ _=>lenAll1 (fun _=>rfl)
 have F46:=fun_mk (st:=s_u39) l46 c46 k46
 have b46:=F46.binds (ps:=["thing"]) fun _ _ _ _ _ _=>lenAll1 (fun _=>rfl)
 have F47:=fun_mk (st:=s_u35) l47 c47 k47
 have b47:=F47.binds (ps:=["thing"]) fun _ _ _ _ _ _=>lenAll1 (fun _=>rfl)
 have F48:=fun_mk (st:=s_u48) l48 c48 k48
 have b48:=F48.binds (ps:=["word","name","thing"]) fun _ _ _ _ _ _=>lenAll3 (fun _ _ _=>rfl)
 have F49:=fun_mk (st:=s_u43) l49 c49 k49
 have b49:=F49.binds (ps:=["_law_word","_law_names","_law_thing","_law_due"]) fun _ _ _ _ _ _=>lenAll4 (fun _ _ _ _=>rfl)
 have F50:=fun_mk (st:=s_u49) l50 c50 k50
 have m_len:=PySem.W.mg_none_of X G z_len
 have m_range:=PySem.W.mg_none_of X G z_range
 have m_sorted:=PySem.W.mg_none_of X G z_sorted
 have m_list:=PySem.W.mg_none_of X G z_list
 have m_max:=PySem.W.mg_none_of X G z_max
 have m_set:=PySem.W.mg_none_of X G z_set
 have m_all:=PySem.W.mg_none_of X G z_all
 have m_isinstance:=PySem.W.mg_none_of X G z_isinstance
 have m_int:=PySem.W.mg_none_of X G z_int
 have m_bool:=PySem.W.mg_none_of X G z_bool
 refine ⟨PySem.W.fnOf "law" "law" (defArgs s_u49) (defBody s_u49) (defScope s_u49) .none kV50 dc50 pm50 an50 cd50 ct50,fun s v=>.of_eq rfl,fun base _ _=>?_⟩
 have d_u37:Def l.prog w K mg base "_law_cell_at" ["_law_script","_law_k"] 1 (sp_u37 K _) f1 _:=⟨(ok_u37 (P:=l.prog) (w:=w) (base:=base) CA F1 m_len).up,b1,k1,PySem.W.mg_of X G a1⟩
 have d_u40:Def l.prog w K mg base "_law_draws" ["_law_script","_law_turn","_law_many"] 1 (sp_u40 K _) f2 _:=⟨(ok_u40 (P:=l.prog) (w:=w) (base:=base) CA F2 m_range m_len).up,b2,k2,PySem.W.mg_of X G a2⟩
 have d_u45:Def l.prog w K mg base "_law_cuts" ["_law_script","_law_size","_law_turn"] 2 (sp_u45 K _) f3 _:=⟨(ok_u45 (P:=l.prog) (w:=w) (base:=base) CA F3 d_u40 m_len m_sorted).up,b3,k3,PySem.W.mg_of X G a3⟩
 have d_u32:Def l.prog w K mg base "_law_triangles" ["_law_corners","_law_cuts_here"] 1 (sp_u32 K _) f4 _:=⟨(ok_u32 (P:=l.prog) (w:=w) (base:=base) CA F4 m_range m_list).up,b4,k4,PySem.W.mg_of X G a4⟩
 have d_u11:MDef l.prog w K mg base ["self","word","least"] 1 (sp_u11 K _) f5 _:=⟨(ok_u11 (P:=l.prog) (w:=w) (base:=base) CA F5).up,b5⟩
 have d_u0:MDef l.prog w K mg base ["self","word"] 3 (sp_u0 K _) f6 _:=⟨(ok_u0 (P:=l.prog) (w:=w) (base:=base) CA F6 d_u11).up,b6⟩
 have d_u21:MDef l.prog w K mg base ["self"] 5 (sp_u21 K _) f7 _:=⟨(ok_u21 (P:=l.prog) (w:=w) (base:=base) CA F7 d_u0).up,b7⟩
 have d_u12:MDef l.prog w K mg base ["self","word","least"] 1 (sp_u12 K _) f8 _:=⟨(ok_u12 (P:=l.prog) (w:=w) (base:=base) CA F8).up,b8⟩
 have d_u2:MDef l.prog w K mg base ["self","word"] 3 (sp_u2 K _) f9 _:=⟨(ok_u2 (P:=l.prog) (w:=w) (base:=base) CA F9 d_u12).up,b9⟩
 have d_u22:MDef l.prog w K mg base ["self"] 5 (sp_u22 K _) f10 _:=⟨(ok_u22 (P:=l.prog) (w:=w) (base:=base) CA F10 d_u2).up,b10⟩
 have d_u14:MDef l.prog w K mg base ["self","word","least"] 1 (sp_u14 K _) f11 _:=⟨(ok_u14 (P:=l.prog) (w:=w) (base:=base) CA F11).up,b11⟩
 have d_u6:MDef l.prog w K mg base ["self","word"] 3 (sp_u6 K _) f12 _:=⟨(ok_u6 (P:=l.prog) (w:=w) (base:=base) CA F12 d_u14).up,b12⟩
 have d_u28:MDef l.prog w K mg base ["self"] 5 (sp_u28 K _) f13 _:=⟨(ok_u28 (P:=l.prog) (w:=w) (base:=base) CA F13 d_u6).up,b13⟩
 have d_u19:MDef l.prog w K mg base ["self","word","least"] 1 (sp_u19 K _) f14 _:=⟨(ok_u19 (P:=l.prog) (w:=w) (base:=base) CA F14).up,b14⟩
 have d_u8:MDef l.prog w K mg base ["self","word"] 3 (sp_u8 K _) f15 _:=⟨(ok_u8 (P:=l.prog) (w:=w) (base:=base) CA F15 d_u19).up,b15⟩
 have d_u31:MDef l.prog w K mg base ["self"] 5 (sp_u31 K _) f16 _:=⟨(ok_u31 (P:=l.prog) (w:=w) (base:=base) CA F16 d_u8).up,b16⟩
 have d_u15:MDef l.prog w K mg base ["self","word","least"] 1 (sp_u15 K _) f17 _:=⟨(ok_u15 (P:=l.prog) (w:=w) (base:=base) CA F17).up,b17⟩
 have d_u5:MDef l.prog w K mg base ["self","word"] 3 (sp_u5 K _) f18 _:=⟨(ok_u5 (P:=l.prog) (w:=w) (base:=base) CA F18 d_u15).up,b18⟩
 have d_u25:MDef l.prog w K mg base ["self"] 5 (sp_u25 K _) f19 _:=⟨(ok_u25 (P:=l.prog) (w:=w) (base:=base) CA F19 d_u5).up,b19⟩
 have d_u13:MDef l.prog w K mg base ["self","word","least"] 1 (sp_u13 K _) f20 _:=⟨(ok_u13 (P:=l.prog) (w:=w) (base:=base) CA F20).up,b20⟩
 have d_u1:MDef l.prog w K mg base ["self","word"] 3 (sp_u1 K _) f21 _:=⟨(ok_u1 (P:=l.prog) (w:=w) (base:=base) CA F21 d_u13).up,b21⟩
 have d_u23:MDef l.prog w K mg base ["self"] 5 (sp_u23 K _) f22 _:=⟨(ok_u23 (P:=l.prog) (w:=w) (base:=base) CA F22 d_u1).up,b22⟩
 have d_u17:MDef l.prog w K mg base ["self","word","least"] 1 (sp_u17 K _) f23 _:=⟨(ok_u17 (P:=l.prog) (w:=w) (base:=base) CA F23).up,b23⟩
 have d_u3:MDef l.prog w K mg base ["self","word"] 3 (sp_u3 K _) f24 _:=⟨(ok_u3 (P:=l.prog) (w:=w) (base:=base) CA F24 d_u17).up,b24⟩
 have d_u24:MDef l.prog w K mg base ["self"] 5 (sp_u24 K _) f25 _:=⟨(ok_u24 (P:=l.prog) (w:=w) (base:=base) CA F25 d_u3).up,b25⟩
 have d_u29:Def l.prog w K mg base "split_families" [] 7 (sp_u29 K _) f26 _:=⟨(ok_u29 (P:=l.prog) (w:=w) (base:=base) CA F26 d_u21 d_u22 d_u28 d_u31 d_u25 d_u23 d_u24).up,b26,k26,PySem.W.mg_of X G a26⟩
 have d_u16:MDef l.prog w K mg base ["self","word","least"] 1 (sp_u16 K _) f27 _:=⟨(ok_u16 (P:=l.prog) (w:=w) (base:=base) CA F27).up,b27⟩
 have d_u7:MDef l.prog w K mg base ["self","word"] 3 (sp_u7 K _) f28 _:=⟨(ok_u7 (P:=l.prog) (w:=w) (base:=base) CA F28 d_u16).up,b28⟩
 have d_u27:MDef l.prog w K mg base ["self"] 5 (sp_u27 K _) f29 _:=⟨(ok_u27 (P:=l.prog) (w:=w) (base:=base) CA F29 d_u7).up,b29⟩
 have d_u18:MDef l.prog w K mg base ["self","word","least"] 1 (sp_u18 K _) f30 _:=⟨(ok_u18 (P:=l.prog) (w:=w) (base:=base) CA F30).up,b30⟩
 have d_u9:MDef l.prog w K mg base ["self","word"] 3 (sp_u9 K _) f31 _:=⟨(ok_u9 (P:=l.prog) (w:=w) (base:=base) CA F31 d_u18).up,b31⟩
 have d_u26:MDef l.prog w K mg base ["self"] 5 (sp_u26 K _) f32 _:=⟨(ok_u26 (P:=l.prog) (w:=w) (base:=base) CA F32 d_u9).up,b32⟩
 have d_u20:MDef l.prog w K mg base ["self","word","least"] 1 (sp_u20 K _) f33 _:=⟨(ok_u20 (P:=l.prog) (w:=w) (base:=base) CA F33).up,b33⟩
 have d_u10:MDef l.prog w K mg base ["self","word"] 3 (sp_u10 K _) f34 _:=⟨(ok_u10 (P:=l.prog) (w:=w) (base:=base) CA F34 d_u20).up,b34⟩
 have d_u30:MDef l.prog w K mg base ["self"] 5 (sp_u30 K _) f35 _:=⟨(ok_u30 (P:=l.prog) (w:=w) (base:=base) CA F35 d_u10).up,b35⟩
 have d_u34:Def l.prog w K mg base "ring_families" [] 7 (sp_u34 K _) f36 _:=⟨(ok_u34 (P:=l.prog) (w:=w) (base:=base) CA F36 d_u27 d_u26 d_u30).up,b36,k36,PySem.W.mg_of X G a36⟩
 have d_u42:Def l.prog w K mg base "family_of" ["word"] 8 (sp_u42 K _) f37 _:=⟨(ok_u42 (P:=l.prog) (w:=w) (base:=base) CA F37 d_u29 d_u34).up,b37,k37,PySem.W.mg_of X G a37⟩
 have d_u38:Def l.prog w K mg base "all_measures" [] 1 (sp_u38 K _) f38 _:=⟨(ok_u38 (P:=l.prog) (w:=w) (base:=base) CA F38).up,b38,k38,PySem.W.mg_of X G a38⟩
 have d_u47:Def l.prog w K mg base "marks_of" ["word"] 9 (sp_u47 K _) f39 _:=⟨(ok_u47 (P:=l.prog) (w:=w) (base:=base) CA F39 d_u42 d_u38 m_list).up,b39,k39,PySem.W.mg_of X G a39⟩
 have d_u46:Def l.prog w K mg base "any_cross" ["pairs"] 1 (sp_u46 K _) f40 _:=⟨(ok_u46 (P:=l.prog) (w:=w) (base:=base) CA F40).up,b40,k40,PySem.W.mg_of X G a40⟩
 have d_u41:Def l.prog w K mg base "may_be_cut" ["corners","a","b"] 1 (sp_u41 K _) f41 _:=⟨(ok_u41 (P:=l.prog) (w:=w) (base:=base) CA F41).up,b41,k41,PySem.W.mg_of X G a41⟩
 have d_u33:MDef l.prog w K mg base ["self","thing"] 2 (sp_u33 K _) f42 _:=⟨(ok_u33 (P:=l.prog) (w:=w) (base:=base) CA F42 d_u46 d_u41 m_len m_max m_sorted m_set m_all).up,b42⟩
 have d_u4:MDef l.prog w K mg base ["self","thing"] 3 (sp_u4 K _) f43 _:=⟨(ok_u4 (P:=l.prog) (w:=w) (base:=base) CA F43 d_u33).up,b43⟩
 have d_u36:Def l.prog w K mg base "third_corner" ["cuts","begin","end"] 1 (sp_u36 K _) f44 _:=⟨(ok_u36 (P:=l.prog) (w:=w) (base:=base) CA F44 m_max).up,b44,k44,PySem.W.mg_of X G a44⟩
 have d_u44:Def l.prog w K mg base "triangles" ["thing"] 2 (sp_u44 K _) f45 _:=⟨(ok_u44 (P:=l.prog) (w:=w) (base:=base) CA F45 d_u36).up,b45,k45,PySem.W.mg_of X G a45⟩
 have d_u39:Def l.prog w K mg base "floor_peaks" ["thing"] 3 (sp_u39 K _) f46 _:=⟨(ok_u39 (P:=l.prog) (w:=w) (base:=base) CA F46 d_u44 m_len).up,b46,k46,PySem.W.mg_of X G a46⟩
 have d_u35:Def l.prog w K mg base "floor_returns" ["thing"] 3 (sp_u35 K _) f47 _:=⟨(ok_u35 (P:=l.prog) (w:=w) (base:=base) CA F47 d_u44 m_len).up,b47,k47,PySem.W.mg_of X G a47⟩
 have d_u48:Def l.prog w K mg base "mark" ["word","name","thing"] 10 (sp_u48 K _) f48 _:=⟨(ok_u48 (P:=l.prog) (w:=w) (base:=base) CA F48 d_u42 d_u47 d_u4 d_u38 d_u39 d_u35).up,b48,k48,PySem.W.mg_of X G a48⟩
 have d_u43:Def l.prog w K mg base "_law_told" ["_law_word","_law_names","_law_thing","_law_due"] 11 (sp_u43 K _) f49 _:=⟨(ok_u43 (P:=l.prog) (w:=w) (base:=base) CA F49 d_u48 m_range m_len m_isinstance m_int m_bool).up,b49,k49,PySem.W.mg_of X G a49⟩
 exact ok_u49 (P:=l.prog) (w:=w) (base:=base) CA F50 d_u37 d_u45 d_u32 d_u43 m_int m_list
theorem walk {l:PySem.W.OpenLaw} {q:Program} {loose:List Str} {XP:(Str→Option Value)→Heap→Prop} {YP:World→Heap→Prop} {d:DefRec} {K:Params→PySem.W.Frag} (hn:l.most=some 63) (hdf:d.params.defaults=[])
  (hY:∀ (w:World) (h:Heap),YP w h→(K w.params).In h)
  (F:∀ (w:World) (mg:Str→Option Value) (fa:Addr) (h:Heap),(K w.params).In h→h.Ns mainGlobals mg→mg d.name=some (.ref fa) →
   ∃ fd:FuncData,(∀ (s:Shared) (u:Value),BindsTo s fd ⟨[u],[]⟩ [("_law_script",u)])∧∀ base:Heap,(K w.params).In base→base.Ns mainGlobals mg→FnOk l.prog w (K w.params) mg base CX0 12 fa fd ["_law_script"] (spL (K w.params))) :
  PySem.W.WalkO q loose XP YP l.row.toRowW d [] (fun f vs=>PySem.call f vs) :=
 L2.walk_of (n:=63) (k:=12) (x:="_law_script") (CX:=fun _=>CX0) (sp:=fun w=>spL (K w.params)) hn (by decide) hdf ⟨rfl,by decide,by decide⟩ hY F (fun _ _ a ns hl _ hS=>⟨a,ns,rfl,hS,hl,fun _=>rfl⟩) fun _ _ _ _ _ z=>z
end Ck
open L2
namespace Ck
open PySem PySem.W PySem.Calls PyProof.Rows
noncomputable def hB:List Stmt:=behindTheImports PySem.Challenge.pw_countkin_k50_marks_of_floors
noncomputable def hE:Env:={ scope:=PySem.Challenge.pw_countkin_k50_marks_of_floors.main.scope,locals:=mainNs,globals:=mainNs,cells:=[],code:=(.ref 13),frame:=some 14 }
noncomputable def hC:Code:=.body hB hE
noncomputable def hTree (P:Params):BT:=(.node (boot_o_0 P) (.node (boot_o_1 P) (.node (boot_o_3 P) (.node (boot_o_7 P) .nil .nil) (.node ⟨(.type "tuple"),none,(.seq #[] 0),#[]⟩ .nil .nil)) (.node (boot_o_5 P) (.node (boot_o_9 P) .nil .nil) (.node ⟨(.type "code"),none,(.fields #[(.str "<module>" 182),(.str "<module>" 183),(.str "/claim/cut.py" 184),(.int 1 0),(.int 0 0),(.int 0 0),(.int 0 0),(.int 0 0),(.ref 11),(.bool false),(.int 181 0),(.ref 12),.none,.none,.none,.none,(.int 185 0),(.int 1 0),(.str "/claim/cut.py" 186)]),#[]⟩ .nil .nil))) (.node (boot_o_2 P) (.node (boot_o_4 P) (.node (boot_o_8 P) .nil .nil) (.node ⟨.none,none,(.fields #[]),#[]⟩ .nil .nil)) (.node (boot_o_6 P) (.node (boot_o_10 P) .nil .nil) (.node ⟨(.type "frame"),none,.plain,#[(some (.ref 13)),(some (.ref 3)),(some (.ref 3)),none,(some (.str "__main__" 164)),none,(some (.ref 0))]⟩ .nil .nil))))
noncomputable def hS (w:World) (os:OsState):SharedT:=⟨hTree w.params,15,({}:Life),Array.mk [],⟨0,0,0,0⟩,187,os⟩
noncomputable def hQ:Program:={ PySem.Challenge.pw_countkin_k50_marks_of_floors with main:={ PySem.Challenge.pw_countkin_k50_marks_of_floors.main with body:=[top 91] } }
noncomputable def hL:List Str:=(Str.ofString "_wall"::Str.ofString "KinError"::Str.ofString "NoSize"::Str.ofString "NoThing"::Str.ofString "NoFamily"::Str.ofString "NoMark"::Str.ofString "flat"::Str.ofString "each_once"::Str.ofString "any_cross"::Str.ofString "GREATEST_SIZE"::Str.ofString "by_rule"::Str.ofString "ring_many"::Str.ofString "Family"::Str.ofString "SplitFamily"::Str.ofString "Bows"::Str.ofString "Rooms"::Str.ofString "neighbours"::Str.ofString "RingFamily"::Str.ofString "Codes"::Str.ofString "Cars"::Str.ofString "Trees"::Str.ofString "comes_to_0"::Str.ofString "Floors"::Str.ofString "may_be_cut"::Str.ofString "third_corner"::Str.ofString "Turns"::Str.ofString "comes_off_a_stack"::Str.ofString "closes"::Str.ofString "Brackets"::Str.ofString "Stairs"::Str.ofString "Twins"::Str.ofString "split_families"::Str.ofString "ring_families"::Str.ofString "family_of"::Str.ofString "missing"::Str.ofString "trees_leaves"::Str.ofString "trees_rootage"::Str.ofString "codes_leaves"::Str.ofString "codes_rootage"::Str.ofString "cars_leaves"::Str.ofString "cars_rootage"::Str.ofString "brackets_peaks"::Str.ofString "depths"::Str.ofString "brackets_returns"::Str.ofString "stairs_peaks"::Str.ofString "stairs_returns"::Str.ofString "twins_peaks"::Str.ofString "twins_returns"::Str.ofString "bows_peaks"::Str.ofString "bows_over"::Str.ofString "bows_returns"::Str.ofString "rooms_peaks"::Str.ofString "rooms_around"::Str.ofString "rooms_returns"::Str.ofString "triangles"::Str.ofString "floor_peaks"::Str.ofString "floor_returns"::Str.ofString "turns_peaks"::Str.ofString "turns_returns"::Str.ofString "brackets_height"::Str.ofString "stairs_height"::Str.ofString "twins_height"::Str.ofString "bows_height"::Str.ofString "turns_height"::Str.ofString "all_measures"::Str.ofString "marks_of"::Str.ofString "mark"::Str.ofString "_law_cell_at"::Str.ofString "_law_draws"::Str.ofString "_law_cuts"::Str.ofString "_law_told"::Str.ofString "_law_triangles"::[])
noncomputable def hK:Params→Frag:=fun P=>(nat_lit 2,⟨.none,none,(.dict #[] 0),#[]⟩)::(nat_lit 3,⟨(.type "dict"),none,(.dict (List.toArray (⟨PyData.keyHash P "__name__",.str "__name__" 165,(.str "law_countkin_k50_marks_of_floors" 1524)⟩::⟨PyData.keyHash P "__doc__",.str "__doc__" 166,.none⟩::⟨PyData.keyHash P "__package__",.str "__package__" 167,.none⟩::⟨PyData.keyHash P "__loader__",.str "__loader__" 168,(.builtin "__main__.__loader__#opaque")⟩::⟨PyData.keyHash P "__spec__",.str "__spec__" 169,.none⟩::⟨PyData.keyHash P "__annotations__",.str "__annotations__" 170,(.ref 6)⟩::⟨PyData.keyHash P "__builtins__",.str "__builtins__" 171,(.ref 4)⟩::⟨PyData.keyHash P "__file__",.str "__file__" 173,(.str "/claim/cut.py" 172)⟩::⟨PyData.keyHash P "__cached__",.str "__cached__" 174,.none⟩::⟨PyData.keyHash P "_wall",.str "_wall" 193,(.ref 21)⟩::⟨PyData.keyHash P "KinError",.str "KinError" 213,(.ref 31)⟩::⟨PyData.keyHash P "NoSize",.str "NoSize" 229,(.ref 44)⟩::⟨PyData.keyHash P "NoThing",.str "NoThing" 245,(.ref 56)⟩::⟨PyData.keyHash P "NoFamily",.str "NoFamily" 261,(.ref 68)⟩::⟨PyData.keyHash P "NoMark",.str "NoMark" 277,(.ref 80)⟩::⟨PyData.keyHash P "flat",.str "flat" 288,(.ref 89)⟩::⟨PyData.keyHash P "each_once",.str "each_once" 295,(.ref 96)⟩::⟨PyData.keyHash P "any_cross",.str "any_cross" 306,(.ref 103)⟩::⟨PyData.keyHash P "GREATEST_SIZE",.str "GREATEST_SIZE" 310,(.int 40 309)⟩::⟨PyData.keyHash P "by_rule",.str "by_rule" 319,(.ref 110)⟩::⟨PyData.keyHash P "ring_many",.str "ring_many" 328,(.ref 117)⟩::⟨PyData.keyHash P "Family",.str "Family" 443,(.ref 204)⟩::⟨PyData.keyHash P "SplitFamily",.str "SplitFamily" 535,(.ref 281)⟩::⟨PyData.keyHash P "Bows",.str "Bows" 598,(.ref 333)⟩::⟨PyData.keyHash P "Rooms",.str "Rooms" 657,(.ref 383)⟩::⟨PyData.keyHash P "neighbours",.str "neighbours" 663,(.ref 390)⟩::⟨PyData.keyHash P "RingFamily",.str "RingFamily" 730,(.ref 442)⟩::⟨PyData.keyHash P "Codes",.str "Codes" 783,(.ref 487)⟩::⟨PyData.keyHash P "Cars",.str "Cars" 838,(.ref 532)⟩::⟨PyData.keyHash P "Trees",.str "Trees" 893,(.ref 577)⟩::⟨PyData.keyHash P "comes_to_0",.str "comes_to_0" 903,(.ref 586)⟩::⟨PyData.keyHash P "Floors",.str "Floors" 966,(.ref 636)⟩::⟨PyData.keyHash P "may_be_cut",.str "may_be_cut" 975,(.ref 645)⟩::⟨PyData.keyHash P "third_corner",.str "third_corner" 981,(.ref 650)⟩::⟨PyData.keyHash P "Turns",.str "Turns" 1046,(.ref 702)⟩::⟨PyData.keyHash P "comes_off_a_stack",.str "comes_off_a_stack" 1056,(.ref 711)⟩::⟨PyData.keyHash P "closes",.str "closes" 1067,(.ref 718)⟩::⟨PyData.keyHash P "Brackets",.str "Brackets" 1132,(.ref 770)⟩::⟨PyData.keyHash P "Stairs",.str "Stairs" 1198,(.ref 824)⟩::⟨PyData.keyHash P "Twins",.str "Twins" 1266,(.ref 878)⟩::⟨PyData.keyHash P "split_families",.str "split_families" 1274,(.ref 887)⟩::⟨PyData.keyHash P "ring_families",.str "ring_families" 1280,(.ref 894)⟩::⟨PyData.keyHash P "family_of",.str "family_of" 1288,(.ref 901)⟩::⟨PyData.keyHash P "missing",.str "missing" 1296,(.ref 906)⟩::⟨PyData.keyHash P "trees_leaves",.str "trees_leaves" 1303,(.ref 913)⟩::⟨PyData.keyHash P "trees_rootage",.str "trees_rootage" 1310,(.ref 920)⟩::⟨PyData.keyHash P "codes_leaves",.str "codes_leaves" 1317,(.ref 927)⟩::⟨PyData.keyHash P "codes_rootage",.str "codes_rootage" 1324,(.ref 934)⟩::⟨PyData.keyHash P "cars_leaves",.str "cars_leaves" 1331,(.ref 941)⟩::⟨PyData.keyHash P "cars_rootage",.str "cars_rootage" 1338,(.ref 948)⟩::⟨PyData.keyHash P "brackets_peaks",.str "brackets_peaks" 1347,(.ref 955)⟩::⟨PyData.keyHash P "depths",.str "depths" 1357,(.ref 962)⟩::⟨PyData.keyHash P "brackets_returns",.str "brackets_returns" 1364,(.ref 969)⟩::⟨PyData.keyHash P "stairs_peaks",.str "stairs_peaks" 1371,(.ref 976)⟩::⟨PyData.keyHash P "stairs_returns",.str "stairs_returns" 1377,(.ref 981)⟩::⟨PyData.keyHash P "twins_peaks",.str "twins_peaks" 1387,(.ref 988)⟩::⟨PyData.keyHash P "twins_returns",.str "twins_returns" 1396,(.ref 995)⟩::⟨PyData.keyHash P "bows_peaks",.str "bows_peaks" 1402,(.ref 1000)⟩::⟨PyData.keyHash P "bows_over",.str "bows_over" 1408,(.ref 1005)⟩::⟨PyData.keyHash P "bows_returns",.str "bows_returns" 1414,(.ref 1010)⟩::⟨PyData.keyHash P "rooms_peaks",.str "rooms_peaks" 1421,(.ref 1017)⟩::⟨PyData.keyHash P "rooms_around",.str "rooms_around" 1427,(.ref 1022)⟩::⟨PyData.keyHash P "rooms_returns",.str "rooms_returns" 1433,(.ref 1027)⟩::⟨PyData.keyHash P "triangles",.str "triangles" 1439,(.ref 1032)⟩::⟨PyData.keyHash P "floor_peaks",.str "floor_peaks" 1445,(.ref 1037)⟩::⟨PyData.keyHash P "floor_returns",.str "floor_returns" 1451,(.ref 1042)⟩::⟨PyData.keyHash P "turns_peaks",.str "turns_peaks" 1457,(.ref 1047)⟩::⟨PyData.keyHash P "turns_returns",.str "turns_returns" 1463,(.ref 1052)⟩::⟨PyData.keyHash P "brackets_height",.str "brackets_height" 1472,(.ref 1059)⟩::⟨PyData.keyHash P "stairs_height",.str "stairs_height" 1478,(.ref 1064)⟩::⟨PyData.keyHash P "twins_height",.str "twins_height" 1485,(.ref 1071)⟩::⟨PyData.keyHash P "bows_height",.str "bows_height" 1491,(.ref 1076)⟩::⟨PyData.keyHash P "turns_height",.str "turns_height" 1497,(.ref 1081)⟩::⟨PyData.keyHash P "all_measures",.str "all_measures" 1505,(.ref 1088)⟩::⟨PyData.keyHash P "marks_of",.str "marks_of" 1513,(.ref 1095)⟩::⟨PyData.keyHash P "mark",.str "mark" 1523,(.ref 1102)⟩::⟨PyData.keyHash P "_law_cell_at",.str "_law_cell_at" 1533,(.ref 1109)⟩::⟨PyData.keyHash P "_law_draws",.str "_law_draws" 1539,(.ref 1114)⟩::⟨PyData.keyHash P "_law_cuts",.str "_law_cuts" 1557,(.ref 1121)⟩::⟨PyData.keyHash P "_law_told",.str "_law_told" 1570,(.ref 1128)⟩::⟨PyData.keyHash P "_law_triangles",.str "_law_triangles" 1585,(.ref 1135)⟩::⟨PyData.keyHash P "law",.str "law" 1600,(.ref 1142)⟩::[])) 82),#[]⟩)::(nat_lit 15,⟨(.type "tuple"),none,(.seq #[] 0),#[]⟩)::(nat_lit 17,⟨(.type "tuple"),none,(.seq #[(.str "k" 190)] 0),#[]⟩)::(nat_lit 18,⟨(.type "tuple"),none,(.seq #[] 0),#[]⟩)::(nat_lit 20,⟨(.type "code"),none,(.fields #[(.str "_wall" 187),(.str "_wall" 188),(.str "/claim/cut.py" 189),(.int 1 0),(.int 1 0),(.int 0 0),(.int 0 0),(.int 3 0),(.ref 15),(.bool true),(.int 181 0),(.ref 16),.none,(.ref 17),(.ref 18),(.ref 19),(.int 191 0),(.int 1 0),(.str "/claim/cut.py" 192)]),#[]⟩)::(nat_lit 21,⟨(.type "function"),none,(.func (fnOf "_wall" "_wall" (defArgs (top 0)) (defBody (top 0)) (defScope (top 0)) .none .none .none (.str "__main__" 164) none (.ref 20) .none)),#[]⟩)::(nat_lit 22,⟨(.type "tuple"),none,(.seq #[(.type "ValueError")] 0),#[]⟩)::(nat_lit 29,⟨(.type "tuple"),none,(.seq #[] 0),#[]⟩)::(nat_lit 30,⟨(.type "dict"),none,(.dict #[⟨PyData.keyHash P "__module__",.str "__module__" 203,(.str "countkin.errors" 194)⟩,⟨PyData.keyHash P "__firstlineno__",.str "__firstlineno__" 207,(.int 5 206)⟩,⟨PyData.keyHash P "__static_attributes__",.str "__static_attributes__" 208,(.ref 29)⟩,⟨PyData.keyHash P "__weakref__",.str "__weakref__" 210,(.ref 32)⟩,⟨PyData.keyHash P "__doc__",.str "__doc__" 211,.none⟩] 3),#[]⟩)::(nat_lit 31,⟨(.type "type"),none,(.cls ⟨"KinError",[(.type "ValueError")],[(.ref 31),(.type "ValueError"),(.type "Exception"),(.type "BaseException"),(.type "object")],30,"KinError",true,[],[(.ref 44),(.ref 56),(.ref 68),(.ref 80)],false,none,false⟩),#[(some (.ref 22)),none,(some (.str "KinError" 196)),(some (.str "KinError" 204)),(some (.builtin "ValueError.__new__")),(some (.bool true))]⟩)::(nat_lit 32,⟨(.type "getset_descriptor"),none,(.fields #[(.str "__weakref__" 209),(.ref 31),(.builtin "ExceptionGroup.__weakref__"),.none]),#[]⟩)::(nat_lit 35,⟨(.type "tuple"),none,(.seq #[(.ref 31)] 0),#[]⟩)::(nat_lit 42,⟨(.type "tuple"),none,(.seq #[] 0),#[]⟩)::(nat_lit 43,⟨(.type "dict"),none,(.dict #[⟨PyData.keyHash P "__module__",.str "__module__" 221,(.str "countkin.errors" 194)⟩,⟨PyData.keyHash P "__firstlineno__",.str "__firstlineno__" 225,(.int 7 224)⟩,⟨PyData.keyHash P "__static_attributes__",.str "__static_attributes__" 226,(.ref 42)⟩,⟨PyData.keyHash P "__doc__",.str "__doc__" 227,.none⟩] 2),#[]⟩)::(nat_lit 44,⟨(.type "type"),none,(.cls ⟨"NoSize",[(.ref 31)],[(.ref 44),(.ref 31),(.type "ValueError"),(.type "Exception"),(.type "BaseException"),(.type "object")],43,"NoSize",true,[],[],false,none,false⟩),#[(some (.ref 35)),none,(some (.str "NoSize" 214)),(some (.str "NoSize" 222)),(some (.builtin "ValueError.__new__")),(some (.bool true))]⟩)::(nat_lit 47,⟨(.type "tuple"),none,(.seq #[(.ref 31)] 0),#[]⟩)::(nat_lit 54,⟨(.type "tuple"),none,(.seq #[] 0),#[]⟩)::(nat_lit 55,⟨(.type "dict"),none,(.dict #[⟨PyData.keyHash P "__module__",.str "__module__" 237,(.str "countkin.errors" 194)⟩,⟨PyData.keyHash P "__firstlineno__",.str "__firstlineno__" 241,(.int 9 240)⟩,⟨PyData.keyHash P "__static_attributes__",.str "__static_attributes__" 242,(.ref 54)⟩,⟨PyData.keyHash P "__doc__",.str "__doc__" 243,.none⟩] 2),#[]⟩)::(nat_lit 56,⟨(.type "type"),none,(.cls ⟨"NoThing",[(.ref 31)],[(.ref 56),(.ref 31),(.type "ValueError"),(.type "Exception"),(.type "BaseException"),(.type "object")],55,"NoThing",true,[],[],false,none,false⟩),#[(some (.ref 47)),none,(some (.str "NoThing" 230)),(some (.str "NoThing" 238)),(some (.builtin "ValueError.__new__")),(some (.bool true))]⟩)::(nat_lit 59,⟨(.type "tuple"),none,(.seq #[(.ref 31)] 0),#[]⟩)::(nat_lit 66,⟨(.type "tuple"),none,(.seq #[] 0),#[]⟩)::(nat_lit 67,⟨(.type "dict"),none,(.dict #[⟨PyData.keyHash P "__module__",.str "__module__" 253,(.str "countkin.errors" 194)⟩,⟨PyData.keyHash P "__firstlineno__",.str "__firstlineno__" 257,(.int 11 256)⟩,⟨PyData.keyHash P "__static_attributes__",.str "__static_attributes__" 258,(.ref 66)⟩,⟨PyData.keyHash P "__doc__",.str "__doc__" 259,.none⟩] 2),#[]⟩)::(nat_lit 68,⟨(.type "type"),none,(.cls ⟨"NoFamily",[(.ref 31)],[(.ref 68),(.ref 31),(.type "ValueError"),(.type "Exception"),(.type "BaseException"),(.type "object")],67,"NoFamily",true,[],[],false,none,false⟩),#[(some (.ref 59)),none,(some (.str "NoFamily" 246)),(some (.str "NoFamily" 254)),(some (.builtin "ValueError.__new__")),(some (.bool true))]⟩)::(nat_lit 71,⟨(.type "tuple"),none,(.seq #[(.ref 31)] 0),#[]⟩)::(nat_lit 78,⟨(.type "tuple"),none,(.seq #[] 0),#[]⟩)::(nat_lit 79,⟨(.type "dict"),none,(.dict #[⟨PyData.keyHash P "__module__",.str "__module__" 269,(.str "countkin.errors" 194)⟩,⟨PyData.keyHash P "__firstlineno__",.str "__firstlineno__" 273,(.int 13 272)⟩,⟨PyData.keyHash P "__static_attributes__",.str "__static_attributes__" 274,(.ref 78)⟩,⟨PyData.keyHash P "__doc__",.str "__doc__" 275,.none⟩] 2),#[]⟩)::(nat_lit 80,⟨(.type "type"),none,(.cls ⟨"NoMark",[(.ref 31)],[(.ref 80),(.ref 31),(.type "ValueError"),(.type "Exception"),(.type "BaseException"),(.type "object")],79,"NoMark",true,[],[],false,none,false⟩),#[(some (.ref 71)),none,(some (.str "NoMark" 262)),(some (.str "NoMark" 270)),(some (.builtin "ValueError.__new__")),(some (.bool true))]⟩)::(nat_lit 83,⟨(.type "tuple"),none,(.seq #[] 0),#[]⟩)::(nat_lit 85,⟨(.type "tuple"),none,(.seq #[(.str "rows" 283),(.str "found" 284),(.str "row" 285)] 0),#[]⟩)::(nat_lit 86,⟨(.type "tuple"),none,(.seq #[] 0),#[]⟩)::(nat_lit 88,⟨(.type "code"),none,(.fields #[(.str "flat" 280),(.str "flat" 281),(.str "/claim/cut.py" 282),(.int 16 0),(.int 1 0),(.int 0 0),(.int 0 0),(.int 3 0),(.ref 83),(.bool true),(.int 181 0),(.ref 84),.none,(.ref 85),(.ref 86),(.ref 87),(.int 286 0),(.int 16 0),(.str "/claim/cut.py" 287)]),#[]⟩)::(nat_lit 89,⟨(.type "function"),none,(.func (fnOf "flat" "flat" (defArgs (top 8)) (defBody (top 8)) (defScope (top 8)) .none .none .none (.str "countkin.common" 278) none (.ref 88) .none)),#[]⟩)::(nat_lit 90,⟨(.type "tuple"),none,(.seq #[] 0),#[]⟩)::(nat_lit 92,⟨(.type "tuple"),none,(.seq #[(.str "numbers" 292)] 0),#[]⟩)::(nat_lit 93,⟨(.type "tuple"),none,(.seq #[] 0),#[]⟩)::(nat_lit 95,⟨(.type "code"),none,(.fields #[(.str "each_once" 289),(.str "each_once" 290),(.str "/claim/cut.py" 291),(.int 21 0),(.int 1 0),(.int 0 0),(.int 0 0),(.int 3 0),(.ref 90),(.bool true),(.int 181 0),(.ref 91),.none,(.ref 92),(.ref 93),(.ref 94),(.int 293 0),(.int 21 0),(.str "/claim/cut.py" 294)]),#[]⟩)::(nat_lit 96,⟨(.type "function"),none,(.func (fnOf "each_once" "each_once" (defArgs (top 9)) (defBody (top 9)) (defScope (top 9)) .none .none .none (.str "countkin.common" 278) none (.ref 95) .none)),#[]⟩)::(nat_lit 97,⟨(.type "tuple"),none,(.seq #[] 0),#[]⟩)::(nat_lit 99,⟨(.type "tuple"),none,(.seq #[(.str "pairs" 299),(.str "a" 300),(.str "b" 301),(.str "c" 302),(.str "d" 303)] 0),#[]⟩)::(nat_lit 100,⟨(.type "tuple"),none,(.seq #[] 0),#[]⟩)::(nat_lit 102,⟨(.type "code"),none,(.fields #[(.str "any_cross" 296),(.str "any_cross" 297),(.str "/claim/cut.py" 298),(.int 23 0),(.int 1 0),(.int 0 0),(.int 0 0),(.int 3 0),(.ref 97),(.bool true),(.int 181 0),(.ref 98),.none,(.ref 99),(.ref 100),(.ref 101),(.int 304 0),(.int 23 0),(.str "/claim/cut.py" 305)]),#[]⟩)::(nat_lit 103,⟨(.type "function"),none,(.func (fnOf "any_cross" "any_cross" (defArgs (top 10)) (defBody (top 10)) (defScope (top 10)) .none .none .none (.str "countkin.common" 278) none (.ref 102) .none)),#[]⟩)::(nat_lit 104,⟨(.type "tuple"),none,(.seq #[] 0),#[]⟩)::(nat_lit 106,⟨(.type "tuple"),none,(.seq #[(.str "size" 314),(.str "share" 315),(.str "k" 316)] 0),#[]⟩)::(nat_lit 107,⟨(.type "tuple"),none,(.seq #[] 0),#[]⟩)::(nat_lit 109,⟨(.type "code"),none,(.fields #[(.str "by_rule" 311),(.str "by_rule" 312),(.str "/claim/cut.py" 313),(.int 31 0),(.int 1 0),(.int 0 0),(.int 0 0),(.int 3 0),(.ref 104),(.bool true),(.int 181 0),(.ref 105),.none,(.ref 106),(.ref 107),(.ref 108),(.int 317 0),(.int 31 0),(.str "/claim/cut.py" 318)]),#[]⟩)::(nat_lit 110,⟨(.type "function"),none,(.func (fnOf "by_rule" "by_rule" (defArgs (top 13)) (defBody (top 13)) (defScope (top 13)) .none .none .none (.str "countkin.counts" 307) none (.ref 109) .none)),#[]⟩)::(nat_lit 111,⟨(.type "tuple"),none,(.seq #[] 0),#[]⟩)::(nat_lit 113,⟨(.type "tuple"),none,(.seq #[(.str "size" 323),(.str "product" 324),(.str "factor" 325)] 0),#[]⟩)::(nat_lit 114,⟨(.type "tuple"),none,(.seq #[] 0),#[]⟩)::(nat_lit 116,⟨(.type "code"),none,(.fields #[(.str "ring_many" 320),(.str "ring_many" 321),(.str "/claim/cut.py" 322),(.int 36 0),(.int 1 0),(.int 0 0),(.int 0 0),(.int 3 0),(.ref 111),(.bool true),(.int 181 0),(.ref 112),.none,(.ref 113),(.ref 114),(.ref 115),(.int 326 0),(.int 36 0),(.str "/claim/cut.py" 327)]),#[]⟩)::(nat_lit 117,⟨(.type "function"),none,(.func (fnOf "ring_many" "ring_many" (defArgs (top 14)) (defBody (top 14)) (defScope (top 14)) .none .none .none (.str "countkin.counts" 307) none (.ref 116) .none)),#[]⟩)::(nat_lit 125,⟨(.type "tuple"),none,(.seq #[] 0),#[]⟩)::(nat_lit 127,⟨(.type "tuple"),none,(.seq #[(.str "self" 346),(.str "word" 347),(.str "least" 348)] 0),#[]⟩)::(nat_lit 128,⟨(.type "tuple"),none,(.seq #[] 0),#[]⟩)::(nat_lit 130,⟨(.type "code"),none,(.fields #[(.str "__init__" 343),(.str "Family.__init__" 344),(.str "/claim/cut.py" 345),(.int 44 0),(.int 3 0),(.int 0 0),(.int 0 0),(.int 3 0),(.ref 125),(.bool true),(.int 181 0),(.ref 126),.none,(.ref 127),(.ref 128),(.ref 129),(.int 349 0),(.int 44 0),(.str "/claim/cut.py" 350)]),#[]⟩)::(nat_lit 131,⟨(.type "function"),none,(.func (fnOf "__init__" "Family.__init__" (defArgs (inClass (top 16) 0)) (defBody (inClass (top 16) 0)) (defScope (inClass (top 16) 0)) .none .none .none (.str "countkin.kin" 329) none (.ref 130) .none)),#[]⟩)::(nat_lit 132,⟨(.type "tuple"),none,(.seq #[] 0),#[]⟩)::(nat_lit 134,⟨(.type "tuple"),none,(.seq #[(.str "self" 355),(.str "thing" 356)] 0),#[]⟩)::(nat_lit 135,⟨(.type "tuple"),none,(.seq #[] 0),#[]⟩)::(nat_lit 137,⟨(.type "code"),none,(.fields #[(.str "size_of" 352),(.str "Family.size_of" 353),(.str "/claim/cut.py" 354),(.int 48 0),(.int 2 0),(.int 0 0),(.int 0 0),(.int 3 0),(.ref 132),(.bool true),(.int 181 0),(.ref 133),.none,(.ref 134),(.ref 135),(.ref 136),(.int 357 0),(.int 48 0),(.str "/claim/cut.py" 358)]),#[]⟩)::(nat_lit 138,⟨(.type "function"),none,(.func (fnOf "size_of" "Family.size_of" (defArgs (inClass (top 16) 1)) (defBody (inClass (top 16) 1)) (defScope (inClass (top 16) 1)) .none .none .none (.str "countkin.kin" 329) none (.ref 137) .none)),#[]⟩)::(nat_lit 139,⟨(.type "tuple"),none,(.seq #[] 0),#[]⟩)::(nat_lit 141,⟨(.type "tuple"),none,(.seq #[(.str "self" 363),(.str "thing" 364)] 0),#[]⟩)::(nat_lit 142,⟨(.type "tuple"),none,(.seq #[] 0),#[]⟩)::(nat_lit 144,⟨(.type "code"),none,(.fields #[(.str "is_one" 360),(.str "Family.is_one" 361),(.str "/claim/cut.py" 362),(.int 51 0),(.int 2 0),(.int 0 0),(.int 0 0),(.int 3 0),(.ref 139),(.bool true),(.int 181 0),(.ref 140),.none,(.ref 141),(.ref 142),(.ref 143),(.int 365 0),(.int 51 0),(.str "/claim/cut.py" 366)]),#[]⟩)::(nat_lit 145,⟨(.type "function"),none,(.func (fnOf "is_one" "Family.is_one" (defArgs (inClass (top 16) 2)) (defBody (inClass (top 16) 2)) (defScope (inClass (top 16) 2)) .none .none .none (.str "countkin.kin" 329) none (.ref 144) .none)),#[]⟩)::(nat_lit 146,⟨(.type "tuple"),none,(.seq #[] 0),#[]⟩)::(nat_lit 148,⟨(.type "tuple"),none,(.seq #[(.str "self" 371),(.str "size" 372)] 0),#[]⟩)::(nat_lit 149,⟨(.type "tuple"),none,(.seq #[] 0),#[]⟩)::(nat_lit 151,⟨(.type "code"),none,(.fields #[(.str "unchecked_many" 368),(.str "Family.unchecked_many" 369),(.str "/claim/cut.py" 370),(.int 54 0),(.int 2 0),(.int 0 0),(.int 0 0),(.int 3 0),(.ref 146),(.bool true),(.int 181 0),(.ref 147),.none,(.ref 148),(.ref 149),(.ref 150),(.int 373 0),(.int 54 0),(.str "/claim/cut.py" 374)]),#[]⟩)::(nat_lit 152,⟨(.type "function"),none,(.func (fnOf "unchecked_many" "Family.unchecked_many" (defArgs (inClass (top 16) 3)) (defBody (inClass (top 16) 3)) (defScope (inClass (top 16) 3)) .none .none .none (.str "countkin.kin" 329) none (.ref 151) .none)),#[]⟩)::(nat_lit 153,⟨(.type "tuple"),none,(.seq #[] 0),#[]⟩)::(nat_lit 155,⟨(.type "tuple"),none,(.seq #[(.str "self" 379),(.str "thing" 380)] 0),#[]⟩)::(nat_lit 156,⟨(.type "tuple"),none,(.seq #[] 0),#[]⟩)::(nat_lit 158,⟨(.type "code"),none,(.fields #[(.str "unchecked_number" 376),(.str "Family.unchecked_number" 377),(.str "/claim/cut.py" 378),(.int 57 0),(.int 2 0),(.int 0 0),(.int 0 0),(.int 3 0),(.ref 153),(.bool true),(.int 181 0),(.ref 154),.none,(.ref 155),(.ref 156),(.ref 157),(.int 381 0),(.int 57 0),(.str "/claim/cut.py" 382)]),#[]⟩)::(nat_lit 159,⟨(.type "function"),none,(.func (fnOf "unchecked_number" "Family.unchecked_number" (defArgs (inClass (top 16) 4)) (defBody (inClass (top 16) 4)) (defScope (inClass (top 16) 4)) .none .none .none (.str "countkin.kin" 329) none (.ref 158) .none)),#[]⟩)::(nat_lit 160,⟨(.type "tuple"),none,(.seq #[] 0),#[]⟩)::(nat_lit 162,⟨(.type "tuple"),none,(.seq #[(.str "self" 387),(.str "size" 388),(.str "number" 389)] 0),#[]⟩)::(nat_lit 163,⟨(.type "tuple"),none,(.seq #[] 0),#[]⟩)::(nat_lit 165,⟨(.type "code"),none,(.fields #[(.str "unchecked_thing" 384),(.str "Family.unchecked_thing" 385),(.str "/claim/cut.py" 386),(.int 60 0),(.int 3 0),(.int 0 0),(.int 0 0),(.int 3 0),(.ref 160),(.bool true),(.int 181 0),(.ref 161),.none,(.ref 162),(.ref 163),(.ref 164),(.int 390 0),(.int 60 0),(.str "/claim/cut.py" 391)]),#[]⟩)::(nat_lit 166,⟨(.type "function"),none,(.func (fnOf "unchecked_thing" "Family.unchecked_thing" (defArgs (inClass (top 16) 5)) (defBody (inClass (top 16) 5)) (defScope (inClass (top 16) 5)) .none .none .none (.str "countkin.kin" 329) none (.ref 165) .none)),#[]⟩)::(nat_lit 167,⟨(.type "tuple"),none,(.seq #[] 0),#[]⟩)::(nat_lit 169,⟨(.type "tuple"),none,(.seq #[(.str "self" 396),(.str "size" 397)] 0),#[]⟩)::(nat_lit 170,⟨(.type "tuple"),none,(.seq #[] 0),#[]⟩)::(nat_lit 172,⟨(.type "code"),none,(.fields #[(.str "many" 393),(.str "Family.many" 394),(.str "/claim/cut.py" 395),(.int 63 0),(.int 2 0),(.int 0 0),(.int 0 0),(.int 3 0),(.ref 167),(.bool true),(.int 181 0),(.ref 168),.none,(.ref 169),(.ref 170),(.ref 171),(.int 398 0),(.int 63 0),(.str "/claim/cut.py" 399)]),#[]⟩)::(nat_lit 173,⟨(.type "function"),none,(.func (fnOf "many" "Family.many" (defArgs (inClass (top 16) 6)) (defBody (inClass (top 16) 6)) (defScope (inClass (top 16) 6)) .none .none .none (.str "countkin.kin" 329) none (.ref 172) .none)),#[]⟩)::(nat_lit 174,⟨(.type "tuple"),none,(.seq #[] 0),#[]⟩)::(nat_lit 176,⟨(.type "tuple"),none,(.seq #[(.str "self" 404),(.str "thing" 405)] 0),#[]⟩)::(nat_lit 177,⟨(.type "tuple"),none,(.seq #[] 0),#[]⟩)::(nat_lit 179,⟨(.type "code"),none,(.fields #[(.str "refuse_other" 401),(.str "Family.refuse_other" 402),(.str "/claim/cut.py" 403),(.int 68 0),(.int 2 0),(.int 0 0),(.int 0 0),(.int 3 0),(.ref 174),(.bool true),(.int 181 0),(.ref 175),.none,(.ref 176),(.ref 177),(.ref 178),(.int 406 0),(.int 68 0),(.str "/claim/cut.py" 407)]),#[]⟩)::(nat_lit 180,⟨(.type "function"),none,(.func (fnOf "refuse_other" "Family.refuse_other" (defArgs (inClass (top 16) 7)) (defBody (inClass (top 16) 7)) (defScope (inClass (top 16) 7)) .none .none .none (.str "countkin.kin" 329) none (.ref 179) .none)),#[]⟩)::(nat_lit 181,⟨(.type "tuple"),none,(.seq #[] 0),#[]⟩)::(nat_lit 183,⟨(.type "tuple"),none,(.seq #[(.str "self" 412),(.str "thing" 413)] 0),#[]⟩)::(nat_lit 184,⟨(.type "tuple"),none,(.seq #[] 0),#[]⟩)::(nat_lit 186,⟨(.type "code"),none,(.fields #[(.str "number_of" 409),(.str "Family.number_of" 410),(.str "/claim/cut.py" 411),(.int 72 0),(.int 2 0),(.int 0 0),(.int 0 0),(.int 3 0),(.ref 181),(.bool true),(.int 181 0),(.ref 182),.none,(.ref 183),(.ref 184),(.ref 185),(.int 414 0),(.int 72 0),(.str "/claim/cut.py" 415)]),#[]⟩)::(nat_lit 187,⟨(.type "function"),none,(.func (fnOf "number_of" "Family.number_of" (defArgs (inClass (top 16) 8)) (defBody (inClass (top 16) 8)) (defScope (inClass (top 16) 8)) .none .none .none (.str "countkin.kin" 329) none (.ref 186) .none)),#[]⟩)::(nat_lit 188,⟨(.type "tuple"),none,(.seq #[] 0),#[]⟩)::(nat_lit 190,⟨(.type "tuple"),none,(.seq #[(.str "self" 420),(.str "size" 421),(.str "number" 422)] 0),#[]⟩)::(nat_lit 191,⟨(.type "tuple"),none,(.seq #[] 0),#[]⟩)::(nat_lit 193,⟨(.type "code"),none,(.fields #[(.str "thing_of" 417),(.str "Family.thing_of" 418),(.str "/claim/cut.py" 419),(.int 75 0),(.int 3 0),(.int 0 0),(.int 0 0),(.int 3 0),(.ref 188),(.bool true),(.int 181 0),(.ref 189),.none,(.ref 190),(.ref 191),(.ref 192),(.int 423 0),(.int 75 0),(.str "/claim/cut.py" 424)]),#[]⟩)::(nat_lit 194,⟨(.type "function"),none,(.func (fnOf "thing_of" "Family.thing_of" (defArgs (inClass (top 16) 9)) (defBody (inClass (top 16) 9)) (defScope (inClass (top 16) 9)) .none .none .none (.str "countkin.kin" 329) none (.ref 193) .none)),#[]⟩)::(nat_lit 195,⟨(.type "tuple"),none,(.seq #[] 0),#[]⟩)::(nat_lit 197,⟨(.type "tuple"),none,(.seq #[(.str "self" 429),(.str "thing" 430)] 0),#[]⟩)::(nat_lit 198,⟨(.type "tuple"),none,(.seq #[] 0),#[]⟩)::(nat_lit 200,⟨(.type "code"),none,(.fields #[(.str "next_of" 426),(.str "Family.next_of" 427),(.str "/claim/cut.py" 428),(.int 78 0),(.int 2 0),(.int 0 0),(.int 0 0),(.int 3 0),(.ref 195),(.bool true),(.int 181 0),(.ref 196),.none,(.ref 197),(.ref 198),(.ref 199),(.int 431 0),(.int 78 0),(.str "/claim/cut.py" 432)]),#[]⟩)::(nat_lit 201,⟨(.type "function"),none,(.func (fnOf "next_of" "Family.next_of" (defArgs (inClass (top 16) 10)) (defBody (inClass (top 16) 10)) (defScope (inClass (top 16) 10)) .none .none .none (.str "countkin.kin" 329) none (.ref 200) .none)),#[]⟩)::(nat_lit 202,⟨(.type "tuple"),none,(.seq #[(.str "least" 434),(.str "word" 435)] 0),#[]⟩)::(nat_lit 203,⟨(.type "dict"),none,(.dict #[⟨PyData.keyHash P "__module__",.str "__module__" 338,(.str "countkin.kin" 329)⟩,⟨PyData.keyHash P "__firstlineno__",.str "__firstlineno__" 342,(.int 42 341)⟩,⟨PyData.keyHash P "__init__",.str "__init__" 351,(.ref 131)⟩,⟨PyData.keyHash P "size_of",.str "size_of" 359,(.ref 138)⟩,⟨PyData.keyHash P "is_one",.str "is_one" 367,(.ref 145)⟩,⟨PyData.keyHash P "unchecked_many",.str "unchecked_many" 375,(.ref 152)⟩,⟨PyData.keyHash P "unchecked_number",.str "unchecked_number" 383,(.ref 159)⟩,⟨PyData.keyHash P "unchecked_thing",.str "unchecked_thing" 392,(.ref 166)⟩,⟨PyData.keyHash P "many",.str "many" 400,(.ref 173)⟩,⟨PyData.keyHash P "refuse_other",.str "refuse_other" 408,(.ref 180)⟩,⟨PyData.keyHash P "number_of",.str "number_of" 416,(.ref 187)⟩,⟨PyData.keyHash P "thing_of",.str "thing_of" 425,(.ref 194)⟩,⟨PyData.keyHash P "next_of",.str "next_of" 433,(.ref 201)⟩,⟨PyData.keyHash P "__static_attributes__",.str "__static_attributes__" 436,(.ref 202)⟩,⟨PyData.keyHash P "__dict__",.str "__dict__" 438,(.ref 205)⟩,⟨PyData.keyHash P "__weakref__",.str "__weakref__" 440,(.ref 206)⟩,⟨PyData.keyHash P "__doc__",.str "__doc__" 441,.none⟩] 4),#[]⟩)::(nat_lit 204,⟨(.type "type"),none,(.cls ⟨"Family",[(.type "object")],[(.ref 204),(.type "object")],203,"Family",true,[],[(.ref 281),(.ref 442)],false,none,false⟩),#[none,none,(some (.str "Family" 331)),(some (.str "Family" 339)),(some (.builtin "object.__new__")),(some (.bool true))]⟩)::(nat_lit 205,⟨(.type "getset_descriptor"),none,(.fields #[(.str "__dict__" 437),(.ref 204),(.builtin "function.__dict__"),(.builtin "function.__dict__#set")]),#[]⟩)::(nat_lit 206,⟨(.type "getset_descriptor"),none,(.fields #[(.str "__weakref__" 439),(.ref 204),(.builtin "ExceptionGroup.__weakref__"),.none]),#[]⟩)::(nat_lit 209,⟨(.type "tuple"),none,(.seq #[(.ref 204)] 0),#[]⟩)::(nat_lit 216,⟨(.type "tuple"),none,(.seq #[] 0),#[]⟩)::(nat_lit 218,⟨(.type "tuple"),none,(.seq #[(.str "self" 459),(.str "word" 460)] 0),#[]⟩)::(nat_lit 219,⟨(.type "tuple"),none,(.seq #[] 0),#[]⟩)::(nat_lit 221,⟨(.type "code"),none,(.fields #[(.str "__init__" 456),(.str "SplitFamily.__init__" 457),(.str "/claim/cut.py" 458),(.int 82 0),(.int 2 0),(.int 0 0),(.int 0 0),(.int 3 0),(.ref 216),(.bool true),(.int 181 0),(.ref 217),.none,(.ref 218),(.ref 219),(.ref 220),(.int 461 0),(.int 82 0),(.str "/claim/cut.py" 462)]),#[]⟩)::(nat_lit 222,⟨(.type "function"),none,(.func (fnOf "__init__" "SplitFamily.__init__" (defArgs (inClass (top 17) 0)) (defBody (inClass (top 17) 0)) (defScope (inClass (top 17) 0)) .none .none .none (.str "countkin.kin" 329) none (.ref 221) .none)),#[]⟩)::(nat_lit 223,⟨(.type "tuple"),none,(.seq #[] 0),#[]⟩)::(nat_lit 225,⟨(.type "tuple"),none,(.seq #[(.str "self" 467)] 0),#[]⟩)::(nat_lit 226,⟨(.type "tuple"),none,(.seq #[] 0),#[]⟩)::(nat_lit 228,⟨(.type "code"),none,(.fields #[(.str "bare" 464),(.str "SplitFamily.bare" 465),(.str "/claim/cut.py" 466),(.int 85 0),(.int 1 0),(.int 0 0),(.int 0 0),(.int 3 0),(.ref 223),(.bool true),(.int 181 0),(.ref 224),.none,(.ref 225),(.ref 226),(.ref 227),(.int 468 0),(.int 85 0),(.str "/claim/cut.py" 469)]),#[]⟩)::(nat_lit 229,⟨(.type "function"),none,(.func (fnOf "bare" "SplitFamily.bare" (defArgs (inClass (top 17) 1)) (defBody (inClass (top 17) 1)) (defScope (inClass (top 17) 1)) .none .none .none (.str "countkin.kin" 329) none (.ref 228) .none)),#[]⟩)::(nat_lit 230,⟨(.type "tuple"),none,(.seq #[] 0),#[]⟩)::(nat_lit 232,⟨(.type "tuple"),none,(.seq #[(.str "self" 474),(.str "thing" 475)] 0),#[]⟩)::(nat_lit 233,⟨(.type "tuple"),none,(.seq #[] 0),#[]⟩)::(nat_lit 235,⟨(.type "code"),none,(.fields #[(.str "parted" 471),(.str "SplitFamily.parted" 472),(.str "/claim/cut.py" 473),(.int 88 0),(.int 2 0),(.int 0 0),(.int 0 0),(.int 3 0),(.ref 230),(.bool true),(.int 181 0),(.ref 231),.none,(.ref 232),(.ref 233),(.ref 234),(.int 476 0),(.int 88 0),(.str "/claim/cut.py" 477)]),#[]⟩)::(nat_lit 236,⟨(.type "function"),none,(.func (fnOf "parted" "SplitFamily.parted" (defArgs (inClass (top 17) 2)) (defBody (inClass (top 17) 2)) (defScope (inClass (top 17) 2)) .none .none .none (.str "countkin.kin" 329) none (.ref 235) .none)),#[]⟩)::(nat_lit 237,⟨(.type "tuple"),none,(.seq #[] 0),#[]⟩)::(nat_lit 239,⟨(.type "tuple"),none,(.seq #[(.str "self" 482),(.str "left" 483),(.str "right" 484)] 0),#[]⟩)::(nat_lit 240,⟨(.type "tuple"),none,(.seq #[] 0),#[]⟩)::(nat_lit 242,⟨(.type "code"),none,(.fields #[(.str "joined" 479),(.str "SplitFamily.joined" 480),(.str "/claim/cut.py" 481),(.int 91 0),(.int 3 0),(.int 0 0),(.int 0 0),(.int 3 0),(.ref 237),(.bool true),(.int 181 0),(.ref 238),.none,(.ref 239),(.ref 240),(.ref 241),(.int 485 0),(.int 91 0),(.str "/claim/cut.py" 486)]),#[]⟩)::(nat_lit 243,⟨(.type "function"),none,(.func (fnOf "joined" "SplitFamily.joined" (defArgs (inClass (top 17) 3)) (defBody (inClass (top 17) 3)) (defScope (inClass (top 17) 3)) .none .none .none (.str "countkin.kin" 329) none (.ref 242) .none)),#[]⟩)::(nat_lit 244,⟨(.type "tuple"),none,(.seq #[] 0),#[]⟩)::(nat_lit 246,⟨(.type "tuple"),none,(.seq #[(.str "self" 491),(.str "size" 492)] 0),#[]⟩)::(nat_lit 247,⟨(.type "tuple"),none,(.seq #[] 0),#[]⟩)::(nat_lit 249,⟨(.type "code"),none,(.fields #[(.str "unchecked_many" 488),(.str "SplitFamily.unchecked_many" 489),(.str "/claim/cut.py" 490),(.int 94 0),(.int 2 0),(.int 0 0),(.int 0 0),(.int 3 0),(.ref 244),(.bool true),(.int 181 0),(.ref 245),.none,(.ref 246),(.ref 247),(.ref 248),(.int 493 0),(.int 94 0),(.str "/claim/cut.py" 494)]),#[]⟩)::(nat_lit 250,⟨(.type "function"),none,(.func (fnOf "unchecked_many" "SplitFamily.unchecked_many" (defArgs (inClass (top 17) 4)) (defBody (inClass (top 17) 4)) (defScope (inClass (top 17) 4)) .none .none .none (.str "countkin.kin" 329) none (.ref 249) .none)),#[]⟩)::(nat_lit 251,⟨(.type "tuple"),none,(.seq #[] 0),#[]⟩)::(nat_lit 253,⟨(.type "tuple"),none,(.seq #[(.str "self" 499),(.str "thing" 500)] 0),#[]⟩)::(nat_lit 254,⟨(.type "tuple"),none,(.seq #[] 0),#[]⟩)::(nat_lit 256,⟨(.type "code"),none,(.fields #[(.str "unchecked_number" 496),(.str "SplitFamily.unchecked_number" 497),(.str "/claim/cut.py" 498),(.int 97 0),(.int 2 0),(.int 0 0),(.int 0 0),(.int 3 0),(.ref 251),(.bool true),(.int 181 0),(.ref 252),.none,(.ref 253),(.ref 254),(.ref 255),(.int 501 0),(.int 97 0),(.str "/claim/cut.py" 502)]),#[]⟩)::(nat_lit 257,⟨(.type "function"),none,(.func (fnOf "unchecked_number" "SplitFamily.unchecked_number" (defArgs (inClass (top 17) 5)) (defBody (inClass (top 17) 5)) (defScope (inClass (top 17) 5)) .none .none .none (.str "countkin.kin" 329) none (.ref 256) .none)),#[]⟩)::(nat_lit 258,⟨(.type "tuple"),none,(.seq #[] 0),#[]⟩)::(nat_lit 260,⟨(.type "tuple"),none,(.seq #[(.str "self" 507),(.str "size" 508),(.str "number" 509)] 0),#[]⟩)::(nat_lit 261,⟨(.type "tuple"),none,(.seq #[] 0),#[]⟩)::(nat_lit 263,⟨(.type "code"),none,(.fields #[(.str "unchecked_thing" 504),(.str "SplitFamily.unchecked_thing" 505),(.str "/claim/cut.py" 506),(.int 100 0),(.int 3 0),(.int 0 0),(.int 0 0),(.int 3 0),(.ref 258),(.bool true),(.int 181 0),(.ref 259),.none,(.ref 260),(.ref 261),(.ref 262),(.int 510 0),(.int 100 0),(.str "/claim/cut.py" 511)]),#[]⟩)::(nat_lit 264,⟨(.type "function"),none,(.func (fnOf "unchecked_thing" "SplitFamily.unchecked_thing" (defArgs (inClass (top 17) 6)) (defBody (inClass (top 17) 6)) (defScope (inClass (top 17) 6)) .none .none .none (.str "countkin.kin" 329) none (.ref 263) .none)),#[]⟩)::(nat_lit 265,⟨(.type "tuple"),none,(.seq #[] 0),#[]⟩)::(nat_lit 267,⟨(.type "tuple"),none,(.seq #[(.str "self" 516),(.str "counts" 517),(.str "thing" 518)] 0),#[]⟩)::(nat_lit 268,⟨(.type "tuple"),none,(.seq #[] 0),#[]⟩)::(nat_lit 270,⟨(.type "code"),none,(.fields #[(.str "number_by_parts" 513),(.str "SplitFamily.number_by_parts" 514),(.str "/claim/cut.py" 515),(.int 103 0),(.int 3 0),(.int 0 0),(.int 0 0),(.int 3 0),(.ref 265),(.bool true),(.int 181 0),(.ref 266),.none,(.ref 267),(.ref 268),(.ref 269),(.int 519 0),(.int 103 0),(.str "/claim/cut.py" 520)]),#[]⟩)::(nat_lit 271,⟨(.type "function"),none,(.func (fnOf "number_by_parts" "SplitFamily.number_by_parts" (defArgs (inClass (top 17) 7)) (defBody (inClass (top 17) 7)) (defScope (inClass (top 17) 7)) .none .none .none (.str "countkin.kin" 329) none (.ref 270) .none)),#[]⟩)::(nat_lit 272,⟨(.type "tuple"),none,(.seq #[] 0),#[]⟩)::(nat_lit 274,⟨(.type "tuple"),none,(.seq #[(.str "self" 525),(.str "counts" 526),(.str "size" 527),(.str "number" 528)] 0),#[]⟩)::(nat_lit 275,⟨(.type "tuple"),none,(.seq #[] 0),#[]⟩)::(nat_lit 277,⟨(.type "code"),none,(.fields #[(.str "thing_by_parts" 522),(.str "SplitFamily.thing_by_parts" 523),(.str "/claim/cut.py" 524),(.int 106 0),(.int 4 0),(.int 0 0),(.int 0 0),(.int 3 0),(.ref 272),(.bool true),(.int 181 0),(.ref 273),.none,(.ref 274),(.ref 275),(.ref 276),(.int 529 0),(.int 106 0),(.str "/claim/cut.py" 530)]),#[]⟩)::(nat_lit 278,⟨(.type "function"),none,(.func (fnOf "thing_by_parts" "SplitFamily.thing_by_parts" (defArgs (inClass (top 17) 8)) (defBody (inClass (top 17) 8)) (defScope (inClass (top 17) 8)) .none .none .none (.str "countkin.kin" 329) none (.ref 277) .none)),#[]⟩)::(nat_lit 279,⟨(.type "tuple"),none,(.seq #[] 0),#[]⟩)::(nat_lit 280,⟨(.type "dict"),none,(.dict #[⟨PyData.keyHash P "__module__",.str "__module__" 451,(.str "countkin.kin" 329)⟩,⟨PyData.keyHash P "__firstlineno__",.str "__firstlineno__" 455,(.int 80 454)⟩,⟨PyData.keyHash P "__init__",.str "__init__" 463,(.ref 222)⟩,⟨PyData.keyHash P "bare",.str "bare" 470,(.ref 229)⟩,⟨PyData.keyHash P "parted",.str "parted" 478,(.ref 236)⟩,⟨PyData.keyHash P "joined",.str "joined" 487,(.ref 243)⟩,⟨PyData.keyHash P "unchecked_many",.str "unchecked_many" 495,(.ref 250)⟩,⟨PyData.keyHash P "unchecked_number",.str "unchecked_number" 503,(.ref 257)⟩,⟨PyData.keyHash P "unchecked_thing",.str "unchecked_thing" 512,(.ref 264)⟩,⟨PyData.keyHash P "number_by_parts",.str "number_by_parts" 521,(.ref 271)⟩,⟨PyData.keyHash P "thing_by_parts",.str "thing_by_parts" 531,(.ref 278)⟩,⟨PyData.keyHash P "__static_attributes__",.str "__static_attributes__" 532,(.ref 279)⟩,⟨PyData.keyHash P "__doc__",.str "__doc__" 533,.none⟩] 2),#[]⟩)::(nat_lit 281,⟨(.type "type"),none,(.cls ⟨"SplitFamily",[(.ref 204)],[(.ref 281),(.ref 204),(.type "object")],280,"SplitFamily",true,[],[(.ref 333),(.ref 383),(.ref 636),(.ref 702),(.ref 770),(.ref 824),(.ref 878)],false,none,false⟩),#[(some (.ref 209)),none,(some (.str "SplitFamily" 444)),(some (.str "SplitFamily" 452)),(some (.builtin "object.__new__")),(some (.bool true))]⟩)::(nat_lit 284,⟨(.type "tuple"),none,(.seq #[(.ref 281)] 0),#[]⟩)::(nat_lit 291,⟨(.type "tuple"),none,(.seq #[] 0),#[]⟩)::(nat_lit 293,⟨(.type "tuple"),none,(.seq #[(.str "self" 553)] 0),#[]⟩)::(nat_lit 294,⟨(.type "tuple"),none,(.seq #[] 0),#[]⟩)::(nat_lit 296,⟨(.type "code"),none,(.fields #[(.str "__init__" 550),(.str "Bows.__init__" 551),(.str "/claim/cut.py" 552),(.int 111 0),(.int 1 0),(.int 0 0),(.int 0 0),(.int 3 0),(.ref 291),(.bool true),(.int 181 0),(.ref 292),.none,(.ref 293),(.ref 294),(.ref 295),(.int 554 0),(.int 111 0),(.str "/claim/cut.py" 555)]),#[]⟩)::(nat_lit 297,⟨(.type "function"),none,(.func (fnOf "__init__" "Bows.__init__" (defArgs (inClass (top 19) 0)) (defBody (inClass (top 19) 0)) (defScope (inClass (top 19) 0)) .none .none .none (.str "countkin.bends" 536) none (.ref 296) .none)),#[]⟩)::(nat_lit 298,⟨(.type "tuple"),none,(.seq #[] 0),#[]⟩)::(nat_lit 300,⟨(.type "tuple"),none,(.seq #[(.str "self" 560),(.str "thing" 561)] 0),#[]⟩)::(nat_lit 301,⟨(.type "tuple"),none,(.seq #[] 0),#[]⟩)::(nat_lit 303,⟨(.type "code"),none,(.fields #[(.str "size_of" 557),(.str "Bows.size_of" 558),(.str "/claim/cut.py" 559),(.int 114 0),(.int 2 0),(.int 0 0),(.int 0 0),(.int 3 0),(.ref 298),(.bool true),(.int 181 0),(.ref 299),.none,(.ref 300),(.ref 301),(.ref 302),(.int 562 0),(.int 114 0),(.str "/claim/cut.py" 563)]),#[]⟩)::(nat_lit 304,⟨(.type "function"),none,(.func (fnOf "size_of" "Bows.size_of" (defArgs (inClass (top 19) 1)) (defBody (inClass (top 19) 1)) (defScope (inClass (top 19) 1)) .none .none .none (.str "countkin.bends" 536) none (.ref 303) .none)),#[]⟩)::(nat_lit 305,⟨(.type "tuple"),none,(.seq #[] 0),#[]⟩)::(nat_lit 308,⟨(.type "code"),none,(.fields #[(.str "is_one" 565),(.str "Bows.is_one" 566),(.str "/claim/cut.py" 567),(.int 117 0),(.int 2 0),(.int 0 0),(.int 0 0),(.int 3 0),(.ref 305),(.bool true),(.int 181 0),(.ref 306),.none,.none,.none,(.ref 307),(.int 568 0),(.int 117 0),(.str "/claim/cut.py" 569)]),#[]⟩)::(nat_lit 309,⟨(.type "function"),none,(.func (fnOf "is_one" "Bows.is_one" (defArgs (inClass (top 19) 2)) (defBody (inClass (top 19) 2)) (defScope (inClass (top 19) 2)) .none .none .none (.str "countkin.bends" 536) none (.ref 308) .none)),#[]⟩)::(nat_lit 310,⟨(.type "tuple"),none,(.seq #[] 0),#[]⟩)::(nat_lit 312,⟨(.type "tuple"),none,(.seq #[(.str "self" 574)] 0),#[]⟩)::(nat_lit 313,⟨(.type "tuple"),none,(.seq #[] 0),#[]⟩)::(nat_lit 315,⟨(.type "code"),none,(.fields #[(.str "bare" 571),(.str "Bows.bare" 572),(.str "/claim/cut.py" 573),(.int 122 0),(.int 1 0),(.int 0 0),(.int 0 0),(.int 3 0),(.ref 310),(.bool true),(.int 181 0),(.ref 311),.none,(.ref 312),(.ref 313),(.ref 314),(.int 575 0),(.int 122 0),(.str "/claim/cut.py" 576)]),#[]⟩)::(nat_lit 316,⟨(.type "function"),none,(.func (fnOf "bare" "Bows.bare" (defArgs (inClass (top 19) 3)) (defBody (inClass (top 19) 3)) (defScope (inClass (top 19) 3)) .none .none .none (.str "countkin.bends" 536) none (.ref 315) .none)),#[]⟩)::(nat_lit 317,⟨(.type "tuple"),none,(.seq #[] 0),#[]⟩)::(nat_lit 319,⟨(.type "tuple"),none,(.seq #[(.str "self" 581),(.str "thing" 582)] 0),#[]⟩)::(nat_lit 320,⟨(.type "tuple"),none,(.seq #[] 0),#[]⟩)::(nat_lit 322,⟨(.type "code"),none,(.fields #[(.str "parted" 578),(.str "Bows.parted" 579),(.str "/claim/cut.py" 580),(.int 125 0),(.int 2 0),(.int 0 0),(.int 0 0),(.int 3 0),(.ref 317),(.bool true),(.int 181 0),(.ref 318),.none,(.ref 319),(.ref 320),(.ref 321),(.int 583 0),(.int 125 0),(.str "/claim/cut.py" 584)]),#[]⟩)::(nat_lit 323,⟨(.type "function"),none,(.func (fnOf "parted" "Bows.parted" (defArgs (inClass (top 19) 4)) (defBody (inClass (top 19) 4)) (defScope (inClass (top 19) 4)) .none .none .none (.str "countkin.bends" 536) none (.ref 322) .none)),#[]⟩)::(nat_lit 324,⟨(.type "tuple"),none,(.seq #[] 0),#[]⟩)::(nat_lit 326,⟨(.type "tuple"),none,(.seq #[(.str "self" 589),(.str "left" 590),(.str "right" 591)] 0),#[]⟩)::(nat_lit 327,⟨(.type "tuple"),none,(.seq #[] 0),#[]⟩)::(nat_lit 329,⟨(.type "code"),none,(.fields #[(.str "joined" 586),(.str "Bows.joined" 587),(.str "/claim/cut.py" 588),(.int 128 0),(.int 3 0),(.int 0 0),(.int 0 0),(.int 3 0),(.ref 324),(.bool true),(.int 181 0),(.ref 325),.none,(.ref 326),(.ref 327),(.ref 328),(.int 592 0),(.int 128 0),(.str "/claim/cut.py" 593)]),#[]⟩)::(nat_lit 330,⟨(.type "function"),none,(.func (fnOf "joined" "Bows.joined" (defArgs (inClass (top 19) 5)) (defBody (inClass (top 19) 5)) (defScope (inClass (top 19) 5)) .none .none .none (.str "countkin.bends" 536) none (.ref 329) .none)),#[]⟩)::(nat_lit 331,⟨(.type "tuple"),none,(.seq #[] 0),#[]⟩)::(nat_lit 332,⟨(.type "dict"),none,(.dict #[⟨PyData.keyHash P "__module__",.str "__module__" 545,(.str "countkin.bends" 536)⟩,⟨PyData.keyHash P "__firstlineno__",.str "__firstlineno__" 549,(.int 109 548)⟩,⟨PyData.keyHash P "__init__",.str "__init__" 556,(.ref 297)⟩,⟨PyData.keyHash P "size_of",.str "size_of" 564,(.ref 304)⟩,⟨PyData.keyHash P "is_one",.str "is_one" 570,(.ref 309)⟩,⟨PyData.keyHash P "bare",.str "bare" 577,(.ref 316)⟩,⟨PyData.keyHash P "parted",.str "parted" 585,(.ref 323)⟩,⟨PyData.keyHash P "joined",.str "joined" 594,(.ref 330)⟩,⟨PyData.keyHash P "__static_attributes__",.str "__static_attributes__" 595,(.ref 331)⟩,⟨PyData.keyHash P "__doc__",.str "__doc__" 596,.none⟩] 2),#[]⟩)::(nat_lit 333,⟨(.type "type"),none,(.cls ⟨"Bows",[(.ref 281)],[(.ref 333),(.ref 281),(.ref 204),(.type "object")],332,"Bows",true,[],[],false,none,false⟩),#[(some (.ref 284)),none,(some (.str "Bows" 538)),(some (.str "Bows" 546)),(some (.builtin "object.__new__")),(some (.bool true))]⟩)::(nat_lit 336,⟨(.type "tuple"),none,(.seq #[(.ref 281)] 0),#[]⟩)::(nat_lit 343,⟨(.type "tuple"),none,(.seq #[] 0),#[]⟩)::(nat_lit 345,⟨(.type "tuple"),none,(.seq #[(.str "self" 614)] 0),#[]⟩)::(nat_lit 346,⟨(.type "tuple"),none,(.seq #[] 0),#[]⟩)::(nat_lit 348,⟨(.type "code"),none,(.fields #[(.str "__init__" 611),(.str "Rooms.__init__" 612),(.str "/claim/cut.py" 613),(.int 132 0),(.int 1 0),(.int 0 0),(.int 0 0),(.int 3 0),(.ref 343),(.bool true),(.int 181 0),(.ref 344),.none,(.ref 345),(.ref 346),(.ref 347),(.int 615 0),(.int 132 0),(.str "/claim/cut.py" 616)]),#[]⟩)::(nat_lit 349,⟨(.type "function"),none,(.func (fnOf "__init__" "Rooms.__init__" (defArgs (inClass (top 20) 0)) (defBody (inClass (top 20) 0)) (defScope (inClass (top 20) 0)) .none .none .none (.str "countkin.bends" 536) none (.ref 348) .none)),#[]⟩)::(nat_lit 350,⟨(.type "tuple"),none,(.seq #[] 0),#[]⟩)::(nat_lit 353,⟨(.type "code"),none,(.fields #[(.str "size_of" 618),(.str "Rooms.size_of" 619),(.str "/claim/cut.py" 620),(.int 135 0),(.int 2 0),(.int 0 0),(.int 0 0),(.int 3 0),(.ref 350),(.bool true),(.int 181 0),(.ref 351),.none,.none,.none,(.ref 352),(.int 621 0),(.int 135 0),(.str "/claim/cut.py" 622)]),#[]⟩)::(nat_lit 354,⟨(.type "function"),none,(.func (fnOf "size_of" "Rooms.size_of" (defArgs (inClass (top 20) 1)) (defBody (inClass (top 20) 1)) (defScope (inClass (top 20) 1)) .none .none .none (.str "countkin.bends" 536) none (.ref 353) .none)),#[]⟩)::(nat_lit 355,⟨(.type "tuple"),none,(.seq #[] 0),#[]⟩)::(nat_lit 358,⟨(.type "code"),none,(.fields #[(.str "is_one" 624),(.str "Rooms.is_one" 625),(.str "/claim/cut.py" 626),(.int 138 0),(.int 2 0),(.int 0 0),(.int 0 0),(.int 3 0),(.ref 355),(.bool true),(.int 181 0),(.ref 356),.none,.none,.none,(.ref 357),(.int 627 0),(.int 138 0),(.str "/claim/cut.py" 628)]),#[]⟩)::(nat_lit 359,⟨(.type "function"),none,(.func (fnOf "is_one" "Rooms.is_one" (defArgs (inClass (top 20) 2)) (defBody (inClass (top 20) 2)) (defScope (inClass (top 20) 2)) .none .none .none (.str "countkin.bends" 536) none (.ref 358) .none)),#[]⟩)::(nat_lit 360,⟨(.type "tuple"),none,(.seq #[] 0),#[]⟩)::(nat_lit 362,⟨(.type "tuple"),none,(.seq #[(.str "self" 633)] 0),#[]⟩)::(nat_lit 363,⟨(.type "tuple"),none,(.seq #[] 0),#[]⟩)::(nat_lit 365,⟨(.type "code"),none,(.fields #[(.str "bare" 630),(.str "Rooms.bare" 631),(.str "/claim/cut.py" 632),(.int 143 0),(.int 1 0),(.int 0 0),(.int 0 0),(.int 3 0),(.ref 360),(.bool true),(.int 181 0),(.ref 361),.none,(.ref 362),(.ref 363),(.ref 364),(.int 634 0),(.int 143 0),(.str "/claim/cut.py" 635)]),#[]⟩)::(nat_lit 366,⟨(.type "function"),none,(.func (fnOf "bare" "Rooms.bare" (defArgs (inClass (top 20) 3)) (defBody (inClass (top 20) 3)) (defScope (inClass (top 20) 3)) .none .none .none (.str "countkin.bends" 536) none (.ref 365) .none)),#[]⟩)::(nat_lit 367,⟨(.type "tuple"),none,(.seq #[] 0),#[]⟩)::(nat_lit 369,⟨(.type "tuple"),none,(.seq #[(.str "self" 640),(.str "thing" 641)] 0),#[]⟩)::(nat_lit 370,⟨(.type "tuple"),none,(.seq #[] 0),#[]⟩)::(nat_lit 372,⟨(.type "code"),none,(.fields #[(.str "parted" 637),(.str "Rooms.parted" 638),(.str "/claim/cut.py" 639),(.int 146 0),(.int 2 0),(.int 0 0),(.int 0 0),(.int 3 0),(.ref 367),(.bool true),(.int 181 0),(.ref 368),.none,(.ref 369),(.ref 370),(.ref 371),(.int 642 0),(.int 146 0),(.str "/claim/cut.py" 643)]),#[]⟩)::(nat_lit 373,⟨(.type "function"),none,(.func (fnOf "parted" "Rooms.parted" (defArgs (inClass (top 20) 4)) (defBody (inClass (top 20) 4)) (defScope (inClass (top 20) 4)) .none .none .none (.str "countkin.bends" 536) none (.ref 372) .none)),#[]⟩)::(nat_lit 374,⟨(.type "tuple"),none,(.seq #[] 0),#[]⟩)::(nat_lit 376,⟨(.type "tuple"),none,(.seq #[(.str "self" 648),(.str "left" 649),(.str "right" 650)] 0),#[]⟩)::(nat_lit 377,⟨(.type "tuple"),none,(.seq #[] 0),#[]⟩)::(nat_lit 379,⟨(.type "code"),none,(.fields #[(.str "joined" 645),(.str "Rooms.joined" 646),(.str "/claim/cut.py" 647),(.int 149 0),(.int 3 0),(.int 0 0),(.int 0 0),(.int 3 0),(.ref 374),(.bool true),(.int 181 0),(.ref 375),.none,(.ref 376),(.ref 377),(.ref 378),(.int 651 0),(.int 149 0),(.str "/claim/cut.py" 652)]),#[]⟩)::(nat_lit 380,⟨(.type "function"),none,(.func (fnOf "joined" "Rooms.joined" (defArgs (inClass (top 20) 5)) (defBody (inClass (top 20) 5)) (defScope (inClass (top 20) 5)) .none .none .none (.str "countkin.bends" 536) none (.ref 379) .none)),#[]⟩)::(nat_lit 381,⟨(.type "tuple"),none,(.seq #[] 0),#[]⟩)::(nat_lit 382,⟨(.type "dict"),none,(.dict #[⟨PyData.keyHash P "__module__",.str "__module__" 606,(.str "countkin.bends" 536)⟩,⟨PyData.keyHash P "__firstlineno__",.str "__firstlineno__" 610,(.int 130 609)⟩,⟨PyData.keyHash P "__init__",.str "__init__" 617,(.ref 349)⟩,⟨PyData.keyHash P "size_of",.str "size_of" 623,(.ref 354)⟩,⟨PyData.keyHash P "is_one",.str "is_one" 629,(.ref 359)⟩,⟨PyData.keyHash P "bare",.str "bare" 636,(.ref 366)⟩,⟨PyData.keyHash P "parted",.str "parted" 644,(.ref 373)⟩,⟨PyData.keyHash P "joined",.str "joined" 653,(.ref 380)⟩,⟨PyData.keyHash P "__static_attributes__",.str "__static_attributes__" 654,(.ref 381)⟩,⟨PyData.keyHash P "__doc__",.str "__doc__" 655,.none⟩] 2),#[]⟩)::(nat_lit 383,⟨(.type "type"),none,(.cls ⟨"Rooms",[(.ref 281)],[(.ref 383),(.ref 281),(.ref 204),(.type "object")],382,"Rooms",true,[],[],false,none,false⟩),#[(some (.ref 336)),none,(some (.str "Rooms" 599)),(some (.str "Rooms" 607)),(some (.builtin "object.__new__")),(some (.bool true))]⟩)::(nat_lit 386,⟨(.type "tuple"),none,(.seq #[] 0),#[]⟩)::(nat_lit 389,⟨(.type "code"),none,(.fields #[(.str "neighbours" 658),(.str "neighbours" 659),(.str "/claim/cut.py" 660),(.int 151 0),(.int 1 0),(.int 0 0),(.int 0 0),(.int 3 0),(.ref 386),(.bool true),(.int 181 0),(.ref 387),.none,.none,.none,(.ref 388),(.int 661 0),(.int 151 0),(.str "/claim/cut.py" 662)]),#[]⟩)::(nat_lit 390,⟨(.type "function"),none,(.func (fnOf "neighbours" "neighbours" (defArgs (top 21)) (defBody (top 21)) (defScope (top 21)) .none .none .none (.str "countkin.bends" 536) none (.ref 389) .none)),#[]⟩)::(nat_lit 391,⟨(.type "tuple"),none,(.seq #[(.ref 204)] 0),#[]⟩)::(nat_lit 398,⟨(.type "tuple"),none,(.seq #[] 0),#[]⟩)::(nat_lit 400,⟨(.type "tuple"),none,(.seq #[(.str "self" 681),(.str "word" 682)] 0),#[]⟩)::(nat_lit 401,⟨(.type "tuple"),none,(.seq #[] 0),#[]⟩)::(nat_lit 403,⟨(.type "code"),none,(.fields #[(.str "__init__" 678),(.str "RingFamily.__init__" 679),(.str "/claim/cut.py" 680),(.int 156 0),(.int 2 0),(.int 0 0),(.int 0 0),(.int 3 0),(.ref 398),(.bool true),(.int 181 0),(.ref 399),.none,(.ref 400),(.ref 401),(.ref 402),(.int 683 0),(.int 156 0),(.str "/claim/cut.py" 684)]),#[]⟩)::(nat_lit 404,⟨(.type "function"),none,(.func (fnOf "__init__" "RingFamily.__init__" (defArgs (inClass (top 23) 0)) (defBody (inClass (top 23) 0)) (defScope (inClass (top 23) 0)) .none .none .none (.str "countkin.ring" 664) none (.ref 403) .none)),#[]⟩)::(nat_lit 405,⟨(.type "tuple"),none,(.seq #[] 0),#[]⟩)::(nat_lit 407,⟨(.type "tuple"),none,(.seq #[(.str "self" 689),(.str "thing" 690)] 0),#[]⟩)::(nat_lit 408,⟨(.type "tuple"),none,(.seq #[] 0),#[]⟩)::(nat_lit 410,⟨(.type "code"),none,(.fields #[(.str "code_of" 686),(.str "RingFamily.code_of" 687),(.str "/claim/cut.py" 688),(.int 159 0),(.int 2 0),(.int 0 0),(.int 0 0),(.int 3 0),(.ref 405),(.bool true),(.int 181 0),(.ref 406),.none,(.ref 407),(.ref 408),(.ref 409),(.int 691 0),(.int 159 0),(.str "/claim/cut.py" 692)]),#[]⟩)::(nat_lit 411,⟨(.type "function"),none,(.func (fnOf "code_of" "RingFamily.code_of" (defArgs (inClass (top 23) 1)) (defBody (inClass (top 23) 1)) (defScope (inClass (top 23) 1)) .none .none .none (.str "countkin.ring" 664) none (.ref 410) .none)),#[]⟩)::(nat_lit 412,⟨(.type "tuple"),none,(.seq #[] 0),#[]⟩)::(nat_lit 414,⟨(.type "tuple"),none,(.seq #[(.str "self" 697),(.str "code" 698)] 0),#[]⟩)::(nat_lit 415,⟨(.type "tuple"),none,(.seq #[] 0),#[]⟩)::(nat_lit 417,⟨(.type "code"),none,(.fields #[(.str "of_code" 694),(.str "RingFamily.of_code" 695),(.str "/claim/cut.py" 696),(.int 162 0),(.int 2 0),(.int 0 0),(.int 0 0),(.int 3 0),(.ref 412),(.bool true),(.int 181 0),(.ref 413),.none,(.ref 414),(.ref 415),(.ref 416),(.int 699 0),(.int 162 0),(.str "/claim/cut.py" 700)]),#[]⟩)::(nat_lit 418,⟨(.type "function"),none,(.func (fnOf "of_code" "RingFamily.of_code" (defArgs (inClass (top 23) 2)) (defBody (inClass (top 23) 2)) (defScope (inClass (top 23) 2)) .none .none .none (.str "countkin.ring" 664) none (.ref 417) .none)),#[]⟩)::(nat_lit 419,⟨(.type "tuple"),none,(.seq #[] 0),#[]⟩)::(nat_lit 421,⟨(.type "tuple"),none,(.seq #[(.str "self" 705),(.str "size" 706)] 0),#[]⟩)::(nat_lit 422,⟨(.type "tuple"),none,(.seq #[] 0),#[]⟩)::(nat_lit 424,⟨(.type "code"),none,(.fields #[(.str "unchecked_many" 702),(.str "RingFamily.unchecked_many" 703),(.str "/claim/cut.py" 704),(.int 165 0),(.int 2 0),(.int 0 0),(.int 0 0),(.int 3 0),(.ref 419),(.bool true),(.int 181 0),(.ref 420),.none,(.ref 421),(.ref 422),(.ref 423),(.int 707 0),(.int 165 0),(.str "/claim/cut.py" 708)]),#[]⟩)::(nat_lit 425,⟨(.type "function"),none,(.func (fnOf "unchecked_many" "RingFamily.unchecked_many" (defArgs (inClass (top 23) 3)) (defBody (inClass (top 23) 3)) (defScope (inClass (top 23) 3)) .none .none .none (.str "countkin.ring" 664) none (.ref 424) .none)),#[]⟩)::(nat_lit 426,⟨(.type "tuple"),none,(.seq #[] 0),#[]⟩)::(nat_lit 428,⟨(.type "tuple"),none,(.seq #[(.str "self" 713),(.str "thing" 714)] 0),#[]⟩)::(nat_lit 429,⟨(.type "tuple"),none,(.seq #[] 0),#[]⟩)::(nat_lit 431,⟨(.type "code"),none,(.fields #[(.str "unchecked_number" 710),(.str "RingFamily.unchecked_number" 711),(.str "/claim/cut.py" 712),(.int 168 0),(.int 2 0),(.int 0 0),(.int 0 0),(.int 3 0),(.ref 426),(.bool true),(.int 181 0),(.ref 427),.none,(.ref 428),(.ref 429),(.ref 430),(.int 715 0),(.int 168 0),(.str "/claim/cut.py" 716)]),#[]⟩)::(nat_lit 432,⟨(.type "function"),none,(.func (fnOf "unchecked_number" "RingFamily.unchecked_number" (defArgs (inClass (top 23) 4)) (defBody (inClass (top 23) 4)) (defScope (inClass (top 23) 4)) .none .none .none (.str "countkin.ring" 664) none (.ref 431) .none)),#[]⟩)::(nat_lit 433,⟨(.type "tuple"),none,(.seq #[] 0),#[]⟩)::(nat_lit 435,⟨(.type "tuple"),none,(.seq #[(.str "self" 721),(.str "size" 722),(.str "number" 723)] 0),#[]⟩)::(nat_lit 436,⟨(.type "tuple"),none,(.seq #[] 0),#[]⟩)::(nat_lit 438,⟨(.type "code"),none,(.fields #[(.str "unchecked_thing" 718),(.str "RingFamily.unchecked_thing" 719),(.str "/claim/cut.py" 720),(.int 171 0),(.int 3 0),(.int 0 0),(.int 0 0),(.int 3 0),(.ref 433),(.bool true),(.int 181 0),(.ref 434),.none,(.ref 435),(.ref 436),(.ref 437),(.int 724 0),(.int 171 0),(.str "/claim/cut.py" 725)]),#[]⟩)::(nat_lit 439,⟨(.type "function"),none,(.func (fnOf "unchecked_thing" "RingFamily.unchecked_thing" (defArgs (inClass (top 23) 5)) (defBody (inClass (top 23) 5)) (defScope (inClass (top 23) 5)) .none .none .none (.str "countkin.ring" 664) none (.ref 438) .none)),#[]⟩)::(nat_lit 440,⟨(.type "tuple"),none,(.seq #[] 0),#[]⟩)::(nat_lit 441,⟨(.type "dict"),none,(.dict #[⟨PyData.keyHash P "__module__",.str "__module__" 673,(.str "countkin.ring" 664)⟩,⟨PyData.keyHash P "__firstlineno__",.str "__firstlineno__" 677,(.int 154 676)⟩,⟨PyData.keyHash P "__init__",.str "__init__" 685,(.ref 404)⟩,⟨PyData.keyHash P "code_of",.str "code_of" 693,(.ref 411)⟩,⟨PyData.keyHash P "of_code",.str "of_code" 701,(.ref 418)⟩,⟨PyData.keyHash P "unchecked_many",.str "unchecked_many" 709,(.ref 425)⟩,⟨PyData.keyHash P "unchecked_number",.str "unchecked_number" 717,(.ref 432)⟩,⟨PyData.keyHash P "unchecked_thing",.str "unchecked_thing" 726,(.ref 439)⟩,⟨PyData.keyHash P "__static_attributes__",.str "__static_attributes__" 727,(.ref 440)⟩,⟨PyData.keyHash P "__doc__",.str "__doc__" 728,.none⟩] 2),#[]⟩)::(nat_lit 442,⟨(.type "type"),none,(.cls ⟨"RingFamily",[(.ref 204)],[(.ref 442),(.ref 204),(.type "object")],441,"RingFamily",true,[],[(.ref 487),(.ref 532),(.ref 577)],false,none,false⟩),#[(some (.ref 391)),none,(some (.str "RingFamily" 666)),(some (.str "RingFamily" 674)),(some (.builtin "object.__new__")),(some (.bool true))]⟩)::(nat_lit 445,⟨(.type "tuple"),none,(.seq #[(.ref 442)] 0),#[]⟩)::(nat_lit 452,⟨(.type "tuple"),none,(.seq #[] 0),#[]⟩)::(nat_lit 454,⟨(.type "tuple"),none,(.seq #[(.str "self" 746)] 0),#[]⟩)::(nat_lit 455,⟨(.type "tuple"),none,(.seq #[] 0),#[]⟩)::(nat_lit 457,⟨(.type "code"),none,(.fields #[(.str "__init__" 743),(.str "Codes.__init__" 744),(.str "/claim/cut.py" 745),(.int 175 0),(.int 1 0),(.int 0 0),(.int 0 0),(.int 3 0),(.ref 452),(.bool true),(.int 181 0),(.ref 453),.none,(.ref 454),(.ref 455),(.ref 456),(.int 747 0),(.int 175 0),(.str "/claim/cut.py" 748)]),#[]⟩)::(nat_lit 458,⟨(.type "function"),none,(.func (fnOf "__init__" "Codes.__init__" (defArgs (inClass (top 24) 0)) (defBody (inClass (top 24) 0)) (defScope (inClass (top 24) 0)) .none .none .none (.str "countkin.ring" 664) none (.ref 457) .none)),#[]⟩)::(nat_lit 459,⟨(.type "tuple"),none,(.seq #[] 0),#[]⟩)::(nat_lit 461,⟨(.type "tuple"),none,(.seq #[(.str "self" 753),(.str "thing" 754)] 0),#[]⟩)::(nat_lit 462,⟨(.type "tuple"),none,(.seq #[] 0),#[]⟩)::(nat_lit 464,⟨(.type "code"),none,(.fields #[(.str "size_of" 750),(.str "Codes.size_of" 751),(.str "/claim/cut.py" 752),(.int 178 0),(.int 2 0),(.int 0 0),(.int 0 0),(.int 3 0),(.ref 459),(.bool true),(.int 181 0),(.ref 460),.none,(.ref 461),(.ref 462),(.ref 463),(.int 755 0),(.int 178 0),(.str "/claim/cut.py" 756)]),#[]⟩)::(nat_lit 465,⟨(.type "function"),none,(.func (fnOf "size_of" "Codes.size_of" (defArgs (inClass (top 24) 1)) (defBody (inClass (top 24) 1)) (defScope (inClass (top 24) 1)) .none .none .none (.str "countkin.ring" 664) none (.ref 464) .none)),#[]⟩)::(nat_lit 466,⟨(.type "tuple"),none,(.seq #[] 0),#[]⟩)::(nat_lit 469,⟨(.type "code"),none,(.fields #[(.str "is_one" 758),(.str "Codes.is_one" 759),(.str "/claim/cut.py" 760),(.int 181 0),(.int 2 0),(.int 0 0),(.int 0 0),(.int 3 0),(.ref 466),(.bool true),(.int 181 0),(.ref 467),.none,.none,.none,(.ref 468),(.int 761 0),(.int 181 0),(.str "/claim/cut.py" 762)]),#[]⟩)::(nat_lit 470,⟨(.type "function"),none,(.func (fnOf "is_one" "Codes.is_one" (defArgs (inClass (top 24) 2)) (defBody (inClass (top 24) 2)) (defScope (inClass (top 24) 2)) .none .none .none (.str "countkin.ring" 664) none (.ref 469) .none)),#[]⟩)::(nat_lit 471,⟨(.type "tuple"),none,(.seq #[] 0),#[]⟩)::(nat_lit 473,⟨(.type "tuple"),none,(.seq #[(.str "self" 767),(.str "thing" 768)] 0),#[]⟩)::(nat_lit 474,⟨(.type "tuple"),none,(.seq #[] 0),#[]⟩)::(nat_lit 476,⟨(.type "code"),none,(.fields #[(.str "code_of" 764),(.str "Codes.code_of" 765),(.str "/claim/cut.py" 766),(.int 185 0),(.int 2 0),(.int 0 0),(.int 0 0),(.int 3 0),(.ref 471),(.bool true),(.int 181 0),(.ref 472),.none,(.ref 473),(.ref 474),(.ref 475),(.int 769 0),(.int 185 0),(.str "/claim/cut.py" 770)]),#[]⟩)::(nat_lit 477,⟨(.type "function"),none,(.func (fnOf "code_of" "Codes.code_of" (defArgs (inClass (top 24) 3)) (defBody (inClass (top 24) 3)) (defScope (inClass (top 24) 3)) .none .none .none (.str "countkin.ring" 664) none (.ref 476) .none)),#[]⟩)::(nat_lit 478,⟨(.type "tuple"),none,(.seq #[] 0),#[]⟩)::(nat_lit 480,⟨(.type "tuple"),none,(.seq #[(.str "self" 775),(.str "code" 776)] 0),#[]⟩)::(nat_lit 481,⟨(.type "tuple"),none,(.seq #[] 0),#[]⟩)::(nat_lit 483,⟨(.type "code"),none,(.fields #[(.str "of_code" 772),(.str "Codes.of_code" 773),(.str "/claim/cut.py" 774),(.int 188 0),(.int 2 0),(.int 0 0),(.int 0 0),(.int 3 0),(.ref 478),(.bool true),(.int 181 0),(.ref 479),.none,(.ref 480),(.ref 481),(.ref 482),(.int 777 0),(.int 188 0),(.str "/claim/cut.py" 778)]),#[]⟩)::(nat_lit 484,⟨(.type "function"),none,(.func (fnOf "of_code" "Codes.of_code" (defArgs (inClass (top 24) 4)) (defBody (inClass (top 24) 4)) (defScope (inClass (top 24) 4)) .none .none .none (.str "countkin.ring" 664) none (.ref 483) .none)),#[]⟩)::(nat_lit 485,⟨(.type "tuple"),none,(.seq #[] 0),#[]⟩)::(nat_lit 486,⟨(.type "dict"),none,(.dict #[⟨PyData.keyHash P "__module__",.str "__module__" 738,(.str "countkin.ring" 664)⟩,⟨PyData.keyHash P "__firstlineno__",.str "__firstlineno__" 742,(.int 173 741)⟩,⟨PyData.keyHash P "__init__",.str "__init__" 749,(.ref 458)⟩,⟨PyData.keyHash P "size_of",.str "size_of" 757,(.ref 465)⟩,⟨PyData.keyHash P "is_one",.str "is_one" 763,(.ref 470)⟩,⟨PyData.keyHash P "code_of",.str "code_of" 771,(.ref 477)⟩,⟨PyData.keyHash P "of_code",.str "of_code" 779,(.ref 484)⟩,⟨PyData.keyHash P "__static_attributes__",.str "__static_attributes__" 780,(.ref 485)⟩,⟨PyData.keyHash P "__doc__",.str "__doc__" 781,.none⟩] 2),#[]⟩)::(nat_lit 487,⟨(.type "type"),none,(.cls ⟨"Codes",[(.ref 442)],[(.ref 487),(.ref 442),(.ref 204),(.type "object")],486,"Codes",true,[],[],false,none,false⟩),#[(some (.ref 445)),none,(some (.str "Codes" 731)),(some (.str "Codes" 739)),(some (.builtin "object.__new__")),(some (.bool true))]⟩)::(nat_lit 490,⟨(.type "tuple"),none,(.seq #[(.ref 442)] 0),#[]⟩)::(nat_lit 497,⟨(.type "tuple"),none,(.seq #[] 0),#[]⟩)::(nat_lit 499,⟨(.type "tuple"),none,(.seq #[(.str "self" 801)] 0),#[]⟩)::(nat_lit 500,⟨(.type "tuple"),none,(.seq #[] 0),#[]⟩)::(nat_lit 502,⟨(.type "code"),none,(.fields #[(.str "__init__" 798),(.str "Cars.__init__" 799),(.str "/claim/cut.py" 800),(.int 193 0),(.int 1 0),(.int 0 0),(.int 0 0),(.int 3 0),(.ref 497),(.bool true),(.int 181 0),(.ref 498),.none,(.ref 499),(.ref 500),(.ref 501),(.int 802 0),(.int 193 0),(.str "/claim/cut.py" 803)]),#[]⟩)::(nat_lit 503,⟨(.type "function"),none,(.func (fnOf "__init__" "Cars.__init__" (defArgs (inClass (top 26) 0)) (defBody (inClass (top 26) 0)) (defScope (inClass (top 26) 0)) .none .none .none (.str "countkin.cars" 784) none (.ref 502) .none)),#[]⟩)::(nat_lit 504,⟨(.type "tuple"),none,(.seq #[] 0),#[]⟩)::(nat_lit 506,⟨(.type "tuple"),none,(.seq #[(.str "self" 808),(.str "thing" 809)] 0),#[]⟩)::(nat_lit 507,⟨(.type "tuple"),none,(.seq #[] 0),#[]⟩)::(nat_lit 509,⟨(.type "code"),none,(.fields #[(.str "size_of" 805),(.str "Cars.size_of" 806),(.str "/claim/cut.py" 807),(.int 196 0),(.int 2 0),(.int 0 0),(.int 0 0),(.int 3 0),(.ref 504),(.bool true),(.int 181 0),(.ref 505),.none,(.ref 506),(.ref 507),(.ref 508),(.int 810 0),(.int 196 0),(.str "/claim/cut.py" 811)]),#[]⟩)::(nat_lit 510,⟨(.type "function"),none,(.func (fnOf "size_of" "Cars.size_of" (defArgs (inClass (top 26) 1)) (defBody (inClass (top 26) 1)) (defScope (inClass (top 26) 1)) .none .none .none (.str "countkin.cars" 784) none (.ref 509) .none)),#[]⟩)::(nat_lit 511,⟨(.type "tuple"),none,(.seq #[] 0),#[]⟩)::(nat_lit 514,⟨(.type "code"),none,(.fields #[(.str "is_one" 813),(.str "Cars.is_one" 814),(.str "/claim/cut.py" 815),(.int 199 0),(.int 2 0),(.int 0 0),(.int 0 0),(.int 3 0),(.ref 511),(.bool true),(.int 181 0),(.ref 512),.none,.none,.none,(.ref 513),(.int 816 0),(.int 199 0),(.str "/claim/cut.py" 817)]),#[]⟩)::(nat_lit 515,⟨(.type "function"),none,(.func (fnOf "is_one" "Cars.is_one" (defArgs (inClass (top 26) 2)) (defBody (inClass (top 26) 2)) (defScope (inClass (top 26) 2)) .none .none .none (.str "countkin.cars" 784) none (.ref 514) .none)),#[]⟩)::(nat_lit 516,⟨(.type "tuple"),none,(.seq #[] 0),#[]⟩)::(nat_lit 518,⟨(.type "tuple"),none,(.seq #[(.str "self" 822),(.str "thing" 823)] 0),#[]⟩)::(nat_lit 519,⟨(.type "tuple"),none,(.seq #[] 0),#[]⟩)::(nat_lit 521,⟨(.type "code"),none,(.fields #[(.str "code_of" 819),(.str "Cars.code_of" 820),(.str "/claim/cut.py" 821),(.int 204 0),(.int 2 0),(.int 0 0),(.int 0 0),(.int 3 0),(.ref 516),(.bool true),(.int 181 0),(.ref 517),.none,(.ref 518),(.ref 519),(.ref 520),(.int 824 0),(.int 204 0),(.str "/claim/cut.py" 825)]),#[]⟩)::(nat_lit 522,⟨(.type "function"),none,(.func (fnOf "code_of" "Cars.code_of" (defArgs (inClass (top 26) 3)) (defBody (inClass (top 26) 3)) (defScope (inClass (top 26) 3)) .none .none .none (.str "countkin.cars" 784) none (.ref 521) .none)),#[]⟩)::(nat_lit 523,⟨(.type "tuple"),none,(.seq #[] 0),#[]⟩)::(nat_lit 525,⟨(.type "tuple"),none,(.seq #[(.str "self" 830),(.str "code" 831)] 0),#[]⟩)::(nat_lit 526,⟨(.type "tuple"),none,(.seq #[] 0),#[]⟩)::(nat_lit 528,⟨(.type "code"),none,(.fields #[(.str "of_code" 827),(.str "Cars.of_code" 828),(.str "/claim/cut.py" 829),(.int 207 0),(.int 2 0),(.int 0 0),(.int 0 0),(.int 3 0),(.ref 523),(.bool true),(.int 181 0),(.ref 524),.none,(.ref 525),(.ref 526),(.ref 527),(.int 832 0),(.int 207 0),(.str "/claim/cut.py" 833)]),#[]⟩)::(nat_lit 529,⟨(.type "function"),none,(.func (fnOf "of_code" "Cars.of_code" (defArgs (inClass (top 26) 4)) (defBody (inClass (top 26) 4)) (defScope (inClass (top 26) 4)) .none .none .none (.str "countkin.cars" 784) none (.ref 528) .none)),#[]⟩)::(nat_lit 530,⟨(.type "tuple"),none,(.seq #[] 0),#[]⟩)::(nat_lit 531,⟨(.type "dict"),none,(.dict #[⟨PyData.keyHash P "__module__",.str "__module__" 793,(.str "countkin.cars" 784)⟩,⟨PyData.keyHash P "__firstlineno__",.str "__firstlineno__" 797,(.int 191 796)⟩,⟨PyData.keyHash P "__init__",.str "__init__" 804,(.ref 503)⟩,⟨PyData.keyHash P "size_of",.str "size_of" 812,(.ref 510)⟩,⟨PyData.keyHash P "is_one",.str "is_one" 818,(.ref 515)⟩,⟨PyData.keyHash P "code_of",.str "code_of" 826,(.ref 522)⟩,⟨PyData.keyHash P "of_code",.str "of_code" 834,(.ref 529)⟩,⟨PyData.keyHash P "__static_attributes__",.str "__static_attributes__" 835,(.ref 530)⟩,⟨PyData.keyHash P "__doc__",.str "__doc__" 836,.none⟩] 2),#[]⟩)::(nat_lit 532,⟨(.type "type"),none,(.cls ⟨"Cars",[(.ref 442)],[(.ref 532),(.ref 442),(.ref 204),(.type "object")],531,"Cars",true,[],[],false,none,false⟩),#[(some (.ref 490)),none,(some (.str "Cars" 786)),(some (.str "Cars" 794)),(some (.builtin "object.__new__")),(some (.bool true))]⟩)::(nat_lit 535,⟨(.type "tuple"),none,(.seq #[(.ref 442)] 0),#[]⟩)::(nat_lit 542,⟨(.type "tuple"),none,(.seq #[] 0),#[]⟩)::(nat_lit 544,⟨(.type "tuple"),none,(.seq #[(.str "self" 856)] 0),#[]⟩)::(nat_lit 545,⟨(.type "tuple"),none,(.seq #[] 0),#[]⟩)::(nat_lit 547,⟨(.type "code"),none,(.fields #[(.str "__init__" 853),(.str "Trees.__init__" 854),(.str "/claim/cut.py" 855),(.int 212 0),(.int 1 0),(.int 0 0),(.int 0 0),(.int 3 0),(.ref 542),(.bool true),(.int 181 0),(.ref 543),.none,(.ref 544),(.ref 545),(.ref 546),(.int 857 0),(.int 212 0),(.str "/claim/cut.py" 858)]),#[]⟩)::(nat_lit 548,⟨(.type "function"),none,(.func (fnOf "__init__" "Trees.__init__" (defArgs (inClass (top 28) 0)) (defBody (inClass (top 28) 0)) (defScope (inClass (top 28) 0)) .none .none .none (.str "countkin.elders" 839) none (.ref 547) .none)),#[]⟩)::(nat_lit 549,⟨(.type "tuple"),none,(.seq #[] 0),#[]⟩)::(nat_lit 551,⟨(.type "tuple"),none,(.seq #[(.str "self" 863),(.str "thing" 864)] 0),#[]⟩)::(nat_lit 552,⟨(.type "tuple"),none,(.seq #[] 0),#[]⟩)::(nat_lit 554,⟨(.type "code"),none,(.fields #[(.str "size_of" 860),(.str "Trees.size_of" 861),(.str "/claim/cut.py" 862),(.int 215 0),(.int 2 0),(.int 0 0),(.int 0 0),(.int 3 0),(.ref 549),(.bool true),(.int 181 0),(.ref 550),.none,(.ref 551),(.ref 552),(.ref 553),(.int 865 0),(.int 215 0),(.str "/claim/cut.py" 866)]),#[]⟩)::(nat_lit 555,⟨(.type "function"),none,(.func (fnOf "size_of" "Trees.size_of" (defArgs (inClass (top 28) 1)) (defBody (inClass (top 28) 1)) (defScope (inClass (top 28) 1)) .none .none .none (.str "countkin.elders" 839) none (.ref 554) .none)),#[]⟩)::(nat_lit 556,⟨(.type "tuple"),none,(.seq #[] 0),#[]⟩)::(nat_lit 559,⟨(.type "code"),none,(.fields #[(.str "is_one" 868),(.str "Trees.is_one" 869),(.str "/claim/cut.py" 870),(.int 218 0),(.int 2 0),(.int 0 0),(.int 0 0),(.int 3 0),(.ref 556),(.bool true),(.int 181 0),(.ref 557),.none,.none,.none,(.ref 558),(.int 871 0),(.int 218 0),(.str "/claim/cut.py" 872)]),#[]⟩)::(nat_lit 560,⟨(.type "function"),none,(.func (fnOf "is_one" "Trees.is_one" (defArgs (inClass (top 28) 2)) (defBody (inClass (top 28) 2)) (defScope (inClass (top 28) 2)) .none .none .none (.str "countkin.elders" 839) none (.ref 559) .none)),#[]⟩)::(nat_lit 561,⟨(.type "tuple"),none,(.seq #[] 0),#[]⟩)::(nat_lit 563,⟨(.type "tuple"),none,(.seq #[(.str "self" 877),(.str "thing" 878)] 0),#[]⟩)::(nat_lit 564,⟨(.type "tuple"),none,(.seq #[] 0),#[]⟩)::(nat_lit 566,⟨(.type "code"),none,(.fields #[(.str "code_of" 874),(.str "Trees.code_of" 875),(.str "/claim/cut.py" 876),(.int 224 0),(.int 2 0),(.int 0 0),(.int 0 0),(.int 3 0),(.ref 561),(.bool true),(.int 181 0),(.ref 562),.none,(.ref 563),(.ref 564),(.ref 565),(.int 879 0),(.int 224 0),(.str "/claim/cut.py" 880)]),#[]⟩)::(nat_lit 567,⟨(.type "function"),none,(.func (fnOf "code_of" "Trees.code_of" (defArgs (inClass (top 28) 3)) (defBody (inClass (top 28) 3)) (defScope (inClass (top 28) 3)) .none .none .none (.str "countkin.elders" 839) none (.ref 566) .none)),#[]⟩)::(nat_lit 568,⟨(.type "tuple"),none,(.seq #[] 0),#[]⟩)::(nat_lit 570,⟨(.type "tuple"),none,(.seq #[(.str "self" 885),(.str "code" 886)] 0),#[]⟩)::(nat_lit 571,⟨(.type "tuple"),none,(.seq #[] 0),#[]⟩)::(nat_lit 573,⟨(.type "code"),none,(.fields #[(.str "of_code" 882),(.str "Trees.of_code" 883),(.str "/claim/cut.py" 884),(.int 227 0),(.int 2 0),(.int 0 0),(.int 0 0),(.int 3 0),(.ref 568),(.bool true),(.int 181 0),(.ref 569),.none,(.ref 570),(.ref 571),(.ref 572),(.int 887 0),(.int 227 0),(.str "/claim/cut.py" 888)]),#[]⟩)::(nat_lit 574,⟨(.type "function"),none,(.func (fnOf "of_code" "Trees.of_code" (defArgs (inClass (top 28) 4)) (defBody (inClass (top 28) 4)) (defScope (inClass (top 28) 4)) .none .none .none (.str "countkin.elders" 839) none (.ref 573) .none)),#[]⟩)::(nat_lit 575,⟨(.type "tuple"),none,(.seq #[] 0),#[]⟩)::(nat_lit 576,⟨(.type "dict"),none,(.dict #[⟨PyData.keyHash P "__module__",.str "__module__" 848,(.str "countkin.elders" 839)⟩,⟨PyData.keyHash P "__firstlineno__",.str "__firstlineno__" 852,(.int 210 851)⟩,⟨PyData.keyHash P "__init__",.str "__init__" 859,(.ref 548)⟩,⟨PyData.keyHash P "size_of",.str "size_of" 867,(.ref 555)⟩,⟨PyData.keyHash P "is_one",.str "is_one" 873,(.ref 560)⟩,⟨PyData.keyHash P "code_of",.str "code_of" 881,(.ref 567)⟩,⟨PyData.keyHash P "of_code",.str "of_code" 889,(.ref 574)⟩,⟨PyData.keyHash P "__static_attributes__",.str "__static_attributes__" 890,(.ref 575)⟩,⟨PyData.keyHash P "__doc__",.str "__doc__" 891,.none⟩] 2),#[]⟩)::(nat_lit 577,⟨(.type "type"),none,(.cls ⟨"Trees",[(.ref 442)],[(.ref 577),(.ref 442),(.ref 204),(.type "object")],576,"Trees",true,[],[],false,none,false⟩),#[(some (.ref 535)),none,(some (.str "Trees" 841)),(some (.str "Trees" 849)),(some (.builtin "object.__new__")),(some (.bool true))]⟩)::(nat_lit 580,⟨(.type "tuple"),none,(.seq #[] 0),#[]⟩)::(nat_lit 582,⟨(.type "tuple"),none,(.seq #[(.str "elders" 897),(.str "knot" 898),(.str "reached" 899),(.str "step" 900)] 0),#[]⟩)::(nat_lit 583,⟨(.type "tuple"),none,(.seq #[] 0),#[]⟩)::(nat_lit 585,⟨(.type "code"),none,(.fields #[(.str "comes_to_0" 894),(.str "comes_to_0" 895),(.str "/claim/cut.py" 896),(.int 229 0),(.int 2 0),(.int 0 0),(.int 0 0),(.int 3 0),(.ref 580),(.bool true),(.int 181 0),(.ref 581),.none,(.ref 582),(.ref 583),(.ref 584),(.int 901 0),(.int 229 0),(.str "/claim/cut.py" 902)]),#[]⟩)::(nat_lit 586,⟨(.type "function"),none,(.func (fnOf "comes_to_0" "comes_to_0" (defArgs (top 29)) (defBody (top 29)) (defScope (top 29)) .none .none .none (.str "countkin.elders" 839) none (.ref 585) .none)),#[]⟩)::(nat_lit 587,⟨(.type "tuple"),none,(.seq #[(.ref 281)] 0),#[]⟩)::(nat_lit 594,⟨(.type "tuple"),none,(.seq #[] 0),#[]⟩)::(nat_lit 596,⟨(.type "tuple"),none,(.seq #[(.str "self" 921)] 0),#[]⟩)::(nat_lit 597,⟨(.type "tuple"),none,(.seq #[] 0),#[]⟩)::(nat_lit 599,⟨(.type "code"),none,(.fields #[(.str "__init__" 918),(.str "Floors.__init__" 919),(.str "/claim/cut.py" 920),(.int 238 0),(.int 1 0),(.int 0 0),(.int 0 0),(.int 3 0),(.ref 594),(.bool true),(.int 181 0),(.ref 595),.none,(.ref 596),(.ref 597),(.ref 598),(.int 922 0),(.int 238 0),(.str "/claim/cut.py" 923)]),#[]⟩)::(nat_lit 600,⟨(.type "function"),none,(.func (fnOf "__init__" "Floors.__init__" (defArgs (inClass (top 31) 0)) (defBody (inClass (top 31) 0)) (defScope (inClass (top 31) 0)) .none .none .none (.str "countkin.floors" 904) none (.ref 599) .none)),#[]⟩)::(nat_lit 601,⟨(.type "tuple"),none,(.seq #[] 0),#[]⟩)::(nat_lit 603,⟨(.type "tuple"),none,(.seq #[(.str "self" 928),(.str "thing" 929)] 0),#[]⟩)::(nat_lit 604,⟨(.type "tuple"),none,(.seq #[] 0),#[]⟩)::(nat_lit 606,⟨(.type "code"),none,(.fields #[(.str "size_of" 925),(.str "Floors.size_of" 926),(.str "/claim/cut.py" 927),(.int 241 0),(.int 2 0),(.int 0 0),(.int 0 0),(.int 3 0),(.ref 601),(.bool true),(.int 181 0),(.ref 602),.none,(.ref 603),(.ref 604),(.ref 605),(.int 930 0),(.int 241 0),(.str "/claim/cut.py" 931)]),#[]⟩)::(nat_lit 607,⟨(.type "function"),none,(.func (fnOf "size_of" "Floors.size_of" (defArgs (inClass (top 31) 1)) (defBody (inClass (top 31) 1)) (defScope (inClass (top 31) 1)) .none .none .none (.str "countkin.floors" 904) none (.ref 606) .none)),#[]⟩)::(nat_lit 608,⟨(.type "tuple"),none,(.seq #[] 0),#[]⟩)::(nat_lit 611,⟨(.type "code"),none,(.fields #[(.str "is_one" 933),(.str "Floors.is_one" 934),(.str "/claim/cut.py" 935),(.int 244 0),(.int 2 0),(.int 0 0),(.int 0 0),(.int 3 0),(.ref 608),(.bool true),(.int 181 0),(.ref 609),.none,.none,.none,(.ref 610),(.int 936 0),(.int 244 0),(.str "/claim/cut.py" 937)]),#[]⟩)::(nat_lit 612,⟨(.type "function"),none,(.func (fnOf "is_one" "Floors.is_one" (defArgs (inClass (top 31) 2)) (defBody (inClass (top 31) 2)) (defScope (inClass (top 31) 2)) .none .none .none (.str "countkin.floors" 904) none (.ref 611) .none)),#[]⟩)::(nat_lit 613,⟨(.type "tuple"),none,(.seq #[] 0),#[]⟩)::(nat_lit 615,⟨(.type "tuple"),none,(.seq #[(.str "self" 942)] 0),#[]⟩)::(nat_lit 616,⟨(.type "tuple"),none,(.seq #[] 0),#[]⟩)::(nat_lit 618,⟨(.type "code"),none,(.fields #[(.str "bare" 939),(.str "Floors.bare" 940),(.str "/claim/cut.py" 941),(.int 253 0),(.int 1 0),(.int 0 0),(.int 0 0),(.int 3 0),(.ref 613),(.bool true),(.int 181 0),(.ref 614),.none,(.ref 615),(.ref 616),(.ref 617),(.int 943 0),(.int 253 0),(.str "/claim/cut.py" 944)]),#[]⟩)::(nat_lit 619,⟨(.type "function"),none,(.func (fnOf "bare" "Floors.bare" (defArgs (inClass (top 31) 3)) (defBody (inClass (top 31) 3)) (defScope (inClass (top 31) 3)) .none .none .none (.str "countkin.floors" 904) none (.ref 618) .none)),#[]⟩)::(nat_lit 620,⟨(.type "tuple"),none,(.seq #[] 0),#[]⟩)::(nat_lit 622,⟨(.type "tuple"),none,(.seq #[(.str "self" 949),(.str "thing" 950)] 0),#[]⟩)::(nat_lit 623,⟨(.type "tuple"),none,(.seq #[] 0),#[]⟩)::(nat_lit 625,⟨(.type "code"),none,(.fields #[(.str "parted" 946),(.str "Floors.parted" 947),(.str "/claim/cut.py" 948),(.int 256 0),(.int 2 0),(.int 0 0),(.int 0 0),(.int 3 0),(.ref 620),(.bool true),(.int 181 0),(.ref 621),.none,(.ref 622),(.ref 623),(.ref 624),(.int 951 0),(.int 256 0),(.str "/claim/cut.py" 952)]),#[]⟩)::(nat_lit 626,⟨(.type "function"),none,(.func (fnOf "parted" "Floors.parted" (defArgs (inClass (top 31) 4)) (defBody (inClass (top 31) 4)) (defScope (inClass (top 31) 4)) .none .none .none (.str "countkin.floors" 904) none (.ref 625) .none)),#[]⟩)::(nat_lit 627,⟨(.type "tuple"),none,(.seq #[] 0),#[]⟩)::(nat_lit 629,⟨(.type "tuple"),none,(.seq #[(.str "self" 957),(.str "left" 958),(.str "right" 959)] 0),#[]⟩)::(nat_lit 630,⟨(.type "tuple"),none,(.seq #[] 0),#[]⟩)::(nat_lit 632,⟨(.type "code"),none,(.fields #[(.str "joined" 954),(.str "Floors.joined" 955),(.str "/claim/cut.py" 956),(.int 259 0),(.int 3 0),(.int 0 0),(.int 0 0),(.int 3 0),(.ref 627),(.bool true),(.int 181 0),(.ref 628),.none,(.ref 629),(.ref 630),(.ref 631),(.int 960 0),(.int 259 0),(.str "/claim/cut.py" 961)]),#[]⟩)::(nat_lit 633,⟨(.type "function"),none,(.func (fnOf "joined" "Floors.joined" (defArgs (inClass (top 31) 5)) (defBody (inClass (top 31) 5)) (defScope (inClass (top 31) 5)) .none .none .none (.str "countkin.floors" 904) none (.ref 632) .none)),#[]⟩)::(nat_lit 634,⟨(.type "tuple"),none,(.seq #[] 0),#[]⟩)::(nat_lit 635,⟨(.type "dict"),none,(.dict #[⟨PyData.keyHash P "__module__",.str "__module__" 913,(.str "countkin.floors" 904)⟩,⟨PyData.keyHash P "__firstlineno__",.str "__firstlineno__" 917,(.int 236 916)⟩,⟨PyData.keyHash P "__init__",.str "__init__" 924,(.ref 600)⟩,⟨PyData.keyHash P "size_of",.str "size_of" 932,(.ref 607)⟩,⟨PyData.keyHash P "is_one",.str "is_one" 938,(.ref 612)⟩,⟨PyData.keyHash P "bare",.str "bare" 945,(.ref 619)⟩,⟨PyData.keyHash P "parted",.str "parted" 953,(.ref 626)⟩,⟨PyData.keyHash P "joined",.str "joined" 962,(.ref 633)⟩,⟨PyData.keyHash P "__static_attributes__",.str "__static_attributes__" 963,(.ref 634)⟩,⟨PyData.keyHash P "__doc__",.str "__doc__" 964,.none⟩] 2),#[]⟩)::(nat_lit 636,⟨(.type "type"),none,(.cls ⟨"Floors",[(.ref 281)],[(.ref 636),(.ref 281),(.ref 204),(.type "object")],635,"Floors",true,[],[],false,none,false⟩),#[(some (.ref 587)),none,(some (.str "Floors" 906)),(some (.str "Floors" 914)),(some (.builtin "object.__new__")),(some (.bool true))]⟩)::(nat_lit 639,⟨(.type "tuple"),none,(.seq #[] 0),#[]⟩)::(nat_lit 641,⟨(.type "tuple"),none,(.seq #[(.str "corners" 970),(.str "a" 971),(.str "b" 972)] 0),#[]⟩)::(nat_lit 642,⟨(.type "tuple"),none,(.seq #[] 0),#[]⟩)::(nat_lit 644,⟨(.type "code"),none,(.fields #[(.str "may_be_cut" 967),(.str "may_be_cut" 968),(.str "/claim/cut.py" 969),(.int 261 0),(.int 3 0),(.int 0 0),(.int 0 0),(.int 3 0),(.ref 639),(.bool true),(.int 181 0),(.ref 640),.none,(.ref 641),(.ref 642),(.ref 643),(.int 973 0),(.int 261 0),(.str "/claim/cut.py" 974)]),#[]⟩)::(nat_lit 645,⟨(.type "function"),none,(.func (fnOf "may_be_cut" "may_be_cut" (defArgs (top 32)) (defBody (top 32)) (defScope (top 32)) .none .none .none (.str "countkin.floors" 904) none (.ref 644) .none)),#[]⟩)::(nat_lit 646,⟨(.type "tuple"),none,(.seq #[] 0),#[]⟩)::(nat_lit 649,⟨(.type "code"),none,(.fields #[(.str "third_corner" 976),(.str "third_corner" 977),(.str "/claim/cut.py" 978),(.int 263 0),(.int 3 0),(.int 0 0),(.int 0 0),(.int 3 0),(.ref 646),(.bool true),(.int 181 0),(.ref 647),.none,.none,.none,(.ref 648),(.int 979 0),(.int 263 0),(.str "/claim/cut.py" 980)]),#[]⟩)::(nat_lit 650,⟨(.type "function"),none,(.func (fnOf "third_corner" "third_corner" (defArgs (top 33)) (defBody (top 33)) (defScope (top 33)) .none .none .none (.str "countkin.floors" 904) none (.ref 649) .none)),#[]⟩)::(nat_lit 651,⟨(.type "tuple"),none,(.seq #[(.ref 281)] 0),#[]⟩)::(nat_lit 658,⟨(.type "tuple"),none,(.seq #[] 0),#[]⟩)::(nat_lit 660,⟨(.type "tuple"),none,(.seq #[(.str "self" 999)] 0),#[]⟩)::(nat_lit 661,⟨(.type "tuple"),none,(.seq #[] 0),#[]⟩)::(nat_lit 663,⟨(.type "code"),none,(.fields #[(.str "__init__" 996),(.str "Turns.__init__" 997),(.str "/claim/cut.py" 998),(.int 268 0),(.int 1 0),(.int 0 0),(.int 0 0),(.int 3 0),(.ref 658),(.bool true),(.int 181 0),(.ref 659),.none,(.ref 660),(.ref 661),(.ref 662),(.int 1000 0),(.int 268 0),(.str "/claim/cut.py" 1001)]),#[]⟩)::(nat_lit 664,⟨(.type "function"),none,(.func (fnOf "__init__" "Turns.__init__" (defArgs (inClass (top 35) 0)) (defBody (inClass (top 35) 0)) (defScope (inClass (top 35) 0)) .none .none .none (.str "countkin.rows" 982) none (.ref 663) .none)),#[]⟩)::(nat_lit 665,⟨(.type "tuple"),none,(.seq #[] 0),#[]⟩)::(nat_lit 667,⟨(.type "tuple"),none,(.seq #[(.str "self" 1006),(.str "thing" 1007)] 0),#[]⟩)::(nat_lit 668,⟨(.type "tuple"),none,(.seq #[] 0),#[]⟩)::(nat_lit 670,⟨(.type "code"),none,(.fields #[(.str "size_of" 1003),(.str "Turns.size_of" 1004),(.str "/claim/cut.py" 1005),(.int 271 0),(.int 2 0),(.int 0 0),(.int 0 0),(.int 3 0),(.ref 665),(.bool true),(.int 181 0),(.ref 666),.none,(.ref 667),(.ref 668),(.ref 669),(.int 1008 0),(.int 271 0),(.str "/claim/cut.py" 1009)]),#[]⟩)::(nat_lit 671,⟨(.type "function"),none,(.func (fnOf "size_of" "Turns.size_of" (defArgs (inClass (top 35) 1)) (defBody (inClass (top 35) 1)) (defScope (inClass (top 35) 1)) .none .none .none (.str "countkin.rows" 982) none (.ref 670) .none)),#[]⟩)::(nat_lit 672,⟨(.type "tuple"),none,(.seq #[] 0),#[]⟩)::(nat_lit 674,⟨(.type "tuple"),none,(.seq #[(.str "self" 1014),(.str "thing" 1015)] 0),#[]⟩)::(nat_lit 675,⟨(.type "tuple"),none,(.seq #[] 0),#[]⟩)::(nat_lit 677,⟨(.type "code"),none,(.fields #[(.str "is_one" 1011),(.str "Turns.is_one" 1012),(.str "/claim/cut.py" 1013),(.int 274 0),(.int 2 0),(.int 0 0),(.int 0 0),(.int 3 0),(.ref 672),(.bool true),(.int 181 0),(.ref 673),.none,(.ref 674),(.ref 675),(.ref 676),(.int 1016 0),(.int 274 0),(.str "/claim/cut.py" 1017)]),#[]⟩)::(nat_lit 678,⟨(.type "function"),none,(.func (fnOf "is_one" "Turns.is_one" (defArgs (inClass (top 35) 2)) (defBody (inClass (top 35) 2)) (defScope (inClass (top 35) 2)) .none .none .none (.str "countkin.rows" 982) none (.ref 677) .none)),#[]⟩)::(nat_lit 679,⟨(.type "tuple"),none,(.seq #[] 0),#[]⟩)::(nat_lit 681,⟨(.type "tuple"),none,(.seq #[(.str "self" 1022)] 0),#[]⟩)::(nat_lit 682,⟨(.type "tuple"),none,(.seq #[] 0),#[]⟩)::(nat_lit 684,⟨(.type "code"),none,(.fields #[(.str "bare" 1019),(.str "Turns.bare" 1020),(.str "/claim/cut.py" 1021),(.int 277 0),(.int 1 0),(.int 0 0),(.int 0 0),(.int 3 0),(.ref 679),(.bool true),(.int 181 0),(.ref 680),.none,(.ref 681),(.ref 682),(.ref 683),(.int 1023 0),(.int 277 0),(.str "/claim/cut.py" 1024)]),#[]⟩)::(nat_lit 685,⟨(.type "function"),none,(.func (fnOf "bare" "Turns.bare" (defArgs (inClass (top 35) 3)) (defBody (inClass (top 35) 3)) (defScope (inClass (top 35) 3)) .none .none .none (.str "countkin.rows" 982) none (.ref 684) .none)),#[]⟩)::(nat_lit 686,⟨(.type "tuple"),none,(.seq #[] 0),#[]⟩)::(nat_lit 688,⟨(.type "tuple"),none,(.seq #[(.str "self" 1029),(.str "thing" 1030)] 0),#[]⟩)::(nat_lit 689,⟨(.type "tuple"),none,(.seq #[] 0),#[]⟩)::(nat_lit 691,⟨(.type "code"),none,(.fields #[(.str "parted" 1026),(.str "Turns.parted" 1027),(.str "/claim/cut.py" 1028),(.int 280 0),(.int 2 0),(.int 0 0),(.int 0 0),(.int 3 0),(.ref 686),(.bool true),(.int 181 0),(.ref 687),.none,(.ref 688),(.ref 689),(.ref 690),(.int 1031 0),(.int 280 0),(.str "/claim/cut.py" 1032)]),#[]⟩)::(nat_lit 692,⟨(.type "function"),none,(.func (fnOf "parted" "Turns.parted" (defArgs (inClass (top 35) 4)) (defBody (inClass (top 35) 4)) (defScope (inClass (top 35) 4)) .none .none .none (.str "countkin.rows" 982) none (.ref 691) .none)),#[]⟩)::(nat_lit 693,⟨(.type "tuple"),none,(.seq #[] 0),#[]⟩)::(nat_lit 695,⟨(.type "tuple"),none,(.seq #[(.str "self" 1037),(.str "left" 1038),(.str "right" 1039)] 0),#[]⟩)::(nat_lit 696,⟨(.type "tuple"),none,(.seq #[] 0),#[]⟩)::(nat_lit 698,⟨(.type "code"),none,(.fields #[(.str "joined" 1034),(.str "Turns.joined" 1035),(.str "/claim/cut.py" 1036),(.int 283 0),(.int 3 0),(.int 0 0),(.int 0 0),(.int 3 0),(.ref 693),(.bool true),(.int 181 0),(.ref 694),.none,(.ref 695),(.ref 696),(.ref 697),(.int 1040 0),(.int 283 0),(.str "/claim/cut.py" 1041)]),#[]⟩)::(nat_lit 699,⟨(.type "function"),none,(.func (fnOf "joined" "Turns.joined" (defArgs (inClass (top 35) 5)) (defBody (inClass (top 35) 5)) (defScope (inClass (top 35) 5)) .none .none .none (.str "countkin.rows" 982) none (.ref 698) .none)),#[]⟩)::(nat_lit 700,⟨(.type "tuple"),none,(.seq #[] 0),#[]⟩)::(nat_lit 701,⟨(.type "dict"),none,(.dict #[⟨PyData.keyHash P "__module__",.str "__module__" 991,(.str "countkin.rows" 982)⟩,⟨PyData.keyHash P "__firstlineno__",.str "__firstlineno__" 995,(.int 266 994)⟩,⟨PyData.keyHash P "__init__",.str "__init__" 1002,(.ref 664)⟩,⟨PyData.keyHash P "size_of",.str "size_of" 1010,(.ref 671)⟩,⟨PyData.keyHash P "is_one",.str "is_one" 1018,(.ref 678)⟩,⟨PyData.keyHash P "bare",.str "bare" 1025,(.ref 685)⟩,⟨PyData.keyHash P "parted",.str "parted" 1033,(.ref 692)⟩,⟨PyData.keyHash P "joined",.str "joined" 1042,(.ref 699)⟩,⟨PyData.keyHash P "__static_attributes__",.str "__static_attributes__" 1043,(.ref 700)⟩,⟨PyData.keyHash P "__doc__",.str "__doc__" 1044,.none⟩] 2),#[]⟩)::(nat_lit 702,⟨(.type "type"),none,(.cls ⟨"Turns",[(.ref 281)],[(.ref 702),(.ref 281),(.ref 204),(.type "object")],701,"Turns",true,[],[],false,none,false⟩),#[(some (.ref 651)),none,(some (.str "Turns" 984)),(some (.str "Turns" 992)),(some (.builtin "object.__new__")),(some (.bool true))]⟩)::(nat_lit 705,⟨(.type "tuple"),none,(.seq #[] 0),#[]⟩)::(nat_lit 707,⟨(.type "tuple"),none,(.seq #[(.str "numbers" 1050),(.str "stack" 1051),(.str "put" 1052),(.str "number" 1053)] 0),#[]⟩)::(nat_lit 708,⟨(.type "tuple"),none,(.seq #[] 0),#[]⟩)::(nat_lit 710,⟨(.type "code"),none,(.fields #[(.str "comes_off_a_stack" 1047),(.str "comes_off_a_stack" 1048),(.str "/claim/cut.py" 1049),(.int 285 0),(.int 1 0),(.int 0 0),(.int 0 0),(.int 3 0),(.ref 705),(.bool true),(.int 181 0),(.ref 706),.none,(.ref 707),(.ref 708),(.ref 709),(.int 1054 0),(.int 285 0),(.str "/claim/cut.py" 1055)]),#[]⟩)::(nat_lit 711,⟨(.type "function"),none,(.func (fnOf "comes_off_a_stack" "comes_off_a_stack" (defArgs (top 36)) (defBody (top 36)) (defScope (top 36)) .none .none .none (.str "countkin.rows" 982) none (.ref 710) .none)),#[]⟩)::(nat_lit 712,⟨(.type "tuple"),none,(.seq #[] 0),#[]⟩)::(nat_lit 714,⟨(.type "tuple"),none,(.seq #[(.str "text" 1062),(.str "depth" 1063),(.str "sign" 1064)] 0),#[]⟩)::(nat_lit 715,⟨(.type "tuple"),none,(.seq #[] 0),#[]⟩)::(nat_lit 717,⟨(.type "code"),none,(.fields #[(.str "closes" 1059),(.str "closes" 1060),(.str "/claim/cut.py" 1061),(.int 296 0),(.int 1 0),(.int 0 0),(.int 0 0),(.int 3 0),(.ref 712),(.bool true),(.int 181 0),(.ref 713),.none,(.ref 714),(.ref 715),(.ref 716),(.int 1065 0),(.int 296 0),(.str "/claim/cut.py" 1066)]),#[]⟩)::(nat_lit 718,⟨(.type "function"),none,(.func (fnOf "closes" "closes" (defArgs (top 38)) (defBody (top 38)) (defScope (top 38)) .none .none .none (.str "countkin.steps" 1057) none (.ref 717) .none)),#[]⟩)::(nat_lit 719,⟨(.type "tuple"),none,(.seq #[(.ref 281)] 0),#[]⟩)::(nat_lit 726,⟨(.type "tuple"),none,(.seq #[] 0),#[]⟩)::(nat_lit 728,⟨(.type "tuple"),none,(.seq #[(.str "self" 1085)] 0),#[]⟩)::(nat_lit 729,⟨(.type "tuple"),none,(.seq #[] 0),#[]⟩)::(nat_lit 731,⟨(.type "code"),none,(.fields #[(.str "__init__" 1082),(.str "Brackets.__init__" 1083),(.str "/claim/cut.py" 1084),(.int 309 0),(.int 1 0),(.int 0 0),(.int 0 0),(.int 3 0),(.ref 726),(.bool true),(.int 181 0),(.ref 727),.none,(.ref 728),(.ref 729),(.ref 730),(.int 1086 0),(.int 309 0),(.str "/claim/cut.py" 1087)]),#[]⟩)::(nat_lit 732,⟨(.type "function"),none,(.func (fnOf "__init__" "Brackets.__init__" (defArgs (inClass (top 40) 0)) (defBody (inClass (top 40) 0)) (defScope (inClass (top 40) 0)) .none .none .none (.str "countkin.signs" 1068) none (.ref 731) .none)),#[]⟩)::(nat_lit 733,⟨(.type "tuple"),none,(.seq #[] 0),#[]⟩)::(nat_lit 735,⟨(.type "tuple"),none,(.seq #[(.str "self" 1092),(.str "thing" 1093)] 0),#[]⟩)::(nat_lit 736,⟨(.type "tuple"),none,(.seq #[] 0),#[]⟩)::(nat_lit 738,⟨(.type "code"),none,(.fields #[(.str "size_of" 1089),(.str "Brackets.size_of" 1090),(.str "/claim/cut.py" 1091),(.int 312 0),(.int 2 0),(.int 0 0),(.int 0 0),(.int 3 0),(.ref 733),(.bool true),(.int 181 0),(.ref 734),.none,(.ref 735),(.ref 736),(.ref 737),(.int 1094 0),(.int 312 0),(.str "/claim/cut.py" 1095)]),#[]⟩)::(nat_lit 739,⟨(.type "function"),none,(.func (fnOf "size_of" "Brackets.size_of" (defArgs (inClass (top 40) 1)) (defBody (inClass (top 40) 1)) (defScope (inClass (top 40) 1)) .none .none .none (.str "countkin.signs" 1068) none (.ref 738) .none)),#[]⟩)::(nat_lit 740,⟨(.type "tuple"),none,(.seq #[] 0),#[]⟩)::(nat_lit 742,⟨(.type "tuple"),none,(.seq #[(.str "self" 1100),(.str "thing" 1101)] 0),#[]⟩)::(nat_lit 743,⟨(.type "tuple"),none,(.seq #[] 0),#[]⟩)::(nat_lit 745,⟨(.type "code"),none,(.fields #[(.str "is_one" 1097),(.str "Brackets.is_one" 1098),(.str "/claim/cut.py" 1099),(.int 315 0),(.int 2 0),(.int 0 0),(.int 0 0),(.int 3 0),(.ref 740),(.bool true),(.int 181 0),(.ref 741),.none,(.ref 742),(.ref 743),(.ref 744),(.int 1102 0),(.int 315 0),(.str "/claim/cut.py" 1103)]),#[]⟩)::(nat_lit 746,⟨(.type "function"),none,(.func (fnOf "is_one" "Brackets.is_one" (defArgs (inClass (top 40) 2)) (defBody (inClass (top 40) 2)) (defScope (inClass (top 40) 2)) .none .none .none (.str "countkin.signs" 1068) none (.ref 745) .none)),#[]⟩)::(nat_lit 747,⟨(.type "tuple"),none,(.seq #[] 0),#[]⟩)::(nat_lit 749,⟨(.type "tuple"),none,(.seq #[(.str "self" 1108)] 0),#[]⟩)::(nat_lit 750,⟨(.type "tuple"),none,(.seq #[] 0),#[]⟩)::(nat_lit 752,⟨(.type "code"),none,(.fields #[(.str "bare" 1105),(.str "Brackets.bare" 1106),(.str "/claim/cut.py" 1107),(.int 318 0),(.int 1 0),(.int 0 0),(.int 0 0),(.int 3 0),(.ref 747),(.bool true),(.int 181 0),(.ref 748),.none,(.ref 749),(.ref 750),(.ref 751),(.int 1109 0),(.int 318 0),(.str "/claim/cut.py" 1110)]),#[]⟩)::(nat_lit 753,⟨(.type "function"),none,(.func (fnOf "bare" "Brackets.bare" (defArgs (inClass (top 40) 3)) (defBody (inClass (top 40) 3)) (defScope (inClass (top 40) 3)) .none .none .none (.str "countkin.signs" 1068) none (.ref 752) .none)),#[]⟩)::(nat_lit 754,⟨(.type "tuple"),none,(.seq #[] 0),#[]⟩)::(nat_lit 756,⟨(.type "tuple"),none,(.seq #[(.str "self" 1115),(.str "thing" 1116)] 0),#[]⟩)::(nat_lit 757,⟨(.type "tuple"),none,(.seq #[] 0),#[]⟩)::(nat_lit 759,⟨(.type "code"),none,(.fields #[(.str "parted" 1112),(.str "Brackets.parted" 1113),(.str "/claim/cut.py" 1114),(.int 321 0),(.int 2 0),(.int 0 0),(.int 0 0),(.int 3 0),(.ref 754),(.bool true),(.int 181 0),(.ref 755),.none,(.ref 756),(.ref 757),(.ref 758),(.int 1117 0),(.int 321 0),(.str "/claim/cut.py" 1118)]),#[]⟩)::(nat_lit 760,⟨(.type "function"),none,(.func (fnOf "parted" "Brackets.parted" (defArgs (inClass (top 40) 4)) (defBody (inClass (top 40) 4)) (defScope (inClass (top 40) 4)) .none .none .none (.str "countkin.signs" 1068) none (.ref 759) .none)),#[]⟩)::(nat_lit 761,⟨(.type "tuple"),none,(.seq #[] 0),#[]⟩)::(nat_lit 763,⟨(.type "tuple"),none,(.seq #[(.str "self" 1123),(.str "left" 1124),(.str "right" 1125)] 0),#[]⟩)::(nat_lit 764,⟨(.type "tuple"),none,(.seq #[] 0),#[]⟩)::(nat_lit 766,⟨(.type "code"),none,(.fields #[(.str "joined" 1120),(.str "Brackets.joined" 1121),(.str "/claim/cut.py" 1122),(.int 324 0),(.int 3 0),(.int 0 0),(.int 0 0),(.int 3 0),(.ref 761),(.bool true),(.int 181 0),(.ref 762),.none,(.ref 763),(.ref 764),(.ref 765),(.int 1126 0),(.int 324 0),(.str "/claim/cut.py" 1127)]),#[]⟩)::(nat_lit 767,⟨(.type "function"),none,(.func (fnOf "joined" "Brackets.joined" (defArgs (inClass (top 40) 5)) (defBody (inClass (top 40) 5)) (defScope (inClass (top 40) 5)) .none .none .none (.str "countkin.signs" 1068) none (.ref 766) .none)),#[]⟩)::(nat_lit 768,⟨(.type "tuple"),none,(.seq #[] 0),#[]⟩)::(nat_lit 769,⟨(.type "dict"),none,(.dict #[⟨PyData.keyHash P "__module__",.str "__module__" 1077,(.str "countkin.signs" 1068)⟩,⟨PyData.keyHash P "__firstlineno__",.str "__firstlineno__" 1081,(.int 307 1080)⟩,⟨PyData.keyHash P "__init__",.str "__init__" 1088,(.ref 732)⟩,⟨PyData.keyHash P "size_of",.str "size_of" 1096,(.ref 739)⟩,⟨PyData.keyHash P "is_one",.str "is_one" 1104,(.ref 746)⟩,⟨PyData.keyHash P "bare",.str "bare" 1111,(.ref 753)⟩,⟨PyData.keyHash P "parted",.str "parted" 1119,(.ref 760)⟩,⟨PyData.keyHash P "joined",.str "joined" 1128,(.ref 767)⟩,⟨PyData.keyHash P "__static_attributes__",.str "__static_attributes__" 1129,(.ref 768)⟩,⟨PyData.keyHash P "__doc__",.str "__doc__" 1130,.none⟩] 2),#[]⟩)::(nat_lit 770,⟨(.type "type"),none,(.cls ⟨"Brackets",[(.ref 281)],[(.ref 770),(.ref 281),(.ref 204),(.type "object")],769,"Brackets",true,[],[],false,none,false⟩),#[(some (.ref 719)),none,(some (.str "Brackets" 1070)),(some (.str "Brackets" 1078)),(some (.builtin "object.__new__")),(some (.bool true))]⟩)::(nat_lit 773,⟨(.type "tuple"),none,(.seq #[(.ref 281)] 0),#[]⟩)::(nat_lit 780,⟨(.type "tuple"),none,(.seq #[] 0),#[]⟩)::(nat_lit 782,⟨(.type "tuple"),none,(.seq #[(.str "self" 1148)] 0),#[]⟩)::(nat_lit 783,⟨(.type "tuple"),none,(.seq #[] 0),#[]⟩)::(nat_lit 785,⟨(.type "code"),none,(.fields #[(.str "__init__" 1145),(.str "Stairs.__init__" 1146),(.str "/claim/cut.py" 1147),(.int 328 0),(.int 1 0),(.int 0 0),(.int 0 0),(.int 3 0),(.ref 780),(.bool true),(.int 181 0),(.ref 781),.none,(.ref 782),(.ref 783),(.ref 784),(.int 1149 0),(.int 328 0),(.str "/claim/cut.py" 1150)]),#[]⟩)::(nat_lit 786,⟨(.type "function"),none,(.func (fnOf "__init__" "Stairs.__init__" (defArgs (inClass (top 41) 0)) (defBody (inClass (top 41) 0)) (defScope (inClass (top 41) 0)) .none .none .none (.str "countkin.signs" 1068) none (.ref 785) .none)),#[]⟩)::(nat_lit 787,⟨(.type "tuple"),none,(.seq #[] 0),#[]⟩)::(nat_lit 789,⟨(.type "tuple"),none,(.seq #[(.str "self" 1155),(.str "thing" 1156)] 0),#[]⟩)::(nat_lit 790,⟨(.type "tuple"),none,(.seq #[] 0),#[]⟩)::(nat_lit 792,⟨(.type "code"),none,(.fields #[(.str "size_of" 1152),(.str "Stairs.size_of" 1153),(.str "/claim/cut.py" 1154),(.int 331 0),(.int 2 0),(.int 0 0),(.int 0 0),(.int 3 0),(.ref 787),(.bool true),(.int 181 0),(.ref 788),.none,(.ref 789),(.ref 790),(.ref 791),(.int 1157 0),(.int 331 0),(.str "/claim/cut.py" 1158)]),#[]⟩)::(nat_lit 793,⟨(.type "function"),none,(.func (fnOf "size_of" "Stairs.size_of" (defArgs (inClass (top 41) 1)) (defBody (inClass (top 41) 1)) (defScope (inClass (top 41) 1)) .none .none .none (.str "countkin.signs" 1068) none (.ref 792) .none)),#[]⟩)::(nat_lit 794,⟨(.type "tuple"),none,(.seq #[] 0),#[]⟩)::(nat_lit 796,⟨(.type "tuple"),none,(.seq #[(.str "self" 1163),(.str "thing" 1164),(.str "ahead" 1165),(.str "place" 1166),(.str "number" 1167)] 0),#[]⟩)::(nat_lit 797,⟨(.type "tuple"),none,(.seq #[] 0),#[]⟩)::(nat_lit 799,⟨(.type "code"),none,(.fields #[(.str "is_one" 1160),(.str "Stairs.is_one" 1161),(.str "/claim/cut.py" 1162),(.int 334 0),(.int 2 0),(.int 0 0),(.int 0 0),(.int 3 0),(.ref 794),(.bool true),(.int 181 0),(.ref 795),.none,(.ref 796),(.ref 797),(.ref 798),(.int 1168 0),(.int 334 0),(.str "/claim/cut.py" 1169)]),#[]⟩)::(nat_lit 800,⟨(.type "function"),none,(.func (fnOf "is_one" "Stairs.is_one" (defArgs (inClass (top 41) 2)) (defBody (inClass (top 41) 2)) (defScope (inClass (top 41) 2)) .none .none .none (.str "countkin.signs" 1068) none (.ref 799) .none)),#[]⟩)::(nat_lit 801,⟨(.type "tuple"),none,(.seq #[] 0),#[]⟩)::(nat_lit 803,⟨(.type "tuple"),none,(.seq #[(.str "self" 1174)] 0),#[]⟩)::(nat_lit 804,⟨(.type "tuple"),none,(.seq #[] 0),#[]⟩)::(nat_lit 806,⟨(.type "code"),none,(.fields #[(.str "bare" 1171),(.str "Stairs.bare" 1172),(.str "/claim/cut.py" 1173),(.int 342 0),(.int 1 0),(.int 0 0),(.int 0 0),(.int 3 0),(.ref 801),(.bool true),(.int 181 0),(.ref 802),.none,(.ref 803),(.ref 804),(.ref 805),(.int 1175 0),(.int 342 0),(.str "/claim/cut.py" 1176)]),#[]⟩)::(nat_lit 807,⟨(.type "function"),none,(.func (fnOf "bare" "Stairs.bare" (defArgs (inClass (top 41) 3)) (defBody (inClass (top 41) 3)) (defScope (inClass (top 41) 3)) .none .none .none (.str "countkin.signs" 1068) none (.ref 806) .none)),#[]⟩)::(nat_lit 808,⟨(.type "tuple"),none,(.seq #[] 0),#[]⟩)::(nat_lit 810,⟨(.type "tuple"),none,(.seq #[(.str "self" 1181),(.str "thing" 1182)] 0),#[]⟩)::(nat_lit 811,⟨(.type "tuple"),none,(.seq #[] 0),#[]⟩)::(nat_lit 813,⟨(.type "code"),none,(.fields #[(.str "parted" 1178),(.str "Stairs.parted" 1179),(.str "/claim/cut.py" 1180),(.int 345 0),(.int 2 0),(.int 0 0),(.int 0 0),(.int 3 0),(.ref 808),(.bool true),(.int 181 0),(.ref 809),.none,(.ref 810),(.ref 811),(.ref 812),(.int 1183 0),(.int 345 0),(.str "/claim/cut.py" 1184)]),#[]⟩)::(nat_lit 814,⟨(.type "function"),none,(.func (fnOf "parted" "Stairs.parted" (defArgs (inClass (top 41) 4)) (defBody (inClass (top 41) 4)) (defScope (inClass (top 41) 4)) .none .none .none (.str "countkin.signs" 1068) none (.ref 813) .none)),#[]⟩)::(nat_lit 815,⟨(.type "tuple"),none,(.seq #[] 0),#[]⟩)::(nat_lit 817,⟨(.type "tuple"),none,(.seq #[(.str "self" 1189),(.str "left" 1190),(.str "right" 1191)] 0),#[]⟩)::(nat_lit 818,⟨(.type "tuple"),none,(.seq #[] 0),#[]⟩)::(nat_lit 820,⟨(.type "code"),none,(.fields #[(.str "joined" 1186),(.str "Stairs.joined" 1187),(.str "/claim/cut.py" 1188),(.int 348 0),(.int 3 0),(.int 0 0),(.int 0 0),(.int 3 0),(.ref 815),(.bool true),(.int 181 0),(.ref 816),.none,(.ref 817),(.ref 818),(.ref 819),(.int 1192 0),(.int 348 0),(.str "/claim/cut.py" 1193)]),#[]⟩)::(nat_lit 821,⟨(.type "function"),none,(.func (fnOf "joined" "Stairs.joined" (defArgs (inClass (top 41) 5)) (defBody (inClass (top 41) 5)) (defScope (inClass (top 41) 5)) .none .none .none (.str "countkin.signs" 1068) none (.ref 820) .none)),#[]⟩)::(nat_lit 822,⟨(.type "tuple"),none,(.seq #[] 0),#[]⟩)::(nat_lit 823,⟨(.type "dict"),none,(.dict #[⟨PyData.keyHash P "__module__",.str "__module__" 1140,(.str "countkin.signs" 1068)⟩,⟨PyData.keyHash P "__firstlineno__",.str "__firstlineno__" 1144,(.int 326 1143)⟩,⟨PyData.keyHash P "__init__",.str "__init__" 1151,(.ref 786)⟩,⟨PyData.keyHash P "size_of",.str "size_of" 1159,(.ref 793)⟩,⟨PyData.keyHash P "is_one",.str "is_one" 1170,(.ref 800)⟩,⟨PyData.keyHash P "bare",.str "bare" 1177,(.ref 807)⟩,⟨PyData.keyHash P "parted",.str "parted" 1185,(.ref 814)⟩,⟨PyData.keyHash P "joined",.str "joined" 1194,(.ref 821)⟩,⟨PyData.keyHash P "__static_attributes__",.str "__static_attributes__" 1195,(.ref 822)⟩,⟨PyData.keyHash P "__doc__",.str "__doc__" 1196,.none⟩] 2),#[]⟩)::(nat_lit 824,⟨(.type "type"),none,(.cls ⟨"Stairs",[(.ref 281)],[(.ref 824),(.ref 281),(.ref 204),(.type "object")],823,"Stairs",true,[],[],false,none,false⟩),#[(some (.ref 773)),none,(some (.str "Stairs" 1133)),(some (.str "Stairs" 1141)),(some (.builtin "object.__new__")),(some (.bool true))]⟩)::(nat_lit 827,⟨(.type "tuple"),none,(.seq #[(.ref 281)] 0),#[]⟩)::(nat_lit 834,⟨(.type "tuple"),none,(.seq #[] 0),#[]⟩)::(nat_lit 836,⟨(.type "tuple"),none,(.seq #[(.str "self" 1216)] 0),#[]⟩)::(nat_lit 837,⟨(.type "tuple"),none,(.seq #[] 0),#[]⟩)::(nat_lit 839,⟨(.type "code"),none,(.fields #[(.str "__init__" 1213),(.str "Twins.__init__" 1214),(.str "/claim/cut.py" 1215),(.int 353 0),(.int 1 0),(.int 0 0),(.int 0 0),(.int 3 0),(.ref 834),(.bool true),(.int 181 0),(.ref 835),.none,(.ref 836),(.ref 837),(.ref 838),(.int 1217 0),(.int 353 0),(.str "/claim/cut.py" 1218)]),#[]⟩)::(nat_lit 840,⟨(.type "function"),none,(.func (fnOf "__init__" "Twins.__init__" (defArgs (inClass (top 43) 0)) (defBody (inClass (top 43) 0)) (defScope (inClass (top 43) 0)) .none .none .none (.str "countkin.twigs" 1199) none (.ref 839) .none)),#[]⟩)::(nat_lit 841,⟨(.type "tuple"),none,(.seq #[] 0),#[]⟩)::(nat_lit 843,⟨(.type "tuple"),none,(.seq #[(.str "self" 1223),(.str "thing" 1224),(.str "pairs" 1225),(.str "row" 1226),(.str "twin" 1227)] 0),#[]⟩)::(nat_lit 844,⟨(.type "tuple"),none,(.seq #[] 0),#[]⟩)::(nat_lit 846,⟨(.type "code"),none,(.fields #[(.str "size_of" 1220),(.str "Twins.size_of" 1221),(.str "/claim/cut.py" 1222),(.int 356 0),(.int 2 0),(.int 0 0),(.int 0 0),(.int 3 0),(.ref 841),(.bool true),(.int 181 0),(.ref 842),.none,(.ref 843),(.ref 844),(.ref 845),(.int 1228 0),(.int 356 0),(.str "/claim/cut.py" 1229)]),#[]⟩)::(nat_lit 847,⟨(.type "function"),none,(.func (fnOf "size_of" "Twins.size_of" (defArgs (inClass (top 43) 1)) (defBody (inClass (top 43) 1)) (defScope (inClass (top 43) 1)) .none .none .none (.str "countkin.twigs" 1199) none (.ref 846) .none)),#[]⟩)::(nat_lit 848,⟨(.type "tuple"),none,(.seq #[] 0),#[]⟩)::(nat_lit 850,⟨(.type "tuple"),none,(.seq #[(.str "self" 1234),(.str "thing" 1235)] 0),#[]⟩)::(nat_lit 851,⟨(.type "tuple"),none,(.seq #[] 0),#[]⟩)::(nat_lit 853,⟨(.type "code"),none,(.fields #[(.str "is_one" 1231),(.str "Twins.is_one" 1232),(.str "/claim/cut.py" 1233),(.int 366 0),(.int 2 0),(.int 0 0),(.int 0 0),(.int 3 0),(.ref 848),(.bool true),(.int 181 0),(.ref 849),.none,(.ref 850),(.ref 851),(.ref 852),(.int 1236 0),(.int 366 0),(.str "/claim/cut.py" 1237)]),#[]⟩)::(nat_lit 854,⟨(.type "function"),none,(.func (fnOf "is_one" "Twins.is_one" (defArgs (inClass (top 43) 2)) (defBody (inClass (top 43) 2)) (defScope (inClass (top 43) 2)) .none .none .none (.str "countkin.twigs" 1199) none (.ref 853) .none)),#[]⟩)::(nat_lit 855,⟨(.type "tuple"),none,(.seq #[] 0),#[]⟩)::(nat_lit 857,⟨(.type "tuple"),none,(.seq #[(.str "self" 1242)] 0),#[]⟩)::(nat_lit 858,⟨(.type "tuple"),none,(.seq #[] 0),#[]⟩)::(nat_lit 860,⟨(.type "code"),none,(.fields #[(.str "bare" 1239),(.str "Twins.bare" 1240),(.str "/claim/cut.py" 1241),(.int 369 0),(.int 1 0),(.int 0 0),(.int 0 0),(.int 3 0),(.ref 855),(.bool true),(.int 181 0),(.ref 856),.none,(.ref 857),(.ref 858),(.ref 859),(.int 1243 0),(.int 369 0),(.str "/claim/cut.py" 1244)]),#[]⟩)::(nat_lit 861,⟨(.type "function"),none,(.func (fnOf "bare" "Twins.bare" (defArgs (inClass (top 43) 3)) (defBody (inClass (top 43) 3)) (defScope (inClass (top 43) 3)) .none .none .none (.str "countkin.twigs" 1199) none (.ref 860) .none)),#[]⟩)::(nat_lit 862,⟨(.type "tuple"),none,(.seq #[] 0),#[]⟩)::(nat_lit 864,⟨(.type "tuple"),none,(.seq #[(.str "self" 1249),(.str "thing" 1250)] 0),#[]⟩)::(nat_lit 865,⟨(.type "tuple"),none,(.seq #[] 0),#[]⟩)::(nat_lit 867,⟨(.type "code"),none,(.fields #[(.str "parted" 1246),(.str "Twins.parted" 1247),(.str "/claim/cut.py" 1248),(.int 372 0),(.int 2 0),(.int 0 0),(.int 0 0),(.int 3 0),(.ref 862),(.bool true),(.int 181 0),(.ref 863),.none,(.ref 864),(.ref 865),(.ref 866),(.int 1251 0),(.int 372 0),(.str "/claim/cut.py" 1252)]),#[]⟩)::(nat_lit 868,⟨(.type "function"),none,(.func (fnOf "parted" "Twins.parted" (defArgs (inClass (top 43) 4)) (defBody (inClass (top 43) 4)) (defScope (inClass (top 43) 4)) .none .none .none (.str "countkin.twigs" 1199) none (.ref 867) .none)),#[]⟩)::(nat_lit 869,⟨(.type "tuple"),none,(.seq #[] 0),#[]⟩)::(nat_lit 871,⟨(.type "tuple"),none,(.seq #[(.str "self" 1257),(.str "left" 1258),(.str "right" 1259)] 0),#[]⟩)::(nat_lit 872,⟨(.type "tuple"),none,(.seq #[] 0),#[]⟩)::(nat_lit 874,⟨(.type "code"),none,(.fields #[(.str "joined" 1254),(.str "Twins.joined" 1255),(.str "/claim/cut.py" 1256),(.int 375 0),(.int 3 0),(.int 0 0),(.int 0 0),(.int 3 0),(.ref 869),(.bool true),(.int 181 0),(.ref 870),.none,(.ref 871),(.ref 872),(.ref 873),(.int 1260 0),(.int 375 0),(.str "/claim/cut.py" 1261)]),#[]⟩)::(nat_lit 875,⟨(.type "function"),none,(.func (fnOf "joined" "Twins.joined" (defArgs (inClass (top 43) 5)) (defBody (inClass (top 43) 5)) (defScope (inClass (top 43) 5)) .none .none .none (.str "countkin.twigs" 1199) none (.ref 874) .none)),#[]⟩)::(nat_lit 876,⟨(.type "tuple"),none,(.seq #[] 0),#[]⟩)::(nat_lit 877,⟨(.type "dict"),none,(.dict #[⟨PyData.keyHash P "__module__",.str "__module__" 1208,(.str "countkin.twigs" 1199)⟩,⟨PyData.keyHash P "__firstlineno__",.str "__firstlineno__" 1212,(.int 351 1211)⟩,⟨PyData.keyHash P "__init__",.str "__init__" 1219,(.ref 840)⟩,⟨PyData.keyHash P "size_of",.str "size_of" 1230,(.ref 847)⟩,⟨PyData.keyHash P "is_one",.str "is_one" 1238,(.ref 854)⟩,⟨PyData.keyHash P "bare",.str "bare" 1245,(.ref 861)⟩,⟨PyData.keyHash P "parted",.str "parted" 1253,(.ref 868)⟩,⟨PyData.keyHash P "joined",.str "joined" 1262,(.ref 875)⟩,⟨PyData.keyHash P "__static_attributes__",.str "__static_attributes__" 1263,(.ref 876)⟩,⟨PyData.keyHash P "__doc__",.str "__doc__" 1264,.none⟩] 2),#[]⟩)::(nat_lit 878,⟨(.type "type"),none,(.cls ⟨"Twins",[(.ref 281)],[(.ref 878),(.ref 281),(.ref 204),(.type "object")],877,"Twins",true,[],[],false,none,false⟩),#[(some (.ref 827)),none,(some (.str "Twins" 1201)),(some (.str "Twins" 1209)),(some (.builtin "object.__new__")),(some (.bool true))]⟩)::(nat_lit 881,⟨(.type "tuple"),none,(.seq #[] 0),#[]⟩)::(nat_lit 883,⟨(.type "tuple"),none,(.seq #[] 0),#[]⟩)::(nat_lit 884,⟨(.type "tuple"),none,(.seq #[] 0),#[]⟩)::(nat_lit 886,⟨(.type "code"),none,(.fields #[(.str "split_families" 1269),(.str "split_families" 1270),(.str "/claim/cut.py" 1271),(.int 378 0),(.int 0 0),(.int 0 0),(.int 0 0),(.int 3 0),(.ref 881),(.bool true),(.int 181 0),(.ref 882),.none,(.ref 883),(.ref 884),(.ref 885),(.int 1272 0),(.int 378 0),(.str "/claim/cut.py" 1273)]),#[]⟩)::(nat_lit 887,⟨(.type "function"),none,(.func (fnOf "split_families" "split_families" (defArgs (top 45)) (defBody (top 45)) (defScope (top 45)) .none .none .none (.str "countkin.names" 1267) none (.ref 886) .none)),#[]⟩)::(nat_lit 888,⟨(.type "tuple"),none,(.seq #[] 0),#[]⟩)::(nat_lit 890,⟨(.type "tuple"),none,(.seq #[] 0),#[]⟩)::(nat_lit 891,⟨(.type "tuple"),none,(.seq #[] 0),#[]⟩)::(nat_lit 893,⟨(.type "code"),none,(.fields #[(.str "ring_families" 1275),(.str "ring_families" 1276),(.str "/claim/cut.py" 1277),(.int 380 0),(.int 0 0),(.int 0 0),(.int 0 0),(.int 3 0),(.ref 888),(.bool true),(.int 181 0),(.ref 889),.none,(.ref 890),(.ref 891),(.ref 892),(.int 1278 0),(.int 380 0),(.str "/claim/cut.py" 1279)]),#[]⟩)::(nat_lit 894,⟨(.type "function"),none,(.func (fnOf "ring_families" "ring_families" (defArgs (top 46)) (defBody (top 46)) (defScope (top 46)) .none .none .none (.str "countkin.names" 1267) none (.ref 893) .none)),#[]⟩)::(nat_lit 895,⟨(.type "tuple"),none,(.seq #[] 0),#[]⟩)::(nat_lit 897,⟨(.type "tuple"),none,(.seq #[(.str "word" 1284),(.str "family" 1285)] 0),#[]⟩)::(nat_lit 898,⟨(.type "tuple"),none,(.seq #[] 0),#[]⟩)::(nat_lit 900,⟨(.type "code"),none,(.fields #[(.str "family_of" 1281),(.str "family_of" 1282),(.str "/claim/cut.py" 1283),(.int 382 0),(.int 1 0),(.int 0 0),(.int 0 0),(.int 3 0),(.ref 895),(.bool true),(.int 181 0),(.ref 896),.none,(.ref 897),(.ref 898),(.ref 899),(.int 1286 0),(.int 382 0),(.str "/claim/cut.py" 1287)]),#[]⟩)::(nat_lit 901,⟨(.type "function"),none,(.func (fnOf "family_of" "family_of" (defArgs (top 47)) (defBody (top 47)) (defScope (top 47)) .none .none .none (.str "countkin.names" 1267) none (.ref 900) .none)),#[]⟩)::(nat_lit 902,⟨(.type "tuple"),none,(.seq #[] 0),#[]⟩)::(nat_lit 905,⟨(.type "code"),none,(.fields #[(.str "missing" 1291),(.str "missing" 1292),(.str "/claim/cut.py" 1293),(.int 388 0),(.int 2 0),(.int 0 0),(.int 0 0),(.int 3 0),(.ref 902),(.bool true),(.int 181 0),(.ref 903),.none,.none,.none,(.ref 904),(.int 1294 0),(.int 388 0),(.str "/claim/cut.py" 1295)]),#[]⟩)::(nat_lit 906,⟨(.type "function"),none,(.func (fnOf "missing" "missing" (defArgs (top 49)) (defBody (top 49)) (defScope (top 49)) .none .none .none (.str "countkin.ringmarks" 1289) none (.ref 905) .none)),#[]⟩)::(nat_lit 907,⟨(.type "tuple"),none,(.seq #[] 0),#[]⟩)::(nat_lit 909,⟨(.type "tuple"),none,(.seq #[(.str "thing" 1300)] 0),#[]⟩)::(nat_lit 910,⟨(.type "tuple"),none,(.seq #[] 0),#[]⟩)::(nat_lit 912,⟨(.type "code"),none,(.fields #[(.str "trees_leaves" 1297),(.str "trees_leaves" 1298),(.str "/claim/cut.py" 1299),(.int 390 0),(.int 1 0),(.int 0 0),(.int 0 0),(.int 3 0),(.ref 907),(.bool true),(.int 181 0),(.ref 908),.none,(.ref 909),(.ref 910),(.ref 911),(.int 1301 0),(.int 390 0),(.str "/claim/cut.py" 1302)]),#[]⟩)::(nat_lit 913,⟨(.type "function"),none,(.func (fnOf "trees_leaves" "trees_leaves" (defArgs (top 50)) (defBody (top 50)) (defScope (top 50)) .none .none .none (.str "countkin.ringmarks" 1289) none (.ref 912) .none)),#[]⟩)::(nat_lit 914,⟨(.type "tuple"),none,(.seq #[] 0),#[]⟩)::(nat_lit 916,⟨(.type "tuple"),none,(.seq #[(.str "thing" 1307)] 0),#[]⟩)::(nat_lit 917,⟨(.type "tuple"),none,(.seq #[] 0),#[]⟩)::(nat_lit 919,⟨(.type "code"),none,(.fields #[(.str "trees_rootage" 1304),(.str "trees_rootage" 1305),(.str "/claim/cut.py" 1306),(.int 392 0),(.int 1 0),(.int 0 0),(.int 0 0),(.int 3 0),(.ref 914),(.bool true),(.int 181 0),(.ref 915),.none,(.ref 916),(.ref 917),(.ref 918),(.int 1308 0),(.int 392 0),(.str "/claim/cut.py" 1309)]),#[]⟩)::(nat_lit 920,⟨(.type "function"),none,(.func (fnOf "trees_rootage" "trees_rootage" (defArgs (top 51)) (defBody (top 51)) (defScope (top 51)) .none .none .none (.str "countkin.ringmarks" 1289) none (.ref 919) .none)),#[]⟩)::(nat_lit 921,⟨(.type "tuple"),none,(.seq #[] 0),#[]⟩)::(nat_lit 923,⟨(.type "tuple"),none,(.seq #[(.str "thing" 1314)] 0),#[]⟩)::(nat_lit 924,⟨(.type "tuple"),none,(.seq #[] 0),#[]⟩)::(nat_lit 926,⟨(.type "code"),none,(.fields #[(.str "codes_leaves" 1311),(.str "codes_leaves" 1312),(.str "/claim/cut.py" 1313),(.int 394 0),(.int 1 0),(.int 0 0),(.int 0 0),(.int 3 0),(.ref 921),(.bool true),(.int 181 0),(.ref 922),.none,(.ref 923),(.ref 924),(.ref 925),(.int 1315 0),(.int 394 0),(.str "/claim/cut.py" 1316)]),#[]⟩)::(nat_lit 927,⟨(.type "function"),none,(.func (fnOf "codes_leaves" "codes_leaves" (defArgs (top 52)) (defBody (top 52)) (defScope (top 52)) .none .none .none (.str "countkin.ringmarks" 1289) none (.ref 926) .none)),#[]⟩)::(nat_lit 928,⟨(.type "tuple"),none,(.seq #[] 0),#[]⟩)::(nat_lit 930,⟨(.type "tuple"),none,(.seq #[(.str "thing" 1321)] 0),#[]⟩)::(nat_lit 931,⟨(.type "tuple"),none,(.seq #[] 0),#[]⟩)::(nat_lit 933,⟨(.type "code"),none,(.fields #[(.str "codes_rootage" 1318),(.str "codes_rootage" 1319),(.str "/claim/cut.py" 1320),(.int 396 0),(.int 1 0),(.int 0 0),(.int 0 0),(.int 3 0),(.ref 928),(.bool true),(.int 181 0),(.ref 929),.none,(.ref 930),(.ref 931),(.ref 932),(.int 1322 0),(.int 396 0),(.str "/claim/cut.py" 1323)]),#[]⟩)::(nat_lit 934,⟨(.type "function"),none,(.func (fnOf "codes_rootage" "codes_rootage" (defArgs (top 53)) (defBody (top 53)) (defScope (top 53)) .none .none .none (.str "countkin.ringmarks" 1289) none (.ref 933) .none)),#[]⟩)::(nat_lit 935,⟨(.type "tuple"),none,(.seq #[] 0),#[]⟩)::(nat_lit 937,⟨(.type "tuple"),none,(.seq #[(.str "thing" 1328)] 0),#[]⟩)::(nat_lit 938,⟨(.type "tuple"),none,(.seq #[] 0),#[]⟩)::(nat_lit 940,⟨(.type "code"),none,(.fields #[(.str "cars_leaves" 1325),(.str "cars_leaves" 1326),(.str "/claim/cut.py" 1327),(.int 398 0),(.int 1 0),(.int 0 0),(.int 0 0),(.int 3 0),(.ref 935),(.bool true),(.int 181 0),(.ref 936),.none,(.ref 937),(.ref 938),(.ref 939),(.int 1329 0),(.int 398 0),(.str "/claim/cut.py" 1330)]),#[]⟩)::(nat_lit 941,⟨(.type "function"),none,(.func (fnOf "cars_leaves" "cars_leaves" (defArgs (top 54)) (defBody (top 54)) (defScope (top 54)) .none .none .none (.str "countkin.ringmarks" 1289) none (.ref 940) .none)),#[]⟩)::(nat_lit 942,⟨(.type "tuple"),none,(.seq #[] 0),#[]⟩)::(nat_lit 944,⟨(.type "tuple"),none,(.seq #[(.str "thing" 1335)] 0),#[]⟩)::(nat_lit 945,⟨(.type "tuple"),none,(.seq #[] 0),#[]⟩)::(nat_lit 947,⟨(.type "code"),none,(.fields #[(.str "cars_rootage" 1332),(.str "cars_rootage" 1333),(.str "/claim/cut.py" 1334),(.int 400 0),(.int 1 0),(.int 0 0),(.int 0 0),(.int 3 0),(.ref 942),(.bool true),(.int 181 0),(.ref 943),.none,(.ref 944),(.ref 945),(.ref 946),(.int 1336 0),(.int 400 0),(.str "/claim/cut.py" 1337)]),#[]⟩)::(nat_lit 948,⟨(.type "function"),none,(.func (fnOf "cars_rootage" "cars_rootage" (defArgs (top 55)) (defBody (top 55)) (defScope (top 55)) .none .none .none (.str "countkin.ringmarks" 1289) none (.ref 947) .none)),#[]⟩)::(nat_lit 949,⟨(.type "tuple"),none,(.seq #[] 0),#[]⟩)::(nat_lit 951,⟨(.type "tuple"),none,(.seq #[(.str "thing" 1344)] 0),#[]⟩)::(nat_lit 952,⟨(.type "tuple"),none,(.seq #[] 0),#[]⟩)::(nat_lit 954,⟨(.type "code"),none,(.fields #[(.str "brackets_peaks" 1341),(.str "brackets_peaks" 1342),(.str "/claim/cut.py" 1343),(.int 403 0),(.int 1 0),(.int 0 0),(.int 0 0),(.int 3 0),(.ref 949),(.bool true),(.int 181 0),(.ref 950),.none,(.ref 951),(.ref 952),(.ref 953),(.int 1345 0),(.int 403 0),(.str "/claim/cut.py" 1346)]),#[]⟩)::(nat_lit 955,⟨(.type "function"),none,(.func (fnOf "brackets_peaks" "brackets_peaks" (defArgs (top 57)) (defBody (top 57)) (defScope (top 57)) .none .none .none (.str "countkin.splitmarks" 1339) none (.ref 954) .none)),#[]⟩)::(nat_lit 956,⟨(.type "tuple"),none,(.seq #[] 0),#[]⟩)::(nat_lit 958,⟨(.type "tuple"),none,(.seq #[(.str "text" 1351),(.str "found" 1352),(.str "depth" 1353),(.str "sign" 1354)] 0),#[]⟩)::(nat_lit 959,⟨(.type "tuple"),none,(.seq #[] 0),#[]⟩)::(nat_lit 961,⟨(.type "code"),none,(.fields #[(.str "depths" 1348),(.str "depths" 1349),(.str "/claim/cut.py" 1350),(.int 405 0),(.int 1 0),(.int 0 0),(.int 0 0),(.int 3 0),(.ref 956),(.bool true),(.int 181 0),(.ref 957),.none,(.ref 958),(.ref 959),(.ref 960),(.int 1355 0),(.int 405 0),(.str "/claim/cut.py" 1356)]),#[]⟩)::(nat_lit 962,⟨(.type "function"),none,(.func (fnOf "depths" "depths" (defArgs (top 58)) (defBody (top 58)) (defScope (top 58)) .none .none .none (.str "countkin.splitmarks" 1339) none (.ref 961) .none)),#[]⟩)::(nat_lit 963,⟨(.type "tuple"),none,(.seq #[] 0),#[]⟩)::(nat_lit 965,⟨(.type "tuple"),none,(.seq #[(.str "thing" 1361)] 0),#[]⟩)::(nat_lit 966,⟨(.type "tuple"),none,(.seq #[] 0),#[]⟩)::(nat_lit 968,⟨(.type "code"),none,(.fields #[(.str "brackets_returns" 1358),(.str "brackets_returns" 1359),(.str "/claim/cut.py" 1360),(.int 415 0),(.int 1 0),(.int 0 0),(.int 0 0),(.int 3 0),(.ref 963),(.bool true),(.int 181 0),(.ref 964),.none,(.ref 965),(.ref 966),(.ref 967),(.int 1362 0),(.int 415 0),(.str "/claim/cut.py" 1363)]),#[]⟩)::(nat_lit 969,⟨(.type "function"),none,(.func (fnOf "brackets_returns" "brackets_returns" (defArgs (top 59)) (defBody (top 59)) (defScope (top 59)) .none .none .none (.str "countkin.splitmarks" 1339) none (.ref 968) .none)),#[]⟩)::(nat_lit 970,⟨(.type "tuple"),none,(.seq #[] 0),#[]⟩)::(nat_lit 972,⟨(.type "tuple"),none,(.seq #[(.str "thing" 1368)] 0),#[]⟩)::(nat_lit 973,⟨(.type "tuple"),none,(.seq #[] 0),#[]⟩)::(nat_lit 975,⟨(.type "code"),none,(.fields #[(.str "stairs_peaks" 1365),(.str "stairs_peaks" 1366),(.str "/claim/cut.py" 1367),(.int 417 0),(.int 1 0),(.int 0 0),(.int 0 0),(.int 3 0),(.ref 970),(.bool true),(.int 181 0),(.ref 971),.none,(.ref 972),(.ref 973),(.ref 974),(.int 1369 0),(.int 417 0),(.str "/claim/cut.py" 1370)]),#[]⟩)::(nat_lit 976,⟨(.type "function"),none,(.func (fnOf "stairs_peaks" "stairs_peaks" (defArgs (top 60)) (defBody (top 60)) (defScope (top 60)) .none .none .none (.str "countkin.splitmarks" 1339) none (.ref 975) .none)),#[]⟩)::(nat_lit 977,⟨(.type "tuple"),none,(.seq #[] 0),#[]⟩)::(nat_lit 980,⟨(.type "code"),none,(.fields #[(.str "stairs_returns" 1372),(.str "stairs_returns" 1373),(.str "/claim/cut.py" 1374),(.int 419 0),(.int 1 0),(.int 0 0),(.int 0 0),(.int 3 0),(.ref 977),(.bool true),(.int 181 0),(.ref 978),.none,.none,.none,(.ref 979),(.int 1375 0),(.int 419 0),(.str "/claim/cut.py" 1376)]),#[]⟩)::(nat_lit 981,⟨(.type "function"),none,(.func (fnOf "stairs_returns" "stairs_returns" (defArgs (top 61)) (defBody (top 61)) (defScope (top 61)) .none .none .none (.str "countkin.splitmarks" 1339) none (.ref 980) .none)),#[]⟩)::(nat_lit 982,⟨(.type "tuple"),none,(.seq #[] 0),#[]⟩)::(nat_lit 984,⟨(.type "tuple"),none,(.seq #[(.str "thing" 1381),(.str "peaks" 1382),(.str "waiting" 1383),(.str "twin" 1384)] 0),#[]⟩)::(nat_lit 985,⟨(.type "tuple"),none,(.seq #[] 0),#[]⟩)::(nat_lit 987,⟨(.type "code"),none,(.fields #[(.str "twins_peaks" 1378),(.str "twins_peaks" 1379),(.str "/claim/cut.py" 1380),(.int 421 0),(.int 1 0),(.int 0 0),(.int 0 0),(.int 3 0),(.ref 982),(.bool true),(.int 181 0),(.ref 983),.none,(.ref 984),(.ref 985),(.ref 986),(.int 1385 0),(.int 421 0),(.str "/claim/cut.py" 1386)]),#[]⟩)::(nat_lit 988,⟨(.type "function"),none,(.func (fnOf "twins_peaks" "twins_peaks" (defArgs (top 62)) (defBody (top 62)) (defScope (top 62)) .none .none .none (.str "countkin.splitmarks" 1339) none (.ref 987) .none)),#[]⟩)::(nat_lit 989,⟨(.type "tuple"),none,(.seq #[] 0),#[]⟩)::(nat_lit 991,⟨(.type "tuple"),none,(.seq #[(.str "thing" 1391),(.str "returns" 1392),(.str "twin" 1393)] 0),#[]⟩)::(nat_lit 992,⟨(.type "tuple"),none,(.seq #[] 0),#[]⟩)::(nat_lit 994,⟨(.type "code"),none,(.fields #[(.str "twins_returns" 1388),(.str "twins_returns" 1389),(.str "/claim/cut.py" 1390),(.int 431 0),(.int 1 0),(.int 0 0),(.int 0 0),(.int 3 0),(.ref 989),(.bool true),(.int 181 0),(.ref 990),.none,(.ref 991),(.ref 992),(.ref 993),(.int 1394 0),(.int 431 0),(.str "/claim/cut.py" 1395)]),#[]⟩)::(nat_lit 995,⟨(.type "function"),none,(.func (fnOf "twins_returns" "twins_returns" (defArgs (top 63)) (defBody (top 63)) (defScope (top 63)) .none .none .none (.str "countkin.splitmarks" 1339) none (.ref 994) .none)),#[]⟩)::(nat_lit 996,⟨(.type "tuple"),none,(.seq #[] 0),#[]⟩)::(nat_lit 999,⟨(.type "code"),none,(.fields #[(.str "bows_peaks" 1397),(.str "bows_peaks" 1398),(.str "/claim/cut.py" 1399),(.int 438 0),(.int 1 0),(.int 0 0),(.int 0 0),(.int 3 0),(.ref 996),(.bool true),(.int 181 0),(.ref 997),.none,.none,.none,(.ref 998),(.int 1400 0),(.int 438 0),(.str "/claim/cut.py" 1401)]),#[]⟩)::(nat_lit 1000,⟨(.type "function"),none,(.func (fnOf "bows_peaks" "bows_peaks" (defArgs (top 64)) (defBody (top 64)) (defScope (top 64)) .none .none .none (.str "countkin.splitmarks" 1339) none (.ref 999) .none)),#[]⟩)::(nat_lit 1001,⟨(.type "tuple"),none,(.seq #[] 0),#[]⟩)::(nat_lit 1004,⟨(.type "code"),none,(.fields #[(.str "bows_over" 1403),(.str "bows_over" 1404),(.str "/claim/cut.py" 1405),(.int 440 0),(.int 2 0),(.int 0 0),(.int 0 0),(.int 3 0),(.ref 1001),(.bool true),(.int 181 0),(.ref 1002),.none,.none,.none,(.ref 1003),(.int 1406 0),(.int 440 0),(.str "/claim/cut.py" 1407)]),#[]⟩)::(nat_lit 1005,⟨(.type "function"),none,(.func (fnOf "bows_over" "bows_over" (defArgs (top 65)) (defBody (top 65)) (defScope (top 65)) .none .none .none (.str "countkin.splitmarks" 1339) none (.ref 1004) .none)),#[]⟩)::(nat_lit 1006,⟨(.type "tuple"),none,(.seq #[] 0),#[]⟩)::(nat_lit 1009,⟨(.type "code"),none,(.fields #[(.str "bows_returns" 1409),(.str "bows_returns" 1410),(.str "/claim/cut.py" 1411),(.int 442 0),(.int 1 0),(.int 0 0),(.int 0 0),(.int 3 0),(.ref 1006),(.bool true),(.int 181 0),(.ref 1007),.none,.none,.none,(.ref 1008),(.int 1412 0),(.int 442 0),(.str "/claim/cut.py" 1413)]),#[]⟩)::(nat_lit 1010,⟨(.type "function"),none,(.func (fnOf "bows_returns" "bows_returns" (defArgs (top 66)) (defBody (top 66)) (defScope (top 66)) .none .none .none (.str "countkin.splitmarks" 1339) none (.ref 1009) .none)),#[]⟩)::(nat_lit 1011,⟨(.type "tuple"),none,(.seq #[] 0),#[]⟩)::(nat_lit 1013,⟨(.type "tuple"),none,(.seq #[(.str "thing" 1418)] 0),#[]⟩)::(nat_lit 1014,⟨(.type "tuple"),none,(.seq #[] 0),#[]⟩)::(nat_lit 1016,⟨(.type "code"),none,(.fields #[(.str "rooms_peaks" 1415),(.str "rooms_peaks" 1416),(.str "/claim/cut.py" 1417),(.int 444 0),(.int 1 0),(.int 0 0),(.int 0 0),(.int 3 0),(.ref 1011),(.bool true),(.int 181 0),(.ref 1012),.none,(.ref 1013),(.ref 1014),(.ref 1015),(.int 1419 0),(.int 444 0),(.str "/claim/cut.py" 1420)]),#[]⟩)::(nat_lit 1017,⟨(.type "function"),none,(.func (fnOf "rooms_peaks" "rooms_peaks" (defArgs (top 67)) (defBody (top 67)) (defScope (top 67)) .none .none .none (.str "countkin.splitmarks" 1339) none (.ref 1016) .none)),#[]⟩)::(nat_lit 1018,⟨(.type "tuple"),none,(.seq #[] 0),#[]⟩)::(nat_lit 1021,⟨(.type "code"),none,(.fields #[(.str "rooms_around" 1422),(.str "rooms_around" 1423),(.str "/claim/cut.py" 1424),(.int 446 0),(.int 2 0),(.int 0 0),(.int 0 0),(.int 3 0),(.ref 1018),(.bool true),(.int 181 0),(.ref 1019),.none,.none,.none,(.ref 1020),(.int 1425 0),(.int 446 0),(.str "/claim/cut.py" 1426)]),#[]⟩)::(nat_lit 1022,⟨(.type "function"),none,(.func (fnOf "rooms_around" "rooms_around" (defArgs (top 68)) (defBody (top 68)) (defScope (top 68)) .none .none .none (.str "countkin.splitmarks" 1339) none (.ref 1021) .none)),#[]⟩)::(nat_lit 1023,⟨(.type "tuple"),none,(.seq #[] 0),#[]⟩)::(nat_lit 1026,⟨(.type "code"),none,(.fields #[(.str "rooms_returns" 1428),(.str "rooms_returns" 1429),(.str "/claim/cut.py" 1430),(.int 448 0),(.int 1 0),(.int 0 0),(.int 0 0),(.int 3 0),(.ref 1023),(.bool true),(.int 181 0),(.ref 1024),.none,.none,.none,(.ref 1025),(.int 1431 0),(.int 448 0),(.str "/claim/cut.py" 1432)]),#[]⟩)::(nat_lit 1027,⟨(.type "function"),none,(.func (fnOf "rooms_returns" "rooms_returns" (defArgs (top 69)) (defBody (top 69)) (defScope (top 69)) .none .none .none (.str "countkin.splitmarks" 1339) none (.ref 1026) .none)),#[]⟩)::(nat_lit 1028,⟨(.type "tuple"),none,(.seq #[] 0),#[]⟩)::(nat_lit 1031,⟨(.type "code"),none,(.fields #[(.str "triangles" 1434),(.str "triangles" 1435),(.str "/claim/cut.py" 1436),(.int 450 0),(.int 1 0),(.int 0 0),(.int 0 0),(.int 3 0),(.ref 1028),(.bool true),(.int 181 0),(.ref 1029),.none,.none,.none,(.ref 1030),(.int 1437 0),(.int 450 0),(.str "/claim/cut.py" 1438)]),#[]⟩)::(nat_lit 1032,⟨(.type "function"),none,(.func (fnOf "triangles" "triangles" (defArgs (top 70)) (defBody (top 70)) (defScope (top 70)) .none .none .none (.str "countkin.splitmarks" 1339) none (.ref 1031) .none)),#[]⟩)::(nat_lit 1033,⟨(.type "tuple"),none,(.seq #[] 0),#[]⟩)::(nat_lit 1036,⟨(.type "code"),none,(.fields #[(.str "floor_peaks" 1440),(.str "floor_peaks" 1441),(.str "/claim/cut.py" 1442),(.int 455 0),(.int 1 0),(.int 0 0),(.int 0 0),(.int 3 0),(.ref 1033),(.bool true),(.int 181 0),(.ref 1034),.none,.none,.none,(.ref 1035),(.int 1443 0),(.int 455 0),(.str "/claim/cut.py" 1444)]),#[]⟩)::(nat_lit 1037,⟨(.type "function"),none,(.func (fnOf "floor_peaks" "floor_peaks" (defArgs (top 71)) (defBody (top 71)) (defScope (top 71)) .none .none .none (.str "countkin.splitmarks" 1339) none (.ref 1036) .none)),#[]⟩)::(nat_lit 1038,⟨(.type "tuple"),none,(.seq #[] 0),#[]⟩)::(nat_lit 1041,⟨(.type "code"),none,(.fields #[(.str "floor_returns" 1446),(.str "floor_returns" 1447),(.str "/claim/cut.py" 1448),(.int 457 0),(.int 1 0),(.int 0 0),(.int 0 0),(.int 3 0),(.ref 1038),(.bool true),(.int 181 0),(.ref 1039),.none,.none,.none,(.ref 1040),(.int 1449 0),(.int 457 0),(.str "/claim/cut.py" 1450)]),#[]⟩)::(nat_lit 1042,⟨(.type "function"),none,(.func (fnOf "floor_returns" "floor_returns" (defArgs (top 72)) (defBody (top 72)) (defScope (top 72)) .none .none .none (.str "countkin.splitmarks" 1339) none (.ref 1041) .none)),#[]⟩)::(nat_lit 1043,⟨(.type "tuple"),none,(.seq #[] 0),#[]⟩)::(nat_lit 1046,⟨(.type "code"),none,(.fields #[(.str "turns_peaks" 1452),(.str "turns_peaks" 1453),(.str "/claim/cut.py" 1454),(.int 459 0),(.int 1 0),(.int 0 0),(.int 0 0),(.int 3 0),(.ref 1043),(.bool true),(.int 181 0),(.ref 1044),.none,.none,.none,(.ref 1045),(.int 1455 0),(.int 459 0),(.str "/claim/cut.py" 1456)]),#[]⟩)::(nat_lit 1047,⟨(.type "function"),none,(.func (fnOf "turns_peaks" "turns_peaks" (defArgs (top 73)) (defBody (top 73)) (defScope (top 73)) .none .none .none (.str "countkin.splitmarks" 1339) none (.ref 1046) .none)),#[]⟩)::(nat_lit 1048,⟨(.type "tuple"),none,(.seq #[] 0),#[]⟩)::(nat_lit 1051,⟨(.type "code"),none,(.fields #[(.str "turns_returns" 1458),(.str "turns_returns" 1459),(.str "/claim/cut.py" 1460),(.int 461 0),(.int 1 0),(.int 0 0),(.int 0 0),(.int 3 0),(.ref 1048),(.bool true),(.int 181 0),(.ref 1049),.none,.none,.none,(.ref 1050),(.int 1461 0),(.int 461 0),(.str "/claim/cut.py" 1462)]),#[]⟩)::(nat_lit 1052,⟨(.type "function"),none,(.func (fnOf "turns_returns" "turns_returns" (defArgs (top 74)) (defBody (top 74)) (defScope (top 74)) .none .none .none (.str "countkin.splitmarks" 1339) none (.ref 1051) .none)),#[]⟩)::(nat_lit 1053,⟨(.type "tuple"),none,(.seq #[] 0),#[]⟩)::(nat_lit 1055,⟨(.type "tuple"),none,(.seq #[(.str "thing" 1469)] 0),#[]⟩)::(nat_lit 1056,⟨(.type "tuple"),none,(.seq #[] 0),#[]⟩)::(nat_lit 1058,⟨(.type "code"),none,(.fields #[(.str "brackets_height" 1466),(.str "brackets_height" 1467),(.str "/claim/cut.py" 1468),(.int 464 0),(.int 1 0),(.int 0 0),(.int 0 0),(.int 3 0),(.ref 1053),(.bool true),(.int 181 0),(.ref 1054),.none,(.ref 1055),(.ref 1056),(.ref 1057),(.int 1470 0),(.int 464 0),(.str "/claim/cut.py" 1471)]),#[]⟩)::(nat_lit 1059,⟨(.type "function"),none,(.func (fnOf "brackets_height" "brackets_height" (defArgs (top 76)) (defBody (top 76)) (defScope (top 76)) .none .none .none (.str "countkin.tallmarks" 1464) none (.ref 1058) .none)),#[]⟩)::(nat_lit 1060,⟨(.type "tuple"),none,(.seq #[] 0),#[]⟩)::(nat_lit 1063,⟨(.type "code"),none,(.fields #[(.str "stairs_height" 1473),(.str "stairs_height" 1474),(.str "/claim/cut.py" 1475),(.int 466 0),(.int 1 0),(.int 0 0),(.int 0 0),(.int 3 0),(.ref 1060),(.bool true),(.int 181 0),(.ref 1061),.none,.none,.none,(.ref 1062),(.int 1476 0),(.int 466 0),(.str "/claim/cut.py" 1477)]),#[]⟩)::(nat_lit 1064,⟨(.type "function"),none,(.func (fnOf "stairs_height" "stairs_height" (defArgs (top 77)) (defBody (top 77)) (defScope (top 77)) .none .none .none (.str "countkin.tallmarks" 1464) none (.ref 1063) .none)),#[]⟩)::(nat_lit 1065,⟨(.type "tuple"),none,(.seq #[] 0),#[]⟩)::(nat_lit 1067,⟨(.type "tuple"),none,(.seq #[(.str "thing" 1482)] 0),#[]⟩)::(nat_lit 1068,⟨(.type "tuple"),none,(.seq #[] 0),#[]⟩)::(nat_lit 1070,⟨(.type "code"),none,(.fields #[(.str "twins_height" 1479),(.str "twins_height" 1480),(.str "/claim/cut.py" 1481),(.int 468 0),(.int 1 0),(.int 0 0),(.int 0 0),(.int 3 0),(.ref 1065),(.bool true),(.int 181 0),(.ref 1066),.none,(.ref 1067),(.ref 1068),(.ref 1069),(.int 1483 0),(.int 468 0),(.str "/claim/cut.py" 1484)]),#[]⟩)::(nat_lit 1071,⟨(.type "function"),none,(.func (fnOf "twins_height" "twins_height" (defArgs (top 78)) (defBody (top 78)) (defScope (top 78)) .none .none .none (.str "countkin.tallmarks" 1464) none (.ref 1070) .none)),#[]⟩)::(nat_lit 1072,⟨(.type "tuple"),none,(.seq #[] 0),#[]⟩)::(nat_lit 1075,⟨(.type "code"),none,(.fields #[(.str "bows_height" 1486),(.str "bows_height" 1487),(.str "/claim/cut.py" 1488),(.int 472 0),(.int 1 0),(.int 0 0),(.int 0 0),(.int 3 0),(.ref 1072),(.bool true),(.int 181 0),(.ref 1073),.none,.none,.none,(.ref 1074),(.int 1489 0),(.int 472 0),(.str "/claim/cut.py" 1490)]),#[]⟩)::(nat_lit 1076,⟨(.type "function"),none,(.func (fnOf "bows_height" "bows_height" (defArgs (top 79)) (defBody (top 79)) (defScope (top 79)) .none .none .none (.str "countkin.tallmarks" 1464) none (.ref 1075) .none)),#[]⟩)::(nat_lit 1077,⟨(.type "tuple"),none,(.seq #[] 0),#[]⟩)::(nat_lit 1080,⟨(.type "code"),none,(.fields #[(.str "turns_height" 1492),(.str "turns_height" 1493),(.str "/claim/cut.py" 1494),(.int 474 0),(.int 1 0),(.int 0 0),(.int 0 0),(.int 3 0),(.ref 1077),(.bool true),(.int 181 0),(.ref 1078),.none,.none,.none,(.ref 1079),(.int 1495 0),(.int 474 0),(.str "/claim/cut.py" 1496)]),#[]⟩)::(nat_lit 1081,⟨(.type "function"),none,(.func (fnOf "turns_height" "turns_height" (defArgs (top 80)) (defBody (top 80)) (defScope (top 80)) .none .none .none (.str "countkin.tallmarks" 1464) none (.ref 1080) .none)),#[]⟩)::(nat_lit 1082,⟨(.type "tuple"),none,(.seq #[] 0),#[]⟩)::(nat_lit 1084,⟨(.type "tuple"),none,(.seq #[] 0),#[]⟩)::(nat_lit 1085,⟨(.type "tuple"),none,(.seq #[] 0),#[]⟩)::(nat_lit 1087,⟨(.type "code"),none,(.fields #[(.str "all_measures" 1500),(.str "all_measures" 1501),(.str "/claim/cut.py" 1502),(.int 481 0),(.int 0 0),(.int 0 0),(.int 0 0),(.int 3 0),(.ref 1082),(.bool true),(.int 181 0),(.ref 1083),.none,(.ref 1084),(.ref 1085),(.ref 1086),(.int 1503 0),(.int 481 0),(.str "/claim/cut.py" 1504)]),#[]⟩)::(nat_lit 1088,⟨(.type "function"),none,(.func (fnOf "all_measures" "all_measures" (defArgs (top 82)) (defBody (top 82)) (defScope (top 82)) .none .none .none (.str "countkin.marks" 1498) none (.ref 1087) .none)),#[]⟩)::(nat_lit 1089,⟨(.type "tuple"),none,(.seq #[] 0),#[]⟩)::(nat_lit 1091,⟨(.type "tuple"),none,(.seq #[(.str "word" 1509),(.str "family" 1510)] 0),#[]⟩)::(nat_lit 1092,⟨(.type "tuple"),none,(.seq #[] 0),#[]⟩)::(nat_lit 1094,⟨(.type "code"),none,(.fields #[(.str "marks_of" 1506),(.str "marks_of" 1507),(.str "/claim/cut.py" 1508),(.int 483 0),(.int 1 0),(.int 0 0),(.int 0 0),(.int 3 0),(.ref 1089),(.bool true),(.int 181 0),(.ref 1090),.none,(.ref 1091),(.ref 1092),(.ref 1093),(.int 1511 0),(.int 483 0),(.str "/claim/cut.py" 1512)]),#[]⟩)::(nat_lit 1095,⟨(.type "function"),none,(.func (fnOf "marks_of" "marks_of" (defArgs (top 83)) (defBody (top 83)) (defScope (top 83)) .none .none .none (.str "countkin.marks" 1498) none (.ref 1094) .none)),#[]⟩)::(nat_lit 1096,⟨(.type "tuple"),none,(.seq #[] 0),#[]⟩)::(nat_lit 1098,⟨(.type "tuple"),none,(.seq #[(.str "word" 1517),(.str "name" 1518),(.str "thing" 1519),(.str "family" 1520)] 0),#[]⟩)::(nat_lit 1099,⟨(.type "tuple"),none,(.seq #[] 0),#[]⟩)::(nat_lit 1101,⟨(.type "code"),none,(.fields #[(.str "mark" 1514),(.str "mark" 1515),(.str "/claim/cut.py" 1516),(.int 486 0),(.int 3 0),(.int 0 0),(.int 0 0),(.int 3 0),(.ref 1096),(.bool true),(.int 181 0),(.ref 1097),.none,(.ref 1098),(.ref 1099),(.ref 1100),(.int 1521 0),(.int 486 0),(.str "/claim/cut.py" 1522)]),#[]⟩)::(nat_lit 1102,⟨(.type "function"),none,(.func (fnOf "mark" "mark" (defArgs (top 84)) (defBody (top 84)) (defScope (top 84)) .none .none .none (.str "countkin.marks" 1498) none (.ref 1101) .none)),#[]⟩)::(nat_lit 1103,⟨(.type "tuple"),none,(.seq #[] 0),#[]⟩)::(nat_lit 1105,⟨(.type "tuple"),none,(.seq #[(.str "_law_script" 1529),(.str "_law_k" 1530)] 0),#[]⟩)::(nat_lit 1106,⟨(.type "tuple"),none,(.seq #[] 0),#[]⟩)::(nat_lit 1108,⟨(.type "code"),none,(.fields #[(.str "_law_cell_at" 1526),(.str "_law_cell_at" 1527),(.str "/claim/cut.py" 1528),(.int 493 0),(.int 2 0),(.int 0 0),(.int 0 0),(.int 3 0),(.ref 1103),(.bool true),(.int 181 0),(.ref 1104),.none,(.ref 1105),(.ref 1106),(.ref 1107),(.int 1531 0),(.int 493 0),(.str "/claim/cut.py" 1532)]),#[]⟩)::(nat_lit 1109,⟨(.type "function"),none,(.func (fnOf "_law_cell_at" "_law_cell_at" (defArgs (top 86)) (defBody (top 86)) (defScope (top 86)) .none .none .none (.str "law_countkin_k50_marks_of_floors" 1524) none (.ref 1108) .none)),#[]⟩)::(nat_lit 1110,⟨(.type "tuple"),none,(.seq #[] 0),#[]⟩)::(nat_lit 1113,⟨(.type "code"),none,(.fields #[(.str "_law_draws" 1534),(.str "_law_draws" 1535),(.str "/claim/cut.py" 1536),(.int 497 0),(.int 3 0),(.int 0 0),(.int 0 0),(.int 3 0),(.ref 1110),(.bool true),(.int 181 0),(.ref 1111),.none,.none,.none,(.ref 1112),(.int 1537 0),(.int 497 0),(.str "/claim/cut.py" 1538)]),#[]⟩)::(nat_lit 1114,⟨(.type "function"),none,(.func (fnOf "_law_draws" "_law_draws" (defArgs (top 87)) (defBody (top 87)) (defScope (top 87)) .none .none .none (.str "law_countkin_k50_marks_of_floors" 1524) none (.ref 1113) .none)),#[]⟩)::(nat_lit 1115,⟨(.type "tuple"),none,(.seq #[] 0),#[]⟩)::(nat_lit 1117,⟨(.type "tuple"),none,(.seq #[(.str "_law_script" 1543),(.str "_law_size" 1544),(.str "_law_turn" 1545),(.str "_law_draws_here" 1546),(.str "_law_side" 1547),(.str "_law_cuts_here" 1548),(.str "_law_pile" 1549),(.str "_law_k" 1550),(.str "_law_a" 1551),(.str "_law_b" 1552),(.str "_law_third" 1553),(.str "_law_part" 1554)] 0),#[]⟩)::(nat_lit 1118,⟨(.type "tuple"),none,(.seq #[] 0),#[]⟩)::(nat_lit 1120,⟨(.type "code"),none,(.fields #[(.str "_law_cuts" 1540),(.str "_law_cuts" 1541),(.str "/claim/cut.py" 1542),(.int 514 0),(.int 3 0),(.int 0 0),(.int 0 0),(.int 3 0),(.ref 1115),(.bool true),(.int 181 0),(.ref 1116),.none,(.ref 1117),(.ref 1118),(.ref 1119),(.int 1555 0),(.int 514 0),(.str "/claim/cut.py" 1556)]),#[]⟩)::(nat_lit 1121,⟨(.type "function"),none,(.func (fnOf "_law_cuts" "_law_cuts" (defArgs (top 88)) (defBody (top 88)) (defScope (top 88)) .none .none .none (.str "law_countkin_k50_marks_of_floors" 1524) none (.ref 1120) .none)),#[]⟩)::(nat_lit 1122,⟨(.type "tuple"),none,(.seq #[] 0),#[]⟩)::(nat_lit 1124,⟨(.type "tuple"),none,(.seq #[(.str "_law_word" 1561),(.str "_law_names" 1562),(.str "_law_thing" 1563),(.str "_law_due" 1564),(.str "_law_k" 1565),(.str "_law_j" 1566),(.str "_law_found" 1567)] 0),#[]⟩)::(nat_lit 1125,⟨(.type "tuple"),none,(.seq #[] 0),#[]⟩)::(nat_lit 1127,⟨(.type "code"),none,(.fields #[(.str "_law_told" 1558),(.str "_law_told" 1559),(.str "/claim/cut.py" 1560),(.int 534 0),(.int 4 0),(.int 0 0),(.int 0 0),(.int 3 0),(.ref 1122),(.bool true),(.int 181 0),(.ref 1123),.none,(.ref 1124),(.ref 1125),(.ref 1126),(.int 1568 0),(.int 534 0),(.str "/claim/cut.py" 1569)]),#[]⟩)::(nat_lit 1128,⟨(.type "function"),none,(.func (fnOf "_law_told" "_law_told" (defArgs (top 89)) (defBody (top 89)) (defScope (top 89)) .none .none .none (.str "law_countkin_k50_marks_of_floors" 1524) none (.ref 1127) .none)),#[]⟩)::(nat_lit 1129,⟨(.type "tuple"),none,(.seq #[] 0),#[]⟩)::(nat_lit 1131,⟨(.type "tuple"),none,(.seq #[(.str "_law_corners" 1574),(.str "_law_cuts_here" 1575),(.str "_law_joined" 1576),(.str "_law_cut" 1577),(.str "_law_k" 1578),(.str "_law_found" 1579),(.str "_law_a" 1580),(.str "_law_b" 1581),(.str "_law_c" 1582)] 0),#[]⟩)::(nat_lit 1132,⟨(.type "tuple"),none,(.seq #[] 0),#[]⟩)::(nat_lit 1134,⟨(.type "code"),none,(.fields #[(.str "_law_triangles" 1571),(.str "_law_triangles" 1572),(.str "/claim/cut.py" 1573),(.int 541 0),(.int 2 0),(.int 0 0),(.int 0 0),(.int 3 0),(.ref 1129),(.bool true),(.int 181 0),(.ref 1130),.none,(.ref 1131),(.ref 1132),(.ref 1133),(.int 1583 0),(.int 541 0),(.str "/claim/cut.py" 1584)]),#[]⟩)::(nat_lit 1135,⟨(.type "function"),none,(.func (fnOf "_law_triangles" "_law_triangles" (defArgs (top 90)) (defBody (top 90)) (defScope (top 90)) .none .none .none (.str "law_countkin_k50_marks_of_floors" 1524) none (.ref 1134) .none)),#[]⟩)::(nat_lit 1136,⟨(.type "tuple"),none,(.seq #[] 0),#[]⟩)::(nat_lit 1138,⟨(.type "tuple"),none,(.seq #[(.str "_law_script" 1589),(.str "_law_size" 1590),(.str "_law_cuts_here" 1591),(.str "_law_peaks" 1592),(.str "_law_returns" 1593),(.str "_law_a" 1594),(.str "_law_b" 1595),(.str "_law_c" 1596),(.str "_law_handed" 1597)] 0),#[]⟩)::(nat_lit 1139,⟨(.type "tuple"),none,(.seq #[] 0),#[]⟩)::(nat_lit 1141,⟨(.type "code"),none,(.fields #[(.str "law" 1586),(.str "law" 1587),(.str "/claim/cut.py" 1588),(.int 554 0),(.int 1 0),(.int 0 0),(.int 0 0),(.int 3 0),(.ref 1136),(.bool true),(.int 181 0),(.ref 1137),.none,(.ref 1138),(.ref 1139),(.ref 1140),(.int 1598 0),(.int 554 0),(.str "/claim/cut.py" 1599)]),#[]⟩)::(nat_lit 1142,⟨(.type "function"),none,(.func (fnOf "law" "law" (defArgs (top 91)) (defBody (top 91)) (defScope (top 91)) .none .none .none (.str "law_countkin_k50_marks_of_floors" 1524) none (.ref 1141) .none)),#[]⟩)::[]
noncomputable def hA:List Addr:=(2::3::15::17::18::20::21::22::29::30::31::32::35::42::43::44::47::54::55::56::59::66::67::68::71::78::79::80::83::85::86::88::89::90::92::93::95::96::97::99::100::102::103::104::106::107::109::110::111::113::114::116::117::125::127::128::130::131::132::134::135::137::138::139::141::142::144::145::146::148::149::151::152::153::155::156::158::159::160::162::163::165::166::167::169::170::172::173::174::176::177::179::180::181::183::184::186::187::188::190::191::193::194::195::197::198::200::201::202::203::204::205::206::209::216::218::219::221::222::223::225::226::228::229::230::232::233::235::236::237::239::240::242::243::244::246::247::249::250::251::253::254::256::257::258::260::261::263::264::265::267::268::270::271::272::274::275::277::278::279::280::281::284::291::293::294::296::297::298::300::301::303::304::305::308::309::310::312::313::315::316::317::319::320::322::323::324::326::327::329::330::331::332::333::336::343::345::346::348::349::350::353::354::355::358::359::360::362::363::365::366::367::369::370::372::373::374::376::377::379::380::381::382::383::386::389::390::391::398::400::401::403::404::405::407::408::410::411::412::414::415::417::418::419::421::422::424::425::426::428::429::431::432::433::435::436::438::439::440::441::442::445::452::454::455::457::458::459::461::462::464::465::466::469::470::471::473::474::476::477::478::480::481::483::484::485::486::487::490::497::499::500::502::503::504::506::507::509::510::511::514::515::516::518::519::521::522::523::525::526::528::529::530::531::532::535::542::544::545::547::548::549::551::552::554::555::556::559::560::561::563::564::566::567::568::570::571::573::574::575::576::577::580::582::583::585::586::587::594::596::597::599::600::601::603::604::606::607::608::611::612::613::615::616::618::619::620::622::623::625::626::627::629::630::632::633::634::635::636::639::641::642::644::645::646::649::650::651::658::660::661::663::664::665::667::668::670::671::672::674::675::677::678::679::681::682::684::685::686::688::689::691::692::693::695::696::698::699::700::701::702::705::707::708::710::711::712::714::715::717::718::719::726::728::729::731::732::733::735::736::738::739::740::742::743::745::746::747::749::750::752::753::754::756::757::759::760::761::763::764::766::767::768::769::770::773::780::782::783::785::786::787::789::790::792::793::794::796::797::799::800::801::803::804::806::807::808::810::811::813::814::815::817::818::820::821::822::823::824::827::834::836::837::839::840::841::843::844::846::847::848::850::851::853::854::855::857::858::860::861::862::864::865::867::868::869::871::872::874::875::876::877::878::881::883::884::886::887::888::890::891::893::894::895::897::898::900::901::902::905::906::907::909::910::912::913::914::916::917::919::920::921::923::924::926::927::928::930::931::933::934::935::937::938::940::941::942::944::945::947::948::949::951::952::954::955::956::958::959::961::962::963::965::966::968::969::970::972::973::975::976::977::980::981::982::984::985::987::988::989::991::992::994::995::996::999::1000::1001::1004::1005::1006::1009::1010::1011::1013::1014::1016::1017::1018::1021::1022::1023::1026::1027::1028::1031::1032::1033::1036::1037::1038::1041::1042::1043::1046::1047::1048::1051::1052::1053::1055::1056::1058::1059::1060::1063::1064::1065::1067::1068::1070::1071::1072::1075::1076::1077::1080::1081::1082::1084::1085::1087::1088::1089::1091::1092::1094::1095::1096::1098::1099::1101::1102::1103::1105::1106::1108::1109::1110::1113::1114::1115::1117::1118::1120::1121::1122::1124::1125::1127::1128::1129::1131::1132::1134::1135::1136::1138::1139::1141::1142::[])
noncomputable def hM:List Bool:=(false::false::true::true::false::false::false::false::false::false::false::false::false::false::false::true::false::true::true::false::true::true::true::false::false::false::false::false::false::true::true::true::true::false::false::true::false::false::false::false::false::false::true::true::true::false::false::true::false::false::false::false::false::false::true::true::true::false::false::true::false::false::false::false::false::false::true::true::true::false::false::true::false::false::false::false::false::false::true::true::true::false::false::true::false::true::true::false::true::true::true::false::true::true::false::true::true::true::false::true::true::false::true::true::true::false::true::true::false::true::true::true::false::true::true::false::true::true::false::false::false::false::false::false::false::true::false::true::true::false::true::true::true::false::true::true::false::true::true::true::false::true::true::false::true::true::true::false::true::true::false::true::true::true::false::true::true::false::true::true::true::false::true::true::false::true::true::true::false::true::true::false::true::true::true::false::true::true::false::true::true::true::false::true::true::false::true::true::true::false::true::true::false::true::true::true::false::true::true::false::true::true::true::true::true::true::true::false::false::true::false::false::false::false::false::false::true::false::true::true::false::true::true::true::false::true::true::false::true::true::true::false::true::true::false::true::true::true::false::true::true::false::true::true::true::false::true::true::false::true::true::true::false::true::true::false::true::true::true::false::true::true::false::true::true::true::false::true::true::false::true::true::true::false::true::true::false::true::true::true::true::true::false::false::true::false::false::false::false::false::false::true::false::true::true::false::true::true::true::false::true::true::false::true::true::true::false::false::true::true::true::false::true::true::false::true::true::true::false::true::true::false::true::true::true::false::true::true::false::true::true::true::true::true::false::false::true::false::false::false::false::false::false::true::false::true::true::false::true::true::true::false::false::true::true::true::false::false::true::true::true::false::true::true::false::true::true::true::false::true::true::false::true::true::true::false::true::true::false::true::true::true::true::true::false::false::true::false::false::true::true::true::false::false::false::false::false::false::true::false::true::true::false::true::true::true::false::true::true::false::true::true::true::false::true::true::false::true::true::true::false::true::true::false::true::true::true::false::true::true::false::true::true::true::false::true::true::false::true::true::true::true::true::false::false::true::false::false::false::false::false::false::true::false::true::true::false::true::true::true::false::true::true::false::true::true::true::false::false::true::true::true::false::true::true::false::true::true::true::false::true::true::false::true::true::true::true::true::false::false::true::false::false::false::false::false::false::true::false::true::true::false::true::true::true::false::true::true::false::true::true::true::false::false::true::true::true::false::true::true::false::true::true::true::false::true::true::false::true::true::true::true::true::false::false::true::false::false::false::false::false::false::true::false::true::true::false::true::true::true::false::true::true::false::true::true::true::false::false::true::true::true::false::true::true::false::true::true::true::false::true::true::false::true::true::true::true::true::false::false::true::false::true::true::false::true::true::true::false::false::false::false::false::false::true::false::true::true::false::true::true::true::false::true::true::false::true::true::true::false::false::true::true::true::false::true::true::false::true::true::true::false::true::true::false::true::true::true::false::true::true::false::true::true::true::true::true::false::false::true::false::true::true::false::true::true::true::false::false::true::true::true::false::false::false::false::false::false::true::false::true::true::false::true::true::true::false::true::true::false::true::true::true::false::true::true::false::true::true::true::false::true::true::false::true::true::true::false::true::true::false::true::true::true::false::true::true::false::true::true::true::true::true::false::false::true::false::true::true::false::true::true::true::false::true::true::false::true::true::true::false::false::false::false::false::false::true::false::true::true::false::true::true::true::false::true::true::false::true::true::true::false::true::true::false::true::true::true::false::true::true::false::true::true::true::false::true::true::false::true::true::true::false::true::true::false::true::true::true::true::true::false::false::true::false::false::false::false::false::false::true::false::true::true::false::true::true::true::false::true::true::false::true::true::true::false::true::true::false::true::true::true::false::true::true::false::true::true::true::false::true::true::false::true::true::true::false::true::true::false::true::true::true::true::true::false::false::true::false::false::false::false::false::false::true::false::true::true::false::true::true::true::false::true::true::false::true::true::true::false::true::true::false::true::true::true::false::true::true::false::true::true::true::false::true::true::false::true::true::true::false::true::true::false::true::true::true::true::true::false::false::true::false::true::true::false::true::true::true::false::true::true::false::true::true::true::false::true::true::false::true::true::true::false::false::true::true::true::false::true::true::false::true::true::true::false::true::true::false::true::true::true::false::true::true::false::true::true::true::false::true::true::false::true::true::true::false::true::true::false::true::true::true::false::true::true::false::true::true::true::false::true::true::false::true::true::true::false::true::true::false::true::true::true::false::true::true::false::true::true::true::false::true::true::false::true::true::true::false::false::true::true::true::false::true::true::false::true::true::true::false::true::true::false::true::true::true::false::false::true::true::true::false::false::true::true::true::false::false::true::true::true::false::true::true::false::true::true::true::false::false::true::true::true::false::false::true::true::true::false::false::true::true::true::false::false::true::true::true::false::false::true::true::true::false::false::true::true::true::false::false::true::true::true::false::true::true::false::true::true::true::false::false::true::true::true::false::true::true::false::true::true::true::false::false::true::true::true::false::false::true::true::true::false::true::true::false::true::true::true::false::true::true::false::true::true::true::false::true::true::false::true::true::true::false::true::true::false::true::true::true::false::false::true::true::true::false::true::true::false::true::true::true::false::true::true::false::true::true::true::false::true::true::false::true::true::true::false::true::true::false::true::true::[])
theorem hAM:hA=idxM hM 0:=by kernel_rfl
noncomputable abbrev hX:Shared→Bool:=(fun s=>xlAt hQ [] s&&recOk (RowW.records (OpenRow.toRowW (OpenLaw.row PySem.Challenge.rw_countkin_k50_marks_of_floors))) s)
theorem hKA:∀ P:Params,hA=(hK P).map (·.1):=fun _=>by kernel_rfl
noncomputable abbrev hH:Hook:=kHook hK hA hKA
noncomputable def hLook (P:Params) (s:Shared):=((staticsOk (importedModules PySem.Challenge.pw_countkin_k50_marks_of_floors.main.body) (boot_heap P) s.heap&&namesBound PySem.Challenge.pw_countkin_k50_marks_of_floors s.heap&&gensDone s&&laidKept (boot_heap P) s.heap),openSeen hQ hL (importedModules PySem.Challenge.pw_countkin_k50_marks_of_floors.main.body) hX true s,pickM s.heap.objs.toList hM)
noncomputable def hPreF (w:World) (os:OsState):=topGo treeTable PySem.Challenge.pw_countkin_k50_marks_of_floors w 11 (some (.ref 6)) 12 ⟨boot_heap w.params,Array.mk [],boot_drawn,boot_toks,os⟩ (topStub PySem.Challenge.pw_countkin_k50_marks_of_floors)
noncomputable def hPreG (w:World) (os:OsState):Option (Shared × Thread):=some ((hS w os).abs,⟨denote treeTable hC,hC,⟨0,0,0,0⟩,[topFrame ⟨0,0,0,0⟩]⟩)
noncomputable def hBlkF (w:World) (os:OsState):=segRun treeTable PySem.Challenge.pw_countkin_k50_marks_of_floors w 11 (some (.ref 6)) 1 1 (hS w os).abs (blockOf hB hE hC ⟨0,0,0,0⟩ [topFrame ⟨0,0,0,0⟩])
noncomputable def hBlkG (w:World) (os:OsState):Option (Flow × Shared × Code × Pos):=some (.next,(hS w os).abs,hC,⟨0,0,0,0⟩)
noncomputable def hTree2 (P:Params):BT:=(.node (boot_o_0 P) (.node (boot_o_1 P) (.node ⟨(.type "dict"),none,(.dict #[⟨PyData.keyHash P "__name__",.str "__name__" 165,(.str "countkin.kin" 329)⟩,⟨PyData.keyHash P "__doc__",.str "__doc__" 166,.none⟩,⟨PyData.keyHash P "__package__",.str "__package__" 167,.none⟩,⟨PyData.keyHash P "__loader__",.str "__loader__" 168,(.builtin "__main__.__loader__#opaque")⟩,⟨PyData.keyHash P "__spec__",.str "__spec__" 169,.none⟩,⟨PyData.keyHash P "__annotations__",.str "__annotations__" 170,(.ref 6)⟩,⟨PyData.keyHash P "__builtins__",.str "__builtins__" 171,(.ref 4)⟩,⟨PyData.keyHash P "__file__",.str "__file__" 173,(.str "/claim/cut.py" 172)⟩,⟨PyData.keyHash P "__cached__",.str "__cached__" 174,.none⟩,⟨PyData.keyHash P "_wall",.str "_wall" 193,(.ref 21)⟩,⟨PyData.keyHash P "KinError",.str "KinError" 213,(.ref 31)⟩,⟨PyData.keyHash P "NoSize",.str "NoSize" 229,(.ref 44)⟩,⟨PyData.keyHash P "NoThing",.str "NoThing" 245,(.ref 56)⟩,⟨PyData.keyHash P "NoFamily",.str "NoFamily" 261,(.ref 68)⟩,⟨PyData.keyHash P "NoMark",.str "NoMark" 277,(.ref 80)⟩,⟨PyData.keyHash P "flat",.str "flat" 288,(.ref 89)⟩,⟨PyData.keyHash P "each_once",.str "each_once" 295,(.ref 96)⟩,⟨PyData.keyHash P "any_cross",.str "any_cross" 306,(.ref 103)⟩,⟨PyData.keyHash P "GREATEST_SIZE",.str "GREATEST_SIZE" 310,(.int 40 309)⟩,⟨PyData.keyHash P "by_rule",.str "by_rule" 319,(.ref 110)⟩,⟨PyData.keyHash P "ring_many",.str "ring_many" 328,(.ref 117)⟩,⟨PyData.keyHash P "Family",.str "Family" 443,(.ref 204)⟩] 22),#[]⟩ (.node (boot_o_7 P) (.node ⟨(.type "tuple"),none,(.seq #[] 0),#[]⟩ (.node ⟨(.type "type"),none,(.cls ⟨"KinError",[(.type "ValueError")],[(.ref 31),(.type "ValueError"),(.type "Exception"),(.type "BaseException"),(.type "object")],30,"KinError",true,[],[(.ref 44),(.ref 56),(.ref 68),(.ref 80)],false,none,false⟩),#[(some (.ref 22)),none,(some (.str "KinError" 196)),(some (.str "KinError" 204)),(some (.builtin "ValueError.__new__")),(some (.bool true))]⟩ (.node ⟨.none,none,(.fields #[]),#[]⟩ (.node ⟨(.type "tuple"),none,(.seq #[(.str "self" 346),(.str "word" 347),(.str "least" 348)] 0),#[]⟩ .nil .nil) (.node ⟨(.type "tuple"),none,(.seq #[] 0),#[]⟩ .nil .nil)) (.node ⟨(.type "code"),none,(.fields #[(.str "each_once" 289),(.str "each_once" 290),(.str "/claim/cut.py" 291),(.int 21 0),(.int 1 0),(.int 0 0),(.int 0 0),(.int 3 0),(.ref 90),(.bool true),(.int 181 0),(.ref 91),.none,(.ref 92),(.ref 93),(.ref 94),(.int 293 0),(.int 21 0),(.str "/claim/cut.py" 294)]),#[]⟩ (.node ⟨(.type "function"),none,(.func (fnOf "unchecked_number" "Family.unchecked_number" (defArgs (inClass (top 16) 4)) (defBody (inClass (top 16) 4)) (defScope (inClass (top 16) 4)) .none .none .none (.str "countkin.kin" 329) none (.ref 158) .none)),#[]⟩ .nil .nil) .nil)) (.node ⟨(.type "tuple"),none,(.seq #[(.ref 31)] 0),#[]⟩ (.node ⟨(.type "dict"),none,(.dict #[⟨PyData.keyHash P "__module__",.str "__module__" 269,(.str "countkin.errors" 194)⟩,⟨PyData.keyHash P "__firstlineno__",.str "__firstlineno__" 273,(.int 13 272)⟩,⟨PyData.keyHash P "__static_attributes__",.str "__static_attributes__" 274,(.ref 78)⟩,⟨PyData.keyHash P "__doc__",.str "__doc__" 275,.none⟩] 2),#[]⟩ (.node ⟨.none,none,(.func { (fnOf "is_one" "Family.is_one" (defArgs (inClass (top 16) 2)) (defBody (inClass (top 16) 2)) (defScope (inClass (top 16) 2)) .none .none .none .none none .none .none) with globals:=0 }),#[]⟩ .nil .nil) (.node ⟨(.type "super"),none,(.fields #[(.ref 204),(.ref 204),(.ref 204)]),#[]⟩ .nil .nil)) (.node ⟨(.type "tuple"),none,(.seq #[] 0),#[]⟩ (.node ⟨.none,none,(.fields #[]),#[]⟩ .nil .nil) .nil))) (.node ⟨(.type "builtin_function_or_method"),none,(.fields #[(.builtin "type.__prepare__"),(.type "type")]),#[]⟩ (.node ⟨.none,none,(.fields #[]),#[]⟩ (.node ⟨(.type "tuple"),none,(.seq #[(.ref 31)] 0),#[]⟩ (.node ⟨(.type "tuple"),none,(.seq #[] 0),#[]⟩ .nil .nil) (.node ⟨.none,none,(.func { (fnOf "next_of" "Family.next_of" (defArgs (inClass (top 16) 10)) (defBody (inClass (top 16) 10)) (defScope (inClass (top 16) 10)) .none .none .none .none none .none .none) with globals:=0 }),#[]⟩ .nil .nil)) (.node ⟨(.type "function"),none,(.func (fnOf "any_cross" "any_cross" (defArgs (top 10)) (defBody (top 10)) (defScope (top 10)) .none .none .none (.str "countkin.common" 278) none (.ref 102) .none)),#[]⟩ (.node ⟨(.type "tuple"),none,(.seq #[] 0),#[]⟩ .nil .nil) .nil)) (.node ⟨(.type "dict"),none,(.dict #[⟨PyData.keyHash P "__module__",.str "__module__" 237,(.str "countkin.errors" 194)⟩,⟨PyData.keyHash P "__firstlineno__",.str "__firstlineno__" 241,(.int 9 240)⟩,⟨PyData.keyHash P "__static_attributes__",.str "__static_attributes__" 242,(.ref 54)⟩,⟨PyData.keyHash P "__doc__",.str "__doc__" 243,.none⟩] 2),#[]⟩ (.node ⟨.none,none,(.func { (fnOf "flat" "flat" (defArgs (top 8)) (defBody (top 8)) (defScope (top 8)) .none .none .none .none none .none .none) with globals:=0 }),#[]⟩ (.node ⟨(.type "code"),none,(.fields #[(.str "unchecked_many" 368),(.str "Family.unchecked_many" 369),(.str "/claim/cut.py" 370),(.int 54 0),(.int 2 0),(.int 0 0),(.int 0 0),(.int 3 0),(.ref 146),(.bool true),(.int 181 0),(.ref 147),.none,(.ref 148),(.ref 149),(.ref 150),(.int 373 0),(.int 54 0),(.str "/claim/cut.py" 374)]),#[]⟩ .nil .nil) .nil) (.node ⟨(.type "builtin_function_or_method"),none,(.fields #[(.builtin "type.__prepare__"),(.type "type")]),#[]⟩ (.node ⟨(.type "tuple"),none,(.seq #[(.str "self" 412),(.str "thing" 413)] 0),#[]⟩ .nil .nil) .nil)))) (.node ⟨(.type "tuple"),none,(.seq #[] 0),#[]⟩ (.node ⟨.none,none,(.func { (fnOf "_wall" "_wall" (defArgs (top 0)) (defBody (top 0)) (defScope (top 0)) .none .none .none .none none .none .none) with globals:=0 }),#[]⟩ (.node ⟨(.type "tuple"),none,(.seq #[(.ref 31)] 0),#[]⟩ (.node ⟨(.type "dict"),none,(.dict #[⟨PyData.keyHash P "__module__",.str "__module__" 253,(.str "countkin.errors" 194)⟩,⟨PyData.keyHash P "__firstlineno__",.str "__firstlineno__" 257,(.int 11 256)⟩,⟨PyData.keyHash P "__static_attributes__",.str "__static_attributes__" 258,(.ref 66)⟩,⟨PyData.keyHash P "__doc__",.str "__doc__" 259,.none⟩] 2),#[]⟩ (.node ⟨(.type "function"),none,(.func (fnOf "__init__" "Family.__init__" (defArgs (inClass (top 16) 0)) (defBody (inClass (top 16) 0)) (defScope (inClass (top 16) 0)) .none .none .none (.str "countkin.kin" 329) none (.ref 130) .none)),#[]⟩ .nil .nil) (.node ⟨(.type "tuple"),none,(.seq #[] 0),#[]⟩ .nil .nil)) (.node ⟨(.type "tuple"),none,(.seq #[(.str "pairs" 299),(.str "a" 300),(.str "b" 301),(.str "c" 302),(.str "d" 303)] 0),#[]⟩ (.node ⟨(.type "tuple"),none,(.seq #[] 0),#[]⟩ .nil .nil) .nil)) (.node ⟨.none,none,(.fields #[]),#[]⟩ (.node ⟨(.type "tuple"),none,(.seq #[] 0),#[]⟩ (.node ⟨.none,none,(.fields #[]),#[]⟩ .nil .nil) .nil) (.node ⟨.none,none,(.func { (fnOf "ring_many" "ring_many" (defArgs (top 14)) (defBody (top 14)) (defScope (top 14)) .none .none .none .none none .none .none) with globals:=0 }),#[]⟩ (.node ⟨(.type "code"),none,(.fields #[(.str "refuse_other" 401),(.str "Family.refuse_other" 402),(.str "/claim/cut.py" 403),(.int 68 0),(.int 2 0),(.int 0 0),(.int 0 0),(.int 3 0),(.ref 174),(.bool true),(.int 181 0),(.ref 175),.none,(.ref 176),(.ref 177),(.ref 178),(.int 406 0),(.int 68 0),(.str "/claim/cut.py" 407)]),#[]⟩ .nil .nil) .nil))) (.node ⟨(.type "code"),none,(.fields #[(.str "KinError" 198),(.str "KinError" 199),(.str "/claim/cut.py" 200),(.int 5 0),(.int 0 0),(.int 0 0),(.int 0 0),(.int 0 0),(.ref 25),(.bool false),(.int 181 0),(.ref 26),.none,.none,.none,.none,(.int 201 0),(.int 5 0),(.str "/claim/cut.py" 202)]),#[]⟩ (.node ⟨(.type "dict"),none,(.dict #[⟨PyData.keyHash P "__module__",.str "__module__" 221,(.str "countkin.errors" 194)⟩,⟨PyData.keyHash P "__firstlineno__",.str "__firstlineno__" 225,(.int 7 224)⟩,⟨PyData.keyHash P "__static_attributes__",.str "__static_attributes__" 226,(.ref 42)⟩,⟨PyData.keyHash P "__doc__",.str "__doc__" 227,.none⟩] 2),#[]⟩ (.node ⟨.none,none,(.fields #[]),#[]⟩ (.node ⟨(.type "tuple"),none,(.seq #[] 0),#[]⟩ .nil .nil) (.node ⟨(.type "dict"),none,(.dict #[⟨PyData.keyHash P "__module__",.str "__module__" 338,(.str "countkin.kin" 329)⟩,⟨PyData.keyHash P "__firstlineno__",.str "__firstlineno__" 342,(.int 42 341)⟩,⟨PyData.keyHash P "__init__",.str "__init__" 351,(.ref 131)⟩,⟨PyData.keyHash P "size_of",.str "size_of" 359,(.ref 138)⟩,⟨PyData.keyHash P "is_one",.str "is_one" 367,(.ref 145)⟩,⟨PyData.keyHash P "unchecked_many",.str "unchecked_many" 375,(.ref 152)⟩,⟨PyData.keyHash P "unchecked_number",.str "unchecked_number" 383,(.ref 159)⟩,⟨PyData.keyHash P "unchecked_thing",.str "unchecked_thing" 392,(.ref 166)⟩,⟨PyData.keyHash P "many",.str "many" 400,(.ref 173)⟩,⟨PyData.keyHash P "refuse_other",.str "refuse_other" 408,(.ref 180)⟩,⟨PyData.keyHash P "number_of",.str "number_of" 416,(.ref 187)⟩,⟨PyData.keyHash P "thing_of",.str "thing_of" 425,(.ref 194)⟩,⟨PyData.keyHash P "next_of",.str "next_of" 433,(.ref 201)⟩,⟨PyData.keyHash P "__static_attributes__",.str "__static_attributes__" 436,(.ref 202)⟩,⟨PyData.keyHash P "__dict__",.str "__dict__" 438,(.ref 205)⟩,⟨PyData.keyHash P "__weakref__",.str "__weakref__" 440,(.ref 206)⟩,⟨PyData.keyHash P "__doc__",.str "__doc__" 441,.none⟩] 4),#[]⟩ .nil .nil)) (.node ⟨(.type "tuple"),none,(.seq #[] 0),#[]⟩ (.node ⟨.none,none,(.func { (fnOf "many" "Family.many" (defArgs (inClass (top 16) 6)) (defBody (inClass (top 16) 6)) (defScope (inClass (top 16) 6)) .none .none .none .none none .none .none) with globals:=0 }),#[]⟩ .nil .nil) .nil)) (.node ⟨(.type "tuple"),none,(.seq #[(.ref 31)] 0),#[]⟩ (.node ⟨.none,none,(.fields #[]),#[]⟩ (.node ⟨(.type "tuple"),none,(.seq #[(.str "self" 379),(.str "thing" 380)] 0),#[]⟩ .nil .nil) .nil) (.node ⟨(.type "code"),none,(.fields #[(.str "Family" 333),(.str "Family" 334),(.str "/claim/cut.py" 335),(.int 42 0),(.int 0 0),(.int 0 0),(.int 0 0),(.int 0 0),(.ref 121),(.bool false),(.int 181 0),(.ref 122),.none,.none,.none,.none,(.int 336 0),(.int 42 0),(.str "/claim/cut.py" 337)]),#[]⟩ (.node ⟨(.type "function"),none,(.func (fnOf "number_of" "Family.number_of" (defArgs (inClass (top 16) 8)) (defBody (inClass (top 16) 8)) (defScope (inClass (top 16) 8)) .none .none .none (.str "countkin.kin" 329) none (.ref 186) .none)),#[]⟩ .nil .nil) .nil))))) (.node (boot_o_5 P) (.node (boot_o_9 P) (.node ⟨(.type "tuple"),none,(.seq #[(.str "k" 190)] 0),#[]⟩ (.node ⟨(.type "super"),none,(.fields #[(.ref 31),(.ref 31),(.ref 31)]),#[]⟩ (.node ⟨(.type "frame"),none,.plain,#[(some (.ref 64)),(some (.ref 3)),(some (.ref 61)),none,(some (.str "countkin.errors" 194)),none,(some (.ref 0))]⟩ (.node ⟨.none,none,(.func { (fnOf "__init__" "Family.__init__" (defArgs (inClass (top 16) 0)) (defBody (inClass (top 16) 0)) (defScope (inClass (top 16) 0)) .none .none .none .none none .none .none) with globals:=0 }),#[]⟩ .nil .nil) (.node ⟨(.type "code"),none,(.fields #[(.str "thing_of" 417),(.str "Family.thing_of" 418),(.str "/claim/cut.py" 419),(.int 75 0),(.int 3 0),(.int 0 0),(.int 0 0),(.int 3 0),(.ref 188),(.bool true),(.int 181 0),(.ref 189),.none,(.ref 190),(.ref 191),(.ref 192),(.int 423 0),(.int 75 0),(.str "/claim/cut.py" 424)]),#[]⟩ .nil .nil)) (.node ⟨(.type "tuple"),none,(.seq #[] 0),#[]⟩ (.node ⟨.none,none,(.fields #[]),#[]⟩ .nil .nil) .nil)) (.node ⟨(.type "dict"),none,(.dict #[⟨PyData.keyHash P "__module__",.str "__module__" 237,(.str "countkin.errors" 194)⟩,⟨PyData.keyHash P "__qualname__",.str "__qualname__" 239,(.str "NoThing" 238)⟩,⟨PyData.keyHash P "__firstlineno__",.str "__firstlineno__" 241,(.int 9 240)⟩,⟨PyData.keyHash P "__static_attributes__",.str "__static_attributes__" 242,(.ref 54)⟩] 4),#[]⟩ (.node ⟨(.type "super"),none,(.fields #[(.ref 80),(.ref 80),(.ref 80)]),#[]⟩ (.node ⟨(.type "function"),none,(.func (fnOf "is_one" "Family.is_one" (defArgs (inClass (top 16) 2)) (defBody (inClass (top 16) 2)) (defScope (inClass (top 16) 2)) .none .none .none (.str "countkin.kin" 329) none (.ref 144) .none)),#[]⟩ .nil .nil) .nil) (.node ⟨(.type "tuple"),none,(.seq #[(.str "size" 323),(.str "product" 324),(.str "factor" 325)] 0),#[]⟩ (.node ⟨(.type "tuple"),none,(.seq #[] 0),#[]⟩ .nil .nil) .nil))) (.node ⟨(.type "tuple"),none,(.seq #[] 0),#[]⟩ (.node ⟨(.type "frame"),none,.plain,#[(some (.ref 40)),(some (.ref 3)),(some (.ref 37)),none,(some (.str "countkin.errors" 194)),none,(some (.ref 0))]⟩ (.node ⟨(.type "dict"),none,(.dict #[⟨PyData.keyHash P "__module__",.str "__module__" 269,(.str "countkin.errors" 194)⟩,⟨PyData.keyHash P "__qualname__",.str "__qualname__" 271,(.str "NoMark" 270)⟩,⟨PyData.keyHash P "__firstlineno__",.str "__firstlineno__" 273,(.int 13 272)⟩,⟨PyData.keyHash P "__static_attributes__",.str "__static_attributes__" 274,(.ref 78)⟩] 4),#[]⟩ (.node ⟨(.type "code"),none,(.fields #[(.str "size_of" 352),(.str "Family.size_of" 353),(.str "/claim/cut.py" 354),(.int 48 0),(.int 2 0),(.int 0 0),(.int 0 0),(.int 3 0),(.ref 132),(.bool true),(.int 181 0),(.ref 133),.none,(.ref 134),(.ref 135),(.ref 136),(.int 357 0),(.int 48 0),(.str "/claim/cut.py" 358)]),#[]⟩ .nil .nil) (.node ⟨(.type "function"),none,(.func (fnOf "next_of" "Family.next_of" (defArgs (inClass (top 16) 10)) (defBody (inClass (top 16) 10)) (defScope (inClass (top 16) 10)) .none .none .none (.str "countkin.kin" 329) none (.ref 200) .none)),#[]⟩ .nil .nil)) (.node ⟨.none,none,(.fields #[]),#[]⟩ (.node ⟨(.type "tuple"),none,(.seq #[(.str "self" 396),(.str "size" 397)] 0),#[]⟩ .nil .nil) .nil)) (.node ⟨(.type "super"),none,(.fields #[(.ref 56),(.ref 56),(.ref 56)]),#[]⟩ (.node ⟨(.type "function"),none,(.func (fnOf "flat" "flat" (defArgs (top 8)) (defBody (top 8)) (defScope (top 8)) .none .none .none (.str "countkin.common" 278) none (.ref 88) .none)),#[]⟩ (.node ⟨(.type "tuple"),none,(.seq #[] 0),#[]⟩ .nil .nil) .nil) (.node ⟨(.type "tuple"),none,(.seq #[] 0),#[]⟩ (.node ⟨.none,none,(.func { (fnOf "number_of" "Family.number_of" (defArgs (inClass (top 16) 8)) (defBody (inClass (top 16) 8)) (defScope (inClass (top 16) 8)) .none .none .none .none none .none .none) with globals:=0 }),#[]⟩ .nil .nil) .nil)))) (.node ⟨(.type "code"),none,(.fields #[(.str "<module>" 182),(.str "<module>" 183),(.str "/claim/cut.py" 184),(.int 1 0),(.int 0 0),(.int 0 0),(.int 0 0),(.int 0 0),(.ref 11),(.bool false),(.int 181 0),(.ref 12),.none,.none,.none,.none,(.int 185 0),(.int 1 0),(.str "/claim/cut.py" 186)]),#[]⟩ (.node ⟨(.type "function"),none,(.func (fnOf "_wall" "_wall" (defArgs (top 0)) (defBody (top 0)) (defScope (top 0)) .none .none .none (.str "__main__" 164) none (.ref 20) .none)),#[]⟩ (.node ⟨(.type "dict"),none,(.dict #[⟨PyData.keyHash P "__module__",.str "__module__" 221,(.str "countkin.errors" 194)⟩,⟨PyData.keyHash P "__qualname__",.str "__qualname__" 223,(.str "NoSize" 222)⟩,⟨PyData.keyHash P "__firstlineno__",.str "__firstlineno__" 225,(.int 7 224)⟩,⟨PyData.keyHash P "__static_attributes__",.str "__static_attributes__" 226,(.ref 42)⟩] 4),#[]⟩ (.node ⟨(.type "super"),none,(.fields #[(.ref 68),(.ref 68),(.ref 68)]),#[]⟩ (.node ⟨.none,none,(.fields #[]),#[]⟩ .nil .nil) (.node ⟨(.type "tuple"),none,(.seq #[(.str "self" 429),(.str "thing" 430)] 0),#[]⟩ .nil .nil)) (.node ⟨.none,none,(.func { (fnOf "any_cross" "any_cross" (defArgs (top 10)) (defBody (top 10)) (defScope (top 10)) .none .none .none .none none .none .none) with globals:=0 }),#[]⟩ (.node ⟨(.type "code"),none,(.fields #[(.str "unchecked_thing" 384),(.str "Family.unchecked_thing" 385),(.str "/claim/cut.py" 386),(.int 60 0),(.int 3 0),(.int 0 0),(.int 0 0),(.int 3 0),(.ref 160),(.bool true),(.int 181 0),(.ref 161),.none,(.ref 162),(.ref 163),(.ref 164),(.int 390 0),(.int 60 0),(.str "/claim/cut.py" 391)]),#[]⟩ .nil .nil) .nil)) (.node ⟨(.type "frame"),none,.plain,#[(some (.ref 52)),(some (.ref 3)),(some (.ref 49)),none,(some (.str "countkin.errors" 194)),none,(some (.ref 0))]⟩ (.node ⟨(.type "tuple"),none,(.seq #[(.str "rows" 283),(.str "found" 284),(.str "row" 285)] 0),#[]⟩ (.node ⟨(.type "tuple"),none,(.seq #[] 0),#[]⟩ .nil .nil) .nil) (.node ⟨(.type "function"),none,(.func (fnOf "ring_many" "ring_many" (defArgs (top 14)) (defBody (top 14)) (defScope (top 14)) .none .none .none (.str "countkin.counts" 307) none (.ref 116) .none)),#[]⟩ (.node ⟨(.type "tuple"),none,(.seq #[] 0),#[]⟩ .nil .nil) .nil))) (.node ⟨(.type "tuple"),none,(.seq #[] 0),#[]⟩ (.node ⟨(.type "super"),none,(.fields #[(.ref 44),(.ref 44),(.ref 44)]),#[]⟩ (.node ⟨(.type "frame"),none,.plain,#[(some (.ref 76)),(some (.ref 3)),(some (.ref 73)),none,(some (.str "countkin.errors" 194)),none,(some (.ref 0))]⟩ (.node ⟨(.type "tuple"),none,(.seq #[(.str "self" 363),(.str "thing" 364)] 0),#[]⟩ .nil .nil) (.node ⟨(.type "getset_descriptor"),none,(.fields #[(.str "__dict__" 437),(.ref 204),(.builtin "function.__dict__"),(.builtin "function.__dict__#set")]),#[]⟩ .nil .nil)) (.node ⟨(.type "code"),none,(.fields #[(.str "by_rule" 311),(.str "by_rule" 312),(.str "/claim/cut.py" 313),(.int 31 0),(.int 1 0),(.int 0 0),(.int 0 0),(.int 3 0),(.ref 104),(.bool true),(.int 181 0),(.ref 105),.none,(.ref 106),(.ref 107),(.ref 108),(.int 317 0),(.int 31 0),(.str "/claim/cut.py" 318)]),#[]⟩ (.node ⟨(.type "function"),none,(.func (fnOf "many" "Family.many" (defArgs (inClass (top 16) 6)) (defBody (inClass (top 16) 6)) (defScope (inClass (top 16) 6)) .none .none .none (.str "countkin.kin" 329) none (.ref 172) .none)),#[]⟩ .nil .nil) .nil)) (.node ⟨(.type "dict"),none,(.dict #[⟨PyData.keyHash P "__module__",.str "__module__" 253,(.str "countkin.errors" 194)⟩,⟨PyData.keyHash P "__qualname__",.str "__qualname__" 255,(.str "NoFamily" 254)⟩,⟨PyData.keyHash P "__firstlineno__",.str "__firstlineno__" 257,(.int 11 256)⟩,⟨PyData.keyHash P "__static_attributes__",.str "__static_attributes__" 258,(.ref 66)⟩] 4),#[]⟩ (.node ⟨(.type "tuple"),none,(.seq #[] 0),#[]⟩ (.node ⟨.none,none,(.func { (fnOf "unchecked_number" "Family.unchecked_number" (defArgs (inClass (top 16) 4)) (defBody (inClass (top 16) 4)) (defScope (inClass (top 16) 4)) .none .none .none .none none .none .none) with globals:=0 }),#[]⟩ .nil .nil) .nil) (.node ⟨(.type "tuple"),none,(.seq #[] 0),#[]⟩ (.node ⟨.none,none,(.fields #[]),#[]⟩ .nil .nil) .nil)))))) (.node (boot_o_2 P) (.node (boot_o_4 P) (.node (boot_o_8 P) (.node ⟨.none,none,(.fields #[]),#[]⟩ (.node ⟨(.type "getset_descriptor"),none,(.fields #[(.str "__weakref__" 209),(.ref 31),(.builtin "ExceptionGroup.__weakref__"),.none]),#[]⟩ (.node ⟨(.type "code"),none,(.fields #[(.str "NoFamily" 248),(.str "NoFamily" 249),(.str "/claim/cut.py" 250),(.int 11 0),(.int 0 0),(.int 0 0),(.int 0 0),(.int 0 0),(.ref 62),(.bool false),(.int 181 0),(.ref 63),.none,.none,.none,.none,(.int 251 0),(.int 11 0),(.str "/claim/cut.py" 252)]),#[]⟩ (.node ⟨(.type "tuple"),none,(.seq #[] 0),#[]⟩ .nil .nil) (.node ⟨.none,none,(.func { (fnOf "thing_of" "Family.thing_of" (defArgs (inClass (top 16) 9)) (defBody (inClass (top 16) 9)) (defScope (inClass (top 16) 9)) .none .none .none .none none .none .none) with globals:=0 }),#[]⟩ .nil .nil)) (.node ⟨(.type "function"),none,(.func (fnOf "each_once" "each_once" (defArgs (top 9)) (defBody (top 9)) (defScope (top 9)) .none .none .none (.str "countkin.common" 278) none (.ref 95) .none)),#[]⟩ (.node ⟨(.type "tuple"),none,(.seq #[] 0),#[]⟩ .nil .nil) .nil)) (.node ⟨(.type "builtin_function_or_method"),none,(.fields #[(.builtin "type.__prepare__"),(.type "type")]),#[]⟩ (.node ⟨(.type "type"),none,(.cls ⟨"NoMark",[(.ref 31)],[(.ref 80),(.ref 31),(.type "ValueError"),(.type "Exception"),(.type "BaseException"),(.type "object")],79,"NoMark",true,[],[],false,none,false⟩),#[(some (.ref 71)),none,(some (.str "NoMark" 262)),(some (.str "NoMark" 270)),(some (.builtin "ValueError.__new__")),(some (.bool true))]⟩ (.node ⟨(.type "code"),none,(.fields #[(.str "is_one" 360),(.str "Family.is_one" 361),(.str "/claim/cut.py" 362),(.int 51 0),(.int 2 0),(.int 0 0),(.int 0 0),(.int 3 0),(.ref 139),(.bool true),(.int 181 0),(.ref 140),.none,(.ref 141),(.ref 142),(.ref 143),(.int 365 0),(.int 51 0),(.str "/claim/cut.py" 366)]),#[]⟩ .nil .nil) (.node ⟨(.type "builtin_function_or_method"),none,(.fields #[(.builtin "object.__init_subclass__"),(.ref 204)]),#[]⟩ .nil .nil)) (.node ⟨.none,none,(.fields #[]),#[]⟩ (.node ⟨(.type "tuple"),none,(.seq #[(.str "self" 404),(.str "thing" 405)] 0),#[]⟩ .nil .nil) .nil))) (.node ⟨(.type "dict"),none,(.dict #[⟨PyData.keyHash P "__module__",.str "__module__" 203,(.str "countkin.errors" 194)⟩,⟨PyData.keyHash P "__qualname__",.str "__qualname__" 205,(.str "KinError" 204)⟩,⟨PyData.keyHash P "__firstlineno__",.str "__firstlineno__" 207,(.int 5 206)⟩,⟨PyData.keyHash P "__static_attributes__",.str "__static_attributes__" 208,(.ref 29)⟩] 4),#[]⟩ (.node ⟨(.type "code"),none,(.fields #[(.str "NoSize" 216),(.str "NoSize" 217),(.str "/claim/cut.py" 218),(.int 7 0),(.int 0 0),(.int 0 0),(.int 0 0),(.int 0 0),(.ref 38),(.bool false),(.int 181 0),(.ref 39),.none,.none,.none,.none,(.int 219 0),(.int 7 0),(.str "/claim/cut.py" 220)]),#[]⟩ (.node ⟨(.type "builtin_function_or_method"),none,(.fields #[(.builtin "type.__prepare__"),(.type "type")]),#[]⟩ (.node ⟨.none,none,(.func { (fnOf "size_of" "Family.size_of" (defArgs (inClass (top 16) 1)) (defBody (inClass (top 16) 1)) (defScope (inClass (top 16) 1)) .none .none .none .none none .none .none) with globals:=0 }),#[]⟩ .nil .nil) (.node ⟨(.type "code"),none,(.fields #[(.str "next_of" 426),(.str "Family.next_of" 427),(.str "/claim/cut.py" 428),(.int 78 0),(.int 2 0),(.int 0 0),(.int 0 0),(.int 3 0),(.ref 195),(.bool true),(.int 181 0),(.ref 196),.none,(.ref 197),(.ref 198),(.ref 199),(.int 431 0),(.int 78 0),(.str "/claim/cut.py" 432)]),#[]⟩ .nil .nil)) (.node ⟨(.type "tuple"),none,(.seq #[] 0),#[]⟩ (.node ⟨.none,none,(.fields #[]),#[]⟩ .nil .nil) .nil)) (.node ⟨(.type "type"),none,(.cls ⟨"NoThing",[(.ref 31)],[(.ref 56),(.ref 31),(.type "ValueError"),(.type "Exception"),(.type "BaseException"),(.type "object")],55,"NoThing",true,[],[],false,none,false⟩),#[(some (.ref 47)),none,(some (.str "NoThing" 230)),(some (.str "NoThing" 238)),(some (.builtin "ValueError.__new__")),(some (.bool true))]⟩ (.node ⟨(.type "code"),none,(.fields #[(.str "flat" 280),(.str "flat" 281),(.str "/claim/cut.py" 282),(.int 16 0),(.int 1 0),(.int 0 0),(.int 0 0),(.int 3 0),(.ref 83),(.bool true),(.int 181 0),(.ref 84),.none,(.ref 85),(.ref 86),(.ref 87),(.int 286 0),(.int 16 0),(.str "/claim/cut.py" 287)]),#[]⟩ (.node ⟨(.type "function"),none,(.func (fnOf "unchecked_many" "Family.unchecked_many" (defArgs (inClass (top 16) 3)) (defBody (inClass (top 16) 3)) (defScope (inClass (top 16) 3)) .none .none .none (.str "countkin.kin" 329) none (.ref 151) .none)),#[]⟩ .nil .nil) .nil) (.node ⟨(.type "dict"),none,(.dict #[⟨PyData.keyHash P "__module__",.str "__module__" 338,(.str "countkin.kin" 329)⟩,⟨PyData.keyHash P "__qualname__",.str "__qualname__" 340,(.str "Family" 339)⟩,⟨PyData.keyHash P "__firstlineno__",.str "__firstlineno__" 342,(.int 42 341)⟩,⟨PyData.keyHash P "__init__",.str "__init__" 351,(.ref 131)⟩,⟨PyData.keyHash P "size_of",.str "size_of" 359,(.ref 138)⟩,⟨PyData.keyHash P "is_one",.str "is_one" 367,(.ref 145)⟩,⟨PyData.keyHash P "unchecked_many",.str "unchecked_many" 375,(.ref 152)⟩,⟨PyData.keyHash P "unchecked_number",.str "unchecked_number" 383,(.ref 159)⟩,⟨PyData.keyHash P "unchecked_thing",.str "unchecked_thing" 392,(.ref 166)⟩,⟨PyData.keyHash P "many",.str "many" 400,(.ref 173)⟩,⟨PyData.keyHash P "refuse_other",.str "refuse_other" 408,(.ref 180)⟩,⟨PyData.keyHash P "number_of",.str "number_of" 416,(.ref 187)⟩,⟨PyData.keyHash P "thing_of",.str "thing_of" 425,(.ref 194)⟩,⟨PyData.keyHash P "next_of",.str "next_of" 433,(.ref 201)⟩,⟨PyData.keyHash P "__static_attributes__",.str "__static_attributes__" 436,(.ref 202)⟩] 15),#[]⟩ (.node ⟨(.type "tuple"),none,(.seq #[] 0),#[]⟩ .nil .nil) .nil)))) (.node ⟨.none,none,(.fields #[(.int 1 0),(.int 0 0),(.ref 20),(.int 5 0),(.int 0 0),(.ref 27),(.int 7 0),(.int 0 0),(.ref 40),(.int 9 0),(.int 0 0),(.ref 52),(.int 11 0),(.int 0 0),(.ref 64),(.int 13 0),(.int 0 0),(.ref 76),(.int 16 0),(.int 0 0),(.ref 88),(.int 21 0),(.int 0 0),(.ref 95),(.int 23 0),(.int 0 0),(.ref 102),(.int 31 0),(.int 0 0),(.ref 109),(.int 36 0),(.int 0 0),(.ref 116),(.int 42 0),(.int 0 0),(.ref 123)]),#[]⟩ (.node ⟨(.type "code"),none,(.fields #[(.str "_wall" 187),(.str "_wall" 188),(.str "/claim/cut.py" 189),(.int 1 0),(.int 1 0),(.int 0 0),(.int 0 0),(.int 3 0),(.ref 15),(.bool true),(.int 181 0),(.ref 16),.none,(.ref 17),(.ref 18),(.ref 19),(.int 191 0),(.int 1 0),(.str "/claim/cut.py" 192)]),#[]⟩ (.node ⟨(.type "builtin_function_or_method"),none,(.fields #[(.builtin "type.__prepare__"),(.type "type")]),#[]⟩ (.node ⟨(.type "type"),none,(.cls ⟨"NoFamily",[(.ref 31)],[(.ref 68),(.ref 31),(.type "ValueError"),(.type "Exception"),(.type "BaseException"),(.type "object")],67,"NoFamily",true,[],[],false,none,false⟩),#[(some (.ref 59)),none,(some (.str "NoFamily" 246)),(some (.str "NoFamily" 254)),(some (.builtin "ValueError.__new__")),(some (.bool true))]⟩ (.node ⟨(.type "tuple"),none,(.seq #[] 0),#[]⟩ .nil .nil) (.node ⟨.none,none,(.fields #[]),#[]⟩ .nil .nil)) (.node ⟨(.type "tuple"),none,(.seq #[] 0),#[]⟩ (.node ⟨.none,none,(.func { (fnOf "unchecked_thing" "Family.unchecked_thing" (defArgs (inClass (top 16) 5)) (defBody (inClass (top 16) 5)) (defScope (inClass (top 16) 5)) .none .none .none .none none .none .none) with globals:=0 }),#[]⟩ .nil .nil) .nil)) (.node ⟨(.type "code"),none,(.fields #[(.str "NoThing" 232),(.str "NoThing" 233),(.str "/claim/cut.py" 234),(.int 9 0),(.int 0 0),(.int 0 0),(.int 0 0),(.int 0 0),(.ref 50),(.bool false),(.int 181 0),(.ref 51),.none,.none,.none,.none,(.int 235 0),(.int 9 0),(.str "/claim/cut.py" 236)]),#[]⟩ (.node ⟨.none,none,(.fields #[]),#[]⟩ (.node ⟨(.type "tuple"),none,(.seq #[(.str "self" 371),(.str "size" 372)] 0),#[]⟩ .nil .nil) .nil) (.node ⟨(.type "code"),none,(.fields #[(.str "ring_many" 320),(.str "ring_many" 321),(.str "/claim/cut.py" 322),(.int 36 0),(.int 1 0),(.int 0 0),(.int 0 0),(.int 3 0),(.ref 111),(.bool true),(.int 181 0),(.ref 112),.none,(.ref 113),(.ref 114),(.ref 115),(.int 326 0),(.int 36 0),(.str "/claim/cut.py" 327)]),#[]⟩ (.node ⟨(.type "function"),none,(.func (fnOf "refuse_other" "Family.refuse_other" (defArgs (inClass (top 16) 7)) (defBody (inClass (top 16) 7)) (defScope (inClass (top 16) 7)) .none .none .none (.str "countkin.kin" 329) none (.ref 179) .none)),#[]⟩ .nil .nil) .nil))) (.node ⟨(.type "frame"),none,.plain,#[(some (.ref 27)),(some (.ref 3)),(some (.ref 24)),none,(some (.str "countkin.errors" 194)),none,(some (.ref 0))]⟩ (.node ⟨(.type "type"),none,(.cls ⟨"NoSize",[(.ref 31)],[(.ref 44),(.ref 31),(.type "ValueError"),(.type "Exception"),(.type "BaseException"),(.type "object")],43,"NoSize",true,[],[],false,none,false⟩),#[(some (.ref 35)),none,(some (.str "NoSize" 214)),(some (.str "NoSize" 222)),(some (.builtin "ValueError.__new__")),(some (.bool true))]⟩ (.node ⟨(.type "code"),none,(.fields #[(.str "NoMark" 264),(.str "NoMark" 265),(.str "/claim/cut.py" 266),(.int 13 0),(.int 0 0),(.int 0 0),(.int 0 0),(.int 0 0),(.ref 74),(.bool false),(.int 181 0),(.ref 75),.none,.none,.none,.none,(.int 267 0),(.int 13 0),(.str "/claim/cut.py" 268)]),#[]⟩ (.node ⟨.none,none,(.fields #[]),#[]⟩ .nil .nil) (.node ⟨(.type "type"),none,(.cls ⟨"Family",[(.type "object")],[(.ref 204),(.type "object")],203,"Family",true,[],[],false,none,false⟩),#[none,none,(some (.str "Family" 331)),(some (.str "Family" 339)),(some (.builtin "object.__new__")),(some (.bool true))]⟩ .nil .nil)) (.node ⟨.none,none,(.func { (fnOf "by_rule" "by_rule" (defArgs (top 13)) (defBody (top 13)) (defScope (top 13)) .none .none .none .none none .none .none) with globals:=0 }),#[]⟩ (.node ⟨(.type "code"),none,(.fields #[(.str "many" 393),(.str "Family.many" 394),(.str "/claim/cut.py" 395),(.int 63 0),(.int 2 0),(.int 0 0),(.int 0 0),(.int 3 0),(.ref 167),(.bool true),(.int 181 0),(.ref 168),.none,(.ref 169),(.ref 170),(.ref 171),(.int 398 0),(.int 63 0),(.str "/claim/cut.py" 399)]),#[]⟩ .nil .nil) .nil)) (.node ⟨(.type "builtin_function_or_method"),none,(.fields #[(.builtin "type.__prepare__"),(.type "type")]),#[]⟩ (.node ⟨(.type "tuple"),none,(.seq #[(.str "numbers" 292)] 0),#[]⟩ (.node ⟨(.type "tuple"),none,(.seq #[] 0),#[]⟩ .nil .nil) .nil) (.node ⟨(.type "frame"),none,.plain,#[(some (.ref 123)),(some (.ref 3)),(some (.ref 120)),none,(some (.str "countkin.kin" 329)),none,(some (.ref 0))]⟩ (.node ⟨(.type "tuple"),none,(.seq #[] 0),#[]⟩ .nil .nil) .nil))))) (.node (boot_o_6 P) (.node (boot_o_10 P) (.node ⟨(.type "tuple"),none,(.seq #[] 0),#[]⟩ (.node ⟨(.type "builtin_function_or_method"),none,(.fields #[(.builtin "object.__init_subclass__"),(.ref 31)]),#[]⟩ (.node ⟨(.type "tuple"),none,(.seq #[] 0),#[]⟩ (.node ⟨(.type "code"),none,(.fields #[(.str "__init__" 343),(.str "Family.__init__" 344),(.str "/claim/cut.py" 345),(.int 44 0),(.int 3 0),(.int 0 0),(.int 0 0),(.int 3 0),(.ref 125),(.bool true),(.int 181 0),(.ref 126),.none,(.ref 127),(.ref 128),(.ref 129),(.int 349 0),(.int 44 0),(.str "/claim/cut.py" 350)]),#[]⟩ .nil .nil) (.node ⟨(.type "function"),none,(.func (fnOf "thing_of" "Family.thing_of" (defArgs (inClass (top 16) 9)) (defBody (inClass (top 16) 9)) (defScope (inClass (top 16) 9)) .none .none .none (.str "countkin.kin" 329) none (.ref 193) .none)),#[]⟩ .nil .nil)) (.node ⟨.none,none,(.fields #[]),#[]⟩ (.node ⟨(.type "tuple"),none,(.seq #[(.str "self" 387),(.str "size" 388),(.str "number" 389)] 0),#[]⟩ .nil .nil) .nil)) (.node ⟨(.type "tuple"),none,(.seq #[] 0),#[]⟩ (.node ⟨(.type "builtin_function_or_method"),none,(.fields #[(.builtin "object.__init_subclass__"),(.ref 80)]),#[]⟩ (.node ⟨(.type "tuple"),none,(.seq #[] 0),#[]⟩ .nil .nil) .nil) (.node ⟨(.type "tuple"),none,(.seq #[] 0),#[]⟩ (.node ⟨.none,none,(.func { (fnOf "refuse_other" "Family.refuse_other" (defArgs (inClass (top 16) 7)) (defBody (inClass (top 16) 7)) (defScope (inClass (top 16) 7)) .none .none .none .none none .none .none) with globals:=0 }),#[]⟩ .nil .nil) .nil))) (.node ⟨.none,none,(.fields #[]),#[]⟩ (.node ⟨(.type "tuple"),none,(.seq #[] 0),#[]⟩ (.node ⟨(.type "tuple"),none,(.seq #[] 0),#[]⟩ (.node ⟨(.type "function"),none,(.func (fnOf "size_of" "Family.size_of" (defArgs (inClass (top 16) 1)) (defBody (inClass (top 16) 1)) (defScope (inClass (top 16) 1)) .none .none .none (.str "countkin.kin" 329) none (.ref 137) .none)),#[]⟩ .nil .nil) (.node ⟨(.type "tuple"),none,(.seq #[(.str "least" 434),(.str "word" 435)] 0),#[]⟩ .nil .nil)) (.node ⟨(.type "tuple"),none,(.seq #[(.str "size" 314),(.str "share" 315),(.str "k" 316)] 0),#[]⟩ (.node ⟨(.type "tuple"),none,(.seq #[] 0),#[]⟩ .nil .nil) .nil)) (.node ⟨(.type "builtin_function_or_method"),none,(.fields #[(.builtin "object.__init_subclass__"),(.ref 56)]),#[]⟩ (.node ⟨(.type "tuple"),none,(.seq #[] 0),#[]⟩ (.node ⟨.none,none,(.fields #[]),#[]⟩ .nil .nil) .nil) (.node ⟨.none,none,(.fields #[(.int 44 0),(.int 4 0),(.ref 130),(.int 48 0),(.int 4 0),(.ref 137),(.int 51 0),(.int 4 0),(.ref 144),(.int 54 0),(.int 4 0),(.ref 151),(.int 57 0),(.int 4 0),(.ref 158),(.int 60 0),(.int 4 0),(.ref 165),(.int 63 0),(.int 4 0),(.ref 172),(.int 68 0),(.int 4 0),(.ref 179),(.int 72 0),(.int 4 0),(.ref 186),(.int 75 0),(.int 4 0),(.ref 193),(.int 78 0),(.int 4 0),(.ref 200)]),#[]⟩ (.node ⟨(.type "code"),none,(.fields #[(.str "number_of" 409),(.str "Family.number_of" 410),(.str "/claim/cut.py" 411),(.int 72 0),(.int 2 0),(.int 0 0),(.int 0 0),(.int 3 0),(.ref 181),(.bool true),(.int 181 0),(.ref 182),.none,(.ref 183),(.ref 184),(.ref 185),(.int 414 0),(.int 72 0),(.str "/claim/cut.py" 415)]),#[]⟩ .nil .nil) .nil)))) (.node ⟨(.type "frame"),none,.plain,#[(some (.ref 13)),(some (.ref 3)),(some (.ref 3)),none,(some (.str "__main__" 164)),none,(some (.ref 0))]⟩ (.node ⟨(.type "tuple"),none,(.seq #[(.type "ValueError")] 0),#[]⟩ (.node ⟨(.type "tuple"),none,(.seq #[] 0),#[]⟩ (.node ⟨(.type "builtin_function_or_method"),none,(.fields #[(.builtin "object.__init_subclass__"),(.ref 68)]),#[]⟩ (.node ⟨(.type "tuple"),none,(.seq #[(.str "self" 355),(.str "thing" 356)] 0),#[]⟩ .nil .nil) (.node ⟨(.type "tuple"),none,(.seq #[] 0),#[]⟩ .nil .nil)) (.node ⟨(.type "code"),none,(.fields #[(.str "any_cross" 296),(.str "any_cross" 297),(.str "/claim/cut.py" 298),(.int 23 0),(.int 1 0),(.int 0 0),(.int 0 0),(.int 3 0),(.ref 97),(.bool true),(.int 181 0),(.ref 98),.none,(.ref 99),(.ref 100),(.ref 101),(.int 304 0),(.int 23 0),(.str "/claim/cut.py" 305)]),#[]⟩ (.node ⟨(.type "function"),none,(.func (fnOf "unchecked_thing" "Family.unchecked_thing" (defArgs (inClass (top 16) 5)) (defBody (inClass (top 16) 5)) (defScope (inClass (top 16) 5)) .none .none .none (.str "countkin.kin" 329) none (.ref 165) .none)),#[]⟩ .nil .nil) .nil)) (.node ⟨(.type "tuple"),none,(.seq #[] 0),#[]⟩ (.node ⟨(.type "tuple"),none,(.seq #[] 0),#[]⟩ (.node ⟨.none,none,(.func { (fnOf "unchecked_many" "Family.unchecked_many" (defArgs (inClass (top 16) 3)) (defBody (inClass (top 16) 3)) (defScope (inClass (top 16) 3)) .none .none .none .none none .none .none) with globals:=0 }),#[]⟩ .nil .nil) .nil) (.node ⟨(.type "tuple"),none,(.seq #[] 0),#[]⟩ (.node ⟨.none,none,(.fields #[]),#[]⟩ .nil .nil) .nil))) (.node ⟨(.type "dict"),none,(.dict #[⟨PyData.keyHash P "__module__",.str "__module__" 203,(.str "countkin.errors" 194)⟩,⟨PyData.keyHash P "__firstlineno__",.str "__firstlineno__" 207,(.int 5 206)⟩,⟨PyData.keyHash P "__static_attributes__",.str "__static_attributes__" 208,(.ref 29)⟩,⟨PyData.keyHash P "__weakref__",.str "__weakref__" 210,(.ref 32)⟩,⟨PyData.keyHash P "__doc__",.str "__doc__" 211,.none⟩] 3),#[]⟩ (.node ⟨(.type "builtin_function_or_method"),none,(.fields #[(.builtin "object.__init_subclass__"),(.ref 44)]),#[]⟩ (.node ⟨(.type "tuple"),none,(.seq #[] 0),#[]⟩ (.node ⟨(.type "tuple"),none,(.seq #[] 0),#[]⟩ .nil .nil) (.node ⟨(.type "getset_descriptor"),none,(.fields #[(.str "__weakref__" 439),(.ref 204),(.builtin "ExceptionGroup.__weakref__"),.none]),#[]⟩ .nil .nil)) (.node ⟨(.type "function"),none,(.func (fnOf "by_rule" "by_rule" (defArgs (top 13)) (defBody (top 13)) (defScope (top 13)) .none .none .none (.str "countkin.counts" 307) none (.ref 109) .none)),#[]⟩ (.node ⟨(.type "tuple"),none,(.seq #[] 0),#[]⟩ .nil .nil) .nil)) (.node ⟨(.type "tuple"),none,(.seq #[] 0),#[]⟩ (.node ⟨.none,none,(.func { (fnOf "each_once" "each_once" (defArgs (top 9)) (defBody (top 9)) (defScope (top 9)) .none .none .none .none none .none .none) with globals:=0 }),#[]⟩ (.node ⟨(.type "code"),none,(.fields #[(.str "unchecked_number" 376),(.str "Family.unchecked_number" 377),(.str "/claim/cut.py" 378),(.int 57 0),(.int 2 0),(.int 0 0),(.int 0 0),(.int 3 0),(.ref 153),(.bool true),(.int 181 0),(.ref 154),.none,(.ref 155),(.ref 156),(.ref 157),(.int 381 0),(.int 57 0),(.str "/claim/cut.py" 382)]),#[]⟩ .nil .nil) .nil) (.node ⟨.none,none,(.fields #[]),#[]⟩ (.node ⟨(.type "tuple"),none,(.seq #[(.str "self" 420),(.str "size" 421),(.str "number" 422)] 0),#[]⟩ .nil .nil) .nil)))))))
noncomputable def hS2 (w:World) (os:OsState):SharedT:=⟨hTree2 w.params,209,({}:Life),Array.mk [],⟨0,0,0,0⟩,444,os⟩
noncomputable def hMidF (w:World) (os:OsState):=segRunT treeTable PySem.Challenge.pw_countkin_k50_marks_of_floors w 11 (some (.ref 6)) 1 1814 (hS w os) (piecesOf (hB.take 17) hE hC ⟨0,0,0,0⟩ [topFrame ⟨0,0,0,0⟩])
noncomputable def hMidG (w:World) (os:OsState):Option (Flow × SharedT × Code × Pos):=some (.next,hS2 w os,hC,⟨42,0,79,16⟩)
noncomputable def hRunF (w:World) (os:OsState):=(segRunT treeTable PySem.Challenge.pw_countkin_k50_marks_of_floors w 11 (some (.ref 6)) 1 6489 (hS2 w os) (piecesOf (hB.drop 17) hE hC ⟨42,0,79,16⟩ [topFrame ⟨0,0,0,0⟩])).map (lookEnd treeTable PySem.Challenge.pw_countkin_k50_marks_of_floors w 11 (some (.ref 6)) ⟨0,0,0,0⟩ hC 2 (hLook w.params))
noncomputable def hRunG (w:World) (_:OsState):=some (Flow.next,hC,some (true,openGood hQ hL,(hK w.params).map fun p=>some p.2))
noncomputable def hSizF (w:World):=((boot_heap w.params).isNs mainGlobals&&(Array.mk []:Array GenState).size == 0,(boot_heap w.params).objs.size,(boot_heap w.params).nsMap mainGlobals "__annotations__")
noncomputable def hSizG (_:World):Bool × Nat × Option Value:=(true,11,(some (.ref 6)))
theorem hSeed:(fun _ _ _ _ _ _ _ _ _ _=>true) hPreF hPreG hBlkF hBlkG hRunF hRunG hSizF hSizG hMidF hMidG=true:=by k_qdec
theorem hPre:hPreF=hPreG:=Eq.trans PySem.W.Fast.te5317814654954331368 (Eq.trans (by kernel_rfl) (Eq.symm PySem.W.Fast.te14277440360295502494))
theorem hBlk:hBlkF=hBlkG:=Eq.trans PySem.W.Fast.te2033988648308832629 (Eq.trans (by kernel_rfl) (Eq.symm PySem.W.Fast.te1798457917166677164))
theorem hMid:hMidF=hMidG:=Eq.trans PySem.W.Fast.te3840733706415240168 (Eq.trans (by kernel_rfl) (Eq.symm PySem.W.Fast.te18240272836940206031))
theorem hRun:hRunF=hRunG:=Eq.trans PySem.W.Fast.te6412348297585774662 (Eq.trans (by kernel_rfl) (Eq.symm PySem.W.Fast.te15447895654253735931))
theorem hSiz:hSizF=hSizG:=Eq.trans PySem.W.Fast.te13693962943478796877 (by kernel_rfl)
theorem hLeft:LeftO PySem.Challenge.pw_countkin_k50_marks_of_floors hQ hL hX (Hook.obs hH) (Hook.val hH) 16728 :=
 left_whole (boot_open (by kernel_rfl) (by decide) (fun _=>by kernel_rfl)) (fun w=>congrFun hSiz w)
  (fun w os=>by
   obtain ⟨e,r,l⟩:=run_two (b:=hB) (env:=hE) (L:=hLook w.params) rfl (congrFun (congrFun hPre w) os) (congrFun (congrFun hBlk w) os) (congrFun (congrFun hMid w) os) (congrFun (congrFun hRun w) os)
   exact ⟨e,r,(congrArg (fun z=>(_,_,z)) (pick_eq hAM e.heap)).trans l⟩) (by decide)
end Ck
open PySem PySem.W PyProof.Rows
set_option maxRecDepth 100000 in
set_option maxHeartbeats 0 in
theorem PySem.Challenge.cw_countkin_k50_marks_of_floors_holds : PySem.Challenge.rw_countkin_k50_marks_of_floors.Holds := by
 w_on; o_law
 refine holds_open (q:=Ck.hQ) (loose:=Ck.hL) (Xt:=Ck.hX) (XP:=XL Ck.hQ []) (Yf:=Hook.obs (kHook Ck.hK Ck.hA Ck.hKA)) (Ya:=Hook.val (kHook Ck.hK Ck.hA Ck.hKA)) (YP:=Hook.says (kHook Ck.hK Ck.hA Ck.hKA)) (N:=16728) Ck.hLeft (Hook.of (kHook Ck.hK Ck.hA Ck.hKA)) (Hook.keeps (kHook Ck.hK Ck.hA Ck.hKA))
  (fun s e=>xl_of s (Bool.and_eq_true_iff.mp e).1) XL.keeps (by rfl) (by rfl) (by rfl) (fun s e=>recFacts_of (Bool.and_eq_true_iff.mp e).2) (by rfl) (by first | assumption | decide +kernel) (by decide +kernel) ⟨rfl,rfl,rfl,rfl,rfl,by decide +kernel⟩ ?hw ?hc
 case hw=>w_witness2
 k_fill
 refine Ck.walk (l:=PySem.Challenge.rw_countkin_k50_marks_of_floors) rfl rfl (fun w h Y=>PySem.W.kIn_of Y) ?F
 case F =>
  intro w mg fa h KX G hmg
  refine' Ck.all_mk KX G hmg ?nc_Brackets ?nc_Stairs ?nc_Twins ?nc_Bows ?nc_Rooms ?nc_Floors ?nc_Turns ?nc_SplitFamily ?nc_Family ?nc_Codes ?nc_Trees ?nc_Cars ?nc_RingFamily ?a_Floors_refuse_other ?a_Floors_is_one ?ai_Brackets ?ai_Stairs ?ai_Twins ?ai_Bows ?ai_Rooms ?ai_Floors ?ai_Turns ?ai_Codes ?ai_Trees ?ai_Cars ?ch_SplitFamily___init___Brackets ?cg_SplitFamily___init___Brackets ?cr_SplitFamily___init___Brackets ?ch_Family___init___Brackets ?cg_Family___init___Brackets ?cr_Family___init___Brackets ?ch_SplitFamily___init___Stairs ?cg_SplitFamily___init___Stairs ?cr_SplitFamily___init___Stairs ?ch_Family___init___Stairs ?cg_Family___init___Stairs ?cr_Family___init___Stairs ?ch_SplitFamily___init___Twins ?cg_SplitFamily___init___Twins ?cr_SplitFamily___init___Twins ?ch_Family___init___Twins ?cg_Family___init___Twins ?cr_Family___init___Twins ?ch_SplitFamily___init___Bows ?cg_SplitFamily___init___Bows ?cr_SplitFamily___init___Bows ?ch_Family___init___Bows ?cg_Family___init___Bows ?cr_Family___init___Bows ?ch_SplitFamily___init___Rooms ?cg_SplitFamily___init___Rooms ?cr_SplitFamily___init___Rooms ?ch_Family___init___Rooms ?cg_Family___init___Rooms ?cr_Family___init___Rooms ?ch_SplitFamily___init___Floors ?cg_SplitFamily___init___Floors ?cr_SplitFamily___init___Floors ?ch_Family___init___Floors ?cg_Family___init___Floors ?cr_Family___init___Floors ?ch_SplitFamily___init___Turns ?cg_SplitFamily___init___Turns ?cr_SplitFamily___init___Turns ?ch_Family___init___Turns ?cg_Family___init___Turns ?cr_Family___init___Turns ?ch_RingFamily___init___Codes ?cg_RingFamily___init___Codes ?cr_RingFamily___init___Codes ?ch_Family___init___Codes ?cg_Family___init___Codes ?cr_Family___init___Codes ?ch_RingFamily___init___Trees ?cg_RingFamily___init___Trees ?cr_RingFamily___init___Trees ?ch_Family___init___Trees ?cg_Family___init___Trees ?cr_Family___init___Trees ?ch_RingFamily___init___Cars ?cg_RingFamily___init___Cars ?cr_RingFamily___init___Cars ?ch_Family___init___Cars ?cg_Family___init___Cars ?cr_Family___init___Cars ?a1 ?l1 ?c1 ?k1 ?a2 ?l2 ?c2 ?k2 ?a3 ?l3 ?c3 ?k3 ?a4 ?l4 ?c4 ?k4 ?l5 ?c5 ?k5 ?i5 ?l6 ?c6 ?k6 ?i6 ?l7 ?c7 ?k7 ?i7 ?l8 ?c8 ?k8 ?i8 ?l9 ?c9 ?k9 ?i9 ?l10 ?c10 ?k10 ?i10 ?l11 ?c11 ?k11 ?i11 ?l12 ?c12 ?k12 ?i12 ?l13 ?c13 ?k13 ?i13 ?l14 ?c14 ?k14 ?i14 ?l15 ?c15 ?k15 ?i15 ?l16 ?c16 ?k16 ?i16 ?l17 ?c17 ?k17 ?i17 ?l18 ?c18 ?k18 ?i18 ?l19 ?c19 ?k19 ?i19 ?l20 ?c20 ?k20 ?i20 ?l21 ?c21 ?k21 ?i21 ?l22 ?c22 ?k22 ?i22 ?l23 ?c23 ?k23 ?i23 ?l24 ?c24 ?k24 ?i24 ?l25 ?c25 ?k25 ?i25 ?a26 ?l26 ?c26 ?k26 ?l27 ?c27 ?k27 ?i27 ?l28 ?c28 ?k28 ?i28 ?l29 ?c29 ?k29 ?i29 ?l30 ?c30 ?k30 ?i30 ?l31 ?c31 ?k31 ?i31 ?l32 ?c32 ?k32 ?i32 ?l33 ?c33 ?k33 ?i33 ?l34 ?c34 ?k34 ?i34 ?l35 ?c35 ?k35 ?i35 ?a36 ?l36 ?c36 ?k36 ?a37 ?l37 ?c37 ?k37 ?a38 ?l38 ?c38 ?k38 ?a39 ?l39 ?c39 ?k39 ?a40 ?l40 ?c40 ?k40 ?a41 ?l41 ?c41 ?k41 ?l42 ?c42 ?k42 ?i42 ?l43 ?c43 ?k43 ?i43 ?a44 ?l44 ?c44 ?k44 ?a45 ?l45 ?c45 ?k45 ?a46 ?l46 ?c46 ?k46 ?a47 ?l47 ?c47 ?k47 ?a48 ?l48 ?c48 ?k48 ?a49 ?l49 ?c49 ?k49 ?a50 ?l50 ?c50 ?k50 ?pg_Floors ?hd_Floors ?po_Floors ?sa_Floors ?pg_Brackets ?hd_Brackets ?po_Brackets ?sa_Brackets ?pg_Stairs ?hd_Stairs ?po_Stairs ?sa_Stairs ?pg_Twins ?hd_Twins ?po_Twins ?sa_Twins ?pg_Bows ?hd_Bows ?po_Bows ?sa_Bows ?pg_Rooms ?hd_Rooms ?po_Rooms ?sa_Rooms ?pg_Turns ?hd_Turns ?po_Turns ?sa_Turns ?pg_Codes ?hd_Codes ?po_Codes ?sa_Codes ?pg_Trees ?hd_Trees ?po_Trees ?sa_Trees ?pg_Cars ?hd_Cars ?po_Cars ?sa_Cars ?mk_Brackets ?kc_Brackets ?mk_Stairs ?kc_Stairs ?mk_Twins ?kc_Twins ?mk_Bows ?kc_Bows ?mk_Rooms ?kc_Rooms ?mk_Floors ?kc_Floors ?mk_Turns ?kc_Turns ?mk_Codes ?kc_Codes ?mk_Trees ?kc_Trees ?mk_Cars ?kc_Cars ?na_Brackets_word ?na_Stairs_word ?na_Twins_word ?na_Bows_word ?na_Rooms_word ?na_Floors_word ?na_Turns_word ?na_Codes_word ?na_Trees_word ?na_Cars_word ?na_Brackets_least ?na_Stairs_least ?na_Twins_least ?na_Bows_least ?na_Rooms_least ?na_Floors_least ?na_Turns_least ?na_Codes_least ?na_Trees_least ?na_Cars_least ?nf_cars_rootage ?nf_cars_leaves ?nf_trees_rootage ?nf_trees_leaves ?nf_codes_rootage ?nf_codes_leaves ?nf_turns_height ?nf_turns_returns ?nf_turns_peaks ?nf_floor_returns ?nf_floor_peaks ?nf_rooms_returns ?nf_rooms_peaks ?nf_bows_height ?nf_bows_returns ?nf_bows_peaks ?nf_twins_height ?nf_twins_returns ?nf_twins_peaks ?nf_stairs_height ?nf_stairs_returns ?nf_stairs_peaks ?nf_brackets_height ?nf_brackets_returns ?nf_brackets_peaks ?z_len ?z_range ?z_sorted ?z_list ?z_max ?z_set ?z_all ?z_isinstance ?z_int ?z_bool
  (case nc_Brackets=>k_is)
  (case nc_Stairs=>k_is)
  (case nc_Twins=>k_is)
  (case nc_Bows=>k_is)
  (case nc_Rooms=>k_is)
  (case nc_Floors=>k_is)
  (case nc_Turns=>k_is)
  (case nc_SplitFamily=>k_is)
  (case nc_Family=>k_is)
  (case nc_Codes=>k_is)
  (case nc_Trees=>k_is)
  (case nc_Cars=>k_is)
  (case nc_RingFamily=>k_is)
  (case a_Floors_refuse_other=>k_is)
  (case a_Floors_is_one=>k_is)
  (case ai_Brackets=>k_is)
  (case ai_Stairs=>k_is)
  (case ai_Twins=>k_is)
  (case ai_Bows=>k_is)
  (case ai_Rooms=>k_is)
  (case ai_Floors=>k_is)
  (case ai_Turns=>k_is)
  (case ai_Codes=>k_is)
  (case ai_Trees=>k_is)
  (case ai_Cars=>k_is)
  (case ch_SplitFamily___init___Brackets=>k_is)
  (case cg_SplitFamily___init___Brackets=>k_is)
  (case cr_SplitFamily___init___Brackets=>k_is)
  (case ch_Family___init___Brackets=>k_is)
  (case cg_Family___init___Brackets=>k_is)
  (case cr_Family___init___Brackets=>k_is)
  (case ch_SplitFamily___init___Stairs=>k_is)
  (case cg_SplitFamily___init___Stairs=>k_is)
  (case cr_SplitFamily___init___Stairs=>k_is)
  (case ch_Family___init___Stairs=>k_is)
  (case cg_Family___init___Stairs=>k_is)
  (case cr_Family___init___Stairs=>k_is)
  (case ch_SplitFamily___init___Twins=>k_is)
  (case cg_SplitFamily___init___Twins=>k_is)
  (case cr_SplitFamily___init___Twins=>k_is)
  (case ch_Family___init___Twins=>k_is)
  (case cg_Family___init___Twins=>k_is)
  (case cr_Family___init___Twins=>k_is)
  (case ch_SplitFamily___init___Bows=>k_is)
  (case cg_SplitFamily___init___Bows=>k_is)
  (case cr_SplitFamily___init___Bows=>k_is)
  (case ch_Family___init___Bows=>k_is)
  (case cg_Family___init___Bows=>k_is)
  (case cr_Family___init___Bows=>k_is)
  (case ch_SplitFamily___init___Rooms=>k_is)
  (case cg_SplitFamily___init___Rooms=>k_is)
  (case cr_SplitFamily___init___Rooms=>k_is)
  (case ch_Family___init___Rooms=>k_is)
  (case cg_Family___init___Rooms=>k_is)
  (case cr_Family___init___Rooms=>k_is)
  (case ch_SplitFamily___init___Floors=>k_is)
  (case cg_SplitFamily___init___Floors=>k_is)
  (case cr_SplitFamily___init___Floors=>k_is)
  (case ch_Family___init___Floors=>k_is)
  (case cg_Family___init___Floors=>k_is)
  (case cr_Family___init___Floors=>k_is)
  (case ch_SplitFamily___init___Turns=>k_is)
  (case cg_SplitFamily___init___Turns=>k_is)
  (case cr_SplitFamily___init___Turns=>k_is)
  (case ch_Family___init___Turns=>k_is)
  (case cg_Family___init___Turns=>k_is)
  (case cr_Family___init___Turns=>k_is)
  (case ch_RingFamily___init___Codes=>k_is)
  (case cg_RingFamily___init___Codes=>k_is)
  (case cr_RingFamily___init___Codes=>k_is)
  (case ch_Family___init___Codes=>k_is)
  (case cg_Family___init___Codes=>k_is)
  (case cr_Family___init___Codes=>k_is)
  (case ch_RingFamily___init___Trees=>k_is)
  (case cg_RingFamily___init___Trees=>k_is)
  (case cr_RingFamily___init___Trees=>k_is)
  (case ch_Family___init___Trees=>k_is)
  (case cg_Family___init___Trees=>k_is)
  (case cr_Family___init___Trees=>k_is)
  (case ch_RingFamily___init___Cars=>k_is)
  (case cg_RingFamily___init___Cars=>k_is)
  (case cr_RingFamily___init___Cars=>k_is)
  (case ch_Family___init___Cars=>k_is)
  (case cg_Family___init___Cars=>k_is)
  (case cr_Family___init___Cars=>k_is)
  (case a1=>k_is)
  (case l1=>k_is)
  (case c1=>k_is)
  (case k1=>k_is)
  (case a2=>k_is)
  (case l2=>k_is)
  (case c2=>k_is)
  (case k2=>k_is)
  (case a3=>k_is)
  (case l3=>k_is)
  (case c3=>k_is)
  (case k3=>k_is)
  (case a4=>k_is)
  (case l4=>k_is)
  (case c4=>k_is)
  (case k4=>k_is)
  (case l5=>k_is)
  (case c5=>k_is)
  (case k5=>k_is)
  (case i5=>k_is)
  (case l6=>k_is)
  (case c6=>k_is)
  (case k6=>k_is)
  (case i6=>k_is)
  (case l7=>k_is)
  (case c7=>k_is)
  (case k7=>k_is)
  (case i7=>k_is)
  (case l8=>k_is)
  (case c8=>k_is)
  (case k8=>k_is)
  (case i8=>k_is)
  (case l9=>k_is)
  (case c9=>k_is)
  (case k9=>k_is)
  (case i9=>k_is)
  (case l10=>k_is)
  (case c10=>k_is)
  (case k10=>k_is)
  (case i10=>k_is)
  (case l11=>k_is)
  (case c11=>k_is)
  (case k11=>k_is)
  (case i11=>k_is)
  (case l12=>k_is)
  (case c12=>k_is)
  (case k12=>k_is)
  (case i12=>k_is)
  (case l13=>k_is)
  (case c13=>k_is)
  (case k13=>k_is)
  (case i13=>k_is)
  (case l14=>k_is)
  (case c14=>k_is)
  (case k14=>k_is)
  (case i14=>k_is)
  (case l15=>k_is)
  (case c15=>k_is)
  (case k15=>k_is)
  (case i15=>k_is)
  (case l16=>k_is)
  (case c16=>k_is)
  (case k16=>k_is)
  (case i16=>k_is)
  (case l17=>k_is)
  (case c17=>k_is)
  (case k17=>k_is)
  (case i17=>k_is)
  (case l18=>k_is)
  (case c18=>k_is)
  (case k18=>k_is)
  (case i18=>k_is)
  (case l19=>k_is)
  (case c19=>k_is)
  (case k19=>k_is)
  (case i19=>k_is)
  (case l20=>k_is)
  (case c20=>k_is)
  (case k20=>k_is)
  (case i20=>k_is)
  (case l21=>k_is)
  (case c21=>k_is)
  (case k21=>k_is)
  (case i21=>k_is)
  (case l22=>k_is)
  (case c22=>k_is)
  (case k22=>k_is)
  (case i22=>k_is)
  (case l23=>k_is)
  (case c23=>k_is)
  (case k23=>k_is)
  (case i23=>k_is)
  (case l24=>k_is)
  (case c24=>k_is)
  (case k24=>k_is)
  (case i24=>k_is)
  (case l25=>k_is)
  (case c25=>k_is)
  (case k25=>k_is)
  (case i25=>k_is)
  (case a26=>k_is)
  (case l26=>k_is)
  (case c26=>k_is)
  (case k26=>k_is)
  (case l27=>k_is)
  (case c27=>k_is)
  (case k27=>k_is)
  (case i27=>k_is)
  (case l28=>k_is)
  (case c28=>k_is)
  (case k28=>k_is)
  (case i28=>k_is)
  (case l29=>k_is)
  (case c29=>k_is)
  (case k29=>k_is)
  (case i29=>k_is)
  (case l30=>k_is)
  (case c30=>k_is)
  (case k30=>k_is)
  (case i30=>k_is)
  (case l31=>k_is)
  (case c31=>k_is)
  (case k31=>k_is)
  (case i31=>k_is)
  (case l32=>k_is)
  (case c32=>k_is)
  (case k32=>k_is)
  (case i32=>k_is)
  (case l33=>k_is)
  (case c33=>k_is)
  (case k33=>k_is)
  (case i33=>k_is)
  (case l34=>k_is)
  (case c34=>k_is)
  (case k34=>k_is)
  (case i34=>k_is)
  (case l35=>k_is)
  (case c35=>k_is)
  (case k35=>k_is)
  (case i35=>k_is)
  (case a36=>k_is)
  (case l36=>k_is)
  (case c36=>k_is)
  (case k36=>k_is)
  (case a37=>k_is)
  (case l37=>k_is)
  (case c37=>k_is)
  (case k37=>k_is)
  (case a38=>k_is)
  (case l38=>k_is)
  (case c38=>k_is)
  (case k38=>k_is)
  (case a39=>k_is)
  (case l39=>k_is)
  (case c39=>k_is)
  (case k39=>k_is)
  (case a40=>k_is)
  (case l40=>k_is)
  (case c40=>k_is)
  (case k40=>k_is)
  (case a41=>k_is)
  (case l41=>k_is)
  (case c41=>k_is)
  (case k41=>k_is)
  (case l42=>k_is)
  (case c42=>k_is)
  (case k42=>k_is)
  (case i42=>k_is)
  (case l43=>k_is)
  (case c43=>k_is)
  (case k43=>k_is)
  (case i43=>k_is)
  (case a44=>k_is)
  (case l44=>k_is)
  (case c44=>k_is)
  (case k44=>k_is)
  (case a45=>k_is)
  (case l45=>k_is)
  (case c45=>k_is)
  (case k45=>k_is)
  (case a46=>k_is)
  (case l46=>k_is)
  (case c46=>k_is)
  (case k46=>k_is)
  (case a47=>k_is)
  (case l47=>k_is)
  (case c47=>k_is)
  (case k47=>k_is)
  (case a48=>k_is)
  (case l48=>k_is)
  (case c48=>k_is)
  (case k48=>k_is)
  (case a49=>k_is)
  (case l49=>k_is)
  (case c49=>k_is)
  (case k49=>k_is)
  (case a50=>k_is)
  (case l50=>k_is)
  (case c50=>k_is)
  (case k50=>k_is)
  (case pg_Floors=>k_is)
  (case hd_Floors=>k_is)
  (case po_Floors=>k_is)
  (case sa_Floors=>k_is)
  (case pg_Brackets=>k_is)
  (case hd_Brackets=>k_is)
  (case po_Brackets=>k_is)
  (case sa_Brackets=>k_is)
  (case pg_Stairs=>k_is)
  (case hd_Stairs=>k_is)
  (case po_Stairs=>k_is)
  (case sa_Stairs=>k_is)
  (case pg_Twins=>k_is)
  (case hd_Twins=>k_is)
  (case po_Twins=>k_is)
  (case sa_Twins=>k_is)
  (case pg_Bows=>k_is)
  (case hd_Bows=>k_is)
  (case po_Bows=>k_is)
  (case sa_Bows=>k_is)
  (case pg_Rooms=>k_is)
  (case hd_Rooms=>k_is)
  (case po_Rooms=>k_is)
  (case sa_Rooms=>k_is)
  (case pg_Turns=>k_is)
  (case hd_Turns=>k_is)
  (case po_Turns=>k_is)
  (case sa_Turns=>k_is)
  (case pg_Codes=>k_is)
  (case hd_Codes=>k_is)
  (case po_Codes=>k_is)
  (case sa_Codes=>k_is)
  (case pg_Trees=>k_is)
  (case hd_Trees=>k_is)
  (case po_Trees=>k_is)
  (case sa_Trees=>k_is)
  (case pg_Cars=>k_is)
  (case hd_Cars=>k_is)
  (case po_Cars=>k_is)
  (case sa_Cars=>k_is)
  (case mk_Brackets=>k_is)
  (case kc_Brackets=>k_is)
  (case mk_Stairs=>k_is)
  (case kc_Stairs=>k_is)
  (case mk_Twins=>k_is)
  (case kc_Twins=>k_is)
  (case mk_Bows=>k_is)
  (case kc_Bows=>k_is)
  (case mk_Rooms=>k_is)
  (case kc_Rooms=>k_is)
  (case mk_Floors=>k_is)
  (case kc_Floors=>k_is)
  (case mk_Turns=>k_is)
  (case kc_Turns=>k_is)
  (case mk_Codes=>k_is)
  (case kc_Codes=>k_is)
  (case mk_Trees=>k_is)
  (case kc_Trees=>k_is)
  (case mk_Cars=>k_is)
  (case kc_Cars=>k_is)
  (case na_Brackets_word=>k_is)
  (case na_Stairs_word=>k_is)
  (case na_Twins_word=>k_is)
  (case na_Bows_word=>k_is)
  (case na_Rooms_word=>k_is)
  (case na_Floors_word=>k_is)
  (case na_Turns_word=>k_is)
  (case na_Codes_word=>k_is)
  (case na_Trees_word=>k_is)
  (case na_Cars_word=>k_is)
  (case na_Brackets_least=>k_is)
  (case na_Stairs_least=>k_is)
  (case na_Twins_least=>k_is)
  (case na_Bows_least=>k_is)
  (case na_Rooms_least=>k_is)
  (case na_Floors_least=>k_is)
  (case na_Turns_least=>k_is)
  (case na_Codes_least=>k_is)
  (case na_Trees_least=>k_is)
  (case na_Cars_least=>k_is)
  (case nf_cars_rootage=>k_is)
  (case nf_cars_leaves=>k_is)
  (case nf_trees_rootage=>k_is)
  (case nf_trees_leaves=>k_is)
  (case nf_codes_rootage=>k_is)
  (case nf_codes_leaves=>k_is)
  (case nf_turns_height=>k_is)
  (case nf_turns_returns=>k_is)
  (case nf_turns_peaks=>k_is)
  (case nf_floor_returns=>k_is)
  (case nf_floor_peaks=>k_is)
  (case nf_rooms_returns=>k_is)
  (case nf_rooms_peaks=>k_is)
  (case nf_bows_height=>k_is)
  (case nf_bows_returns=>k_is)
  (case nf_bows_peaks=>k_is)
  (case nf_twins_height=>k_is)
  (case nf_twins_returns=>k_is)
  (case nf_twins_peaks=>k_is)
  (case nf_stairs_height=>k_is)
  (case nf_stairs_returns=>k_is)
  (case nf_stairs_peaks=>k_is)
  (case nf_brackets_height=>k_is)
  (case nf_brackets_returns=>k_is)
  (case nf_brackets_peaks=>k_is)
  (case z_len=>k_is)
  (case z_range=>k_is)
  (case z_sorted=>k_is)
  (case z_list=>k_is)
  (case z_max=>k_is)
  (case z_set=>k_is)
  (case z_all=>k_is)
  (case z_isinstance=>k_is)
  (case z_int=>k_is)
  (case z_bool=>k_is)
