import PyProof.Rows.All
import Wide.All
import OpenK.AllK
import Wide.FinOn
import Lean
import PyProof.EqAt
import PyProof.EqKinds
import PyProof.TupleCall
import KE.KLam
import KE.KRevIter
import KE.KRevSl
import KE.KTryMore
import Open.Pieces
import OpenK.KQuick
import OpenK.KWalk
import PyProof.DictDisplay
import PyProof.DictTable
import PyProof.DictUpdate
import PyProof.DictWalks
import PyProof.ExcAttrAll.ValueError
import PyProof.FString
import PyProof.FitsBits
import PyProof.ListRange
import PyProof.MeetsStr
import PyProof.NeKinds
import PyProof.Rows.FStr
import PyProof.Rows.RegStrFacts
import PyProof.Rows.StrInSeq3
import PyProof.StrBlockH
import PySem.Challenge.RW_countkin_k54_chains_looked_at
open Array renaming getElem?_eq_some_iff→Ha, append_empty→Hf, length_toList→HJ, append_assoc→IP, toArray_toList→JI
open Bool renaming false_ne_true→FC, and_eq_true→FY, false_eq_true→Gs, and_eq_true_iff→GF, not_eq_true'→Ij, eq_iff_iff→ID
open Eq renaming trans→Il
open False renaming elim→Gi
open ForInStep renaming yield→HV
open Int renaming emod_lt_of_pos→GD, emod_nonneg→G0, toNat_of_nonneg→IG, zero_add→IU
open List renaming length_map→Ff, getElem?_eq_some_iff→Fj, getElem?_eq_getElem→Fk, forall_mem_cons→Fm, length_append→Fo, all_eq_true→Fu, map_append→Fx, size_toArray→Fz, mem_cons→FB, append_assoc→FF, mem_cons_of_mem→FI, mem_of_getElem?→FJ, mem_append_right→FK, take_of_length_le→FL, getElem?_map→FN, map_cons→FO, append_nil→FR, take_add_one→FS, getElem?_cons_succ→FZ, length_take→Ga, length_cons→Gg, lookup_cons→Gh, range→Gp, mem_cons_self→Gq, getD_eq_getElem?_getD→Gw, mem_singleton→Gx, eq_nil_of_length_eq_zero→Gz, mem_map→GH, map_map→GI, nil_append→GL, take_append_drop→GM, length_filter_le→GN, getElem?_cons_zero→GS, nodup_append→GU, filterMap_cons→GW, nodup_cons→GY, drop_eq_nil_of_le→G6, lookup→Hg, drop_eq_getElem_cons→Hh, mem_append_left→Hi, mem_append→Hk, Nodup→Hm, flatMap_append→Hr, filter_cons→Ht, filter_append→Hv, find?_cons→Hx, all_cons→Hz, getElem?_set_ne→HF, getElem_mem→HI, length_nil→HW, getElem?_set_self→Ic, mem_range→Ik, length_singleton→Io, getElem?_eq_none→Iq, length_drop→Iw, any_cons→Iz, forIn_cons→IF, forall_mem_nil→IH, map_nil→IQ, lookup_append→IS, length_range→Jd, filter→Jm, range_succ_eq_map→Jq, of_mem_zip→Jw, getElem?_reverse→JE, toArray→JF, all_map→Ke
open Nat renaming le_refl→Fg, zero_le→Fy, lt_of_lt_of_le→FA, ne_of_lt→FV, le_trans→FW, lt_irrefl→Gb, le_succ→GB, not_lt→HL, lt_of_le_of_lt→HU, ne_of_gt→Im, succ_ne_zero→Jo, le_of_lt→Js, le_of_eq→Ju
open Ne renaming symm→Gk
open Option renaming map_eq_some_iff→Ie, getD_some→Iy, none→Jf, bind_some→Jn
open Option.some renaming inj→Fw, injEq→HC
open Or renaming inl→FP, inr→Jx
open Prod renaming fst→JU
open PyProof.Rows renaming callWith_type1→GX, AllBare→IC, IntsAre→J4
open PySem renaming Value→AC, wpAny_bind→Da, Shared→Do, Addr→Fe, FuncData→Fh, wpAny_pure→Ft, Program→FG, Paired→FQ, World→FU, Params→Gc, Around→Gd, wpAny_holding→Gf, DictEntry→Gn, wpAny_mono→Gu, Expr→Gv, Heap→GG, Stmt→Hc, wpAny_Call_Name_kw→Hd, codeAny_call_builtin→Hj, wpAny_truthy_bool→Hl, codeAny_mono→Hn, wpAny_standAt→Ho, mem_of_lookup→Hq, wpAny_loadPart_at→HD, OsState→HG, sizeLine_eq→HK, wpAny_execs_nil→HQ, wpAny_passesOwn→HR, tupleKind_room_in1→HX, TriplesOk→HY, Scope→Ib, plainObj_wpAny_Assign_Attribute→Ih, wpAny_call→Ii, wpAny_execs_cons→Iu, wpAny_FormattedValue_plain→IK, wpAny_newObj_type→Jb, wpAny_dictEntries→Jc, BindsTo→Jv, wpAny_specialOf→JA, wpAny_ite_split→JC, wpAny_updateSeq→JD, NameKind→JH, wpAny_field→JN, GenState→JR, Keyword→J2, call→J5, Within→Ka
open PySem.Around renaming under→Kc
open PySem.Calls renaming evalArgs_plain→GR, callWith_builtin→Hu, spliced_cons→HS, Name_function_global→II, spliced_nil→Ja
open PySem.Code renaming quiet_builtin→IR, isFrame→Kd
open PySem.EntryCells renaming newEntry→JM
open PySem.F renaming excBase_ValueError→GJ, plainAttrs_str→G7, slot_list_append→HN, type_list_append→HP, plainAttrs_list→HZ, slot_dict_get→Ir, slot_str_partition→IL, type_str_partition→IM, slot_str_endswith→IX, type_str_endswith→IY, slot_dict_update→Je, attr_ValueError→Ji, args_dict_get_3→Jk, plainAttrs_dict→Jl, entry_dict_get→Jr, entry_bexc_ga→Jy, args_bexc_ga→JJ
open PySem.Heap renaming get?_push_of_some→Fd, lt_size→Fi, get?_update_other→Fq, get?_push_size→FH, get?_update_self→F0, get?_none_of_le→GP, SameBut→Hb, size_push→HH
open PySem.Heap.DictOf renaming new→JB
open PySem.Heap.Ns1 renaming of_empty→J1
open PySem.Heap.SameBut renaming refl→J9
open PySem.NameKind renaming free→HA, cell→JV
open PySem.Obj renaming data_mapFields→He, mapSeq→Hy, isFreed_of_fields→Ip, mapFields→Jg
open PySem.Paired renaming length→Ge
open PySem.PassesOwn renaming never→Gj
open PySem.SeqAt renaming eq_list_lengthsAt→Jh, EqAt→J3
open PySem.SeqAt.EqAt renaming int_str→JP, str_int→JQ, same→Kf
open PySem.SeqAt.RcNeAt renaming lists_lengths→IJ, lists→JW
open PySem.Str renaming ofString→tz, empty→GQ
open PySem.Txt renaming partition→GC, endswith→HM
open PySem.Value renaming ref→Fv, none→GE, bool→Ig, type→IA, str→IB, int→JO
open PySem.W renaming mg_of→Fn, Frag→Fp, nsIn→Fs, Frag→FD, keepIn→FE, codeIn→FM, findIn→FT, fnOf→Gm, kia_one→Gy, emptyDict→GA, findIn→GK, mg_none_of→GT, instObj→GV, hasDictIn→GZ, plainOver→Hs, plainGet→HE, makesIn→Ia, plainGet→Iv, plainGet_of→IE, isFn→IT, lookIn→IV, keepIn→IW, methodObj→IZ, hasDictIn→I0, specialIn→Jj, cellsFrom_some→Jp, takerIn→Jt, findCls→Jz, boot_heap→JG, looks_findIn→JK, callWith_K0→JL, callWith_K→JS, kitOne→JT, readsIn→JX, Frag→JY, isFn→Kb
open PySem.W.Frag renaming In→Kg
open Sum renaming inr→Hw, inl→JZ
open True renaming intro→GO
set_option Elab.async false
set_option linter.all false
set_option maxRecDepth 100000
namespace L2
open PySem PySem.Spec PyProof.Rows
noncomputable abbrev Key:=Sum Int Str
noncomputable def lD:Key->AC->Bool
 | .inl k,v=>Value.isInt k v
 | .inr x,v=>Value.isStrOf x v
noncomputable def D5 (w:FU):Key->Int
 | .inl k=>hashInt k
 | .inr x=>hashStr w x
theorem bU:∀ {k:Key} {v:AC},lD k v=true->(∃ i t,k=JZ i/\v=JO i t)\/(∃ x t,k=Hw x/\v=IB x t)
 | .inl i,v,h=>by
  obtain ⟨t,e⟩:=Value.isInt_shape (k:=i) (v:=v) h
  exact .inl ⟨i,t,rfl,e⟩
 | .inr x,v,h=>by
  obtain ⟨t,e⟩:=Value.isStrOf_shape (x:=x) (v:=v) h
  exact .inr ⟨x,t,rfl,e⟩
theorem wY (i:Int) (t:Tok):lD (.inl i) (.int i t)=true:=by simp [lD,Value.isInt]
theorem xA (x:Str) (t:Tok):lD (.inr x) (.str x t)=true:=by simp [lD,Value.isStrOf]
theorem Br (a b:Int):decide ((JZ a:Key)=JZ b)=(a == b):=by
 by_cases e:a=b
 ·subst e; simp
 ·have h:¬ (JZ a:Key)=JZ b:=fun q=>e (Sum.inl.inj q)
  rw [decide_eq_false h]
  exact (beq_eq_false_iff_ne.mpr e).symm
theorem Bq (a b:Str):decide ((Hw a:Key)=Hw b)=decide (a=b):=by
 by_cases e:a=b
 ·subst e; simp
 ·have h:¬ (Hw a:Key)=Hw b:=fun q=>e (Sum.inr.inj q)
  rw [decide_eq_false h,decide_eq_false e]
theorem Cu (a:Int) (b:Str):decide ((JZ a:Key)=Hw b)=false:=decide_eq_false (fun q=>nomatch q)
theorem Aw (a:Str) (b:Int):decide ((Hw a:Key)=JZ b)=false:=decide_eq_false (fun q=>nomatch q)
noncomputable def aV (prog:FG) (w:FU):PySem.KeyKind prog w Key where
 is:=lD
 hash:=D5 w
 inj:=fun v a b ha hb=>by
  rcases bU ha with ⟨i,t,rfl,rfl⟩ | ⟨x,t,rfl,rfl⟩
  ·rcases bU hb with ⟨j,u,rfl,e⟩ | ⟨y,u,rfl,e⟩
   ·injection e with e1 _; rw [e1]
   ·exact nomatch e
  ·rcases bU hb with ⟨j,u,rfl,e⟩ | ⟨y,u,rfl,e⟩
   ·exact nomatch e
   ·injection e with e1 _; rw [e1]
 byValue:=fun k v h=>by
  rcases bU h with ⟨i,t,rfl,rfl⟩ | ⟨x,t,rfl,rfl⟩<;>rfl
 pyHash:=fun hv h=>by
  rcases bU hv with ⟨i,t,rfl,rfl⟩ | ⟨x,t,rfl,rfl⟩
  ·exact wpAny_pyHash_int h
  ·exact wpAny_pyHash_str h
 eqBool:=fun hu hv h=>by
  rcases bU hu with ⟨i,t,rfl,rfl⟩ | ⟨x,t,rfl,rfl⟩
  ·rcases bU hv with ⟨j,u,rfl,rfl⟩ | ⟨y,u,rfl,rfl⟩
   ·rw [Br] at h; exact wpAny_eqBool_int h
   ·rw [Cu] at h; exact JP i t y u _ _ _ _ h
  ·rcases bU hv with ⟨j,u,rfl,rfl⟩ | ⟨y,u,rfl,rfl⟩
   ·rw [Aw] at h; exact JQ x t j u _ _ _ _ h
   ·rw [Bq] at h; exact wpAny_eqBool_str h
 «strs»:=fun k x t v h=>by
  rcases bU h with ⟨i,u,rfl,e⟩ | ⟨y,u,rfl,e⟩
  ·exact nomatch e
  ·injection e with e1 _
   subst e1
   cases v<;>rfl
theorem tR (prog:FG) (w:FU) (i:Int) (t:Tok):(aV prog w).is (.inl i) (.int i t)=true:=wY i t
theorem tT (prog:FG) (w:FU) (x:Str) (t:Tok):(aV prog w).is (.inr x) (.str x t)=true:=xA x t
end L2
namespace L2
open PySem PySem.Spec PyProof.Rows
inductive V where
 | non | bl (b:Bool) | int (i:Int) | str (x:Str) | byt (b:Array UInt8) | flt (b:UInt64) | ref (a:Fe) | ty (n:String)
 deriving DecidableEq
noncomputable def RelV:V->AC->Prop
 | .non,u=>u=GE
 | .bl b,u=>u=Ig b
 | .int i,u=>∃ t,u=JO i t
 | .str x,u=>∃ t,u=IB x t
 | .byt b,u=>∃ t,u=Value.bytes b t
 | .flt b,u=>∃ t,u=Value.float b t
 | .ref a,u=>u=Fv a
 | .ty n,u=>u=IA n
noncomputable abbrev Vals:List V->List AC->Prop:=FQ RelV
theorem Vals.length {xs:List V} {us:List AC} (r:Vals xs us):xs.length=us.length:=Ge r
theorem Vals.get:∀ {xs:List V} {us:List AC} {i:Nat} {x:V},Vals xs us->xs[i]? = some x->∃ u,us[i]? = some u/\RelV x u
 | _,_,_,_,.nil,e=>by simp at e
 | _,_,0,_,.cons r _,e=>by simp at e; subst e; exact ⟨_,rfl,r⟩
 | _,_,i+1,x,.cons _ t,e=>by
  obtain ⟨u,h1,h2⟩:=Vals.get (i:=i) (x:=x) t (by simpa using e)
  exact ⟨u,by simpa using h1,h2⟩
theorem Vals.set {x:V} {u:AC} (r:RelV x u):∀ {xs:List V} {us:List AC} (i:Nat),Vals xs us->Vals (xs.set i x) (us.set i u)
 | _,_,_,.nil=>.nil
 | _,_,0,.cons _ t=>.cons r t
 | _,_,i+1,.cons q t=>.cons q (Vals.set r i t)
theorem Vals.append:∀ {xs ys:List V} {us ws:List AC},Vals xs us->Vals ys ws->Vals (xs++ys) (us++ws)
 | _,_,_,_,.nil,s=>s
 | _,_,_,_,.cons r t,s=>.cons r (Vals.append t s)
theorem Vals.take:∀ {xs:List V} {us:List AC} (n:Nat),Vals xs us->Vals (xs.take n) (us.take n)
 | _,_,0,_=>.nil
 | _,_,_+1,.nil=>.nil
 | _,_,n+1,.cons r t=>.cons r (Vals.take n t)
theorem Vals.drop:∀ {xs:List V} {us:List AC} (n:Nat),Vals xs us->Vals (xs.drop n) (us.drop n)
 | _,_,0,r=>r
 | _,_,_+1,.nil=>.nil
 | _,_,n+1,.cons _ t=>Vals.drop n t
noncomputable def eB:Option V->Option AC->Prop
 | some v,some u=>RelV v u
 | none,none=>True
 | _,_=>False
noncomputable def KV {κ:Type}:List (κ × V)->List (κ × AC)->Prop:=FQ fun (p:κ × V) (q:κ × AC)=>p.1=q.1/\RelV p.2 q.2
noncomputable def kV:Key->V
 | .inl i=>.int i
 | .inr x=>.str x
inductive HO where
 | lst (xs:List V)
 | tup (xs:List V)
 | dK (kvs:List (Key × V)) | dT (kvs:List (List Key × V))
 | set (S:Int->Bool) (n:Nat)
 | ins (C dx:Fe) (fs:List (Str × V))
 | own (x:Fe)
 | xd (fs:List (Str × V))
 | met (f x:Fe)
 | rng (lo hi:Int)
 | frz (o:Obj) (u:HO)
 | tbl (ps:Array AC)
 | ext (φ:GG->Prop)
noncomputable abbrev Hp:=Fe->Option HO
noncomputable def upd (H:Hp) (a:Fe) (o:HO):Hp:=fun b=>if b=a then some o else H b
theorem ae {H:Hp} {a:Fe} {o:HO}:upd H a o a=some o:=by unfold upd; rw [if_pos rfl]
theorem aq {H:Hp} {a b:Fe} {o:HO} (h:b≠a):upd H a o b=H b:=by unfold upd; rw [if_neg h]
theorem mC {H:Hp} {a:Fe} {o u:HO}:upd (upd H a o) a u=upd H a u:=by
 funext b; unfold upd; split<;>rfl
theorem wj {H:Hp} {a b:Fe} {o u:HO} (h:H a=some o) (h':H b=some u) (d:o≠u):a≠b:=by
 intro e; subst e; rw [h] at h'; exact d (Fw h')
theorem aO {H:Hp} {a b:Fe} {o:HO} (h:H a=some o) (h':H b=none):a≠b:=by
 intro e; subst e; rw [h] at h'; cases h'
section
variable (P:FG) (w:FU)
noncomputable def aJ (H:Hp) (h:GG) (a:Fe):HO->Prop
 | .lst xs=>xs.length<=sizeLine/\∃ (its:List AC) (n:Nat),Vals xs its/\h.get? a=some { cls:=.type "list",data:=.seq its.toArray n }
 | .tup xs=>xs.length<=sizeLine/\∃ its:List AC,Vals xs its/\IsTup h a its.toArray
 | .dK kvs=>kvs.length<=sizeLine/\(a == sysModules)=false/\∃ vs,KV kvs vs/\h.DictOf (aV P w) a vs
 | .dT kvs=>kvs.length<=sizeLine/\(a == sysModules)=false/\∃ xs:List (List Key × Fe × AC),
   FQ (fun (p:List Key × V) (q:List Key × Fe × AC)=>p.1=q.1/\H q.2.1=some (.tup (p.1.map kV))/\RelV p.2 q.2.2) kvs xs /\
   ∃ o es ep,h.get? a=some o/\o.ExactDict/\o.data = .dict es ep/\es.toList=xs.map (entryOfKey (tupleKind (aV P w)))/\(xs.map (·.1)).Nodup
 | .set S n=>h.SetOf (intKind P w) a S n
 | .ins C dx fs=>H dx=some (.own a)/\fs.length<=1000/\dx≠a/\h.get? a=some (GV C dx) /\
   ∃ mA,h.Ns1 dx mA/\(∀ f,eB (fs.lookup f) (mA f))/\Ka mA (fs.map (·.1))
 | .own _=>∃ o,h.get? a=some o
 | .xd fs=>∃ mA,h.Ns1 a mA/\∀ f,eB (fs.lookup f) (mA f)
 | .rng lo hi=>∃ t u v,h.get? a=some { cls:=.type "range",data:=.fields #[.int lo t,.int hi u,.int 1 v] }
 | .frz o u=>h.get? a=some o/\aJ H h a u
 | .tbl ps=>h.get? a=some { cls:=.none,data:=.fields ps }
 | .met f x=>h.get? a=some (IZ (.ref f) (.ref x))
 | .ext φ=>φ h/\(∃ o,h.get? a=some o)/\∀ h1 h2:GG,φ h1->(∀ o,h1.get? a=some o->h2.get? a=some o)->φ h2
def bS (H:Hp) (h:GG):Prop:=∀ a o,H a=some o->aJ P w H h a o
end
section
variable {P:FG} {w:FU} {H H':Hp} {h h':GG} {a:Fe} {o:HO}
theorem aJ.lt (x:aJ P w H h a o):a < h.objs.size:=by
 cases o with
 | lst xs=>obtain ⟨_,_,_,_,e⟩:=x; exact Fi e
 | tup xs=>obtain ⟨_,_,_,p⟩:=x; exact p.lt
 | dK kvs=>obtain ⟨_,_,_,_,o,_,_,e,_⟩:=x; exact Fi e
 | dT kvs=>obtain ⟨_,_,_,_,o,_,_,e,_⟩:=x; exact Fi e
 | set S n=>obtain ⟨o,_,_,_,e,_⟩:=x; exact Fi e
 | ins C dx fs=>obtain ⟨_,_,_,e,_⟩:=x; exact Fi e
 | own y=>obtain ⟨_,e⟩:=x; exact Fi e
 | xd fs=>obtain ⟨_,⟨_,_,_,e,_⟩,_⟩:=x; exact Fi e
 | rng lo hi=>obtain ⟨_,_,_,e⟩:=x; exact Fi e
 | frz ob u=>obtain ⟨e,_⟩:=x; exact Fi e
 | tbl ps=>exact Fi (show h.get? a=some _ from x)
 | met f y=>exact Fi (show h.get? a=some _ from x)
 | ext φ=>obtain ⟨_,⟨_,e⟩,_⟩:=x; exact Fi e
theorem Paired.mapP {α β:Type} {F G:α->β->Prop}:∀ {l₁:List α} {l₂:List β},FQ F l₁ l₂->(∀ a b,F a b->G a b)->FQ G l₁ l₂
 | _,_,.nil,_=>.nil
 | _,_,.cons r t,f=>.cons (f _ _ r) (Paired.mapP t f)
theorem aJ.stay (x:aJ P w H h a o) (k:∀ b u,(b=a\/H b=some (.own a))->h.get? b=some u->h'.get? b=some u)
  (ho:∀ b,H b=some (.own a)->H' b=some (.own a)) (ht:∀ b xs,H b=some (.tup xs)->H' b=some (.tup xs)):aJ P w H' h' a o:=by
 induction o with
 | lst xs=>obtain ⟨z,its,n,r,e⟩:=x; exact ⟨z,its,n,r,k _ _ (.inl rfl) e⟩
 | tup xs=>obtain ⟨z,its,r,ob,e,c⟩:=x; exact ⟨z,its,r,ob,k _ _ (.inl rfl) e,c⟩
 | dK kvs=>obtain ⟨z,y,vs,r,ob,es,ep,e,c⟩:=x; exact ⟨z,y,vs,r,ob,es,ep,k _ _ (.inl rfl) e,c⟩
 | dT kvs =>
  obtain ⟨z,y,xs,r,ob,es,ep,e,c⟩:=x
  exact ⟨z,y,xs,Paired.mapP r fun p q z=>⟨z.1,ht _ _ z.2.1,z.2.2⟩,ob,es,ep,k _ _ (.inl rfl) e,c⟩
 | set S n=>obtain ⟨ob,es,ep,t,e,c⟩:=x; exact ⟨ob,es,ep,t,k _ _ (.inl rfl) e,c⟩
 | ins C dx fs =>
  obtain ⟨d,z,ne,e,mA,⟨od,es,ep,e2,c⟩,r⟩:=x
  exact ⟨ho _ d,z,ne,k _ _ (.inl rfl) e,mA,⟨od,es,ep,k _ _ (.inr d) e2,c⟩,r⟩
 | own y=>obtain ⟨ob,e⟩:=x; exact ⟨ob,k _ _ (.inl rfl) e⟩
 | xd fs=>obtain ⟨mA,⟨od,es,ep,e,c⟩,r⟩:=x; exact ⟨mA,⟨od,es,ep,k _ _ (.inl rfl) e,c⟩,r⟩
 | rng lo hi=>obtain ⟨t,u,v,e⟩:=x; exact ⟨t,u,v,k _ _ (.inl rfl) e⟩
 | frz ob u ih=>obtain ⟨e,q⟩:=x; exact ⟨k _ _ (.inl rfl) e,ih q⟩
 | tbl ps =>
  have e:h.get? a=some { cls:=.none,data:=.fields ps }:=x
  show h'.get? a=some { cls:=.none,data:=.fields ps }
  exact k a _ (.inl rfl) e
 | met f y =>
  have e:h.get? a=some (IZ (.ref f) (.ref y)):=x
  show h'.get? a=some (IZ (.ref f) (.ref y))
  exact k a _ (.inl rfl) e
 | ext φ=>obtain ⟨p,⟨o,e⟩,st⟩:=x; exact ⟨st _ _ p fun o q=>k _ _ (.inl rfl) q,⟨o,k _ _ (.inl rfl) e⟩,st⟩
theorem bS.lt (x:bS P w H h) (e:H a=some o):a < h.objs.size:=(x a o e).lt
theorem bS.fresh (x:bS P w H h) (e:h.objs.size<=a):H a=none:=by
 cases q:H a with
 | none=>rfl
 | some u=>exact absurd (FA (x.lt q) e) (Gb _)
theorem bS.kept (x:bS P w H h) (k:∀ b u,h.get? b=some u->h'.get? b=some u):bS P w H h':=fun a o e =>
 (x a o e).stay (fun b u _ q=>k b u q) (fun _ q=>q) fun _ _ q=>q
theorem bS.laid (x:bS P w H h) (k:∀ b u,h.get? b=some u->h'.get? b=some u) (hp:h.objs.size<=a) (new:aJ P w (upd H a o) h' a o):bS P w (upd H a o) h':=fun b u e=>by
 have hn:=x.fresh hp
 by_cases hb:b=a
 ·subst hb; rw [ae] at e; cases e; exact new
 ·rw [aq hb] at e
  exact (x b u e).stay (fun c v _ q=>k c v q) (fun c q=>by rw [aq (aO q hn)]; exact q) fun c xs q=>by rw [aq (aO q hn)]; exact q
end
def Rd (H:Hp) (a:Fe) (u:HO):Prop:=H a=some u\/∃ o,H a=some (.frz o u)
theorem Rd.ok {P:FG} {w:FU} {H:Hp} {h:GG} {a:Fe} {u:HO} (r:Rd H a u) (x:bS P w H h):aJ P w H h a u:=by
 rcases r with r | ⟨o,r⟩
 ·exact x a u r
 ·obtain ⟨_,q⟩:=x a _ r
  exact q
noncomputable def xb:Option HO->Prop
 | some (.lst _)=>True
 | some (.dK _)=>True
 | some (.dT _)=>True
 | some (.set _ _)=>True
 | some (.ins _ _ _)=>True
 | some (.ext _)=>True
 | _=>False
section
variable {P:FG} {w:FU} {H:Hp} {h h':GG} {x e:Fe} {o':HO}
theorem bS.write (ok:bS P w H h) (mu:xb (H x)) (he:e=x\/H e=some (.own x)) (k:∀ b u,b≠e->h.get? b=some u->h'.get? b=some u) (heo:∃ u,h'.get? e=some u)
  (new:aJ P w (upd H x o') h' x o'):bS P w (upd H x o') h':=fun b u q=>by
 have nown:∀ c y,H c=some (.own y)->c≠x:=fun c y r z=>by subst z; rw [r] at mu; exact mu
 have ntup:∀ c xs,H c=some (.tup xs)->c≠x:=fun c xs r z=>by subst z; rw [r] at mu; exact mu
 by_cases hb:b=x
 ·subst hb; rw [ae] at q; cases q; exact new
 ·rw [aq hb] at q
  by_cases hbe:b=e
  ·have q':H b=some (.own x):=by
    rcases he with z | z
    ·exact absurd (hbe.trans z) hb
    ·rw [hbe]; exact z
   rw [q] at q'; cases q'
   obtain ⟨v,hv⟩:=heo
   exact ⟨v,by rw [hbe]; exact hv⟩
  ·refine (ok b u q).stay (fun c v hc r=>k c v ?_ r) (fun c r=>by rw [aq (nown c b r)]; exact r) fun c xs r=>by rw [aq (ntup c xs r)]; exact r
   rcases hc with rfl | hc
   ·exact hbe
   ·rintro rfl
    rcases he with z | z
    ·exact nown c b hc z
    ·rw [hc] at z; cases z; exact hb rfl
end
structure Un (fs ex:List Fe) (H H':Hp) (h h':GG):Prop where
 keep:∀ b o,h.get? b=some o->H b=none->b∉fs->b∉ex->h'.get? b=some o
 slot:∀ b o,h.get? b=some o->H b=none->b∈fs->b∉ex->∃ sl,h'.get? b=some { o with slots:=sl }
 free:∀ b o,h.get? b=some o->H b=none->b∉ex->H' b=none
 there:∀ b o,h.get? b=some o->b∉ex->∃ o',h'.get? b=some o'
 tups:∀ b xs,H b=some (.tup xs)->H' b=some (.tup xs)
 frzs:∀ b o u,H b=some (.frz o u)->H' b=some (.frz o u)
 tbls:∀ b ps,H b=some (.tbl ps)->∃ more,H' b=some (.tbl (ps++more))
section
variable {fs fs' ex ex':List Fe} {H H1 H2:Hp} {h h1 h2 h':GG} {a x e:Fe} {o:HO}
theorem Un.any (u:Un fs ex H H1 h h1) {b:Fe} {ob:Obj} (q:h.get? b=some ob) (n:H b=none) (hx:b∉ex):∃ sl,h1.get? b=some { ob with slots:=sl }:=by
 by_cases hb:b∈fs
 ·exact u.slot b ob q n hb hx
 ·exact ⟨ob.slots,u.keep b ob q n hb hx⟩
theorem Un.kept (k:∀ b u,h.get? b=some u->h'.get? b=some u):Un fs ex H H h h' :=
 ⟨fun b ob q _ _ _=>k b ob q,fun b ob q _ _ _=>⟨ob.slots,k b ob q⟩,fun _ _ _ n _=>n,fun b ob q _=>⟨ob,k b ob q⟩,fun _ _ q=>q,fun _ _ _ q=>q,fun _ ps q=>⟨#[],by rw [q]; simp⟩⟩
theorem Un.refl:Un fs ex H H h h:=Un.kept fun _ _ q=>q
theorem Un.laid (k:∀ b u,h.get? b=some u->h'.get? b=some u) (hp:h.objs.size<=a) (hn:H a=none):Un fs ex H (upd H a o) h h' where
 keep:=fun b u q _ _ _=>k b u q
 slot:=fun b u q _ _ _=>⟨u.slots,k b u q⟩
 free:=fun b u q n _=>by rw [aq (FV (FA (Fi q) hp))]; exact n
 there:=fun b u q _=>⟨u,k b u q⟩
 tups:=fun b xs q=>by rw [aq (aO q hn)]; exact q
 frzs:=fun b u xs q=>by rw [aq (aO q hn)]; exact q
 tbls:=fun b ps q=>⟨#[],by rw [aq (aO q hn),q]; simp⟩
theorem Un.write (mu:xb (H x)) (he:e=x\/H e=some (.own x)) (k:∀ b u,b≠e->h.get? b=some u->h'.get? b=some u) (heo:∃ u,h'.get? e=some u):Un fs ex H (upd H x o) h h':=by
 have hx:∀ b,H b=none->b≠x:=fun b n z=>by subst z; rw [n] at mu; exact mu
 have hb:∀ b,H b=none->b≠e:=fun b n z=>by
  subst z
  rcases he with r | r
  ·exact hx b n r
  ·rw [n] at r; cases r
 have hm:∀ b u,H b=some u->¬ xb (some u)->b≠x:=fun b u q nm z=>by subst z; rw [q] at mu; exact nm mu
 refine ⟨fun b u q n _ _=>k b u (hb b n) q,fun b u q n _ _=>⟨u.slots,k b u (hb b n) q⟩,fun b u q n _=>by rw [aq (hx b n)]; exact n,fun b u q _=>?_,
  fun b xs q=>by rw [aq (hm b _ q fun z=>z)]; exact q,fun b u xs q=>by rw [aq (hm b _ q fun z=>z)]; exact q,fun b ps q=>⟨#[],by rw [aq (hm b _ q fun z=>z),q]; simp⟩⟩
 by_cases hbe:b=e
 ·subst hbe; exact heo
 ·exact ⟨u,k b u hbe q⟩
end
noncomputable def za (h:GG) (H:Hp):List Fe:=(Gp h.objs.size).filter fun a=>(H a).isSome
noncomputable def fV (h:GG) (H:Hp):GG:=PySem.W.hideAll h (za h H)
theorem ka (h:GG) (H:Hp):(fV h H).objs.size=h.objs.size:=PySem.W.hideAll_size _ _
theorem iK {h:GG} {H:Hp} {b:Fe} {o:Obj} (e:h.get? b=some o) (n:H b=none):(fV h H).get? b=some o :=
 PySem.W.hideAll_get _ e fun hm=>by
  have q:(H b).isSome=true:=(List.mem_filter.mp hm).2
  rw [n] at q; simp at q
theorem oS {h:GG} {H:Hp} {b:Fe} {o:Obj} (e:(fV h H).get? b=some o):h.get? b=some o/\H b=none:=by
 have e':h.get? b=some o:=PySem.W.of_hideAll (za h H) e
 refine ⟨e',?_⟩
 cases q:H b with
 | none=>rfl
 | some x =>
  have hm:b∈za h H:=List.mem_filter.mpr ⟨Ik.mpr (Fi e'),by simp [q]⟩
  have z:(fV h H).get? b=none:=PySem.W.hideAll_none (za h H) hm
  rw [z] at e; cases e
noncomputable def Am (g h:GG) (L:Fe):List (Fe × Obj):=(Gp h.objs.size).filterMap fun a=>if a=L\/(g.get? a).isSome=true then none else (h.get? a).map fun o=>(a,o)
noncomputable def rest (g h:GG) (L d:Fe):List (Fe × Obj):=(Am g h L).filter fun p=>decide (p.1≠d)
end L2
namespace L2
open PySem PySem.Spec PyProof.Rows
structure Mod (K:Fp) (mg:Str->Option AC) (base:GG):Prop where
 kin:K.In base
 glob:base.Ns mainGlobals mg
 blt:∃ mb,base.Ns builtinsNs mb/\∀ x:Str,x≠"__name__"->mb x=bootBuiltins x
 nolimit:base.NoLimit
structure Cx where
 prog:FG
 w:FU
 K:Fp
 mg:Str->Option AC
 base:GG
 A:Gd
 N:List Str
 s₀:Do
 H₀:Hp
 env:Env
 outer:List Env
 stack:List Env
 ex:List Fe
 fn:Str->Bool
 calm:Bool
 pn:List (Fe × Obj)
 xe:AC->Do->Prop
noncomputable def bW (l:List Env):List Fe:=l.filterMap (·.frame)
noncomputable abbrev Cx.fs (X:Cx):List Fe:=bW X.outer
def zj (sc:Ib) (x:Str):Prop:=sc.names.lookup x=some .local\/sc.names.lookup x=some .cell\/sc.names.lookup x=some .free
def Loc (sc:Ib) (x:Str):Prop:=sc.names.lookup x=some .local\/sc.names.lookup x=some .cell
def Look (env:Env) (h:GG) (m:Str->Option AC) (x:Str) (u:AC):Prop :=
 (env.kindOf x=some .local/\m x=some u)\/((env.kindOf x=some .cell\/env.kindOf x=some .free)/\∃ c,env.cells.lookup x=some c/\h.IsCell c (some u))
structure Cx.Ok (X:Cx):Prop where
 mod:Mod X.K X.mg X.base
 kind:X.env.scope.kind = .function
 glob:X.env.globals=mainGlobals
 blt:X.env.builtins=builtinsNs
 above:X.s₀.heap.objs.size<=X.env.locals
 inj:∀ x y c,X.env.cells.lookup x=some c->X.env.cells.lookup y=some c->x=y
 has:∀ x,(X.env.kindOf x=some .cell\/X.env.kindOf x=some .free)->∃ c,X.env.cells.lookup x=some c
 cab:∀ x c,X.fn x=true->X.env.cells.lookup x=some c->X.s₀.heap.objs.size<=c
 hd:X.calm=true->X.A.handled=none
 frames:X.A.frames=some X.stack
 stk:X.stack=X.outer\/(X.stack=X.env::X.outer/\X.env.frame=some X.env.locals)
 exf:∀ b∈X.ex,b≠X.env.locals/\∀ x c,X.env.cells.lookup x=some c->c≠b
 bs:∀ b o,X.base.get? b=some o->X.s₀.heap.get? b=some o/\X.H₀ b=none
 bsz:X.base.objs.size<=X.s₀.heap.objs.size
 noex:∀ b o,X.base.get? b=some o->b∉X.ex
 exfs:∀ b∈X.ex,b∉X.fs
 funs:X.s₀.heap.FunFrames X.base X.outer
 frf:∀ b∈X.fs,X.H₀ b=none
structure Inv (X:Cx) (pins:List (Fe × Obj)) (σ:List (Option V)) (H:Hp) (s:Do):Prop where
 ok:X.Ok
 os:s.os=X.s₀.os
 bare:IC s.gens
 base:Un X.fs X.ex X.H₀ H X.s₀.heap s.heap
 loc:∃ m,s.heap.Ns X.env.locals m/\∀ (i:Nat) (x:Str) (v:V),X.N[i]? = some x->σ[i]? = some (some v)->zj X.env.scope x->∃ u,RelV v u/\Look X.env s.heap m x u
 cell:∀ x c,X.env.cells.lookup x=some c->∃ v,s.heap.IsCell c v
 free:H X.env.locals=none
 freeC:∀ x c,X.env.cells.lookup x=some c->H c=none
 pin:∀ p∈X.pn++pins,s.heap.get? p.1=some p.2/\H p.1=none/\p.1≠X.env.locals/\p.1∉X.fs/\∀ v,p.2.data≠.cell v
 hok:bS X.prog X.w H s.heap
 len:σ.length=X.N.length
section
variable {X:Cx} {pins:List (Fe × Obj)} {σ:List (Option V)} {H H':Hp} {s:Do} {h':GG}
theorem Cx.Ok.nofr (ok:X.Ok) {b:Fe} {o:Obj} (e:X.base.get? b=some o):b∉X.fs:=fun hb=>by
 have:=(ok.funs.mem hb).1
 rw [e] at this; cases this
theorem Inv.bs (I:Inv X pins σ H s):∀ b o,X.base.get? b=some o->s.heap.get? b=some o/\H b=none:=fun b o e =>
 ⟨I.base.keep b o (I.ok.bs b o e).1 (I.ok.bs b o e).2 (I.ok.nofr e) (I.ok.noex b o e),I.base.free b o (I.ok.bs b o e).1 (I.ok.bs b o e).2 (I.ok.noex b o e)⟩
theorem Inv.bk (I:Inv X pins σ H s):∀ b o,X.base.get? b=some o->s.heap.get? b=some o:=fun b o e=>(I.bs b o e).1
theorem Inv.mod (I:Inv X pins σ H s):Mod X.K X.mg X.base:=I.ok.mod
theorem Inv.kIn (I:Inv X pins σ H s):X.K.In s.heap:=I.ok.mod.kin.keeps I.bk
theorem Inv.fr (I:Inv X pins σ H s):∃ m,Fr X.base X.env.locals s.heap m :=
 let ⟨m,hn,_⟩:=I.loc
 ⟨m,hn,I.bk,FW I.ok.bsz I.ok.above⟩
theorem Inv.lt (I:Inv X pins σ H s):X.env.locals < s.heap.objs.size:=let ⟨_,hn,_⟩:=I.loc; hn.lt
theorem Inv.sz (I:Inv X pins σ H s):X.s₀.heap.objs.size<=s.heap.objs.size:=FW I.ok.above (Js I.lt)
theorem Inv.nofs (I:Inv X pins σ H s) {a:Fe} (h:s.heap.objs.size<=a):a∉X.fs:=fun hb=>by
 obtain ⟨_,o,ho,_⟩:=I.ok.funs.mem hb
 exact absurd (FA (Fi ho) (FW I.sz h)) (Gb _)
theorem Inv.cne (I:Inv X pins σ H s):∀ x c,X.env.cells.lookup x=some c->c≠X.env.locals:=fun x c e z=>by
 obtain ⟨v,o,ho,hd⟩:=I.cell x c e
 obtain ⟨m,⟨o',es,ep,ho',hd',_⟩,_⟩:=I.loc
 rw [z,ho'] at ho; cases ho; rw [hd'] at hd; cases hd
theorem Inv.funs (I:Inv X pins σ H s):s.heap.FunFrames X.base X.outer:=by
 have all:∀ (l:List Env),(∀ b∈bW l,b∈X.fs)->X.s₀.heap.FunFrames X.base l->s.heap.FunFrames X.base l:=by
  intro l
  induction l with
  | nil=>intro _ _; trivial
  | cons env r ih =>
   intro hs hl
   obtain ⟨hk,⟨L,o,hf,hn,ho,hd⟩,hr⟩:=hl
   have hL:L∈X.fs:=hs L (by unfold bW; rw [GW,hf]; exact Gq)
   obtain ⟨sl,e⟩:=I.base.slot L o ho (I.ok.frf L hL) hL fun z=>I.ok.exfs L z hL
   exact ⟨hk,⟨L,_,hf,hn,e,hd⟩,ih (fun b hb=>hs b (by unfold bW; rw [GW,hf]; exact FI _ hb)) hr⟩
 exact all X.outer (fun _ hb=>hb) I.ok.funs
theorem Inv.stack (I:Inv X pins σ H s):s.heap.FunFrames X.base X.stack:=by
 rcases I.ok.stk with e | ⟨e,hf⟩
 ·rw [e]; exact I.funs
 ·rw [e]
  obtain ⟨m,hn,_⟩:=I.loc
  refine .cons (by rw [I.ok.kind]; decide) hf hn ?_ I.funs
  exact GP (FW I.ok.bsz I.ok.above)
theorem Inv.stkSub (I:Inv X pins σ H s):∀ b∈bW X.stack,b∈X.env.locals::X.fs:=fun b hb=>by
 rcases I.ok.stk with e | ⟨e,hf⟩
 ·rw [e] at hb; exact FI _ hb
 ·rw [e] at hb
  unfold bW at hb
  rw [GW,hf] at hb
  exact hb
theorem Inv.stkFree (I:Inv X pins σ H s):∀ b∈bW X.stack,H b=none:=fun b hb=>by
 rcases FB.mp (I.stkSub b hb) with e | hb
 ·rw [e]; exact I.free
 ·obtain ⟨_,o,ho,_⟩:=I.ok.funs.mem hb
  exact I.base.free b o ho (I.ok.frf b hb) fun z=>I.ok.exfs b z hb
theorem Inv.step {g':Array JR} {t':Nat} {d':Drawn} {ch:List Fe} (I:Inv X pins σ H s)
  (hch:∀ b∈ch,(b∈X.ex\/X.s₀.heap.objs.size<=b)/\b≠X.env.locals/\(∀ x c,X.env.cells.lookup x=some c->c≠b)/\∀ p∈X.pn++pins,p.1≠b)
  (keep:∀ b o,b≠X.env.locals->b∉X.fs->b∉ch->s.heap.get? b=some o->H b=none->h'.get? b=some o)
  (slot:∀ b o,b≠X.env.locals->b∈X.fs->b∉ch->s.heap.get? b=some o->H b=none->∃ sl,h'.get? b=some { o with slots:=sl }) (free:∀ b o,b∉ch->s.heap.get? b=some o->H b=none->H' b=none)
  (there:∀ b o,b∉ch->s.heap.get? b=some o->∃ o',h'.get? b=some o')
  (tups:∀ b xs,H b=some (.tup xs)->H' b=some (.tup xs)) (frzs:∀ b o u,H b=some (.frz o u)->H' b=some (.frz o u)) (tbls:∀ b ps,H b=some (.tbl ps)->∃ more,H' b=some (.tbl (ps++more)))
  (ns:∀ m,s.heap.Ns X.env.locals m->h'.Ns X.env.locals m) (hok:bS X.prog X.w H' h') (hg:IC g') :
  Inv X pins σ H' { s with heap:=h',gens:=g',drawn:=d',toks:=t' }:=by
 have neL:∀ b o,X.s₀.heap.get? b=some o->b≠X.env.locals:=fun b o e=>FV (FA (Fi e) I.ok.above)
 have neC:∀ b o,X.s₀.heap.get? b=some o->b∉X.ex->b∉ch:=fun b o e hx hb=>by
  rcases (hch b hb).1 with z | z
  ·exact hx z
  ·exact absurd (FA (Fi e) z) (Gb _)
 have cellK:∀ x c,X.env.cells.lookup x=some c->∀ v,s.heap.IsCell c v->h'.IsCell c v:=fun x c e v ⟨o,ho,hd⟩=>by
  have nch:c∉ch:=fun z=>(hch c z).2.2.1 x c e rfl
  by_cases hc:c∈X.fs
  ·obtain ⟨sl,q⟩:=slot c o (I.cne x c e) hc nch ho (I.freeC x c e)
   exact ⟨_,q,hd⟩
  ·exact ⟨o,keep c o (I.cne x c e) hc nch ho (I.freeC x c e),hd⟩
 refine ⟨I.ok,I.os,hg,⟨fun b o e n hb hx=>?_,fun b o e n hb hx=>?_,fun b o e n hx=>?_,fun b o e hx=>?_,fun b xs e=>tups b xs (I.base.tups b xs e),fun b o xs e=>frzs b o xs (I.base.frzs b o xs e),fun b ps e=>?_⟩,?_,fun x c e=>?_,?_,fun x c e=>?_,fun p hp=>?_,hok,I.len⟩
 ·exact keep b o (neL b o e) hb (neC b o e hx) (I.base.keep b o e n hb hx) (I.base.free b o e n hx)
 ·obtain ⟨sl,e1⟩:=I.base.slot b o e n hb hx
  obtain ⟨sl',e2⟩:=slot b _ (neL b o e) hb (neC b o e hx) e1 (I.base.free b o e n hx)
  exact ⟨sl',e2⟩
 ·obtain ⟨o',e1⟩:=I.base.there b o e hx
  exact free b o' (neC b o e hx) e1 (I.base.free b o e n hx)
 ·obtain ⟨o',e1⟩:=I.base.there b o e hx
  exact there b o' (neC b o e hx) e1
 ·obtain ⟨m1,e1⟩:=I.base.tbls b ps e
  obtain ⟨m2,e2⟩:=tbls b _ e1
  exact ⟨m1++m2,by rw [e2,IP]⟩
 ·obtain ⟨m,hn,hl⟩:=I.loc
  refine ⟨m,ns m hn,fun i x v e1 e2 e3=>?_⟩
  obtain ⟨u,r,l⟩:=hl i x v e1 e2 e3
  refine ⟨u,r,?_⟩
  rcases l with l | ⟨k,c,e,z⟩
  ·exact .inl l
  ·exact .inr ⟨k,c,e,cellK x c e _ z⟩
 ·obtain ⟨v,z⟩:=I.cell x c e
  exact ⟨v,cellK x c e v z⟩
 ·obtain ⟨m,⟨o,_,_,ho,_⟩,_⟩:=I.loc
  exact free _ o (fun z=>(hch _ z).2.1 rfl) ho I.free
 ·obtain ⟨v,o,ho,hd⟩:=I.cell x c e
  exact free c o (fun z=>(hch c z).2.2.1 x c e rfl) ho (I.freeC x c e)
 ·obtain ⟨e,n,ne,nf,d⟩:=I.pin p hp
  have nch:p.1∉ch:=fun z=>(hch p.1 z).2.2.2 p hp rfl
  exact ⟨keep p.1 p.2 ne nf nch e n,free p.1 p.2 nch e n,ne,nf,d⟩
theorem Inv.un {t':Nat} (I:Inv X pins σ H s) (u:Un X.fs [] H H' s.heap h') (hok:bS X.prog X.w H' h'):Inv X pins σ H' { s with heap:=h',toks:=t' }:=by
 obtain ⟨m,⟨o,es,ep,ho,r⟩,_⟩:=id I.loc
 obtain ⟨sl,hL⟩:=u.any ho I.free (by simp)
 exact I.step (g':=s.gens) (d':=s.drawn) (ch:=[]) (fun _ z=>nomatch z) (fun b o _ hb _ e n=>u.keep b o e n hb (by simp)) (fun b o _ hb _ e n=>u.slot b o e n hb (by simp)) (fun b o _ e n=>u.free b o e n (by simp)) (fun b o _ e=>u.there b o e (by simp)) u.tups u.frzs u.tbls (fun m' hm=>by
  obtain ⟨o',es',ep',ho',r'⟩:=hm
  rw [ho] at ho'; cases ho'
  exact ⟨_,es',ep',hL,r'⟩) hok I.bare
theorem Inv.call {g':Array JR} {t':Nat} {d':Drawn} {ch:List Fe} (I:Inv X pins σ H s) (u:Un (bW X.stack) ch H H' s.heap h') (hok:bS X.prog X.w H' h') (hg:IC g')
  (hch:∀ b∈ch,(b∈X.ex\/X.s₀.heap.objs.size<=b)/\b≠X.env.locals/\(∀ x c,X.env.cells.lookup x=some c->c≠b)/\∀ p∈X.pn++pins,p.1≠b) :
  Inv X pins σ H' { s with heap:=h',gens:=g',drawn:=d',toks:=t' }:=by
 obtain ⟨m,⟨o,es,ep,ho,r⟩,_⟩:=id I.loc
 obtain ⟨sl,hL⟩:=u.any ho I.free fun z=>(hch _ z).2.1 rfl
 exact I.step (ch:=ch) hch (fun b o hL hb hc e n=>u.keep b o e n (fun z=>(FB.mp (I.stkSub b z)).elim hL hb) hc) (fun b o _ _ hc e n=>u.any e n hc) (fun b o hc e n=>u.free b o e n hc) (fun b o hc e=>u.there b o e hc) u.tups u.frzs u.tbls (fun m' hm=>by
  obtain ⟨o',es',ep',ho',r'⟩:=hm
  rw [ho] at ho'; cases ho'
  exact ⟨_,es',ep',hL,r'⟩) hok hg
theorem Inv.turned {t':Nat} {it:Fe} (I:Inv X pins σ H s) (k:∀ b o,b≠it->s.heap.get? b=some o->h'.get? b=some o) (hn:H it=none) (hL:it≠X.env.locals)
  (h1:it∈X.ex\/X.s₀.heap.objs.size<=it) (h2:∀ x c,X.env.cells.lookup x=some c->c≠it) (h3:∀ p∈X.pn++pins,p.1≠it):Inv X pins σ H { s with heap:=h',toks:=t' }:=by
 have nit:∀ b u,H b=some u->b≠it:=fun b u e z=>by rw [z,hn] at e; cases e
 refine I.step (g':=s.gens) (d':=s.drawn) (ch:=[it]) (fun b hb=>?_) (fun b o _ _ hc e _=>k b o (fun z=>hc (by simp [z])) e) (fun b o _ _ hc e _=>⟨o.slots,k b o (fun z=>hc (by simp [z])) e⟩) (fun _ _ _ _ n=>n)
  (fun b o hc e=>⟨o,k b o (fun z=>hc (by simp [z])) e⟩) (fun _ _ e=>e) (fun _ _ _ e=>e) (fun b ps e=>⟨#[],by rw [e]; simp⟩) (fun m hm=>?_) (fun b u e=>?_) I.bare
 ·have e:b=it:=by simpa using hb
  subst e
  exact ⟨h1,hL,h2,h3⟩
 ·obtain ⟨o,es,ep,ho,r⟩:=hm
  exact ⟨o,es,ep,k _ o (Gk hL) ho,r⟩
 ·refine (I.hok b u e).stay (fun c v hc q=>k c v ?_ q) (fun _ q=>q) fun _ _ q=>q
  rcases hc with z | z
  ·rw [z]; exact nit b u e
  ·exact nit c _ z
theorem Inv.tok (I:Inv X pins σ H s) (t:Nat):Inv X pins σ H { s with toks:=t }:=I.un (h':=s.heap) (t':=t) Un.refl I.hok
theorem Inv.kept {t':Nat} (I:Inv X pins σ H s) (k:∀ b u,s.heap.get? b=some u->h'.get? b=some u):Inv X pins σ H { s with heap:=h',toks:=t' }:=I.un (Un.kept k) (I.hok.kept k)
theorem Inv.laid {a:Fe} {o:HO} {t':Nat} (I:Inv X pins σ H s) (k:∀ b u,s.heap.get? b=some u->h'.get? b=some u) (hp:s.heap.objs.size<=a) (new:aJ X.prog X.w (upd H a o) h' a o) :
  Inv X pins σ (upd H a o) { s with heap:=h',toks:=t' }:=I.un (Un.laid k hp (I.hok.fresh hp)) (I.hok.laid k hp new)
theorem Inv.write {x e:Fe} {o:HO} {t':Nat} (I:Inv X pins σ H s) (mu:xb (H x)) (he:e=x\/H e=some (.own x)) (k:∀ b u,b≠e->s.heap.get? b=some u->h'.get? b=some u) (heo:∃ u,h'.get? e=some u)
  (new:aJ X.prog X.w (upd H x o) h' x o):Inv X pins σ (upd H x o) { s with heap:=h',toks:=t' }:=I.un (Un.write mu he k heo) (I.hok.write mu he k heo new)
theorem Inv.weak {σ':List (Option V)} (I:Inv X pins σ H s) (hl:σ'.length=σ.length) (w:∀ (i:Nat) v,σ'[i]? = some (some v)->σ[i]? = some (some v)):Inv X pins σ' H s :=
 ⟨I.ok,I.os,I.bare,I.base,let ⟨m,hn,hl'⟩:=I.loc; ⟨m,hn,fun i x v e1 e2 e3=>hl' i x v e1 (w i v e2) e3⟩,I.cell,I.free,I.freeC,I.pin,I.hok,hl.trans I.len⟩
theorem Inv.pins_of {pins':List (Fe × Obj)} (I:Inv X pins σ H s) (h:∀ p∈pins',s.heap.get? p.1=some p.2/\H p.1=none/\p.1≠X.env.locals/\p.1∉X.fs/\∀ v,p.2.data≠.cell v):Inv X pins' σ H s :=
 ⟨I.ok,I.os,I.bare,I.base,I.loc,I.cell,I.free,I.freeC,fun p hp=>(Hk.mp hp).elim (fun z=>I.pin p (Hi _ z)) (h p),I.hok,I.len⟩
theorem mM {N:List Str} (hN:N.Nodup) {i j:Nat} {x:Str} (a:N[i]? = some x) (b:N[j]? = some x):i=j:=by
 obtain ⟨h1,e1⟩:=Fj.mp a
 obtain ⟨h2,e2⟩:=Fj.mp b
 exact (List.getElem_inj hN).mp (e1.trans e2.symm)
theorem kj {M:Model} {A:Gd} {E:AC->Do->Prop} {i:Nat} {x:Str} {v:V} {u:AC} {Q:Unit->Do->Prop} (I:Inv X pins σ H s) (hN:X.N.Nodup) (hi:X.N[i]? = some x) (hx:Loc X.env.scope x) (r:RelV v u)
  (h:∀ s',Inv X pins (σ.set i (some v)) H s'->(∃ a,Hb a s.heap s'.heap/\(a=X.env.locals\/X.env.cells.lookup x=some a))->Q () s') (hf:X.fn x=true\/X.env.scope.names.lookup x=some .local:=by first | exact .inl rfl | exact .inr rfl | assumption):wpAny M A (storeName X.env x u) Q E s:=by
 obtain ⟨m,hn,hl⟩:=id I.loc
 have hcls:(X.env.scope.kind == .class || (X.env.scope.kind == .module&&X.env.locals != X.env.globals))=false:=by rw [I.ok.kind]; rfl
 have hiσ:i < σ.length:=by rw [I.len]; exact (Fj.mp hi).1
 have cne:=I.cne
 have tracked:∀ {a:Fe} {h':GG},(∃ o,s.heap.get? a=some o/\H a=none)->Hb a s.heap h'->bS X.prog X.w H h':=fun {a h'} ha hs b ob e=>by
  obtain ⟨_,_,hfree⟩:=ha
  refine (I.hok b ob e).stay (fun c w' hc q=>(hs.2 c ?_).trans q) (fun _ q=>q) fun _ _ q=>q
  rintro rfl
  rcases hc with rfl | hc
  ·rw [hfree] at e; cases e
  ·rw [hfree] at hc; cases hc
 rcases hx with hk | hk
 ·refine wpAny_storeName_local hk hn (fun h' hn' hs=>?_) hcls
  obtain ⟨oL,_,_,hoL,_⟩:=id hn
  refine h _ ⟨I.ok,I.os,I.bare,⟨fun b o e n hb hx=>?_,fun b o e n hb hx=>?_,I.base.free,fun b o e hx=>?_,I.base.tups,I.base.frzs,I.base.tbls⟩,⟨_,hn',fun j y v' e1 e2 e3=>?_⟩,fun y c e=>?_,I.free,I.freeC,fun p hp=>?_,tracked ⟨oL,hoL,I.free⟩ hs,by simpa using I.len⟩ ⟨_,hs,.inl rfl⟩
  ·exact (hs.2 b (FV (FA (Fi e) I.ok.above))).trans (I.base.keep b o e n hb hx)
  ·obtain ⟨sl,e1⟩:=I.base.slot b o e n hb hx
   exact ⟨sl,(hs.2 b (FV (FA (Fi e) I.ok.above))).trans e1⟩
  ·obtain ⟨o',e1⟩:=I.base.there b o e hx
   exact ⟨o',(hs.2 b (FV (FA (Fi e) I.ok.above))).trans e1⟩
  ·by_cases hj:j=i
   ·subst hj
    rw [hi] at e1; cases e1
    rw [Ic hiσ] at e2
    cases e2
    exact ⟨u,r,.inl ⟨hk,by simp⟩⟩
   ·rw [HF (Gk hj)] at e2
    obtain ⟨u',r',q⟩:=hl j y v' e1 e2 e3
    refine ⟨u',r',?_⟩
    rcases q with ⟨k,e⟩ | ⟨k,c,e,z⟩
    ·refine .inl ⟨k,?_⟩
     have:y≠x:=fun e=>hj (mM hN e1 (e▸hi))
     simp [this,e]
    ·exact .inr ⟨k,c,e,z.sameBut hs (cne y c e)⟩
  ·obtain ⟨w',z⟩:=I.cell y c e
   exact ⟨w',z.sameBut hs (cne y c e)⟩
  ·obtain ⟨e,n,ne,nf,d⟩:=I.pin p hp
   exact ⟨(hs.2 p.1 ne).trans e,n,ne,nf,d⟩
 ·have hfn:X.fn x=true:=by
   rcases hf with z | z
   ·exact z
   ·rw [z] at hk; cases hk
  obtain ⟨c,hc⟩:=I.ok.has x (.inl hk)
  obtain ⟨w',z⟩:=I.cell x c hc
  refine wpAny_storeName_cell I.ok.kind hk hc z (fun h' hc' hs=>?_)
  obtain ⟨oc,hoc,hocd⟩:=id z
  refine h { s with heap:=h' } ⟨I.ok,I.os,I.bare,⟨fun b o e n hb hx=>?_,fun b o e n hb hx=>?_,I.base.free,fun b o e hx=>?_,I.base.tups,I.base.frzs,I.base.tbls⟩,⟨m,hn.sameBut hs (Gk (cne x c hc)),fun j y v' e1 e2 e3=>?_⟩,fun y c' e=>?_,I.free,I.freeC,fun p hp=>?_,tracked ⟨oc,hoc,I.freeC x c hc⟩ hs,by simpa using I.len⟩ ⟨c,hs,.inr hc⟩
  ·exact (hs.2 b (FV (FA (Fi e) (I.ok.cab x c hfn hc)))).trans (I.base.keep b o e n hb hx)
  ·obtain ⟨sl,e1⟩:=I.base.slot b o e n hb hx
   exact ⟨sl,(hs.2 b (FV (FA (Fi e) (I.ok.cab x c hfn hc)))).trans e1⟩
  ·obtain ⟨o',e1⟩:=I.base.there b o e hx
   exact ⟨o',(hs.2 b (FV (FA (Fi e) (I.ok.cab x c hfn hc)))).trans e1⟩
  ·by_cases hj:j=i
   ·subst hj
    rw [hi] at e1; cases e1
    rw [Ic hiσ] at e2
    cases e2
    exact ⟨u,r,.inr ⟨.inl hk,c,hc,hc'⟩⟩
   ·rw [HF (Gk hj)] at e2
    obtain ⟨u',r',q⟩:=hl j y v' e1 e2 e3
    refine ⟨u',r',?_⟩
    rcases q with q | ⟨k,c',e,z'⟩
    ·exact .inl q
    ·refine .inr ⟨k,c',e,z'.sameBut hs ?_⟩
     rintro rfl
     exact hj (mM hN e1 (I.ok.inj _ _ _ e hc▸hi))
  ·by_cases hcc:c'=c
   ·subst hcc; exact ⟨_,hc'⟩
   ·obtain ⟨w2,z2⟩:=I.cell y c' e
    exact ⟨w2,z2.sameBut hs hcc⟩
  ·obtain ⟨e,n,ne,nf,d⟩:=I.pin p hp
   refine ⟨(hs.2 p.1 ?_).trans e,n,ne,nf,d⟩
   intro q
   rw [q,hoc] at e
   have q':oc=p.2:=Fw e
   exact d w' (by rw [<- q']; exact hocd)
theorem rn {M:Model} {A:Gd} {E:AC->Do->Prop} {i:Nat} {x:Str} {v:V} {u:AC} {Q:Unit->Do->Prop} (I:Inv X pins σ H s) (hN:X.N.Nodup) (hi:X.N[i]? = some x) (hx:Loc X.env.scope x) (r:RelV v u)
  (h:∀ s',Inv X pins (σ.set i (some v)) H s'->Q () s') (hf:X.fn x=true\/X.env.scope.names.lookup x=some .local:=by first | exact .inl rfl | exact .inr rfl | assumption):wpAny M A (storeName X.env x u) Q E s :=
 kj I hN hi hx r (fun s' I' _=>h s' I') hf
theorem Inv.call' {s':Do} {ch:List Fe} (I:Inv X pins σ H s) (ho:s'.os=s.os) (u:Un (bW X.stack) ch H H' s.heap s'.heap) (hok:bS X.prog X.w H' s'.heap) (hg:IC s'.gens)
  (hch:∀ b∈ch,(b∈X.ex\/X.s₀.heap.objs.size<=b)/\b≠X.env.locals/\(∀ x c,X.env.cells.lookup x=some c->c≠b)/\∀ p∈X.pn++pins,p.1≠b):Inv X pins σ H' s':=by
 obtain ⟨h',g',d',t',o'⟩:=s'
 have e:o'=s.os:=ho
 subst e
 exact I.call (g':=g') (t':=t') (d':=d') u hok hg hch
end
noncomputable abbrev XK:=AC->Option Fe->Hp->Prop
noncomputable abbrev St:=List (Option V)
noncomputable abbrev VK:=V->Hp->Prop
noncomputable abbrev TE:=St->Hp->VK->Prop
noncomputable abbrev TT:=St->Hp->(Bool->Hp->Prop)->Prop
noncomputable abbrev TA:=St->Hp->(List V->Hp->Prop)->Prop
structure Ends where
 nx:St->Hp->Prop
 rt:VK
 bk:St->Hp->Prop:=fun _ _=>False
 ct:St->Hp->Prop:=fun _ _=>False
noncomputable abbrev TS:=Ends->St->Hp->Prop
def EP (X:Cx) (pins:List (Fe × Obj)) (σ:St) (Q:VK) (u:AC) (s':Do):Prop:=∃ v H',Inv X pins σ H' s'/\RelV v u/\Q v H'
def TP (X:Cx) (pins:List (Fe × Obj)) (σ:St) (Q:Bool->Hp->Prop) (b:Bool) (s':Do):Prop:=∃ H',Inv X pins σ H' s'/\Q b H'
def AP (X:Cx) (pins:List (Fe × Obj)) (σ:St) (Q:List V->Hp->Prop) (us:List AC) (s':Do):Prop:=∃ vs H',Inv X pins σ H' s'/\Vals vs us/\Q vs H'
def SP (X:Cx) (pins:List (Fe × Obj)) (D:Ends) (f:Flow) (s':Do):Prop :=
 match f with
 | .next=>∃ σ' H',Inv X pins σ' H' s'/\D.nx σ' H'
 | .brk=>∃ σ' H',Inv X pins σ' H' s'/\D.bk σ' H'
 | .cont=>∃ σ' H',Inv X pins σ' H' s'/\D.ct σ' H'
 | .ret u=>∃ v σ' H',Inv X pins σ' H' s'/\RelV v u/\D.rt v H'
def PE (X:Cx) (e:Gv) (t:TE):Prop :=
 ∀ (pins:List (Fe × Obj)) (s:Do) (σ:St) (H:Hp) (Q:VK),Inv X pins σ H s->t σ H Q->wpAny (model X.prog X.w) X.A (eval e X.env) (EP X pins σ Q) X.xe s
def PT (X:Cx) (e:Gv) (t:TT):Prop :=
 ∀ (pins:List (Fe × Obj)) (s:Do) (σ:St) (H:Hp) (Q:Bool->Hp->Prop),Inv X pins σ H s->t σ H Q->wpAny (model X.prog X.w) X.A (isTrue e X.env (eval e X.env)) (TP X pins σ Q) X.xe s
def PW (X:Cx) (e:Gv) (t:TT):Prop :=
 ∀ (whole:Sem AC) (pins:List (Fe × Obj)) (s:Do) (σ:St) (H:Hp) (Q:Bool->Hp->Prop),Inv X pins σ H s->t σ H Q->wpAny (model X.prog X.w) X.A (isTrue e X.env whole) (TP X pins σ Q) X.xe s
theorem PW.pt {X:Cx} {e:Gv} {t:TT} (h:PW X e t):PT X e t:=h _
def PA (X:Cx) (es:List Gv) (t:TA):Prop :=
 ∀ (pos:Pos) (pins:List (Fe × Obj)) (s:Do) (σ:St) (H:Hp) (Q:List V->Hp->Prop),Inv X pins σ H s->t σ H Q->wpAny (model X.prog X.w) X.A (spliced (backTo pos (starEach es X.env))) (AP X pins σ Q) X.xe s
def PS (X:Cx) (st:Hc) (t:TS):Prop :=
 ∀ (pins:List (Fe × Obj)) (s:Do) (σ:St) (H:Hp) (D:Ends),Inv X pins σ H s->t D σ H->wpAny (model X.prog X.w) X.A (exec st X.env) (SP X pins D) X.xe s
def fz (X:Cx) (st:List Hc) (t:TS):Prop :=
 ∀ (pins:List (Fe × Obj)) (s:Do) (σ:St) (H:Hp) (D:Ends),Inv X pins σ H s->t D σ H->wpAny (model X.prog X.w) X.A (execs st X.env) (SP X pins D) X.xe s
theorem aB {α:Type} {t:Sem α} {Q Q':α->Do->Prop} {M:Model} {A:Gd} {E:AC->Do->Prop} {s:Do} (h:wpAny M A t Q E s) (hQ:∀ a s,Q a s->Q' a s):wpAny M A t Q' E s:=Gu h hQ fun _ _ x=>x
end L2
namespace L2
open PySem PySem.Spec PyProof.Rows
section
variable {X:Cx}
theorem bin {a b:Gv} {ta tb:TE} (ha:PE X a ta) (hb:PE X b tb) {pins:List (Fe × Obj)} {s:Do} {σ:St} {H:Hp} {R:V->V->Hp->Prop} (I:Inv X pins σ H s) (h:ta σ H fun x H1=>tb σ H1 fun y H2=>R x y H2)
  {α:Type} {Q:α->Do->Prop} {f:AC->AC->Sem α}
  (hf:∀ v u s2 x y H2,Inv X pins σ H2 s2->RelV x v->RelV y u->R x y H2->wpAny (model X.prog X.w) X.A (f v u) Q X.xe s2) :
  wpAny (model X.prog X.w) X.A (eval a X.env) (fun v s₁=>wpAny (model X.prog X.w) X.A (eval b X.env) (fun u s₂=>wpAny (model X.prog X.w) X.A (f v u) Q X.xe s₂) X.xe s₁) X.xe s:=by
 refine aB (ha pins s σ H _ I h) fun v s1 ⟨x,H1,I1,r1,q1⟩=>?_
 refine aB (hb pins s1 σ H1 _ I1 q1) fun u s2 ⟨y,H2,I2,r2,q2⟩=>?_
 exact hf v u s2 x y H2 I2 r1 r2 q2
noncomputable def sL (i:Nat):TE:=fun σ H Q=>∃ v,σ[i]? = some (some v)/\Q v H
noncomputable def tC (v:V):TE:=fun _ H Q=>Q v H
theorem BD {i:Nat} {x:Str} {pos:Pos} (hN:X.N[i]? = some x) (hv:zj X.env.scope x) (hd:(x == ("__debug__" : Str))=false:=by decide) (hcd:(x == ("__classdict__" : Str))=false:=by decide):PE X (.Name x pos) (sL i):=by
 intro pins s σ H Q I h
 obtain ⟨v,e,h⟩:=h
 obtain ⟨m,hn,hl⟩:=I.loc
 obtain ⟨u,r,l⟩:=hl i x v hN e hv
 have fin:EP X pins σ Q u s:=⟨v,H,I,r,h⟩
 rcases l with ⟨hk,hm⟩ | ⟨hk,c,hc,hcell⟩
 ·exact wpAny_Name (wpAny_loadName_local I.ok.kind hk hn hm fin) hd
 ·rcases hk with hk | hk
  ·exact wpAny_Name (wpAny_loadName_cell I.ok.kind hk hc hcell fin) hd
  ·exact wpAny_Name (wpAny_loadName_free I.ok.kind hk hc hcell fin hcd) hd
theorem az {i j pos}:PE X (.Constant (.int i) j pos) (tC (.int i)):=fun _ _ _ H _ I h=>wpAny_Constant_int ⟨.int i,H,I.tok _,⟨_,rfl⟩,h⟩
theorem oq {b j pos}:PE X (.Constant (.bool b) j pos) (tC (.bl b)):=fun _ _ _ H _ I h=>Constant_bool ⟨.bl b,H,I,rfl,h⟩
theorem sv {j pos}:PE X (.Constant .none j pos) (tC .non):=fun _ _ _ H _ I h=>Constant_none ⟨.non,H,I,rfl,h⟩
theorem ai {x j pos}:PE X (.Constant (.str x) j pos) (tC (.str x)):=fun _ _ _ H _ I h=>Calls.Constant_str ⟨.str x,H,I.tok _,⟨_,rfl⟩,h⟩
def Gl (X:Cx) (x:Str):Prop:=X.env.kindOf x=some .globalImplicit
theorem du {E:AC->Do->Prop} {pins:List (Fe × Obj)} {s:Do} {σ:St} {H:Hp} {x:Str} {u:AC} {pos:Pos} {Q:AC->Do->Prop} (I:Inv X pins σ H s) (hg:Gl X x) (hm:X.mg x=some u) (h:Q u s)
  (hd:(x == ("__debug__" : Str))=false:=by decide):wpAny (model X.prog X.w) X.A (eval (.Name x pos) X.env) Q E s :=
 II I.ok.kind hg (Calls.loadGlobal_global (by rw [I.ok.glob]; exact I.mod.glob.keeps I.bk) hm h) hd
theorem jt {E:AC->Do->Prop} {pins:List (Fe × Obj)} {s:Do} {σ:St} {H:Hp} {x:Str} {u:AC} {pos:Pos} {Q:AC->Do->Prop} (I:Inv X pins σ H s) (hg:Gl X x) (hm:X.mg x=none) (hv:bootBuiltins x=some u) (h:Q u s)
  (hn:x≠"__name__":=by decide) (hd:(x == ("__debug__" : Str))=false:=by decide):wpAny (model X.prog X.w) X.A (eval (.Name x pos) X.env) Q E s:=by
 obtain ⟨mb,h1,h2⟩:=I.mod.blt
 exact II I.ok.kind hg (Calls.loadGlobal_builtin (by rw [I.ok.glob]; exact I.mod.glob.keeps I.bk) hm (by rw [I.ok.blt]; exact h1.keeps I.bk) ((h2 x hn).trans hv) h) hd
theorem gL {x:Str} {v:V} {u:AC} {pos:Pos} (hg:Gl X x) (hm:X.mg x=some u) (r:RelV v u) (hd:(x == ("__debug__" : Str))=false:=by decide):PE X (.Name x pos) (tC v) :=
 fun _ _ _ H _ I h=>du I hg hm ⟨v,H,I,r,h⟩ hd
theorem jr {x:Str} {v:V} {u:AC} {pos:Pos} (hg:Gl X x) (hm:X.mg x=none) (hv:bootBuiltins x=some u) (r:RelV v u) (hn:x≠"__name__":=by decide) (hd:(x == ("__debug__" : Str))=false:=by decide):PE X (.Name x pos) (tC v) :=
 fun _ _ _ H _ I h=>jt I hg hm hv ⟨v,H,I,r,h⟩ hn hd
variable {a b:Gv} {ta tb:TE} {pos:Pos}
def PC (X:Cx) (op:CmpOp) (a b:Gv) (t:TE):Prop :=
 ∀ (pins:List (Fe × Obj)) (s:Do) (σ:St) (H:Hp) (Q:VK),Inv X pins σ H s->t σ H Q ->
  wpAny (model X.prog X.w) X.A (eval a X.env) (fun v s₁=>wpAny (model X.prog X.w) X.A (eval b X.env) (fun u s₂=>wpAny (model X.prog X.w) X.A (compareOp op v u) (EP X pins σ Q) X.xe s₂) X.xe s₁) X.xe s
theorem yR (b:Gv) {op:CmpOp} (h:op≠.In) (h2:op≠.NotIn):behindInMarks op b=false:=by
 have e1:(op == CmpOp.In)=false:=by cases op<;>first | rfl | exact absurd rfl h
 have e2:(op == CmpOp.NotIn)=false:=by cases op<;>first | rfl | exact absurd rfl h2
 cases b<;>simp [behindInMarks,e1,e2]
noncomputable def tB (t:TE):TT:=fun σ H Q=>t σ H fun x H1=>∃ c,x = .bl c/\Q c H1
theorem Ay {op:CmpOp} {t:TE} (h:PC X op a b t) (h1:behindInMarks op b=false:=by first | exact yR _ (by decide) (by decide) | rfl):PT X (.Compare a [op] [b] pos) (tB t):=by
 intro pins s σ H Q I hw
 refine wpAny_isTrue_Compare1 (aB (h pins s σ H _ I hw) fun v s1 h1=>aB h1 fun u s2 h2=>aB h2 fun c s3 ⟨x,H1,I1,r1,q1⟩=>?_) h1
 obtain ⟨d,rfl,q⟩:=q1
 cases r1
 exact Hl ⟨H1,I1,q⟩
theorem gv {e:Gv} {t:TE} (h:PE X e t) (he:∀ whole,isTrue e X.env whole=(do let v <- whole; standAt e.pos; holding [v] (truthy v)):=by intro _; rfl):PT X e (tB t):=by
 intro pins s σ H Q I hw
 refine isTrue_plain (aB (h pins s σ H _ I hw) fun v s1 ⟨x,H1,I1,r1,q1⟩=>?_) (he _)
 obtain ⟨d,rfl,q⟩:=q1
 cases r1
 exact Hl ⟨H1,I1,q⟩
variable {tA tB':TT} {rest:List Gv}
noncomputable def Eu (t u:TT):TT:=fun σ H Q=>t σ H fun c H1=>if c=true then u σ H1 Q else Q false H1
noncomputable def EK (t u:TT):TT:=fun σ H Q=>t σ H fun c H1=>if c=true then Q true H1 else u σ H1 Q
noncomputable def Ee (t:TT):TT:=fun σ H Q=>t σ H fun c H1=>Q (!c) H1
theorem mx (ha:PT X a tA):PW X (.BoolOp .And [a] pos) tA:=by
 intro wh pins s σ H Q I h
 refine isTrue_and (aB (ha pins s σ H Q I h) fun c s1 e=>?_)
 cases c with
 | true=>exact isTrue_and_nil e
 | false=>exact e
theorem gY (ha:PT X a tA):PW X (.BoolOp .Or [a] pos) tA:=by
 intro wh pins s σ H Q I h
 refine isTrue_or (aB (ha pins s σ H Q I h) fun c s1 e=>?_)
 cases c with
 | false=>exact isTrue_or_nil e
 | true=>exact e
theorem kr (ha:PT X a tA) (hb:PW X (.BoolOp .And (b::rest) pos) tB'):PW X (.BoolOp .And (a::b::rest) pos) (Eu tA tB'):=by
 intro wh pins s σ H Q I h
 refine isTrue_and (aB (ha pins s σ H _ I h) fun c s1 ⟨H1,I1,q1⟩=>?_)
 cases c with
 | true=>exact hb wh pins s1 σ H1 Q I1 q1
 | false=>exact ⟨H1,I1,q1⟩
theorem gA (ha:PT X a tA) (hb:PW X (.BoolOp .Or (b::rest) pos) tB'):PW X (.BoolOp .Or (a::b::rest) pos) (EK tA tB'):=by
 intro wh pins s σ H Q I h
 refine isTrue_or (aB (ha pins s σ H _ I h) fun c s1 ⟨H1,I1,q1⟩=>?_)
 cases c with
 | true=>exact ⟨H1,I1,q1⟩
 | false=>exact hb wh pins s1 σ H1 Q I1 q1
theorem iD (ha:PT X a tA):PT X (.UnaryOp .Not a pos) (Ee tA):=by
 intro pins s σ H Q I h
 exact isTrue_not (ha pins s σ H (fun c H1=>Q (!c) H1) I h)
noncomputable def Dq (ta tb:TE):TE:=fun σ H Q=>ta σ H fun x H1=>∃ c,x = .bl c/\if c=true then tb σ H1 Q else Q (.bl false) H1
noncomputable def C3 (ta:TE):TE:=fun σ H Q=>ta σ H fun x H1=>∃ c,x = .bl c/\Q (.bl (!c)) H1
theorem sI {op} {t:TE} (h:PE X a t):PE X (.BoolOp op [a] pos) t:=fun pins s σ H Q I hw=>BoolOp_one (h pins s σ H Q I hw)
theorem sA (ha:PE X a ta) (hb:PE X (.BoolOp .And (b::rest) pos) tb):PE X (.BoolOp .And (a::b::rest) pos) (Dq ta tb):=by
 intro pins s σ H Q I h
 refine BoolOp_and (aB (ha pins s σ H _ I h) fun v s1 ⟨x,H1,I1,r1,q1⟩=>?_)
 obtain ⟨c,rfl,q1⟩:=q1
 cases r1
 refine Hl ?_
 cases c with
 | true=>exact hb pins s1 σ H1 Q I1 q1
 | false=>exact ⟨.bl false,H1,I1,rfl,q1⟩
theorem By (ha:PE X a ta):PE X (.UnaryOp .Not a pos) (C3 ta):=by
 intro pins s σ H Q I h
 refine UnaryOp_ (aB (ha pins s σ H _ I h) fun v s1 ⟨x,H1,I1,r1,q1⟩=>?_)
 obtain ⟨c,rfl,q1⟩:=q1
 cases r1
 exact not_of (Hl ⟨.bl (!c),H1,I1,rfl,q1⟩)
end
end L2
namespace L2
open PySem PySem.Spec PyProof.Rows
def av (K:Fp) (H:Hp) (a:Fe) (xs:List V):Prop :=
 Rd H a (.lst xs) \/
  ∃ (o:Obj) (its:Array AC) (n:Nat),K.lookup a=some o/\o.cls = .type "list"/\o.dict=none/\o.data = .seq its n/\its.size<=sizeLine/\Vals xs its.toList
def bJ (K:Fp) (H:Hp) (a:Fe) (xs:List V):Prop :=
 Rd H a (.tup xs) \/
  ∃ (o:Obj) (its:Array AC) (n:Nat),K.lookup a=some o/\o.cls = .type "tuple"/\o.data = .seq its n/\its.size<=sizeLine/\Vals xs its.toList
noncomputable def D0:AC->Option V
 | .none=>some .non
 | .bool b=>some (.bl b)
 | .int i _=>some (.int i)
 | .str x _=>some (.str x)
 | .bytes b _=>some (.byt b)
 | .float b _=>some (.flt b)
 | .ref a=>some (.ref a)
 | .type n=>some (.ty n)
 | _=>none
theorem RelV.abs {x:V} {u:AC} (r:RelV x u):D0 u=some x:=by
 cases x with
 | non=>cases r; rfl
 | bl _=>cases r; rfl
 | int _=>obtain ⟨t,rfl⟩:=r; rfl
 | str _=>obtain ⟨t,rfl⟩:=r; rfl
 | byt _=>obtain ⟨t,rfl⟩:=r; rfl
 | flt _=>obtain ⟨t,rfl⟩:=r; rfl
 | ref _=>cases r; rfl
 | ty _=>cases r; rfl
theorem RelV.inj {x y:V} {u:AC} (r:RelV x u) (q:RelV y u):x=y:=Fw (r.abs.symm.trans q.abs)
theorem Vals.inj:∀ {xs ys:List V} {us:List AC},Vals xs us->Vals ys us->xs=ys
 | _,_,_,.nil,.nil=>rfl
 | _,_,_,.cons r t,.cons r' t'=>by rw [r.inj r',Vals.inj t t']
section
variable {X:Cx} {pins:List (Fe × Obj)} {σ:St} {H:Hp} {s:Do} {a:Fe} {xs ys:List V}
theorem av.of {K:Fp} (h:H a=some (.lst xs)):av K H a xs:=.inl (.inl h)
theorem bJ.of {K:Fp} (h:H a=some (.tup xs)):bJ K H a xs:=.inl (.inl h)
theorem Inv.list (I:Inv X pins σ H s) (h:av X.K H a xs):∃ its:List AC,Vals xs its/\PlainL s.heap a its.toArray/\xs.length<=sizeLine:=by
 rcases h with h | ⟨o,its,n,hk,hc,hd,hs,hz,r⟩
 ·obtain ⟨z,its,n,r,e⟩:=h.ok I.hok
  exact ⟨its,r,⟨_,n,e,rfl,rfl,rfl⟩,z⟩
 ·refine ⟨its.toList,r,⟨o,n,I.kIn a o hk,hc,hd,by simpa using hs⟩,?_⟩
  have e:=r.length
  simp only [HJ] at e
  lia
theorem Inv.tuple (I:Inv X pins σ H s) (h:bJ X.K H a xs):∃ its:List AC,Vals xs its/\IsTup s.heap a its.toArray/\xs.length<=sizeLine:=by
 rcases h with h | ⟨o,its,n,hk,hc,hs,hz,r⟩
 ·obtain ⟨z,its,r,p⟩:=h.ok I.hok
  exact ⟨its,r,p,z⟩
 ·refine ⟨its.toList,r,⟨o,I.kIn a o hk,hc,n,by simpa using hs⟩,?_⟩
  have e:=r.length
  simp only [HJ] at e
  lia
theorem Inv.list_inj (I:Inv X pins σ H s) (h:av X.K H a xs) (h':av X.K H a ys):xs=ys:=by
 obtain ⟨its,r,⟨o,n,e,_,_,d⟩,_⟩:=I.list h
 obtain ⟨its',r',⟨o',n',e',_,_,d'⟩,_⟩:=I.list h'
 rw [e] at e'; cases e'
 rw [d] at d'
 injection d' with d1 _
 have:its=its':=by simpa using congrArg Array.toList d1
 subst this
 exact r.inj r'
theorem Inv.tuple_inj (I:Inv X pins σ H s) (h:bJ X.K H a xs) (h':bJ X.K H a ys):xs=ys:=by
 obtain ⟨its,r,⟨o,e,_,n,d⟩,_⟩:=I.tuple h
 obtain ⟨its',r',⟨o',e',_,n',d'⟩,_⟩:=I.tuple h'
 rw [e] at e'; cases e'
 rw [d] at d'
 injection d' with d1 _
 have:its=its':=by simpa using congrArg Array.toList d1
 subst this
 exact r.inj r'
end
noncomputable abbrev Cx.wish (X:Cx) (E:AC->Do->Prop):Cx:={ X with xe:=E }
noncomputable abbrev Cx.nox (X:Cx):Cx:=X.wish fun _ _=>False
theorem Cx.Ok.wish {X:Cx} (ok:X.Ok) (E:AC->Do->Prop):(X.wish E).Ok :=
 ⟨ok.mod,ok.kind,ok.glob,ok.blt,ok.above,ok.inj,ok.has,ok.cab,ok.hd,ok.frames,ok.stk,ok.exf,ok.bs,ok.bsz,ok.noex,ok.exfs,ok.funs,ok.frf⟩
theorem Cx.Ok.unwish {X:Cx} {E:AC->Do->Prop} (ok:(X.wish E).Ok):X.Ok :=
 ⟨ok.mod,ok.kind,ok.glob,ok.blt,ok.above,ok.inj,ok.has,ok.cab,ok.hd,ok.frames,ok.stk,ok.exf,ok.bs,ok.bsz,ok.noex,ok.exfs,ok.funs,ok.frf⟩
section
variable {X:Cx} {pins:List (Fe × Obj)} {σ:St} {H:Hp} {s:Do} {E:AC->Do->Prop}
theorem Inv.wish (I:Inv X pins σ H s) (E:AC->Do->Prop):Inv (X.wish E) pins σ H s:=⟨I.ok.wish E,I.os,I.bare,I.base,I.loc,I.cell,I.free,I.freeC,I.pin,I.hok,I.len⟩
theorem Inv.unwish (I:Inv (X.wish E) pins σ H s):Inv X pins σ H s:=⟨I.ok.unwish,I.os,I.bare,I.base,I.loc,I.cell,I.free,I.freeC,I.pin,I.hok,I.len⟩
theorem SP.unwish {D:Ends} {f:Flow} {s':Do} (h:SP (X.wish E) pins D f s'):SP X pins D f s':=by
 cases f with
 | next=>obtain ⟨σ',H',I,q⟩:=h; exact ⟨σ',H',I.unwish,q⟩
 | brk=>obtain ⟨σ',H',I,q⟩:=h; exact ⟨σ',H',I.unwish,q⟩
 | cont=>obtain ⟨σ',H',I,q⟩:=h; exact ⟨σ',H',I.unwish,q⟩
 | ret u=>obtain ⟨v,σ',H',I,r,q⟩:=h; exact ⟨v,σ',H',I.unwish,r,q⟩
theorem fz.nox {st:List Hc} {t:TS} (h:fz X.nox st t):fz X st t:=fun pins s σ H D I hw =>
 Gu (h pins s σ H D (I.wish _) hw) (fun _ _ q=>q.unwish) fun _ _ z=>Gi z
end
section
variable {X:Cx} {st:Hc} {rest:List Hc} {t u:TS} {e:Gv} {te:TE} {pos:Pos}
noncomputable def C1:TS:=fun D σ H=>D.nx σ H
noncomputable def Ec (t u:TS):TS:=fun D σ H=>t { D with nx:=u D } σ H
theorem aQ:fz X [] C1:=fun _ _ σ H _ I h=>HQ ⟨σ,H,I,h⟩
theorem ao (h1:PS X st t) (h2:fz X rest u):fz X (st::rest) (Ec t u):=by
 intro pins s σ H D I h
 refine Iu (aB (h1 pins s σ H { D with nx:=u D } I h) fun f s1 q=>?_)
 cases f with
 | next =>
  obtain ⟨σ',H',I',q⟩:=q
  exact h2 pins s1 σ' H' D I' q
 | ret v=>exact q
 | brk=>exact q
 | cont=>exact q
theorem ar (h1:PS X st t):fz X [st] t:=by
 intro pins s σ H D I h
 refine Iu (aB (h1 pins s σ H D I h) fun f s1 q=>?_)
 cases f with
 | next=>exact HQ q
 | ret v=>exact q
 | brk=>exact q
 | cont=>exact q
theorem Inv.quiet {pins:List (Fe × Obj)} {σ:St} {H:Hp} {s:Do} (I:Inv X pins σ H s):interactive X.env=false:=by simp [interactive,I.ok.kind]
noncomputable def DI (te:TE):TS:=fun D σ H=>te σ H fun _ H1=>D.nx σ H1
theorem bt (he:PE X e te) (hs:swapsWith e none pos.line X.env=pure false:=by rfl):PS X (.Expr e pos) (DI te):=by
 intro pins s σ H D I h
 exact wpAny_Expr_any (aB (he pins s σ H _ I h) fun v s1 ⟨x,H1,I1,r1,q1⟩=>⟨σ,H1,I1,q1⟩) I.quiet hs
noncomputable def rM (te:TE):TS:=fun D σ H=>te σ H D.rt
theorem aA (he:PE X e te):PS X (.Return (some e) pos) (rM te):=by
 intro pins s σ H D I h
 exact wpAny_Return_some (aB (he pins s σ H _ I h) fun v s1 ⟨x,H1,I1,r1,q1⟩=>⟨x,σ,H1,I1,r1,q1⟩)
noncomputable def Eh (c:TT) (t u:TS):TS:=fun D σ H=>c σ H fun b H1=>if b=true then t D σ H1 else u D σ H1
theorem bA {c:Gv} {a b:List Hc} {tc:TT} (hc:PT X c tc) (ha:fz X a t) (hb:fz X b u):PS X (.If c a b pos) (Eh tc t u):=by
 intro pins s σ H D I h
 refine wpAny_If (aB (hc pins s σ H _ I h) fun d s1 ⟨H1,I1,q1⟩=>?_)
 cases d with
 | true=>exact ha pins s1 σ H1 D I1 q1
 | false=>exact hb pins s1 σ H1 D I1 q1
noncomputable def Cd:TS:=fun _ _ _=>False
theorem xt {sts:List Hc}:fz X sts Cd:=fun _ _ _ _ _ _ h=>h.elim
end
noncomputable abbrev TG:=V->St->Hp->(St->Hp->Prop)->Prop
noncomputable abbrev sG:=List V->St->Hp->(St->Hp->Prop)->Prop
def PG (X:Cx) (target:Gv) (t:TG):Prop :=
 ∀ (pins:List (Fe × Obj)) (s:Do) (σ:St) (H:Hp) (v:V) (u:AC) (Q:St->Hp->Prop),Inv X pins σ H s->RelV v u->t v σ H Q ->
  wpAny (model X.prog X.w) X.A (assign target X.env u) (fun _ s'=>∃ σ' H',Inv X pins σ' H' s'/\Q σ' H') X.xe s
def zc (X:Cx) (ts:List Gv) (t:sG):Prop :=
 ∀ (pins:List (Fe × Obj)) (s:Do) (σ:St) (H:Hp) (vs:List V) (us:List AC) (Q:St->Hp->Prop),Inv X pins σ H s->Vals vs us->t vs σ H Q ->
  wpAny (model X.prog X.w) X.A (assignInOrder ((assignEach ts X.env).map (·.2)) us) (fun _ s'=>∃ σ' H',Inv X pins σ' H' s'/\Q σ' H') X.xe s
noncomputable abbrev yJ:=V->V->V->Hp->(Hp->Prop)->Prop
def Bw (X:Cx) (t:yJ):Prop :=
 ∀ (pins:List (Fe × Obj)) (s:Do) (σ:St) (H:Hp) (o i v:V) (ov iv u:AC) (Q:Hp->Prop),Inv X pins σ H s->RelV o ov->RelV i iv->RelV v u->t o i v H Q ->
  wpAny (model X.prog X.w) X.A (setItem ov iv u) (fun _ s'=>∃ H',Inv X pins σ H' s'/\Q H') X.xe s
section
variable {X:Cx} {pos:Pos}
noncomputable def uV (i:Nat):TG:=fun v σ H Q=>Q (σ.set i (some v)) H
theorem aN {i:Nat} {x:Str} (hN:X.N.Nodup) (hi:X.N[i]? = some x) (hx:Loc X.env.scope x) (hf:X.fn x=true\/X.env.scope.names.lookup x=some .local:=by first | exact .inl rfl | exact .inr rfl | assumption):PG X (.Name x pos) (uV i):=by
 intro pins s σ H v u Q I r h
 exact wpAny_assign_Name (rn I hN hi hx r (fun s' I'=>⟨_,H,I',h⟩) hf)
noncomputable def Eo:sG:=fun vs σ H Q=>vs=[]/\Q σ H
noncomputable def Dl (t:TG) (u:sG):sG:=fun vs σ H Q=>∃ v r,vs=v::r/\t v σ H fun σ' H'=>u r σ' H' Q
theorem uj:zc X [] Eo:=by
 intro pins s σ H vs us Q I r h
 obtain ⟨e,h⟩:=h
 subst e
 cases r
 exact assignInOrder_nil ⟨σ,H,I,h⟩
theorem gO {e:Gv} {es:List Gv} {t:TG} {u:sG} (h1:PG X e t) (h2:zc X es u)
  (hs:(assignEach (e::es) X.env).map (·.2)=assign e X.env::(assignEach es X.env).map (·.2):=by rfl):zc X (e::es) (Dl t u):=by
 intro pins s σ H vs us Q I r h
 obtain ⟨v,vr,e1,h⟩:=h
 subst e1
 cases r with
 | cons r rr =>
  rw [hs]
  refine assignInOrder_cons (aB (h1 pins s σ H _ _ _ I r h) fun _ s1 ⟨σ1,H1,I1,q1⟩=>?_)
  exact h2 pins s1 σ1 H1 _ _ Q I1 rr q1
noncomputable def D4 (K:Fp) (n:Nat) (t:sG):TG:=fun v σ H Q=>∃ a xs,v = .ref a/\bJ K H a xs/\xs.length=n/\t xs σ H Q
theorem wU {es:List Gv} {k:Nat} {t:sG} {n:Nat} (hc:X.calm=true) (h:zc X es t)
  (hn:(assignEach es X.env).length=n:=by rfl) (hst:(assignEach es X.env).findIdx? (·.1)=none:=by rfl):PG X (.Tuple es k pos) (D4 X.K n t):=by
 intro pins s σ H v u Q I r hw
 obtain ⟨a,xs,e1,hq,hl,hw⟩:=hw
 subst e1
 cases r
 obtain ⟨its,rv,ht,hz⟩:=I.tuple hq
 refine assign_Tuple_tuple (I.ok.hd hc) ht (by simp [hn,<- hl,rv.length]) hst fun h' hx=>?_
 have I1:Inv X pins σ H { s with heap:=h' }:=I.kept (t':=s.toks) fun b o e=>hx b o (FV (Fi e)) e
 exact h pins _ σ H xs _ Q I1 (by simpa using rv) hw
noncomputable def Et (to ti:TE) (t:yJ):TG:=fun v σ H Q=>to σ H fun o H1=>ti σ H1 fun i H2=>t o i v H2 fun H3=>Q σ H3
theorem Cq {o i:Gv} {to ti:TE} {t:yJ} (ho:PE X o to) (hi:PE X i ti) (hs:Bw X t)
  (ha:∀ v,assign (.Subscript o i pos) X.env v=(do
   let ov <- holding [v] (eval o X.env)
   let iv <- holding [v,ov] (eval i X.env)
   standAt pos
   holding [v,ov,iv] (setItem ov iv v)
   release [v,ov,iv] []):=by intro _; rfl):PG X (.Subscript o i pos) (Et to ti t):=by
 intro pins s σ H v u Q I r h
 rw [ha]
 refine Da (Gf (aB (ho pins s σ H _ I h) fun ov s1 ⟨x,H1,I1,r1,q1⟩=>?_))
 refine Da (Gf (aB (hi pins s1 σ H1 _ I1 q1) fun iv s2 ⟨y,H2,I2,r2,q2⟩=>?_))
 refine Da (Ho (Da (Gf (aB (hs pins s2 σ H2 x y v ov iv u _ I2 r1 r2 r q2) fun _ s3 ⟨H3,I3,q3⟩=>?_))))
 exact wpAny_release ⟨σ,H3,I3,q3⟩
noncomputable def CQ (te:TE) (g:TG):TS:=fun D σ H=>te σ H fun x H1=>g x σ H1 D.nx
theorem xm {tg e:Gv} {te:TE} {g:TG} (he:PE X e te) (hg:PG X tg g) (hs:swapsWithSole [tg] e pos.line X.env=pure false:=by rfl) (hw:swappedStores [tg] e X.env=pure none:=by rfl)
  (h1:(assignEach [tg] X.env).map (·.2)=[assign tg X.env]:=by rfl):PS X (.Assign [tg] e pos) (CQ te g):=by
 intro pins s σ H D I h
 refine wpAny_Assign_stores (aB (he pins s σ H _ I h) fun v s1 ⟨x,H1,I1,r1,q1⟩=>?_) hs hw
 rw [h1]
 exact aB (hg pins s1 σ H1 x v _ I1 r1 q1) fun _ s2 q=>q
theorem aC {i:Nat} {x:Str} {e:Gv} {te:TE} {pos':Pos} (hN:X.N.Nodup) (hi:X.N[i]? = some x) (hx:Loc X.env.scope x) (he:PE X e te) (hs:swapsWith e (some (.Name x pos')) pos.line X.env=pure false:=by rfl) (hf:X.fn x=true\/X.env.scope.names.lookup x=some .local:=by first | exact .inl rfl | exact .inr rfl | assumption) :
  PS X (.Assign [.Name x pos'] e pos) (CQ te (uV i)):=by
 intro pins s σ H D I h
 refine wpAny_Assign_Name (aB (he pins s σ H _ I h) fun v s1 ⟨y,H1,I1,r1,q1⟩=>?_) hs
 exact rn I1 hN hi hx r1 (fun s2 I2=>⟨_,H1,I2,q1⟩) hf
end
section
variable {X:Cx} {pos:Pos}
end
structure It where
 go:Nat->Hp->Prop
 yld:Nat->Hp->V->Hp->Prop
 stop:Nat->Hp->Prop
def iz (X:Cx) (pins:List (Fe × Obj)) (H:Hp) (b:Fe):Prop :=
 H b=none/\b≠X.env.locals/\b∉X.fs/\(b∈X.ex\/X.s₀.heap.objs.size<=b)/\(∀ x c,X.env.cells.lookup x=some c->c≠b)/\∀ p∈X.pn++pins,p.1≠b
theorem Inv.fpOk {X:Cx} {pins:List (Fe × Obj)} {σ:St} {H H':Hp} {s:Do} {b:Fe} (I:Inv X pins σ H s) (hb:s.heap.objs.size<=b) (hn:H' b=none):iz X pins H' b:=by
 refine ⟨hn,Im (FA I.lt hb),I.nofs hb,.inr (FW I.sz hb),fun x c e z=>?_,fun p hp z=>?_⟩
 ·obtain ⟨v,q⟩:=I.cell x c e
  exact absurd (FA q.lt (by rw [z]; exact hb)) (Gb _)
 ·exact absurd (FA (Fi (I.pin p hp).1) (by rw [z]; exact hb)) (Gb _)
structure Turn (P:FG) (w:FU) (K:Fp) (tg:Gv) (J:It) (fp:List Fe) (it:Fe) (tn:Nat->GG->Prop):Prop where
 mem:it∈fp
 obj:∀ i h,tn i h->∀ b∈fp,∃ o,h.get? b=some o/\∀ v,o.data≠.cell v
 keep:∀ i h h',tn i h->(∀ b∈fp,∀ o,h.get? b=some o->h'.get? b=some o)->tn i h'
 item:∀ (X:Cx),X.prog=P->X.w=w->X.K=K->X.calm=true->∀ (i:Nat) (pins:List (Fe × Obj)) (s:Do) (σ:St) (H:Hp) (E:AC->Do->Prop),Inv X pins σ H s->(∀ b∈fp,iz X pins H b)->tn i s.heap->J.go i H ->
  wpAny (model P w) X.A (pyNext (.ref it)) (fun r s1=>∃ u,r=some u /\
   wpAny (model P w) X.A (letOwnedTupleGo tg (.ref it) u) (fun _ s2=>∃ x H',Inv X pins σ H' s2/\RelV x u/\J.yld i H x H'/\tn (i+1) s2.heap/\∀ b∈fp,H' b=none) E s1) E s
 done:∀ (X:Cx),X.prog=P->X.w=w->X.K=K->X.calm=true->∀ (i:Nat) (pins:List (Fe × Obj)) (s:Do) (σ:St) (H:Hp) (E:AC->Do->Prop),Inv X pins σ H s->(∀ b∈fp,iz X pins H b)->tn i s.heap->J.stop i H ->
  wpAny (model P w) X.A (pyNext (.ref it)) (fun r s1=>r=none/\Inv X pins σ H s1) E s
 self:∀ (A:Gd) (i:Nat) (s:Do) (Q:AC->Do->Prop) (E:AC->Do->Prop),tn i s.heap->Q (.ref it) s->wpAny (model P w) A (pyIter (.ref it)) Q E s
noncomputable abbrev TI:=St->Hp->(It->Hp->Prop)->Prop
def DW (X:Cx) (pins:List (Fe × Obj)) (σ:St) (tg:Gv) (R:It->Hp->Prop) (itv:AC) (s2:Do):Prop :=
 ∃ (it:Fe) (fp:List Fe) (tn:Nat->GG->Prop) (J:It) (H':Hp),itv = .ref it/\Inv X pins σ H' s2/\Turn X.prog X.w X.K tg J fp it tn/\tn 0 s2.heap/\(∀ b∈fp,iz X pins H' b)/\R J H'
def PI (X:Cx) (tg iter:Gv) (wi:TI):Prop :=
 ∀ (pins:List (Fe × Obj)) (s:Do) (σ:St) (H:Hp) (R:It->Hp->Prop),Inv X pins σ H s->wi σ H R ->
  wpAny (model X.prog X.w) X.A (eval iter X.env) (fun v s1=>wpAny (model X.prog X.w) X.A (pyIter v) (DW X pins σ tg R) X.xe s1) X.xe s
theorem rf {M:Model} {A:Gd} {E:AC->Do->Prop} {s:Do} {tg:Gv} {it:Fe} {u:AC} {o:Obj} {n:String} {vs:Array AC} {Q:Unit->Do->Prop} (ho:s.heap.get? it=some o) (hc:o.cls = .type n) (hd:o.data = .fields vs)
  (hn:["enumerate","zip","dict_itemiterator","dict_reverseitemiterator","odict_iterator","itertools.zip_longest","itertools.pairwise"].contains n=false) (hQ:Q () s):wpAny M A (letOwnedTupleGo tg (.ref it) u) Q E s:=by
 unfold letOwnedTupleGo
 cases tg<;>first
  | exact Ft hQ
  | (cases u<;>first
    | exact Ft hQ
    | (refine Da (wpAny_load ho ?_)
       rw [hc,hd]
       show wpAny M A (if (["enumerate","zip","dict_itemiterator","dict_reverseitemiterator","odict_iterator","itertools.zip_longest","itertools.pairwise"].contains n&&vs[0]? == some (rawInt _))=true then _ else _) Q E s
       rw [if_neg (by intro h; rw [hn,Bool.false_and] at h; cases h)]
       exact Ft hQ))
noncomputable def sS (K:Fp) (a:Fe):It :=
 ⟨fun i H=>∃ xs x,av K H a xs/\xs[i]? = some x,fun i H x H'=>H'=H/\∀ xs,av K H a xs->xs[i]? = some x,fun i H=>∃ xs,av K H a xs/\xs.length<=i⟩
noncomputable def CL (K:Fp) (a:Fe):It :=
 ⟨fun i H=>∃ xs x,bJ K H a xs/\xs[i]? = some x,fun i H x H'=>H'=H/\∀ xs,bJ K H a xs->xs[i]? = some x,fun i H=>∃ xs,bJ K H a xs/\xs.length<=i⟩
noncomputable def uq (lo:Int) (n:Nat):It:=⟨fun i _=>i < n,fun i H x H'=>H'=H/\x = .int (lo+i),fun i _=>n<=i⟩
theorem xW {P:FG} {w:FU} {K:Fp} {tg:Gv} (a it:Fe):Turn P w K tg (sS K a) [it] it (fun i h=>h.IsListIter it a i) where
 mem:=by simp
 obj:=fun i h st b hb=>by
  have e:b=it:=by simpa using hb
  subst e
  obtain ⟨o,e,c,d⟩:=st
  exact ⟨o,e,fun v z=>by rw [d] at z; cases z⟩
 keep:=fun i h h' st k=>st.at fun o e=>k it (by simp) o e
 item:=by
  intro X hP hw hK hc i pins s σ H E I hf st hg
  subst hP hw hK
  obtain ⟨xs,x,hq,hx⟩:=hg
  obtain ⟨its,rv,p,hz⟩:=I.list hq
  obtain ⟨u,hu,ru⟩:=rv.get hx
  obtain ⟨f0,f1,f2,f3,f4,f5⟩:=hf it (by simp)
  refine wpAny_pyNext_list_item st p.isList (x:=u) (by simpa using hu) fun h' st' sb=>?_
  have I1:Inv X pins σ H { s with heap:=h' }:=I.turned (t':=s.toks) (fun b o hb e=>(sb.2 b hb).trans e) f0 f1 f3 f4 f5
  obtain ⟨o,e,c,d⟩:=id st'
  exact ⟨u,rfl,rf (s:={ s with heap:=h' }) e c d (by decide) ⟨x,H,I1,ru,⟨rfl,fun ys hy=>by rw [I.list_inj hy hq]; exact hx⟩,st',fun b hb=>(hf b hb).1⟩⟩
 done:=by
  intro X hP hw hK hc i pins s σ H E I hf st hg
  subst hP hw hK
  obtain ⟨xs,hq,hx⟩:=hg
  obtain ⟨its,rv,p,hz⟩:=I.list hq
  obtain ⟨f0,f1,f2,f3,f4,f5⟩:=hf it (by simp)
  have hl:=rv.length
  exact wpAny_pyNext_list_end (I.ok.hd hc) st p.isList (by simp; lia) fun h' eb=>⟨rfl,I.turned (t':=s.toks) (fun b o hb e=>eb b o hb e) f0 f1 f3 f4 f5⟩
 self:=fun _ _ _ _ _ st h=>wpAny_pyIter_listiter st h
theorem vO {P:FG} {w:FU} {K:Fp} {tg:Gv} (a it:Fe):Turn P w K tg (CL K a) [it] it (fun i h=>h.IsTupleIter it a i) where
 mem:=by simp
 obj:=fun i h st b hb=>by
  have e:b=it:=by simpa using hb
  subst e
  obtain ⟨o,e,c,d⟩:=st
  exact ⟨o,e,fun v z=>by rw [d] at z; cases z⟩
 keep:=fun i h h' st k=>st.at fun o e=>k it (by simp) o e
 item:=by
  intro X hP hw hK hc i pins s σ H E I hf st hg
  subst hP hw hK
  obtain ⟨xs,x,hq,hx⟩:=hg
  obtain ⟨its,rv,p,hz⟩:=I.tuple hq
  obtain ⟨u,hu,ru⟩:=rv.get hx
  obtain ⟨f0,f1,f2,f3,f4,f5⟩:=hf it (by simp)
  refine wpAny_pyNext_tuple_item st (show s.heap.IsTuple a its.toArray from p) (x:=u) (by simpa using hu) fun h' st' sb=>?_
  have I1:Inv X pins σ H { s with heap:=h' }:=I.turned (t':=s.toks) (fun b o hb e=>(sb.2 b hb).trans e) f0 f1 f3 f4 f5
  obtain ⟨o,e,c,d⟩:=id st'
  exact ⟨u,rfl,rf (s:={ s with heap:=h' }) e c d (by decide) ⟨x,H,I1,ru,⟨rfl,fun ys hy=>by rw [I.tuple_inj hy hq]; exact hx⟩,st',fun b hb=>(hf b hb).1⟩⟩
 done:=by
  intro X hP hw hK hc i pins s σ H E I hf st hg
  subst hP hw hK
  obtain ⟨xs,hq,hx⟩:=hg
  obtain ⟨its,rv,p,hz⟩:=I.tuple hq
  obtain ⟨f0,f1,f2,f3,f4,f5⟩:=hf it (by simp)
  have hl:=rv.length
  exact wpAny_pyNext_tuple_end (I.ok.hd hc) st (show s.heap.IsTuple a its.toArray from p) (by simp; lia) fun h' eb=>⟨rfl,I.turned (t':=s.toks) (fun b o hb e=>eb b o hb e) f0 f1 f3 f4 f5⟩
 self:=fun _ _ _ _ _ st h=>wpAny_pyIter_tupleiter st h
theorem vJ {P:FG} {w:FU} {K:Fp} {tg:Gv} (it:Fe) (lo:Int) (n:Nat):Turn P w K tg (uq lo n) [it] it (fun i h=>IsRangeIter h it (lo+(i:Nat)*1) ((n:Int) - (i:Nat)) 1) where
 mem:=by simp
 obj:=fun i h st b hb=>by
  have e:b=it:=by simpa using hb
  subst e
  exact ⟨_,st,fun v z=>by
   have z':Data.fields _=Data.cell v:=z
   cases z'⟩
 keep:=fun i h h' st k=>k it (by simp) _ st
 item:=by
  intro X hP hw hK hc i pins s σ H E I hf st hg
  subst hP hw hK
  obtain ⟨f0,f1,f2,f3,f4,f5⟩:=hf it (by simp)
  have W:=Walks.range (prog:=X.prog) (w:=X.w) (I.ok.hd hc) it lo 1 n
  refine W.item i s _ _ hg st fun v h' tk hv st' kk=>?_
  obtain ⟨t,rfl⟩:=hv
  have I1:Inv X pins σ H { s with heap:=h',toks:=tk }:=I.turned (fun b o hb e=>kk b o (by simpa using hb) e) f0 f1 f3 f4 f5
  refine ⟨_,rfl,rf (s:={ s with heap:=h',toks:=tk }) (n:="range_iterator") st' rfl rfl (by decide) ⟨.int (lo+i),H,I1,⟨t,?_⟩,⟨rfl,rfl⟩,st',fun b hb=>(hf b hb).1⟩⟩
  rw [Int.mul_one]
 done:=by
  intro X hP hw hK hc i pins s σ H E I hf st hg
  subst hP hw hK
  obtain ⟨f0,f1,f2,f3,f4,f5⟩:=hf it (by simp)
  exact wpAny_pyNext_range_end (I.ok.hd hc) st (by have:n<=i:=hg; lia) fun h' eb=>⟨rfl,I.turned (t':=s.toks) (fun b o hb e=>eb b o hb e) f0 f1 f3 f4 f5⟩
 self:=fun _ _ _ _ _ st h=>wpAny_pyIter_rangeiter st h
end L2
namespace L2
open PySem PySem.Spec PyProof.Rows
section
variable {X:Cx} {tg:Gv}
noncomputable def y6 (K:Fp) (tl:TE):TI:=fun σ H R=>tl σ H fun x H1=>∃ a,x = .ref a/\(∃ xs,av K H1 a xs)/\R (sS K a) H1
noncomputable def Ew (K:Fp) (tl:TE):TI:=fun σ H R=>tl σ H fun x H1=>∃ a,x = .ref a/\(∃ xs,bJ K H1 a xs)/\R (CL K a) H1
theorem bY {l:Gv} {tl:TE} (hl:PE X l tl):PI X tg l (y6 X.K tl):=by
 intro pins s σ H R I h
 refine aB (hl pins s σ H _ I h) fun v s1 ⟨x,H1,I1,r1,q1⟩=>?_
 obtain ⟨a,e,⟨xs,hq⟩,q⟩:=q1
 subst e
 cases r1
 obtain ⟨its,rv,p,hz⟩:=I1.list hq
 refine wpAny_pyIter_list p.isList ?_
 refine ⟨s1.heap.objs.size,[s1.heap.objs.size],_,_,H1,rfl,I1.kept (t':=s1.toks) fun b o e=>Fd _ e,xW a _,⟨_,FH _ rfl,rfl,rfl⟩,fun b hb=>?_,q⟩
 have e:b=s1.heap.objs.size:=by simpa using hb
 subst e
 exact I1.fpOk (Fg _) (I1.hok.fresh (Fg _))
theorem CJ {l:Gv} {tl:TE} (hl:PE X l tl):PI X tg l (Ew X.K tl):=by
 intro pins s σ H R I h
 refine aB (hl pins s σ H _ I h) fun v s1 ⟨x,H1,I1,r1,q1⟩=>?_
 obtain ⟨a,e,⟨xs,hq⟩,q⟩:=q1
 subst e
 cases r1
 obtain ⟨its,rv,p,hz⟩:=I1.tuple hq
 refine wpAny_pyIter_tuple (show s1.heap.IsTuple a its.toArray from p) ?_
 refine ⟨s1.heap.objs.size,[s1.heap.objs.size],_,_,H1,rfl,I1.kept (t':=s1.toks) fun b o e=>Fd _ e,vO a _,⟨_,FH _ rfl,rfl,rfl⟩,fun b hb=>?_,q⟩
 have e:b=s1.heap.objs.size:=by simpa using hb
 subst e
 exact I1.fpOk (Fg _) (I1.hok.fresh (Fg _))
theorem yW {pins:List (Fe × Obj)} {σ:St} {H:Hp} {s:Do} {R:It->Hp->Prop} {E:AC->Do->Prop} {lo hi:Int} {t u v:Tok} {tk:Nat} (I:Inv X pins σ H s) (h1 : -(2 ^ 62)<=lo) (h2:lo < 2 ^ 62) (h3 : -(2 ^ 62)<=hi) (h4:hi < 2 ^ 62)
  (q:R (uq lo (hi - lo).toNat) H):wpAny (model X.prog X.w) X.A (pyIter (.ref s.heap.objs.size)) (DW X pins σ tg R) E { s with heap:=s.heap.push { cls:=.type "range",data:=.fields #[.int lo t,.int hi u,.int 1 v] },toks:=tk }:=by
 refine wpAny_pyIter_range (IsRange.new ..) (small_one h1 h2 h3 h4) ?_
 have I1:Inv X pins σ H { s with heap:=s.heap.push { cls:=.type "range",data:=.fields #[.int lo t,.int hi u,.int 1 v] },toks:=tk }:=I.kept fun b o e=>Fd _ e
 refine ⟨(s.heap.push { cls:=.type "range",data:=.fields #[.int lo t,.int hi u,.int 1 v] }).objs.size,[(s.heap.push { cls:=.type "range",data:=.fields #[.int lo t,.int hi u,.int 1 v] }).objs.size],_,_,H,rfl,
  I1.kept (t':=tk) fun b o e=>Fd _ e,vJ _ lo (hi - lo).toNat,?_,fun b hb=>?_,q⟩
 ·have e1:lo+((0:Nat):Int)*1=lo:=by simp
  have e2:(((hi - lo).toNat:Nat):Int) - ((0:Nat):Int)=Builtin.Range.rangeSize lo hi 1:=by rw [rangeSize_one]; split<;>lia
  show IsRangeIter _ _ (lo+((0:Nat):Int)*1) ((((hi - lo).toNat:Nat):Int) - ((0:Nat):Int)) 1
  rw [e1,e2]
  exact FH _ rfl
 ·have e:b=(s.heap.push { cls:=.type "range",data:=.fields #[.int lo t,.int hi u,.int 1 v] }).objs.size:=by simpa using hb
  subst e
  exact I1.fpOk (Fg _) (I1.hok.fresh (Fg _))
noncomputable def Dx (ta:TA):TI:=fun σ H R=>ta σ H fun vs H1=>∃ j:Int,vs=[.int j]/\-(2 ^ 62)<=j/\j < 2 ^ 62/\R (uq 0 j.toNat) H1
theorem fM {a:Gv} {ta:TA} {p pos:Pos} (hg:Gl X "range") (hm:X.mg "range" = none) (ha:PA X [a] ta) (hs:starEach [a] X.env=[(false,eval a X.env)]:=by rfl):PI X tg (.Call (.Name "range" p) [a] [] pos) (Dx ta):=by
 intro pins s σ H R I h
 refine Call_ (jt I hg hm boot_range (GX (aB (ha pos pins s σ H _ I h) fun us s1 ⟨vs,H1,I1,r1,q1⟩=>?_) hs rfl))
 obtain ⟨j,e,q1,q2,q⟩:=q1
 subst e
 cases r1 with
 | cons r rr =>
  cases rr
  obtain ⟨t,rfl⟩:=r
  exact call_range_1 (yW I1 (by lia) (by lia) q1 q2 (by simpa using q))
noncomputable def DZ (wi:TI) (g:TG) (tb:TS):TS:=fun D σ H=>wi σ H fun J H1=>∃ W:Nat->Nat->St->Hp->Prop,(∃ m,W 0 m σ H1)/\∀ i m σ H,W i m σ H ->
 (J.stop i H/\D.nx σ H)\/(J.go i H/\∃ N:St->Hp->Prop,(∀ σ' H',N σ' H'->∃ m',m' < m/\W (i+1) m' σ' H')/\∀ x H',J.yld i H x H'->g x σ H' fun σ2 H2=>tb { D with nx:=N,ct:=N,bk:=D.nx } σ2 H2)
noncomputable def jl (fp:List Fe) (h:GG):List (Fe × Obj):=fp.filterMap fun b=>(h.get? b).map fun o=>(b,o)
theorem fZ {fp:List Fe} {h:GG} {b:Fe} {o:Obj} (hb:b∈fp) (e:h.get? b=some o):(b,o)∈jl fp h:=List.mem_filterMap.mpr ⟨b,hb,by rw [e]; rfl⟩
theorem xF {fp:List Fe} {h:GG} {p:Fe × Obj} (hp:p∈jl fp h):p.1∈fp/\h.get? p.1=some p.2:=by
 obtain ⟨b,hb,e⟩:=List.mem_filterMap.mp hp
 cases q:h.get? b with
 | none=>rw [q] at e; cases e
 | some o =>
  rw [q] at e
  have e':(b,o)=p:=Fw e
  subst e'
  exact ⟨hb,q⟩
theorem Inv.pinned {pins:List (Fe × Obj)} {σ:St} {H:Hp} {s:Do} {fp:List Fe} (I:Inv X pins σ H s) (hf:∀ b∈fp,iz X pins H b) (ho:∀ b∈fp,∃ o,s.heap.get? b=some o/\∀ v,o.data≠.cell v):Inv X (pins++jl fp s.heap) σ H s :=
 I.pins_of fun p hp=>(Hk.mp hp).elim (fun z=>I.pin p (FK _ z)) fun z=>by
  obtain ⟨hb,e⟩:=xF z
  obtain ⟨f0,f1,f2,_⟩:=hf p.1 hb
  obtain ⟨o,e',d⟩:=ho p.1 hb
  rw [e] at e'; cases e'
  exact ⟨e,f0,f1,f2,d⟩
theorem Inv.unpinned {pins pl:List (Fe × Obj)} {σ:St} {H:Hp} {s:Do} (I:Inv X (pins++pl) σ H s):Inv X pins σ H s:=I.pins_of fun p hp=>I.pin p (FK _ (Hi _ hp))
theorem cX {iter:Gv} {body:List Hc} {wi:TI} {g:TG} {tb:TS} {pos:Pos} (hp:PassesOwn (model X.prog X.w) X.A X.env X.xe) (hc:X.calm=true) (hi:PI X tg iter wi) (hg:PG X tg g) (hb:fz X body tb)
  (hs:∀ x,foldedSetIterable iter X.env x=pure x:=by intro _; rfl):PS X (.For tg iter body [] pos) (DZ wi g tb):=by
 intro pins s σ H D I h
 refine wpAny_For (aB (hi pins s σ H _ I h) fun v s1 h1=>aB h1 fun itv s2 h2=>?_) hs
 obtain ⟨it,fp,tn,J,H2,e,I2,T,st2,f2,W,⟨m0,w0⟩,turn⟩:=h2
 subst e
 -- what stays true of the iterator's objects through the loop
 have stat:∀ {H':Hp},(∀ b∈fp,H' b=none)->∀ b∈fp,iz X pins H' b:=fun hn b hb=>⟨hn b hb,(f2 b hb).2⟩
 refine codeAny_forLoop_any (fun n s'=>∃ i σ' H',Inv X pins σ' H' s'/\tn i s'.heap/\(∀ b∈fp,H' b=none)/\W i n σ' H') ?_ m0 ⟨0,σ,H2,I2,st2,fun b hb=>(f2 b hb).1,w0⟩
 rintro n s3 ⟨i,σ3,H3,I3,st3,fr3,w3⟩
 rcases turn i n σ3 H3 w3 with ⟨stop,qn⟩ | ⟨go,N,hN,step⟩
 ·refine HR hp (aB (T.done X rfl rfl rfl hc i pins s3 σ3 H3 X.xe I3 (stat fr3) st3 stop) fun r s4 ⟨hr,I4⟩=>?_)
  subst hr
  exact HQ ⟨σ3,H3,I4,qn⟩
 ·refine HR hp (aB (T.item X rfl rfl rfl hc i pins s3 σ3 H3 X.xe I3 (stat fr3) st3 go) fun r s4 ⟨u,hr,h4⟩=>?_)
  subst hr
  refine HR hp (aB h4 fun _ s5 ⟨x,H5,I5,r5,y5,st5,fr5⟩=>?_)
  have I5':=I5.pinned (stat fr5) (T.obj _ _ st5)
  refine HR hp (aB (hg _ s5 σ3 H5 x u _ I5' r5 (step x H5 y5)) fun _ s6 ⟨σ6,H6,I6,q6⟩=>?_)
  refine HR hp (aB (hb _ s6 σ6 H6 _ I6 q6) fun f s7 q7=>?_)
  have again:∀ {σ7:St} {H7:Hp},Inv X (pins++jl fp s5.heap) σ7 H7 s7->N σ7 H7->∃ m,m < n/\∃ i σ' H',Inv X pins σ' H' s7/\tn i s7.heap/\(∀ b∈fp,H' b=none)/\W i m σ' H':=fun {σ7 H7} I7 n7=>by
   obtain ⟨m',hm,w7⟩:=hN σ7 H7 n7
   refine ⟨m',hm,i+1,σ7,H7,I7.unpinned,T.keep _ _ _ st5 fun b hb o e=>(I7.pin (b,o) (FK _ (FK _ (fZ hb e)))).1,fun b hb=>?_,w7⟩
   obtain ⟨o,e,d⟩:=T.obj _ _ st5 b hb
   exact (I7.pin (b,o) (FK _ (FK _ (fZ hb e)))).2.1
  cases f with
  | next=>obtain ⟨σ7,H7,I7,n7⟩:=q7; exact again I7 n7
  | cont=>obtain ⟨σ7,H7,I7,n7⟩:=q7; exact again I7 n7
  | brk=>obtain ⟨σ7,H7,I7,q7⟩:=q7; exact ⟨σ7,H7,I7.unpinned,q7⟩
  | ret v=>obtain ⟨x7,σ7,H7,I7,r7,q7⟩:=q7; exact ⟨x7,σ7,H7,I7.unpinned,r7,q7⟩
end
theorem gx {K:Fp} {a:Fe} {xs:List V} {g:TG} {tb:TS} {D:Ends} {σ:St} {H:Hp} (Pv:Nat->St->Hp->Prop) (h0:Pv 0 σ H) (hl:∀ i σ H,i<=xs.length->Pv i σ H->av K H a xs)
  (hs:∀ i x σ H,xs[i]? = some x->Pv i σ H->g x σ H fun σ2 H2=>tb { D with nx:=Pv (i+1),ct:=Pv (i+1),bk:=D.nx } σ2 H2) (hd:∀ σ H,Pv xs.length σ H->D.nx σ H) :
  ∃ W:Nat->Nat->St->Hp->Prop,(∃ m,W 0 m σ H)/\∀ i m σ H,W i m σ H ->
   ((sS K a).stop i H/\D.nx σ H)\/((sS K a).go i H/\∃ N:St->Hp->Prop,(∀ σ' H',N σ' H'->∃ m',m' < m/\W (i+1) m' σ' H')/\∀ x H',(sS K a).yld i H x H'->g x σ H' fun σ2 H2=>tb { D with nx:=N,ct:=N,bk:=D.nx } σ2 H2):=by
 refine ⟨fun i m σ H=>m=xs.length - i/\i<=xs.length/\Pv i σ H,⟨xs.length,by simp,Fy _,h0⟩,?_⟩
 rintro i m σ H ⟨rfl,hi,p⟩
 have q:=hl i σ H hi p
 by_cases hlt:i < xs.length
 ·refine .inr ⟨⟨xs,xs[i],q,by simp [hlt]⟩,Pv (i+1),fun σ' H' p'=>⟨xs.length - (i+1),by lia,rfl,hlt,p'⟩,fun x H' y=>?_⟩
  obtain ⟨e,y⟩:=y
  subst e
  exact hs i x σ _ (y xs q) p
 ·have e:i=xs.length:=by lia
  subst e
  exact .inl ⟨⟨xs,q,Fg _⟩,hd σ H p⟩
theorem fP {lo:Int} {n:Nat} {g:TG} {tb:TS} {D:Ends} {σ:St} {H:Hp} (Pv:Nat->St->Hp->Prop) (h0:Pv 0 σ H)
  (hs:∀ i σ H,i < n->Pv i σ H->g (.int (lo+i)) σ H fun σ2 H2=>tb { D with nx:=Pv (i+1),ct:=Pv (i+1),bk:=D.nx } σ2 H2) (hd:∀ σ H,Pv n σ H->D.nx σ H) :
  ∃ W:Nat->Nat->St->Hp->Prop,(∃ m,W 0 m σ H)/\∀ i m σ H,W i m σ H ->
   ((uq lo n).stop i H/\D.nx σ H)\/((uq lo n).go i H/\∃ N:St->Hp->Prop,(∀ σ' H',N σ' H'->∃ m',m' < m/\W (i+1) m' σ' H')/\∀ x H',(uq lo n).yld i H x H'->g x σ H' fun σ2 H2=>tb { D with nx:=N,ct:=N,bk:=D.nx } σ2 H2):=by
 refine ⟨fun i m σ H=>m=n - i/\i<=n/\Pv i σ H,⟨n,by simp,Fy _,h0⟩,?_⟩
 rintro i m σ H ⟨rfl,hi,p⟩
 by_cases hlt:i < n
 ·refine .inr ⟨hlt,Pv (i+1),fun σ' H' p'=>⟨n - (i+1),by lia,rfl,hlt,p'⟩,fun x H' y=>?_⟩
  obtain ⟨e,y⟩:=y
  subst e y
  exact hs i σ _ hlt p
 ·have e:i=n:=by lia
  subst e
  exact .inl ⟨Fg _,hd σ H p⟩
end L2
namespace L2
open PySem PySem.Spec PyProof.Rows
noncomputable abbrev R2:=V->V->Hp->VK->Prop
def fL (X:Cx) (f:AC->AC->Sem AC) (r:R2):Prop :=
 ∀ (pins:List (Fe × Obj)) (s:Do) (σ:St) (H:Hp) (x y:V) (v u:AC) (Q:VK),Inv X pins σ H s->RelV x v->RelV y u->r x y H Q ->
  wpAny (model X.prog X.w) X.A (f v u) (EP X pins σ Q) X.xe s
def ij (X:Cx) (f:AC) (r:List V->Hp->VK->Prop):Prop :=
 ∀ (pins:List (Fe × Obj)) (s:Do) (σ:St) (H:Hp) (xs:List V) (us:List AC) (Q:VK),Inv X pins σ H s->Vals xs us->r xs H Q ->
  wpAny (model X.prog X.w) X.A (call f us) (EP X pins σ Q) X.xe s
noncomputable def xI (r:R2) (ta tb:TE):TE:=fun σ H Q=>ta σ H fun x H1=>tb σ H1 fun y H2=>r x y H2 Q
noncomputable def rI (C:Int->Int->Prop) (g:Int->Int->V):R2:=fun x y H Q=>∃ i j,x = .int i/\y = .int j/\C i j/\Q (g i j) H
noncomputable def wD (g:Int->Int->V):R2:=fun x y H Q=>∃ i j,x = .int i/\y = .int j/\Q (g i j) H
section
variable {X:Cx} {a b c:Gv} {ta tb tc:TE} {pos:Pos}
theorem yy (ha:PE X a ta) (hb:PE X b tb) {pins:List (Fe × Obj)} {s:Do} {σ:St} {H:Hp} {R:V->V->Hp->Prop} (I:Inv X pins σ H s)
  (h:ta σ H fun x H1=>tb σ H1 fun y H2=>R x y H2) {Q:AC->Do->Prop} {f:AC->AC->Sem AC}
  (hf:∀ v u s2 x y H2,Inv X pins σ H2 s2->RelV x v->RelV y u->R x y H2->wpAny (model X.prog X.w) X.A (f v u) Q X.xe s2) :
  wpAny (model X.prog X.w) X.A (eval a X.env) (fun v s₁=>wpAny (model X.prog X.w) X.A (eval b X.env) (fun u s₂=>wpAny (model X.prog X.w) X.A (f v u) Q X.xe s₂) X.xe s₁) X.xe s:=by
 refine aB (ha pins s σ H _ I h) fun v s1 ⟨x,H1,I1,r1,q1⟩=>?_
 refine aB (hb pins s1 σ H1 _ I1 q1) fun u s2 ⟨y,H2,I2,r2,q2⟩=>?_
 exact hf v u s2 x y H2 I2 r1 r2 q2
theorem aI {op:Operator} {r:R2} (ho:fL X (binaryOp op) r) (ha:PE X a ta) (hb:PE X b tb):PE X (.BinOp a op b pos) (xI r ta tb):=by
 intro pins s σ H Q I h
 exact wpAny_BinOp (yy ha hb I h fun v u s2 x y H2 I2 rx ry q=>ho pins s2 σ H2 x y v u Q I2 rx ry q)
theorem AH {f:AC->AC->Sem AC} {C:Int->Int->Prop} {g:Int->Int->Int}
  (rule:∀ (i j:Int) (t u:Tok) (s:Do) (Q:AC->Do->Prop) (E:AC->Do->Prop),C i j->Q (.int (g i j) s.toks) { s with toks:=s.toks+1 }->wpAny (model X.prog X.w) X.A (f (.int i t) (.int j u)) Q E s) :
  fL X f (rI C fun i j=>.int (g i j)):=by
 intro pins s σ H x y v u Q I rx ry h
 obtain ⟨i,j,rfl,rfl,hc,q⟩:=h
 obtain ⟨t,rfl⟩:=rx
 obtain ⟨t',rfl⟩:=ry
 exact rule i j t t' s _ _ hc ⟨.int (g i j),H,I.tok _,⟨_,rfl⟩,q⟩
theorem AO {f:AC->AC->Sem AC} {g:Int->Int->Int}
  (rule:∀ (i j:Int) (t u:Tok) (s:Do) (Q:AC->Do->Prop) (E:AC->Do->Prop),Q (.int (g i j) s.toks) { s with toks:=s.toks+1 }->wpAny (model X.prog X.w) X.A (f (.int i t) (.int j u)) Q E s) :
  fL X f (wD fun i j=>.int (g i j)):=by
 intro pins s σ H x y v u Q I rx ry h
 obtain ⟨i,j,rfl,rfl,q⟩:=h
 obtain ⟨t,rfl⟩:=rx
 obtain ⟨t',rfl⟩:=ry
 exact rule i j t t' s _ _ ⟨.int (g i j),H,I.tok _,⟨_,rfl⟩,q⟩
theorem Ek {f:AC->AC->Sem AC} {g:Int->Int->Bool}
  (rule:∀ (i j:Int) (t u:Tok) (s:Do) (Q:AC->Do->Prop) (E:AC->Do->Prop),Q (.bool (g i j)) s->wpAny (model X.prog X.w) X.A (f (.int i t) (.int j u)) Q E s) :
  fL X f (wD fun i j=>.bl (g i j)):=by
 intro pins s σ H x y v u Q I rx ry h
 obtain ⟨i,j,rfl,rfl,q⟩:=h
 obtain ⟨t,rfl⟩:=rx
 obtain ⟨t',rfl⟩:=ry
 exact rule i j t t' s _ _ ⟨.bl (g i j),H,I,rfl,q⟩
def yd (i j:Int):Prop:=(-(2 ^ 64) < i/\i < 2 ^ 64)\/(-(2 ^ 64) < j/\j < 2 ^ 64)
theorem yd.ok {i j:Int} (h:yd i j):IntMulOk i j:=by
 rcases h with ⟨h1,h2⟩ | ⟨h1,h2⟩
 ·exact .of_left (intBits_le_64 h1 h2)
 ·exact .of_right (intBits_le_64 h1 h2)
theorem jh:fL X (binaryOp .Add) (wD fun i j=>.int (i+j)):=AO fun _ _ _ _ _ _ _ q=>add_int q
theorem Bb:fL X (binaryOp .Sub) (wD fun i j=>.int (i - j)):=AO fun _ _ _ _ _ _ _ q=>sub_int q
theorem iN:fL X (binaryOp .Mult) (rI yd fun i j=>.int (i*j)):=AH fun _ _ _ _ _ _ _ hc q=>mul_int q hc.ok
theorem d5:fL X (binaryOp .Mod) (rI (fun _ j=>0 < j) fun i j=>.int (i % j)):=AH fun i j _ _ _ _ _ hc q=>by
 have h1:(0:Int) < j:=hc
 exact mod_int' (by lia) (by rw [Int.fmod_eq_emod_of_nonneg i (by lia)]; exact q)
end
noncomputable def CT:V->V->Bool
 | .non,.non=>true | .non,.int _=>true | .int _,.non=>true | .non,.bl _=>true | .bl _,.non=>true | .non,.str _=>true | .str _,.non=>true
 | .int _,.int _=>true | .bl _,.bl _=>true | .str _,.str _=>true | .byt _,.byt _=>true
 | .int _,.str _=>true | .str _,.int _=>true | .bl _,.str _=>true | .str _,.bl _=>true
 | _,_=>false
noncomputable def EH:R2:=fun x y H Q=>CT x y=true/\Q (.bl (decide (x=y))) H
noncomputable def ED:R2:=fun x y H Q=>CT x y=true/\Q (.bl (!decide (x=y))) H
theorem pD {i j:Int}:decide (V.int i=V.int j)=(i == j):=by
 rw [ID]
 simp
theorem xR {i j:Bool}:decide (V.bl i=V.bl j)=(i == j):=by
 rw [ID]
 simp
theorem uy {i j:Str}:decide (V.str i=V.str j)=(i == j):=by
 rw [ID]
 simp
theorem t8 {i j:Array UInt8}:decide (V.byt i=V.byt j)=(i.toList == j.toList):=by
 rw [ID]
 cases i
 cases j
 simp
section
variable {X:Cx} {a b c:Gv} {ta tb tc:TE} {pos:Pos}
theorem aS {pins:List (Fe × Obj)} {σ:St} {H:Hp} {s:Do} {Q:VK} {k k':Bool} (I:Inv X pins σ H s) (q:Q (.bl k) H) (e:k=k'):EP X pins σ Q (.bool k') s:=by
 subst e
 exact ⟨.bl k,H,I,rfl,q⟩
theorem cB:fL X (compareOp .Eq) EH:=by
 intro pins s σ H x y v u Q I rx ry h
 obtain ⟨hs,q⟩:=h
 cases x with
 | non =>
  cases rx
  cases y with
  | non=>cases ry; exact PySem.EqNone.eq_none_none (aS I q (by simp))
  | bl j=>cases ry; exact PySem.EqNone.eq_none_bool (aS I q (by simp))
  | int j=>obtain ⟨t',rfl⟩:=ry; exact PySem.EqNone.eq_none_int (aS I q (by simp))
  | str j=>obtain ⟨t',rfl⟩:=ry; exact PySem.EqNone.eq_none_str (aS I q (by simp))
  | _=>exact absurd (show false=true from hs) FC
 | bl i =>
  cases rx
  cases y with
  | non=>cases ry; exact PySem.EqNone.eq_bool_none (aS I q (by simp))
  | bl j=>cases ry; exact eq_bool (aS I q xR)
  | str j=>obtain ⟨t',rfl⟩:=ry; exact PySem.EqMixed.eq_bool_str (aS I q (by simp))
  | _=>exact absurd (show false=true from hs) FC
 | int i =>
  obtain ⟨t,rfl⟩:=rx
  cases y with
  | non=>cases ry; exact PySem.EqNone.eq_int_none (aS I q (by simp))
  | int j=>obtain ⟨t',rfl⟩:=ry; exact eq_int (aS I q pD)
  | str j=>obtain ⟨t',rfl⟩:=ry; exact PySem.EqMixed.eq_int_str (aS I q (by simp))
  | _=>exact absurd (show false=true from hs) FC
 | str i =>
  obtain ⟨t,rfl⟩:=rx
  cases y with
  | non=>cases ry; exact PySem.EqNone.eq_str_none (aS I q (by simp))
  | bl j=>cases ry; exact PySem.EqMixed.eq_str_bool (aS I q (by simp))
  | int j=>obtain ⟨t',rfl⟩:=ry; exact PySem.EqMixed.eq_str_int (aS I q (by simp))
  | str j=>obtain ⟨t',rfl⟩:=ry; exact eq_str (aS I q uy)
  | _=>exact absurd (show false=true from hs) FC
 | byt i =>
  obtain ⟨t,rfl⟩:=rx
  cases y with
  | byt j=>obtain ⟨t',rfl⟩:=ry; exact PySem.W.eq_bytes (aS I q t8)
  | _=>exact absurd (show false=true from hs) FC
 | _=>cases y<;>exact absurd (show false=true from hs) FC
theorem jC:fL X (compareOp .NotEq) ED:=by
 intro pins s σ H x y v u Q I rx ry h
 obtain ⟨hs,q⟩:=h
 cases x with
 | non =>
  cases rx
  cases y with
  | non=>cases ry; exact PySem.EqNone.ne_none_none (aS I q (by simp))
  | bl j=>cases ry; exact PySem.EqNone.ne_none_bool (aS I q (by simp))
  | int j=>obtain ⟨t',rfl⟩:=ry; exact PySem.EqNone.ne_none_int (aS I q (by simp))
  | str j=>obtain ⟨t',rfl⟩:=ry; exact PySem.EqNone.ne_none_str (aS I q (by simp))
  | _=>exact absurd (show false=true from hs) FC
 | bl i =>
  cases rx
  cases y with
  | non=>cases ry; exact PySem.EqNone.ne_bool_none (aS I q (by simp))
  | bl j=>cases ry; exact ne_bool (aS I q (congrArg not xR))
  | str j=>obtain ⟨t',rfl⟩:=ry; exact PySem.EqMixed.ne_bool_str (aS I q (by simp))
  | _=>exact absurd (show false=true from hs) FC
 | int i =>
  obtain ⟨t,rfl⟩:=rx
  cases y with
  | non=>cases ry; exact PySem.EqNone.ne_int_none (aS I q (by simp))
  | int j=>obtain ⟨t',rfl⟩:=ry; exact ne_int (aS I q (congrArg not pD))
  | str j=>obtain ⟨t',rfl⟩:=ry; exact PySem.EqMixed.ne_int_str (aS I q (by simp))
  | _=>exact absurd (show false=true from hs) FC
 | str i =>
  obtain ⟨t,rfl⟩:=rx
  cases y with
  | non=>cases ry; exact PySem.EqNone.ne_str_none (aS I q (by simp))
  | bl j=>cases ry; exact PySem.EqMixed.ne_str_bool (aS I q (by simp))
  | int j=>obtain ⟨t',rfl⟩:=ry; exact PySem.EqMixed.ne_str_int (aS I q (by simp))
  | str j=>obtain ⟨t',rfl⟩:=ry; exact ne_str (aS I q (congrArg not uy))
  | _=>exact absurd (show false=true from hs) FC
 | byt i =>
  obtain ⟨t,rfl⟩:=rx
  cases y with
  | byt j=>obtain ⟨t',rfl⟩:=ry; exact PySem.W.ne_bytes (aS I q (congrArg not t8))
  | _=>exact absurd (show false=true from hs) FC
 | _=>cases y<;>exact absurd (show false=true from hs) FC
theorem zl:fL X (compareOp .Gt) (wD fun i j=>.bl (decide (j < i))):=Ek fun _ _ _ _ _ _ _ q=>gt_int q
theorem xV:fL X (compareOp .In) (fun x y H Q=>∃ i j,x = .str i/\y = .str j/\Q (.bl (!(Builtin.Str.occurrences j i 0 j.length 1).isEmpty)) H):=by
 intro pins s σ H x y v u Q I rx ry h
 obtain ⟨i,j,rfl,rfl,q⟩:=h
 obtain ⟨t,rfl⟩:=rx
 obtain ⟨t',rfl⟩:=ry
 exact in_str (aS I q rfl)
theorem CO:fL X (compareOp .Is) (fun x y H Q=>y = .non/\Q (.bl (decide (x = .non))) H):=by
 intro pins s σ H x y v u Q I rx ry h
 obtain ⟨rfl,q⟩:=h
 cases ry
 refine is_none_gen (aS I q ?_)
 cases x<;>first
  | (cases rx; rfl)
  | (obtain ⟨t,rfl⟩:=rx; rfl)
theorem aL (b:Gv) {op:CmpOp} (h:op≠.In:=by decide) (h2:op≠.NotIn:=by decide):behindInMarks op b=false:=by
 have e1:(op == CmpOp.In)=false:=by cases op<;>first | rfl | exact absurd rfl h
 have e2:(op == CmpOp.NotIn)=false:=by cases op<;>first | rfl | exact absurd rfl h2
 cases b<;>simp [behindInMarks,e1,e2]
theorem jn {op:CmpOp} {r:R2} (ho:fL X (compareOp op) r) (ha:PE X a ta) (hb:PE X b tb) (hm:behindInMarks op b=false):PE X (.Compare a [op] [b] pos) (xI r ta tb):=by
 intro pins s σ H Q I h
 exact wpAny_Compare1 (yy ha hb I h fun v u s2 x y H2 I2 rx ry q=>ho pins s2 σ H2 x y v u Q I2 rx ry q) hm
noncomputable def Dm (t:TE):TT:=fun σ H Q=>t σ H fun x H'=>∃ k,x = .bl k/\Q k H'
theorem aH {op:CmpOp} {r:R2} (ho:fL X (compareOp op) r) (ha:PE X a ta) (hb:PE X b tb) (hm:behindInMarks op b=false):PT X (.Compare a [op] [b] pos) (Dm (xI r ta tb)):=by
 intro pins s σ H Q I h
 refine wpAny_isTrue_Compare1 (aB (ha pins s σ H _ I h) fun v s1 ⟨x,H1,I1,r1,q1⟩=>aB (hb pins s1 σ H1 _ I1 q1) fun u s2 ⟨y,H2,I2,r2,q2⟩ =>
  aB (ho pins s2 σ H2 x y v u _ I2 r1 r2 q2) fun c s3 ⟨z,H3,I3,r3,k,e,q3⟩=>?_) hm
 subst e
 cases r3
 exact Hl ⟨H3,I3,q3⟩
theorem n8:(sizeLine:Nat) < 2 ^ 63:=by rw [HK]; decide
theorem fg:fL X (binaryOp .Add) (fun x y H Q=>∃ i j,x = .str i/\y = .str j/\i.length+j.length<=sizeLine/\Q (.str (i++j)) H):=by
 intro pins s σ H x y v u Q I rx ry h
 obtain ⟨i,j,rfl,rfl,hz,q⟩:=h
 obtain ⟨t,rfl⟩:=rx
 obtain ⟨t',rfl⟩:=ry
 exact add_str (fun t' tk=>⟨.str (i++j),H,I.tok _,⟨_,rfl⟩,q⟩) hz
theorem vals1 {x:V} {us:List AC} (r:Vals [x] us):∃ u,us=[u]/\RelV x u:=by
 cases r with
 | cons r1 r2=>cases r2; exact ⟨_,rfl,r1⟩
theorem vals2 {x y:V} {us:List AC} (r:Vals [x,y] us):∃ u w',us=[u,w']/\RelV x u/\RelV y w':=by
 cases r with
 | cons r1 r2 =>
  cases r2 with
  | cons r3 r4=>cases r4; exact ⟨_,_,rfl,r1,r3⟩
end
end L2
namespace L2
open PySem PySem.Spec PyProof.Rows
structure mZ (h:GG) (x dx C:Fe) (mA:Str->Option AC):Prop where
 obj:h.get? x=some (GV C dx)
 ns:h.Ns1 dx mA
 ne:dx≠x
theorem qr {h:GG} {dx:Fe} {mA:Str->Option AC} (n:h.Ns1 dx mA):∃ od,h.get? dx=some od/\∀ name,IV name od=some (mA name):=by
 obtain ⟨o,es,ep,ho,hd,hk,_,hm⟩:=n
 refine ⟨o,ho,fun name=>?_⟩
 have e:=hm name
 unfold nsFind findBy at e
 rw [<- Array.find?_toList] at e
 unfold IV
 rw [hd]
 dsimp only
 split
 ·rename_i y q
  rw [q] at e
  exact congrArg some e
 ·rename_i q
  rw [q] at e
  have a:es.toList.any (·.refKey)=false:=by
   rw [List.any_eq_false]
   intro y hy
   obtain ⟨z,t,hkey⟩:=hk y (Array.mem_toList_iff.mp hy)
   simp [DictEntry.refKey,hkey]
  have a':¬ es.toList.any (·.refKey)=true:=by rw [a]; exact FC
  rw [if_neg a']
  exact congrArg some e
theorem mZ.look {h:GG} {x dx C:Fe} {mA:Str->Option AC} (I:mZ h x dx C mA):∃ od,PySem.W.InstAt h x (GV C dx) C (some od)/\∀ name,IV name od=some (mA name) :=
 let ⟨od,ho,hl⟩:=qr I.ns
 ⟨od,⟨I.obj,rfl,rfl,ho⟩,hl⟩
section
variable {prog:FG} {w:FU} {A:Gd} {E:AC->Do->Prop} {s:Do} {K:Fp} {x dx C f:Fe} {mA:Str->Option AC} {name:Str} {v:AC}
theorem get_map {expr:Bool} {Q:AC->Do->Prop} (X:K.In s.heap) (I:mZ s.heap x dx C mA) (hg:Iv K C name=true) (hh:I0 K C=true)
  (ha:GK K (.ref C) name=some none) (hv:mA name=some v) (hv':PySem.W.handedIn v=true) (h:Q v { s with toks:=s.toks+1 }) :
  wpAny (model prog w) A (getAttr (.ref x) name expr) Q E s:=by
 obtain ⟨od,J,hl⟩:=I.look
 exact PySem.W.get_value X J (IE hg).1 (PySem.W.findObj_own hh ha rfl (by rw [hl,hv])) hv' h
theorem ye {pl:Sem Bool} {Q:AC × List AC->Do->Prop} (X:K.In s.heap) (I:mZ s.heap x dx C mA) (hg:Iv K C name=true)
  (hf:GK K (.ref C) name=some (some (.ref f))) (ht:Kb K (.ref f)=true) (hv:mA name=none) (h:Q (.ref f,[.ref x]) s) :
  wpAny (model prog w) A (getMethod (.ref x) name pl) Q E s:=by
 obtain ⟨od,J,hl⟩:=I.look
 exact PySem.W.method_fn X J (IE hg).1 (IE hg).2 hf (beq_iff_eq.mp ht) (by show (IV name od).map (·.isSome)=some false; rw [hl,hv]; rfl) h
theorem zt {ns:List Str} {Q:Unit->Do->Prop} (X:K.In s.heap) (I:mZ s.heap x dx C mA)
  (hs:GK K (.ref C) "__setattr__" = some (some (.builtin "object.__setattr__"))) (hp:PySem.W.plainOver K C=true) (ht:Jt K C name=some none) (hh:I0 K C=true)
  (hw:Ka mA ns) (hsz:ns.length<=sizeLine)
  (h:∀ h',mZ h' x dx C (fun y=>if y=name then some v else mA y)->Hb dx s.heap h'->Q () { s with heap:=h',toks:=s.toks+2 }) :
  wpAny (model prog w) A (setAttr (.ref x) name v) Q E s:=by
 obtain ⟨od,J,hl⟩:=I.look
 refine PySem.W.set_plain X J hs (PySem.W.osa_open (s:={ s with toks:=s.toks+1 }) (r:=none) X J hp ht fun b=>?_)
 obtain ⟨cd,hc,hd'⟩:=PySem.W.any_some hh
 have hx:s.heap.get? x=some ⟨.ref C,some dx,.plain,#[]⟩:=I.obj
 refine Da (Ft (Da (Da (wpAny_loadPart hx (Da (PySem.W.Looks.here (s:={ s with toks:=s.toks+1 }) (PySem.W.looks_clsIn X hc) ?_))))))
 rw [hd']
 refine Ft (a:=some dx) (Da (Ft (Da ?_)))
 refine wpAny_nsSet1 (s:={ s with toks:=s.toks+1 }) I.ns fun h' hn2 hs2=>?_
 obtain ⟨oD,esD,epD,hoD,hdD,hcD⟩:=hn2.count (PySem.Within.cons name v hw)
 refine Da (wpAny_lookBehind hoD (by rw [hdD]; exact pastItsLine_dict (FW hcD (by rw [Gg]; lia))) ?_)
 exact Ft (h _ ⟨(hs2.2 _ (Gk I.ne)).trans I.obj,hn2,I.ne⟩ hs2)
theorem yL {R:Result->Do->Prop} {vs:List AC} {kw:List (Str × AC)} (X:K.In s.heap) (hm:PySem.W.makesIn K C=true)
  (hi:GK K (.ref C) "__init__" = some (some (.ref f))) (hf:PySem.W.typeIn K (.ref f)=some (.type "function"))
  (h:codeAny (model prog w) (A.under (.builtin "type.__call__" ⟨.ref C::vs,kw⟩)) (.call (.ref f) ⟨.ref (s.heap.objs.size+1)::vs,kw⟩) (PySem.W.InitBack (s.heap.objs.size+1) R)
   { s with heap:=(s.heap.push GA).push (GV C s.heap.objs.size) }) :
  codeAny (model prog w) A (.call (.ref C) ⟨vs,kw⟩) R s:=by
 obtain ⟨hh,g,d,t,os⟩:=s
 exact PySem.W.make_core (PySem.W.makes_of X hm) (PySem.W.looks_findIn X hi) (fun self=>PySem.W.bind_fn X self hf) (.inl rfl) h
end
noncomputable def fJ (f:Str) (v:V):List (Str × V)->List (Str × V)
 | []=>[(f,v)]
 | (g,x)::r=>if g=f then (g,v)::r else (g,x)::fJ f v r
theorem dP (f g:Str) (v:V):∀ fs:List (Str × V),(fJ f v fs).lookup g=if g=f then some v else fs.lookup g
 | []=>by
  show Hg g [(f,v)]=_
  by_cases h:g=f
  ·have hb:(g == f)=true:=beq_iff_eq.mpr h
   simp only [Hg,hb,if_pos h]
  ·have hb:(g == f)=false:=beq_eq_false_iff_ne.mpr h
   simp only [Hg,hb,if_neg h]
 | (k,x)::r=>by
  have ih:=dP f g v r
  rw [show fJ f v ((k,x)::r)=(if k=f then (k,v)::r else (k,x)::fJ f v r) from rfl]
  by_cases hk:k=f
  ·rw [if_pos hk]
   by_cases h:g=k
   ·have hb:(g == k)=true:=beq_iff_eq.mpr h
    simp only [Hg,hb,if_pos (h.trans hk)]
   ·have hb:(g == k)=false:=beq_eq_false_iff_ne.mpr h
    simp only [Hg,hb,if_neg (fun e:g=f=>h (e.trans hk.symm))]
  ·rw [if_neg hk]
   by_cases h:g=k
   ·have hb:(g == k)=true:=beq_iff_eq.mpr h
    simp only [Hg,hb,if_neg (fun e:g=f=>hk (h.symm.trans e))]
   ·have hb:(g == k)=false:=beq_eq_false_iff_ne.mpr h
    simp only [Hg,hb]
    exact ih
theorem kO (f:Str) (v:V):∀ fs:List (Str × V),f∈(fJ f v fs).map (·.1)/\∀ g,g∈fs.map (·.1)->g∈(fJ f v fs).map (·.1)
 | []=>⟨by simp [fJ],fun g h=>by simp at h⟩
 | (k,x)::r=>by
  obtain ⟨i1,i2⟩:=kO f v r
  rw [show fJ f v ((k,x)::r)=(if k=f then (k,v)::r else (k,x)::fJ f v r) from rfl]
  by_cases hk:k=f
  ·rw [if_pos hk]
   subst hk
   exact ⟨by simp,fun g h=>by simpa using h⟩
  ·rw [if_neg hk]
   refine ⟨?_,fun g h=>?_⟩
   ·rw [FO]
    exact FI _ i1
   ·rw [FO] at h |-
    rcases FB.mp h with e | e
    ·exact FB.mpr (.inl e)
    ·exact FI _ (i2 g e)
theorem mJ (f:Str) (v:V):∀ fs:List (Str × V),(fJ f v fs).length<=fs.length+1
 | []=>by simp [fJ]
 | (k,x)::r=>by
  have ih:=mJ f v r
  rw [show fJ f v ((k,x)::r)=(if k=f then (k,v)::r else (k,x)::fJ f v r) from rfl]
  by_cases hk:k=f
  ·rw [if_pos hk,Gg,Gg]; lia
  ·rw [if_neg hk,Gg,Gg]; lia
theorem eB.some_of {v:V} {o:Option AC} (r:eB (some v) o):∃ u,o=some u/\RelV v u:=by
 cases o with
 | none=>exact (show False from r).elim
 | some u=>exact ⟨u,rfl,r⟩
theorem eB.none_of {o:Option AC} (r:eB none o):o=none:=by
 cases o with
 | none=>rfl
 | some u=>exact (show False from r).elim
theorem qq {v:V} {u:AC} (r:RelV v u):PySem.W.handedIn u=true:=by
 cases v with
 | non=>cases (show u=GE from r); rfl
 | bl b=>cases (show u=Ig b from r); rfl
 | int i=>obtain ⟨t,e⟩:=(show ∃ t,u=JO i t from r); cases e; rfl
 | str x=>obtain ⟨t,e⟩:=(show ∃ t,u=IB x t from r); cases e; rfl
 | byt b=>obtain ⟨t,e⟩:=(show ∃ t,u=Value.bytes b t from r); cases e; rfl
 | flt b=>obtain ⟨t,e⟩:=(show ∃ t,u=Value.float b t from r); cases e; rfl
 | ref a=>cases (show u=Fv a from r); rfl
 | ty n=>cases (show u=IA n from r); rfl
section
variable {P:FG} {w:FU} {H H':Hp} {h h':GG} {a C dx:Fe} {fs fs':List (Str × V)}
theorem lP (hok:bS P w H h) (e:H a=some (.ins C dx fs)):∃ mA,mZ h a dx C mA/\(∀ f,eB (fs.lookup f) (mA f))/\Ka mA (fs.map (·.1))/\fs.length<=1000/\H dx=some (.own a):=by
 obtain ⟨d,z,ne,ob,mA,n,r,q⟩:=(show aJ P w H h a (.ins C dx fs) from hok a _ e)
 exact ⟨mA,⟨ob,n,ne⟩,r,q,z,d⟩
end
structure eW (K:Fp) (C:Fe):Prop where
 pg:Iv K C GQ=true
 hd:I0 K C=true
 po:PySem.W.plainOver K C=true
 sa:GK K (.ref C) "__setattr__" = some (some (.builtin "object.__setattr__"))
theorem eW.get {K:Fp} {C:Fe} (c:eW K C) (f:Str):Iv K C f=true:=c.pg
def aM (K:Fp) (C:Fe) (f:Str):Prop:=GK K (.ref C) f=some none
theorem aM.taker {K:Fp} {C:Fe} {f:Str} (n:aM K C f):Jt K C f=some none:=by
 unfold Jt
 rw [show GK K (.ref C) f=some none from n]
 rfl
structure Meth (K:Fp) (C:Fe) (m:Str) (f:Fe):Prop where
 at_:GK K (.ref C) m=some (some (.ref f))
 fn:Kb K (.ref f)=true
 kp:IW K (.ref f)=true
section
variable {X:Cx} {pins:List (Fe × Obj)} {σ:St} {H:Hp} {s:Do} {a C dx:Fe} {fs:List (Str × V)} {f:Str} {v:V} {A:Gd} {E:AC->Do->Prop}
theorem uQ {b:Bool} {Q:AC->Do->Prop} (I:Inv X pins σ H s) (e:H a=some (.ins C dx fs)) (c:eW X.K C) (n:aM X.K C f) (l:fs.lookup f=some v)
  (h:∀ u s',Inv X pins σ H s'->RelV v u->Q u s'):wpAny (model X.prog X.w) A (getAttr (.ref a) f b) Q E s:=by
 obtain ⟨mA,O,r,_,_,_⟩:=lP I.hok e
 obtain ⟨u,hu,ru⟩:=eB.some_of (v:=v) (o:=mA f) (by rw [<- l]; exact r f)
 exact get_map I.kIn O (c.get f) c.hd n hu (qq ru) (h u _ (I.tok _) ru)
theorem wy {m:Str} {g:Fe} {pl:Sem Bool} {Q:AC × List AC->Do->Prop} (I:Inv X pins σ H s) (e:H a=some (.ins C dx fs)) (c:eW X.K C) (k:Meth X.K C m g) (l:fs.lookup m=none)
  (h:Q (.ref g,[.ref a]) s):wpAny (model X.prog X.w) A (getMethod (.ref a) m pl) Q E s:=by
 obtain ⟨mA,O,r,_,_,_⟩:=lP I.hok e
 have hn:mA m=none:=eB.none_of (by rw [<- l]; exact r m)
 exact ye I.kIn O (c.get m) k.at_ k.fn hn h
theorem uT {y:V} {u:AC} {Q:Unit->Do->Prop} (I:Inv X pins σ H s) (e:H a=some (.ins C dx fs)) (c:eW X.K C) (n:aM X.K C f) (hl:fs.length < 1000) (ry:RelV y u)
  (h:∀ s',Inv X pins σ (upd H a (.ins C dx (fJ f y fs))) s'->Q () s'):wpAny (model X.prog X.w) A (setAttr (.ref a) f u) Q E s:=by
 obtain ⟨mA,O,r,wi,_,ho⟩:=lP I.hok e
 have hz:(fs.map (·.1)).length<=sizeLine:=by rw [Ff,HK]; lia
 refine zt I.kIn O c.sa c.po n.taker c.hd wi hz fun h' O' sb=>h _ ?_
 have hd:∃ o,h'.get? dx=some o:=let ⟨o,_,_,e',_⟩:=O'.ns; ⟨o,e'⟩
 refine I.write (x:=a) (e:=dx) (by rw [e]; exact GO) (.inr ho) (fun b q hb z=>(sb.2 b hb).trans z) hd ?_
 refine ⟨by rw [aq O.ne]; exact ho,?_,O.ne,O'.obj,_,O'.ns,fun g=>?_,fun g hg=>?_⟩
 ·have:=mJ f y fs; lia
 ·show eB ((fJ f y fs).lookup g) (if g=f then some u else mA g)
  rw [dP]
  by_cases q:g=f
  ·rw [if_pos q,if_pos q]; exact ry
  ·rw [if_neg q,if_neg q]; exact r g
 ·by_cases q:g=f
  ·rw [q]; exact (kO f y fs).1
  ·refine (kO f y fs).2 g (wi g fun z=>hg ?_)
   show (if g=f then some u else mA g)=none
   rw [if_neg q]; exact z
theorem Inv.made (I:Inv X pins σ H s):Inv X pins σ (upd (upd H s.heap.objs.size (.own (s.heap.objs.size+1))) (s.heap.objs.size+1) (.ins C s.heap.objs.size []))
  { s with heap:=(s.heap.push GA).push (GV C s.heap.objs.size) }:=by
 have e1:(s.heap.push GA).get? s.heap.objs.size=some GA:=FH s.heap rfl
 have e2:((s.heap.push GA).push (GV C s.heap.objs.size)).get? (s.heap.objs.size+1)=some (GV C s.heap.objs.size):=by
  have:=FH (s.heap.push GA) (o:=GV C s.heap.objs.size) rfl
  rwa [HH] at this
 have e3:(s.heap.push GA).Ns s.heap.objs.size (fun _=>none):=⟨GA,#[],_,e1,rfl,(fun e he=>absurd he (by simp)),fun _=>rfl⟩
 have I1:=I.laid (a:=s.heap.objs.size) (o:=.own (s.heap.objs.size+1)) (h':=s.heap.push GA) (t':=s.toks) (fun b u q=>Fd _ q) (Fg _) ⟨_,e1⟩
 refine I1.laid (a:=s.heap.objs.size+1) (o:=.ins C s.heap.objs.size []) (t':=s.toks) (fun b u q=>Fd _ q) (Ju (HH _ _)) ?_
 have ne:s.heap.objs.size≠s.heap.objs.size+1:=FV (Nat.lt_succ_self _)
 refine ⟨by rw [aq ne,ae],Fy _,ne,e2,fun _=>none,(J1 e3).at fun o q=>Fd _ q,fun _=>GO,fun y hy=>absurd rfl hy⟩
theorem uF {prog:FG} {w:FU} {env:Env} {e:Gv} {f:Str} {pos:Pos} {s:Do} {Q:AC->Do->Prop} (hb:attributeBase e f env (eval e env)=eval e env)
  (h:wpAny (model prog w) A (eval e env) (fun o s₁=>wpAny (model prog w) A (getAttr o f true) Q E s₁) E s):wpAny (model prog w) A (eval (.Attribute e f pos) env) Q E s :=
 Attribute_any_ h (by rw [arm_eval_Attribute,hb])
end
noncomputable def Es (K:Fp) (ta:TE) (f:Str):TE:=fun σ H Q=>ta σ H fun x H1=>∃ a C dx fs v,x = .ref a/\H1 a=some (.ins C dx fs)/\eW K C/\aM K C f/\fs.lookup f=some v/\Q v H1
noncomputable def D6 (K:Fp) (ta tv:TE) (f:Str):TS:=fun D σ H=>tv σ H fun y H1=>ta σ H1 fun x H2=>∃ a C dx fs,x = .ref a/\H2 a=some (.ins C dx fs)/\eW K C/\aM K C f/\fs.length < 1000 /\
 D.nx σ (upd H2 a (.ins C dx (fJ f y fs)))
section
variable {X:Cx} {o e value:Gv} {f:Str} {pos pos' tpos:Pos} {ta tv:TE}
theorem jg (he:PE X e ta) (hb:attributeBase e f X.env (eval e X.env)=eval e X.env):PE X (.Attribute e f pos) (Es X.K ta f):=by
 intro pins s σ H Q I h
 refine uF hb (aB (he pins s σ H _ I h) fun u s1 ⟨x,H1,I1,rx,a,C,dx,fs,v,ex,ea,c,n,l,q⟩=>?_)
 subst ex
 obtain rfl:u=Fv a:=rx
 exact uQ I1 ea c n l fun u' s2 I2 ru=>⟨v,H1,I2,ru,q⟩
theorem wV (ha:PE X o ta) (hv:PE X value tv) (hs:swapsWith value (some (.Attribute o f pos')) pos.line X.env=pure false):PS X (.Assign [.Attribute o f pos'] value pos) (D6 X.K ta tv f):=by
 intro pins s σ H D I h
 refine Ih (aB (hv pins s σ H _ I h) fun u s1 ⟨y,H1,I1,ry,q⟩=>aB (ha pins s1 σ H1 _ I1 q) fun ov s2 ⟨x,H2,I2,rx,a,C,dx,fs,ex,ea,c,n,l,q2⟩=>?_) hs
 subst ex
 obtain rfl:ov=Fv a:=rx
 exact uT I2 ea c n l ry fun s3 I3=>⟨σ,_,I3,q2⟩
end
section
variable {X:Cx} {pins:List (Fe × Obj)} {σ:St} {H:Hp} {s:Do} {A:Gd} {E:AC->Do->Prop} {Q:AC->Do->Prop} {c:AC} {b:Bool}
inductive gR (K:Fp) (H:Hp):V->AC->Prop where
 | non:gR K H .non (.type "NoneType")
 | bl (x:Bool):gR K H (.bl x) (.type "bool")
 | int (i:Int):gR K H (.int i) (.type "int")
 | str (x:Str):gR K H (.str x) (.type "str")
 | flt (x:UInt64):gR K H (.flt x) (.type "float")
 | lst {a:Fe} {xs:List V} (e:H a=some (.lst xs)):gR K H (.ref a) (.type "list")
 | frz {a:Fe} {o:Obj} {xs:List V} (e:H a=some (.frz o (.lst xs))):gR K H (.ref a) (.type "list")
 | tup {a:Fe} {xs:List V} (e:H a=some (.tup xs)):gR K H (.ref a) (.type "tuple")
 | dK {a:Fe} {kvs:List (Key × V)} (e:H a=some (.dK kvs)):gR K H (.ref a) (.type "dict")
 | dT {a:Fe} {kvs:List (List Key × V)} (e:H a=some (.dT kvs)):gR K H (.ref a) (.type "dict")
 | ins {a C dx:Fe} {fs:List (Str × V)} (e:H a=some (.ins C dx fs)) (cl:eW K C) (ha:GK K (.ref C) "__class__" = some (some (.builtin "object.__class__")))
   (hn:PySem.W.specialIn K (.builtin "object.__class__") "__get__" = some (some (.builtin "getset_descriptor.__get__"))) (htk:PySem.W.takesIn K (.builtin "object.__class__")=some true)
   (hm:PySem.W.mroIn K C (.type "object")=some true):gR K H (.ref a) (.ref C)
theorem wN {x:V} {u t:AC} (I:Inv X pins σ H s) (rx:RelV x u) (ty:gR X.K H x t) (e:PySem.W.kitOne X.K t c=some b) (h:∀ tk,Q (.bool b) { s with toks:=tk }) :
  wpAny (model X.prog X.w) A (call (.builtin "isinstance") [u,c]) Q E s:=by
 cases ty with
 | non=>cases (show u=GE from rx); exact Gy PySem.W.kitx_none I.kIn GO e (fun z=>nomatch z) h
 | bl y=>cases (show u=Ig y from rx); exact Gy PySem.W.kitx_bool I.kIn GO e (fun z=>nomatch z) h
 | int i=>obtain ⟨t,q⟩:=(show ∃ t,u=JO i t from rx); cases q; exact Gy PySem.W.kitx_int I.kIn GO e (fun z=>nomatch z) h
 | str y=>obtain ⟨t,q⟩:=(show ∃ t,u=IB y t from rx); cases q; exact Gy PySem.W.kitx_str I.kIn GO e (fun z=>nomatch z) h
 | flt y=>obtain ⟨t,q⟩:=(show ∃ t,u=Value.float y t from rx); cases q; exact Gy PySem.W.kitx_float I.kIn GO e (fun z=>nomatch z) h
 | @lst a xs ea =>
  cases (show u=Fv a from rx)
  obtain ⟨_,_,n,_,h1⟩:=(show aJ X.prog X.w H s.heap a (.lst xs) from I.hok a _ ea)
  exact Gy PySem.W.kitx_list I.kIn ⟨_,h1,rfl⟩ e (fun z=>nomatch z) h
 | @frz a ob xs ea =>
  cases (show u=Fv a from rx)
  obtain ⟨_,_,_,n,_,h1⟩:=(show aJ X.prog X.w H s.heap a (.frz ob (.lst xs)) from I.hok a _ ea)
  exact Gy PySem.W.kitx_list I.kIn ⟨_,h1,rfl⟩ e (fun z=>nomatch z) h
 | @tup a xs ea =>
  cases (show u=Fv a from rx)
  obtain ⟨_,_,_,p⟩:=(show aJ X.prog X.w H s.heap a (.tup xs) from I.hok a _ ea)
  obtain ⟨o,h1,h2,_⟩:=p
  exact Gy PySem.W.kitx_tuple I.kIn ⟨o,h1,h2⟩ e (fun z=>nomatch z) h
 | @dK a kvs ea =>
  cases (show u=Fv a from rx)
  obtain ⟨_,_,vs,_,p⟩:=(show aJ X.prog X.w H s.heap a (.dK kvs) from I.hok a _ ea)
  obtain ⟨o,es,ep,h1,h2,_⟩:=p
  exact Gy PySem.W.kitx_dict I.kIn ⟨o,h1,h2.1⟩ e (fun z=>nomatch z) h
 | @dT a kvs ea =>
  cases (show u=Fv a from rx)
  obtain ⟨_,_,xs,_,o,es,ep,h1,h2,_⟩:=(show aJ X.prog X.w H s.heap a (.dT kvs) from I.hok a _ ea)
  exact Gy PySem.W.kitx_dict I.kIn ⟨o,h1,h2.1⟩ e (fun z=>nomatch z) h
 | @ins a C dx fs ea cl ha hn htk hm =>
  cases (show u=Fv a from rx)
  obtain ⟨mA,O,_⟩:=lP I.hok ea
  obtain ⟨od,J,_⟩:=O.look
  exact Gy (PySem.W.kitx_own (cl.get _) cl.hd ha hn htk hm) I.kIn J e (fun z=>nomatch z) h
end
end L2
namespace L2
open PySem PySem.Spec PyProof.Rows
structure bh (k:Nat) (A:Gd):Prop where
 hd:A.handled=none
 dp:A.depth+3*k+5 < recursionLimit
 un:A.units+16*k+200 < cLine
theorem bh.mono {j k:Nat} {A:Gd} (r:bh k A) (h:j<=k):bh j A:=⟨r.hd,by have:=r.dp; lia,by have:=r.un; lia⟩
theorem bh.deeper {k:Nat} {A:Gd} (r:bh (k+1) A) (env:Env):bh k (A.deeper env) :=
 ⟨r.hd,by have:=r.dp; show A.depth+1+3*k+5 < _; lia,by have:=r.un; show A.units+3+16*k+200 < _; lia⟩
theorem vi {A:Gd} {C:Fe} {us:List AC} {kw:List (Str × AC)}:(A.under (.builtin "type.__call__" ⟨.ref C::us,kw⟩)).depth=A.depth+1:=by
 first | rfl | simp [Kc,Code.weight,Code.isCreation,Code.isGuard,Code.isCaller,Code.frames,Kd,guardIds]
theorem vd {A:Gd} {C:Fe} {us:List AC} {kw:List (Str × AC)}:(A.under (.builtin "type.__call__" ⟨.ref C::us,kw⟩)).units=A.units+1:=by
 first | rfl | simp [Kc,Code.cUnits,Code.frames,Kd]
theorem bh.make {k:Nat} {A:Gd} (r:bh (k+1) A) (C:Fe) (us:List AC) (kw:List (Str × AC)):bh k (A.under (.builtin "type.__call__" ⟨.ref C::us,kw⟩)) :=
 ⟨r.hd,by have:=r.dp; rw [vi]; lia,by have:=r.un; rw [vd]; lia⟩
theorem bh.depth {k:Nat} {A:Gd} (r:bh k A):A.depth < recursionLimit:=by have:=r.dp; lia
theorem bh.units {k:Nat} {A:Gd} (r:bh k A):A.units+64 < cLine:=by have:=r.un; lia
noncomputable def rJ:TA:=fun _ H Q=>Q [] H
noncomputable def Df (ta:TE) (tr:TA):TA:=fun σ H Q=>ta σ H fun x H1=>tr σ H1 fun xs H2=>Q (x::xs) H2
section
variable {X:Cx} {e:Gv} {es:List Gv} {te:TE} {t:TA} {pos:Pos}
theorem ah:PA X [] rJ:=fun _ _ _ _ H Q I h=>Ja ⟨[],H,I,.nil,h⟩
theorem aa (ha:PE X e te) (hr:PA X es t) (hs:starEach (e::es) X.env=(false,eval e X.env)::starEach es X.env:=by rfl):PA X (e::es) (Df te t):=by
 intro pos pins s σ H Q I h
 rw [hs]
 show wpAny _ _ (spliced ((false,eval e X.env)::backTo pos (starEach es X.env))) _ _ s
 refine HS (aB (ha pins s σ H _ I h) fun u s1 ⟨x,H1,I1,r1,q1⟩=>?_)
 exact aB (hr pos pins s1 σ H1 _ I1 q1) fun us s2 ⟨xs,H2,I2,r2,q2⟩=>⟨x::xs,H2,I2,.cons r1 r2,q2⟩
noncomputable def Ef (t:TA):TE:=fun σ H Q=>t σ H fun xs H1=>xs.length<=sizeLine/\∀ p,H1 p=none->Q (.ref p) (upd H1 p (.tup xs))
noncomputable def En (t:TA):TE:=fun σ H Q=>t σ H fun xs H1=>xs.length<=sizeLine/\∀ p,H1 p=none->Q (.ref p) (upd H1 p (.lst xs))
theorem gX {x1} (h:PA X es t):PE X (.Tuple es x1 pos) (Ef t):=by
 intro pins s σ H Q I hq
 refine wpAny_Tuple_spliced (aB (h pos pins s σ H _ I hq) fun us s1 ⟨xs,H1,I1,r,z,q⟩=>⟨by rw [<- r.length]; exact z,?_⟩)
 have hf:H1 s1.heap.objs.size=none:=I1.hok.fresh (Fg _)
 refine ⟨.ref s1.heap.objs.size,upd H1 s1.heap.objs.size (.tup xs),I1.laid (t':=s1.toks) (fun b u e=>Fd _ e) (Fg _) ?_,rfl,q _ hf⟩
 exact ⟨z,us,r,⟨_,FH _ rfl,rfl,_,rfl⟩⟩
theorem bb (h:PA X es t):PE X (.List es pos) (En t):=by
 intro pins s σ H Q I hq
 refine wpAny_List_spliced (aB (h pos pins s σ H _ I hq) fun us s1 ⟨xs,H1,I1,r,z,q⟩=>⟨by rw [<- r.length]; exact z,?_⟩)
 have hf:H1 s1.heap.objs.size=none:=I1.hok.fresh (Fg _)
 refine ⟨.ref s1.heap.objs.size,upd H1 s1.heap.objs.size (.lst xs),I1.laid (t':=s1.toks) (fun b u e=>Fd _ e) (Fg _) ?_,rfl,q _ hf⟩
 exact ⟨z,us,0,r,FH _ rfl⟩
end
noncomputable abbrev Sp:=List V->Hp->VK->XK->Prop
noncomputable abbrev g8:=List Env->Hp->Do->XK->AC->Do->Prop
structure jv (P:FG) (w:FU) (K:Fp) (mg:Str->Option AC) (base:GG) (A:Gd) (outer:List Env) (s:Do) (H:Hp):Prop where
 frames:A.frames=some outer
 mod:Mod K mg base
 bs:∀ b o,base.get? b=some o->s.heap.get? b=some o/\H b=none
 bsz:base.objs.size<=s.heap.objs.size
 funs:s.heap.FunFrames base outer
 frf:∀ b∈bW outer,H b=none
 hok:bS P w H s.heap
 bare:IC s.gens
def CE (outer:List Env) (P:FG) (w:FU) (H:Hp) (s:Do) (Q:VK) (u:AC) (s':Do):Prop :=
 ∃ v H',s'.os=s.os/\IC s'.gens/\Un (bW outer) [] H H' s.heap s'.heap/\bS P w H' s'.heap/\RelV v u/\Q v H'
def CR (CX:g8) (outer:List Env) (P:FG) (w:FU) (H:Hp) (s:Do) (Q:VK) (E:XK) (r:Result) (s':Do):Prop :=
 match r with
 | .ok (.ret u)=>CE outer P w H s Q u s'
 | .ok _=>False
 | .error e=>CX outer H s E e s'
structure aF (P:FG) (w:FU) (K:Fp) (mg:Str->Option AC) (base:GG) (CX:g8) (k:Nat) (f:Fe) (fd:Fh) (ps:List Str) (sp:Sp):Prop where
 len:∀ vs H Q E,sp vs H Q E->vs.length=ps.length
 run:∀ (A:Gd) (outer:List Env) (s:Do) (H:Hp) (args:Args) (us:List AC) (vs:List V) (Q:VK) (E:XK),bh k A->jv P w K mg base A outer s H->Jv s fd args (ps.zip us)->Vals vs us->sp vs H Q E ->
  codeAny (model P w) A (.call (.ref f) args) (CR CX outer P w H s Q E) s
theorem jv.make {P:FG} {w:FU} {K:Fp} {mg:Str->Option AC} {base:GG} {A:Gd} {outer:List Env} {s:Do} {H:Hp} (e:jv P w K mg base A outer s H) (C:Fe) (us:List AC) (kw:List (Str × AC)) :
  jv P w K mg base (A.under (.builtin "type.__call__" ⟨.ref C::us,kw⟩)) outer s H:=⟨by first | exact e.frames | (simpa [Kc,Code.envs,Kd,pushEnvs] using e.frames),e.mod,e.bs,e.bsz,e.funs,e.frf,e.hok,e.bare⟩
section
variable {X:Cx} {pins:List (Fe × Obj)} {σ:St} {H:Hp} {s s':Do}
theorem Inv.env0 (I:Inv X pins σ H s):jv X.prog X.w X.K X.mg X.base X.A X.stack s H :=
 ⟨I.ok.frames,I.ok.mod,I.bs,FW I.ok.bsz I.sz,I.stack,I.stkFree,I.hok,I.bare⟩
theorem Inv.after {Q:VK} {u:AC} (I:Inv X pins σ H s) (h:CE X.stack X.prog X.w H s Q u s'):EP X pins σ Q u s':=by
 obtain ⟨v,H',os,bare,un,hok,r,q⟩:=h
 obtain ⟨hh,g,d,t,os'⟩:=s'
 obtain rfl:os'=s.os:=os
 exact ⟨v,H',I.call (h':=hh) (g':=g) (d':=d) (t':=t) (ch:=[]) un hok bare (fun b z=>absurd z (by simp)),r,q⟩
end
noncomputable def jE (sp:Sp) (dvs:List V) (E:XK) (t:TA):TE:=fun σ H Q=>t σ H fun vs H1=>sp (vs++dvs) H1 Q E
noncomputable def zk (C:Fe) (m:Str) (sp:Sp) (dvs:List V) (E:XK) (ta:TE) (t:TA):TE:=fun σ H Q=>ta σ H fun x H1=>∃ a dx fs,x = .ref a/\H1 a=some (.ins C dx fs)/\fs.lookup m=none /\
 t σ H1 fun vs H2=>sp (x::(vs++dvs)) H2 Q E
noncomputable def zi (C:Fe) (sp:Sp) (dvs:List V) (E:XK) (t:TA):TE:=fun σ H Q=>t σ H fun vs H1=>∀ x dx,H1 x=none->H1 dx=none->dx≠x ->
 sp (.ref x::(vs++dvs)) (upd (upd H1 dx (.own x)) x (.ins C dx [])) (fun v H2=>v = .non/\Q (.ref x) H2) E
def Binds (K:Fp) (fd:Fh) (ps:List Str) (ds:List AC):Prop :=
 ∀ (s:Do) (us:List AC),K.In s.heap->(us++ds).length=ps.length->Jv s fd ⟨us,[]⟩ (ps.zip (us++ds))
theorem Binds.all {K:Fp} {fd:Fh} {ps:List Str} (h:∀ us:List AC,us.length=ps.length->bindArgs fd ⟨us,[]⟩=pure (ps.zip us)):Binds K fd ps []:=fun s us _ hl=>by
 rw [FR] at hl |-
 exact .of_eq (h us hl)
def Passes (CX:g8) (X:Cx) (E:XK):Prop:=∀ (pins:List (Fe × Obj)) (σ:St) (H:Hp) (s:Do) (e:AC) (s':Do),Inv X pins σ H s->CX X.stack H s E e s'->X.xe e s'
section
variable {X:Cx} {CX:g8} {k:Nat} {f C:Fe} {fd:Fh} {ps:List Str} {sp:Sp} {dvs:List V} {ds:List AC} {E:XK} {x m:Str} {p pos apos:Pos} {e o:Gv} {es:List Gv} {ta:TE} {t:TA}
theorem nA {pins:List (Fe × Obj)} {σ:St} {H:Hp} {s:Do} {Q:VK} {us:List AC} {vs:List V} (F:aF X.prog X.w X.K X.mg X.base CX k f fd ps sp) (hr:bh k X.A) (hb:Binds X.K fd ps ds) (hd:Vals dvs ds) (hx:Passes CX X E)
  (I:Inv X pins σ H s) (r:Vals vs us) (h:sp (vs++dvs) H Q E):wpAny (model X.prog X.w) X.A (call (.ref f) us) (EP X pins σ Q) X.xe s:=by
 have r2:Vals (vs++dvs) (us++ds):=r.append hd
 have hl:(us++ds).length=ps.length:=by rw [<- r2.length]; exact F.len _ _ _ _ h
 refine Ii (Hn (F.run X.A X.stack s H ⟨us,[]⟩ (us++ds) (vs++dvs) Q E hr I.env0 (hb s us I.kIn hl) r2 h) fun r s' hq=>?_)
 cases r with
 | error e=>exact hx pins σ H s e s' I hq
 | ok fl =>
  cases fl with
  | ret u=>exact I.after hq
  | next=>exact Gi hq
  | brk=>exact Gi hq
  | cont=>exact Gi hq
theorem tY (F:aF X.prog X.w X.K X.mg X.base CX k f fd ps sp) (hr:bh k X.A) (hg:Gl X x) (hm:X.mg x=some (.ref f)) (hk:IW X.K (.ref f)=true) (hb:Binds X.K fd ps ds) (hd:Vals dvs ds) (hx:Passes CX X E)
  (ha:PA X (e::es) t) (hdb:(x == ("__debug__" : Str))=false:=by decide) (he:starEach (e::es) X.env=(false,eval e X.env)::starEach es X.env:=by rfl) (hpl:(backTo pos (starEach es X.env)).any (·.1)=false:=by rfl) :
  PE X (.Call (.Name x p) (e::es) [] pos) (jE sp dvs E t):=by
 intro pins s σ H Q I h
 refine Hd (du I hg hm ?_ hdb)
 refine JS (h₀:=X.base) I.ok.mod.kin hk (aB (ha pos pins s σ H _ I h) fun us s1 ⟨vs,H1,I1,r,q⟩=>⟨I1.kIn,?_⟩) he hpl
 exact nA F hr hb hd hx I1 r q
theorem yw (F:aF X.prog X.w X.K X.mg X.base CX k f fd ps sp) (hr:bh k X.A) (hg:Gl X x) (hm:X.mg x=some (.ref f)) (hk:IW X.K (.ref f)=true) (hb:Binds X.K fd ps ds) (hd:Vals dvs ds) (hx:Passes CX X E)
  (hdb:(x == ("__debug__" : Str))=false:=by decide):PE X (.Call (.Name x p) [] [] pos) (jE sp dvs E rJ):=by
 intro pins s σ H Q I h
 refine Hd (du I hg hm ?_ hdb)
 exact JL I.kIn hk (nA (us:=[]) F hr hb hd hx I .nil h)
theorem zF {pl:Sem Bool} (he:PE X o ta) (c:eW X.K C) (hm:Meth X.K C m f) (F:aF X.prog X.w X.K X.mg X.base CX k f fd ps sp) (hr:bh k X.A) (hb:Binds X.K fd ps ds) (hd:Vals dvs ds) (hx:Passes CX X E) (ha:PA X (e::es) t)
  (hst:starEach (e::es) X.env=(false,eval e X.env)::starEach es X.env:=by rfl) (hpl:(backTo pos (starEach es X.env)).any (·.1)=false:=by rfl)
  (ht:eval (.Call (.Attribute o m apos) (e::es) [] pos) X.env=(do
   let ov <- eval o X.env
   standAt apos.atName
   let (f,first) <- holding [ov] (getMethod ov m pl)
   callWith pos f first (backTo pos (starEach (e::es) X.env)) (backToKw pos (keywordEach [] X.env))):=by rfl) :
  PE X (.Call (.Attribute o m apos) (e::es) [] pos) (zk C m sp dvs E ta t):=by
 intro pins s σ H Q I h
 refine PySem.W.methodCall_KW (pl:=pl) (aB (he pins s σ H _ I h) fun u s1 ⟨x,H1,I1,rx,a,dx,fs,ex,ea,l,q⟩=>?_) ht
 subst ex
 obtain rfl:u=Fv a:=rx
 refine wy I1 ea c hm l ?_
 refine JS (first:=[.ref a]) (h₀:=X.base) I.ok.mod.kin hm.kp (aB (ha pos pins s1 σ H1 _ I1 q) fun us s2 ⟨vs,H2,I2,r,q2⟩=>⟨I2.kIn,?_⟩) hst hpl
 exact nA (us:=.ref a::us) (vs:=.ref a::vs) F hr hb hd hx I2 (.cons rfl r) q2
structure Mk (K:Fp) (C f:Fe):Prop where
 makes:PySem.W.makesIn K C=true
 init:GK K (.ref C) "__init__" = some (some (.ref f))
 fn:Kb K (.ref f)=true
 kp:IW K (.ref C)=true
theorem yl {pins:List (Fe × Obj)} {σ:St} {H:Hp} {s:Do} {Q:VK} {us:List AC} {vs:List V} (M:Mk X.K C f) (F:aF X.prog X.w X.K X.mg X.base CX k f fd ps sp) (hr:bh (k+1) X.A) (hb:Binds X.K fd ps ds) (hd:Vals dvs ds)
  (hx:Passes CX X E) (I:Inv X pins σ H s) (r:Vals vs us)
  (h:∀ x dx,H x=none->H dx=none->dx≠x->sp (.ref x::(vs++dvs)) (upd (upd H dx (.own x)) x (.ins C dx [])) (fun v H2=>v = .non/\Q (.ref x) H2) E) :
  wpAny (model X.prog X.w) X.A (call (.ref C) us) (EP X pins σ Q) X.xe s:=by
 have hq:=h (s.heap.objs.size+1) s.heap.objs.size (I.hok.fresh (GB _)) (I.hok.fresh (Fg _)) (FV (Nat.lt_succ_self _))
 have I2:=Inv.made (C:=C) I
 have r2:Vals (V.ref (s.heap.objs.size+1)::(vs++dvs)) (Fv (s.heap.objs.size+1)::(us++ds)):=.cons rfl (r.append hd)
 have hl:(Fv (s.heap.objs.size+1)::us++ds).length=ps.length:=by
  have e:=r2.length
  rw [F.len _ _ _ _ hq] at e
  exact e.symm
 refine Ii (yL (f:=f) I.kIn M.makes M.init (beq_iff_eq.mp M.fn) (Hn (F.run _ X.stack _ _ ⟨Fv (s.heap.objs.size+1)::us,[]⟩ (Fv (s.heap.objs.size+1)::(us++ds)) _ _ E (hr.make C us [])
  (I2.env0.make C us []) (hb _ (Fv (s.heap.objs.size+1)::us) I2.kIn hl) r2 hq) fun r s' hq'=>?_))
 cases r with
 | error e=>exact hx pins σ _ _ e s' I2 hq'
 | ok fl =>
  cases fl with
  | ret u =>
   obtain ⟨v,H',I3,rv,ev,q3⟩:=I2.after hq'
   subst ev
   exact ⟨rv,⟨V.ref (s.heap.objs.size+1),H',I3,rfl,q3⟩⟩
  | next=>exact Gi hq'
  | brk=>exact Gi hq'
  | cont=>exact Gi hq'
theorem yS (M:Mk X.K C f) (F:aF X.prog X.w X.K X.mg X.base CX k f fd ps sp) (hr:bh (k+1) X.A) (hg:Gl X x) (hm:X.mg x=some (.ref C)) (hb:Binds X.K fd ps ds) (hd:Vals dvs ds) (hx:Passes CX X E)
  (hdb:(x == ("__debug__" : Str))=false:=by decide):PE X (.Call (.Name x p) [] [] pos) (zi C sp dvs E rJ):=by
 intro pins s σ H Q I h
 refine Hd (du I hg hm ?_ hdb)
 exact JL I.kIn M.kp (yl (us:=[]) M F hr hb hd hx I .nil h)
end
section
variable {X:Cx} {CX:g8} {k:Nat} {f C:Fe} {fd:Fh} {ps ks:List Str} {sp:Sp} {E:XK} {x m:Str} {p pos apos kpos:Pos} {e o:Gv} {es:List Gv} {kws:List J2} {te ta:TE} {t tk:TA} {nm:Option Str}
variable {g:List AC->List AC->List AC} {gV:List V->List V->List V}
end
structure ay (N P:List Str) (sc:Ib):Prop where
 kind:sc.kind = .function
 co:sc.isCoroutine=false
 gen:sc.isGenerator=false
 nd:N.Nodup
 pre:N.take P.length=P
 par:∀ x∈P,sc.names.lookup x=some .local\/sc.names.lookup x=some .cell
 nofree:∀ y∈sc.names,y.2≠.free
theorem qd {kindOf:Str->Option JH} {x:Str}:∀ {binds:List (Str × AC)} {m:Str->Option AC},(∀ v,(x,v)∉binds)->bindL kindOf binds m x=m x
 | [],_,_=>rfl
 | (n,v)::r,m,h=>by
  unfold bindL
  rw [qd fun w hw=>h w (FI _ hw)]
  split
  ·have:x≠n:=by rintro rfl; exact h v Gq
   simp [this]
  ·rfl
theorem p0 {kindOf:Str->Option JH} {x:Str}:∀ {binds:List (Str × AC)} {m:Str->Option AC},(∀ v,(x,v)∉binds)->bindC kindOf binds m x=m x
 | [],_,_=>rfl
 | (n,v)::r,m,h=>by
  unfold bindC
  rw [p0 fun w hw=>h w (FI _ hw)]
  split
  ·rfl
  ·have:x≠n:=by rintro rfl; exact h v Gq
   simp [this]
theorem qu {kindOf:Str->Option JH} {x:Str} {v:AC}:∀ {P:List Str} {vs:List AC} {i:Nat} {m:Str->Option AC},P.Nodup->P[i]? = some x->vs[i]? = some v->kindOf x=some .local ->
  bindL kindOf (P.zip vs) m x=some v
 | [],_,_,_,_,h,_,_=>by simp at h
 | _::_,[],_,_,_,_,h,_=>by simp at h
 | p::P,w::vs,0,m,nd,h1,h2,hk=>by
  simp at h1 h2; subst h1; subst h2
  show bindL kindOf ((p,w)::P.zip vs) m p=_
  unfold bindL
  rw [qd fun v hv=>(GY.mp nd).1 (Jw hv).1,if_pos hk]
  simp
 | p::P,w::vs,i+1,m,nd,h1,h2,hk=>by
  show bindL kindOf ((p,w)::P.zip vs) m x=_
  unfold bindL
  exact qu (i:=i) (GY.mp nd).2 (by simpa using h1) (by simpa using h2) hk
theorem qv {kindOf:Str->Option JH} {x:Str} {v:AC}:∀ {P:List Str} {vs:List AC} {i:Nat} {m:Str->Option AC},P.Nodup->P[i]? = some x->vs[i]? = some v->kindOf x≠some .local ->
  bindC kindOf (P.zip vs) m x=some v
 | [],_,_,_,_,h,_,_=>by simp at h
 | _::_,[],_,_,_,_,h,_=>by simp at h
 | p::P,w::vs,0,m,nd,h1,h2,hk=>by
  simp at h1 h2; subst h1; subst h2
  show bindC kindOf ((p,w)::P.zip vs) m p=_
  unfold bindC
  rw [p0 fun v hv=>(GY.mp nd).1 (Jw hv).1,if_neg hk]
  simp
 | p::P,w::vs,i+1,m,nd,h1,h2,hk=>by
  show bindC kindOf ((p,w)::P.zip vs) m x=_
  unfold bindC
  exact qv (i:=i) (GY.mp nd).2 (by simpa using h1) (by simpa using h2) hk
noncomputable def start (N:List Str) (vs:List V):St:=vs.map some++List.replicate (N.length - vs.length) none
noncomputable def gz (CX:g8) (P:FG) (w:FU) (K:Fp) (mg:Str->Option AC) (base:GG) (N:List Str) (qual:Str) (scope:Ib) (f:Fe) (cd:AC) (A:Gd) (outer:List Env) (s:Do) (H:Hp) (E:XK):Cx where
 prog:=P
 w:=w
 K:=K
 mg:=mg
 base:=base
 A:=A.deeper (envOfC qual scope s.heap.objs.size f cd)
 N:=N
 s₀:=s
 H₀:=H
 env:=envOfC qual scope s.heap.objs.size f cd
 outer:=outer
 stack:=envOfC qual scope s.heap.objs.size f cd::outer
 ex:=[]
 calm:=true
 fn:=fun _=>true
 pn:=[]
 xe:=fun e s'=>wpAny (model P w) (A.deeper (envOfC qual scope s.heap.objs.size f cd)) (leaving (envOfC qual scope s.heap.objs.size f cd) e) (fun _ s''=>CX outer H s E e s'') (fun e' s''=>CX outer H s E e' s'') s'
theorem mY {sc:Ib} {n:Nat} {x:Str} (h:sc.names.lookup x=some .cell):∃ c,(cellsFrom n sc.names []).lookup x=some c:=by
 have q:=Jp sc.names n [] (.inl h)
 exact Option.isSome_iff_exists.mp q
theorem xZ {CX:g8} {P:FG} {w:FU} {K:Fp} {mg:Str->Option AC} {base:GG} {N ps:List Str} {qual:Str} {scope:Ib} {f:Fe} {cd:AC} {A:Gd} {outer:List Env} {s s1:Do} {H:Hp} {E:XK} {us:List AC} {vs:List V}
  (S:ay N ps scope) (hd:A.handled=none) (e0:jv P w K mg base A outer s H) (hl:vs.length=ps.length) (r:Vals vs us)
  (x:InCallC s s.heap.objs.size (bindL (envOfC qual scope s.heap.objs.size f cd).kindOf (ps.zip us) fun _=>none) (cellsFrom (s.heap.objs.size+1) scope.names []) (bindC (envOfC qual scope s.heap.objs.size f cd).kindOf (ps.zip us) fun _=>none) s1) :
  Inv (gz CX P w K mg base N qual scope f cd A outer s H E) [] (start N vs) H s1:=by
 have hpl:ps.length<=N.length:=by have:=congrArg List.length S.pre; rw [Ga] at this; lia
 obtain ⟨h1,tk,rfl,hk⟩:=x.done
 have noA:∀ b:Fe,b∉(gz CX P w K mg base N qual scope f cd A outer s H E).ex:=fun b z=>absurd (show b∈([]:List Fe) from z) (by simp)
 refine ⟨⟨e0.mod,S.kind,rfl,rfl,Fg _,fun y z c h1 h2=>?_,fun y hy=>?_,fun y c _ h=>?_,fun _=>hd,Around.frames_deeper e0.frames,.inr ⟨rfl,rfl⟩,fun b z=>absurd z (noA b),e0.bs,e0.bsz,fun b _ _=>noA b,fun b z=>absurd z (noA b),e0.funs,e0.frf⟩,
  rfl,e0.bare,Un.kept hk,⟨_,x.toInCall.ns,fun i y v h1 h2 h3=>?_⟩,fun y c h=>⟨_,x.cell y c h⟩,e0.hok.fresh (Fg _),fun y c h=>?_,fun p hp=>absurd (show p∈([]:List (Fe × Obj)) from hp) (by simp),e0.hok.kept hk,?_⟩
 ·exact name_of_addr x.apart (Hq h1) (Hq h2)
 ·have hy:scope.names.lookup y=some .cell\/scope.names.lookup y=some .free:=hy
  rcases hy with hy | hy
  ·exact mY hy
  ·exact absurd rfl (S.nofree _ (Hq hy))
 ·exact Js (x.above y c (Hq h))
 ·have hi:i < vs.length:=by
   unfold start at h2
   by_cases hi:i < vs.length
   ·exact hi
   ·rw [List.getElem?_append_right (by simpa using hi)] at h2
    rw [List.getElem?_replicate] at h2
    split at h2<;>cases h2
  have ha:vs[i]? = some v:=by
   unfold start at h2
   rw [List.getElem?_append_left (by simpa using hi),FN] at h2
   cases e:vs[i]? with
   | none=>rw [e] at h2; cases h2
   | some a=>rw [e] at h2; cases h2; rfl
  obtain ⟨u,hu,rv⟩:=r.get ha
  have hp:ps[i]? = some y:=by
   rw [<- S.pre,List.getElem?_take_of_lt (by lia)]; exact h1
  have ndP:ps.Nodup:=by rw [<- S.pre]; exact S.nd.sublist (List.take_sublist _ _)
  refine ⟨u,rv,?_⟩
  rcases S.par y (FJ hp) with k | k
  ·exact .inl ⟨k,qu ndP hp hu k⟩
  ·obtain ⟨c,e⟩:=mY (n:=s.heap.objs.size+1) k
   refine .inr ⟨.inl k,c,e,?_⟩
   have q:=x.cell y c e
   rw [qv ndP hp hu (by show scope.names.lookup y≠_; rw [k]; decide)] at q
   exact q
 ·exact e0.hok.fresh (Js (x.above y c (Hq h)))
 ·unfold start
  show _=N.length
  rw [Fo,Ff,List.length_replicate]
  lia
theorem qP {CX:g8} {P:FG} {w:FU} {K:Fp} {mg:Str->Option AC} {base:GG} {k:Nat} {f:Fe} {name qual:Str} {params:Arguments} {body:List Hc} {scope:Ib} {dV kV doc pm cdv ct oc:AC} {an od:Option Fe}
  {osl:Array (Option AC)} {N ps:List Str} {sp:Sp} (lk:K.lookup f=some ⟨oc,od,.func (PySem.W.fnOf name qual params body scope dV kV doc pm an cdv ct),osl⟩) (hcd:PySem.W.codeIn K cdv qual=true) (S:ay N ps scope)
  (len:∀ vs H Q E,sp vs H Q E->vs.length=ps.length)
  (hbody:∀ (A:Gd) (outer:List Env) (s:Do) (H:Hp) (vs:List V) (Q:VK) (E:XK),bh k (A.deeper (envOfC qual scope s.heap.objs.size f cdv))->sp vs H Q E ->
   ∃ t,fz (gz CX P w K mg base N qual scope f cdv A outer s H E) body t/\t { nx:=fun _ H'=>Q .non H',rt:=Q } (start N vs) H) :
  aF P w K mg base CX (k+1) f (PySem.W.fnOf name qual params body scope dV kV doc pm an cdv ct) ps sp:=by
 refine ⟨len,fun A outer s H args us vs Q E hr e0 hb r hsp=>?_⟩
 have hl:=len _ _ _ _ hsp
 have KX:K.In s.heap:=e0.mod.kin.keeps fun b o e=>(e0.bs b o e).1
 have lim:s.heap.NoLimit:=e0.mod.nolimit.keeps fun b o e=>(e0.bs b o e).1
 have hkind:∀ y∈ps.zip us,scope.names.lookup y.1=some .local\/(scope.names.lookup y.1=some .cell/\((cellsFrom (s.heap.objs.size+1) scope.names []).lookup y.1).isSome=true):=fun ⟨n,v⟩ hy=>by
  rcases S.par n (Jw hy).1 with q | q
  ·exact .inl q
  ·exact .inr ⟨q,Jp _ _ _ (.inl q)⟩
 refine codeAny_call_function hr.depth (KX _ _ lk) rfl S.co S.gen rfl (PySem.W.codeRec_of KX hcd) (hb _ _ _ _ ?_)
 refine wpAny_newFunctionEnv_cells S.kind hkind fun env he s1 x=>?_
 subst he
 refine ⟨lim.keeps x.toInCall.keep,codeAny_func ?_⟩
 obtain ⟨t,ht,hq⟩:=hbody A outer s H vs Q E (hr.deeper _) hsp
 have I:Inv (gz CX P w K mg base N qual scope f cdv A outer s H E) [] (start N vs) H s1:=xZ S hr.hd e0 hl r x
 refine Gu (ht [] s1 (start N vs) H _ I hq) (fun fl s' hs=>?_) fun e s' hs=>hs
 have fin:∀ {σ':St} {H':Hp} {v:V} {u:AC},Inv (gz CX P w K mg base N qual scope f cdv A outer s H E) [] σ' H' s'->RelV v u->Q v H'->CE outer P w H s Q u s' :=
  fun {σ' H' v u} J rv q=>⟨v,H',J.os,J.bare,J.base,J.hok,rv,q⟩
 cases fl with
 | ret u =>
  obtain ⟨v,σ',H',J,rv,q⟩:=hs
  exact fin J rv q
 | next =>
  obtain ⟨σ',H',J,q⟩:=hs
  exact fin (v:=V.non) (u:=GE) J rfl q
 | brk =>
  obtain ⟨_,_,_,q⟩:=hs
  exact Gi q
 | cont =>
  obtain ⟨_,_,_,q⟩:=hs
  exact Gi q
end L2
namespace L2
open PySem PySem.Spec PyProof.Rows
section
variable {X:Cx} {x:Str} {p pos:Pos} {e:Gv} {es:List Gv} {t:TA} {id T:String} {r:List V->Hp->VK->Prop}
noncomputable def DM (r:List V->Hp->VK->Prop) (t:TA):TE:=fun σ H Q=>t σ H fun vs H1=>r vs H1 Q
theorem bE (hc:ij X (.builtin id) r) (hg:Gl X x) (hm:X.mg x=none) (hv:bootBuiltins x=some (.builtin id)) (ha:PA X (e::es) t) (hn:x≠"__name__":=by decide) (hdb:(x == ("__debug__" : Str))=false:=by decide)
  (he:starEach (e::es) X.env=(false,eval e X.env)::starEach es X.env:=by rfl) (hpl:(backTo pos (starEach es X.env)).any (·.1)=false:=by rfl):PE X (.Call (.Name x p) (e::es) [] pos) (DM r t):=by
 intro pins s σ H Q I h
 refine Hd (jt I hg hm hv ?_ hn hdb)
 exact PyProof.Rows.callWith_builtin1 (aB (ha pos pins s σ H _ I h) fun us s1 ⟨vs,H1,I1,r1,q1⟩=>hc pins s1 σ H1 vs us Q I1 r1 q1) he hpl
theorem qk (hc:ij X (.type T) r) (hg:Gl X x) (hm:X.mg x=none) (hv:bootBuiltins x=some (.type T)) (ha:PA X (e::es) t) (hn:x≠"__name__":=by decide) (hdb:(x == ("__debug__" : Str))=false:=by decide)
  (he:starEach (e::es) X.env=(false,eval e X.env)::starEach es X.env:=by rfl) (hpl:(backTo pos (starEach es X.env)).any (·.1)=false:=by rfl):PE X (.Call (.Name x p) (e::es) [] pos) (DM r t):=by
 intro pins s σ H Q I h
 refine Hd (jt I hg hm hv ?_ hn hdb)
 exact GX (aB (ha pos pins s σ H _ I h) fun us s1 ⟨vs,H1,I1,r1,q1⟩=>hc pins s1 σ H1 vs us Q I1 r1 q1) he hpl
end
end L2
namespace HT
open PySem PyProof.Rows
section
open PySem.SeqAt
open PySem.AutoSeq1 (wpAny_loadPart')
open PySem.MeetsSeq PySem.MeetsSeq2 PySem.MeetsSeq3
end
section
variable {prog:FG} {w:FU} {A:Gd} {E:AC->Do->Prop} {s:Do}
noncomputable def sIx (n d:Nat):Option Int->Nat
 | none=>d
 | some v=>if v < 0 then (v+(n:Int)).toNat else min v.toNat n
theorem sIx_none (n d:Nat):sIx n d none=d:=rfl
theorem sIx_nat (n d k:Nat):sIx n d (some (k:Int))=min k n:=by
 show (if (k:Int) < 0 then ((k:Int)+(n:Int)).toNat else min (k:Int).toNat n)=min k n
 rw [if_neg (by lia),Int.toNat_natCast]
end
end HT
namespace L2
open PySem PySem.Spec PyProof.Rows
noncomputable abbrev TO:=St->Hp->(Option Int->Hp->Prop)->Prop
def PO (X:Cx) (e:Option Gv) (t:TO):Prop :=
 ∀ (pins:List (Fe × Obj)) (s:Do) (σ:St) (H:Hp) (Q:Option Int->Hp->Prop),Inv X pins σ H s->t σ H Q ->
  wpAny (model X.prog X.w) X.A (evalPart e X.env) (fun u s'=>∃ o H',Inv X pins σ H' s'/\IsPart u o/\Q o H') X.xe s
noncomputable def zG:TO:=fun _ H Q=>Q none H
noncomputable def Dc (t:TE):TO:=fun σ H Q=>t σ H fun x H1=>∃ i,x = .int i/\Q (some i) H1
section
variable {X:Cx} {e:Gv} {te:TE} {lo hi:Option Gv} {tl th:TO} {pos p2:Pos}
theorem ji:PO X none zG:=by
 intro pins s σ H Q I h
 rw [evalPart_none]
 exact Ft ⟨none,H,I,.none,h⟩
theorem ju (h:PE X e te):PO X (some e) (Dc te):=by
 intro pins s σ H Q I hw
 rw [evalPart_some]
 refine aB (h pins s σ H _ I hw) fun u s1 ⟨x,H1,I1,r1,q1⟩=>?_
 obtain ⟨i,rfl,q⟩:=q1
 obtain ⟨t,rfl⟩:=r1
 exact ⟨some i,H1,I1,.int i t,q⟩
def DQ (X:Cx) (r:V->Option Int->Option Int->Hp->VK->Prop):Prop :=
 ∀ (pins:List (Fe × Obj)) (s:Do) (σ:St) (H:Hp) (x:V) (v vl vu:AC) (lo hi:Option Int) (sl:Fe) (Q:VK),Inv X pins σ H s->RelV x v->s.heap.IsSliceOf sl vl vu .none->IsPart vl lo->IsPart vu hi->r x lo hi H Q ->
  ∃ T id,typeLookup (.type T) "__getitem__" = pure (some (.builtin id))/\s.TypeIs v T/\wpAny (model X.prog X.w) X.A (getItem v (.ref sl)) (EP X pins σ Q) X.xe s
noncomputable def EV (r:V->Option Int->Option Int->Hp->VK->Prop) (te:TE) (tl th:TO):TE:=fun σ H Q=>te σ H fun x H1=>tl σ H1 fun l H2=>th σ H2 fun u H3=>r x l u H3 Q
theorem iJ {r:V->Option Int->Option Int->Hp->VK->Prop} (hr:DQ X r) (he:PE X e te) (hl:PO X lo tl) (hu:PO X hi th):PE X (.Subscript e (.Slice lo hi none p2) pos) (EV r te tl th):=by
 intro pins s σ H Q I h
 refine Subscript_ (aB (he pins s σ H _ I h) fun v s1 ⟨x,H1,I1,r1,q1⟩=>?_)
 refine wpAny_Slice (aB (hl pins s1 σ H1 _ I1 q1) fun vl s2 ⟨l,H2,I2,pl,q2⟩=>aB (hu pins s2 σ H2 _ I2 q2) fun vu s3 ⟨u,H3,I3,pu,q3⟩=>?_)
 rw [evalPart_none]
 refine Ft ?_
 have I4:Inv X pins σ H3 { s3 with heap:=s3.heap.push { cls:=.type "slice",data:=.fields #[vl,vu,.none] } }:=I3.kept (t':=s3.toks) fun b ob q=>Fd _ q
 obtain ⟨T,id,hT,ht,hg⟩:=hr pins { s3 with heap:=s3.heap.push { cls:=.type "slice",data:=.fields #[vl,vu,.none] } } σ H3 x v vl vu l u s3.heap.objs.size Q I4 r1 (Heap.IsSliceOf.new ..) pl pu q3
 show wpAny (model X.prog X.w) X.A (subscriptTail e (.Slice lo hi none p2) v (.ref s3.heap.objs.size)) (EP X pins σ Q) X.xe { s3 with heap:=s3.heap.push { cls:=.type "slice",data:=.fields #[vl,vu,.none] } }
 exact tail_any (ops:=[.ref s3.heap.objs.size,v]) ht hT hg (by with_unfolding_all rfl)
noncomputable def dS (xs:List V) (lo hi:Option Int):List V:=(xs.drop (HT.sIx xs.length 0 lo)).take (HT.sIx xs.length xs.length hi - HT.sIx xs.length 0 lo)
theorem tO (xs:List V) (lo hi:Option Int):(dS xs lo hi).length<=xs.length:=by
 unfold dS
 rw [Ga,Iw]
 lia
end
end L2
namespace L2
open PySem PySem.Spec PyProof.Rows
noncomputable def nE (n:Nat) (i:Int):Option Nat:=if 0<=i then (if i < n then some i.toNat else none) else if -(n:Int)<=i then some (i+n).toNat else none
noncomputable def gI {α:Type} (xs:List α) (i:Int):Option α:=(nE xs.length i).bind fun j=>xs[j]?
theorem ug {n:Nat} {i:Int} {j:Nat} (h:nE n i=some j):seqIndex? i n=some j/\j < n/\-(n:Int)<=i/\i < n:=by
 unfold nE at h
 by_cases h0:0<=i
 ·rw [if_pos h0] at h
  by_cases h1:i < n
  ·rw [if_pos h1] at h
   have e:i.toNat=j:=Fw h
   exact ⟨by rw [seqIndex_of h0 h1,e],by lia,by lia,h1⟩
  ·rw [if_neg h1] at h; cases h
 ·rw [if_neg h0] at h
  by_cases h1 : -(n:Int)<=i
  ·rw [if_pos h1] at h
   have e:(i+n).toNat=j:=Fw h
   exact ⟨by rw [seqIndex_neg (by lia) h1,e],by lia,h1,by lia⟩
  ·rw [if_neg h1] at h; cases h
theorem uD {α:Type} {xs:List α} {i:Int} {v:α} (h:gI xs i=some v):∃ j,seqIndex? i xs.length=some j/\xs[j]? = some v/\j < xs.length/\-(xs.length:Int)<=i/\i < xs.length:=by
 unfold gI at h
 cases e:nE xs.length i with
 | none=>rw [e] at h; cases h
 | some j =>
  rw [e] at h
  obtain ⟨h1,h2,h3,h4⟩:=ug e
  exact ⟨j,h1,h,h2,h3,h4⟩
theorem gb {α:Type} {xs:List α} {j:Nat} {v:α} (h:xs[j]? = some v):gI xs (j:Int)=some v:=by
 have hj:j < xs.length:=(Fj.mp h).1
 have e:nE xs.length (j:Int)=some j:=by
  unfold nE
  rw [if_pos (by lia),if_pos (by lia)]; simp
 unfold gI; rw [e]; exact h
def zI (b:Gv):Prop:=∀ o i,subscripted b false o i=operate [o,i] (getItem o i)
def zh (X:Cx) (r:R2):Prop :=
 ∀ (value slice:Gv) (pins:List (Fe × Obj)) (s:Do) (σ:St) (H:Hp) (x y:V) (v u:AC) (Q:VK),Inv X pins σ H s->RelV x v->RelV y u->r x y H Q ->
  subscripted slice false v u=operate [v,u] (getItem v u)->wpAny (model X.prog X.w) X.A (subscriptTail value slice v u) (EP X pins σ Q) X.xe s
def EX (X:Cx) (id:String) (r:V->List V->Hp->VK->Prop):Prop :=
 ∀ (pins:List (Fe × Obj)) (s:Do) (σ:St) (H:Hp) (x:V) (xs:List V) (v:AC) (us:List AC) (Q:VK),Inv X pins σ H s->RelV x v->Vals xs us->r x xs H Q ->
  wpAny (model X.prog X.w) X.A (call (.builtin id) (v::us)) (EP X pins σ Q) X.xe s
section
variable {X:Cx} {a b:Gv} {ta tb:TE} {pos:Pos}
theorem aX {r:R2} (hr:zh X r) (ha:PE X a ta) (hb:PE X b tb) (hs:zI b):PE X (.Subscript a b pos) (xI r ta tb):=by
 intro pins s σ H Q I h
 exact Subscript_ (yy ha hb I h fun v u s2 x y H2 I2 rx ry q=>hr a b pins s2 σ H2 x y v u Q I2 rx ry q (hs _ _))
noncomputable def Ej (K:Fp):R2:=fun x y H Q=>∃ p xs i v,x = .ref p/\y = .int i/\av K H p xs/\gI xs i=some v/\Q v H
noncomputable def Bm (K:Fp):R2:=fun x y H Q=>∃ p xs i v,x = .ref p/\y = .int i/\bJ K H p xs/\gI xs i=some v/\Q v H
theorem bK:zh X (Ej X.K):=by
 intro value slice pins s σ H x y v u Q I rx ry h hs
 obtain ⟨p,xs,i,z,rfl,rfl,hq,he,q⟩:=h
 cases rx
 obtain ⟨t,rfl⟩:=ry
 obtain ⟨its,r,pl,hz⟩:=I.list hq
 obtain ⟨j,h1,h2,h3,h4,h5⟩:=uD he
 obtain ⟨w,ew,rw'⟩:=r.get h2
 have hl:=r.length
 have hn:=n8
 have fin:EP X pins σ Q w s:=⟨z,H,I,rw',q⟩
 by_cases h0:0<=i
 ·have hj:i.toNat=j:=by
   rw [seqIndex_of h0 h5] at h1
   exact Fw h1
  exact item_listR pl.isList h0 (by lia) (by rw [hj]; simpa using ew) fin hs
 ·have hj:(i+(its.toArray.size:Int)).toNat=j:=by
   rw [seqIndex_neg (by lia) h4] at h1
   rw [Fz,<- hl]
   exact Fw h1
  exact subscriptTail_builtinR (x:=w) pl.isList.typeIs slot_list_getitem.lookup
   (wpAny_getItem_list_neg (Q:=fun r s'=>r=w/\EP X pins σ Q r s') pl.isList (by lia) (by rw [Fz]<;>lia) (by lia) (by rw [hj]; simpa using ew) ⟨rfl,fin⟩) hs
theorem cz:zh X (Bm X.K):=by
 intro value slice pins s σ H x y v u Q I rx ry h hs
 obtain ⟨p,xs,i,z,rfl,rfl,hq,he,q⟩:=h
 cases rx
 obtain ⟨t,rfl⟩:=ry
 obtain ⟨its,r,pl,hz⟩:=I.tuple hq
 obtain ⟨j,h1,h2,h3,h4,h5⟩:=uD he
 obtain ⟨w,ew,rw'⟩:=r.get h2
 have hl:=r.length
 have hn:=n8
 have fin:EP X pins σ Q w s:=⟨z,H,I,rw',q⟩
 exact subscriptTail_builtinR (x:=w) pl.typeIs slot_tuple_getitem.lookup
  (getItem_tuple (j:=j) (Q:=fun r s'=>r=w/\EP X pins σ Q r s') pl (by lia) (by lia) (by rw [Fz,<- hl]; exact h1) (by simpa using ew) ⟨rfl,fin⟩) hs
theorem vN (its:List AC) (n j:Nat) (u:AC):Hy (·.setIfInBounds j u) { cls:=.type "list",data:=.seq its.toArray n }={ cls:=.type "list",data:=.seq (its.set j u).toArray n }:=by
 simp [Hy]
theorem Inv.lst {pins:List (Fe × Obj)} {σ:St} {H:Hp} {s:Do} {p:Fe} {xs:List V} (I:Inv X pins σ H s) (h:H p=some (.lst xs)) :
  ∃ (its:List AC) (n:Nat),Vals xs its/\s.heap.get? p=some { cls:=.type "list",data:=.seq its.toArray n }/\xs.length<=sizeLine:=by
 obtain ⟨z,its,n,r,e⟩:=I.hok p _ h
 exact ⟨its,n,r,e,z⟩
theorem Inv.lstUpd {pins:List (Fe × Obj)} {σ:St} {H:Hp} {s:Do} {p:Fe} {xs ys:List V} {its its':List AC} {n n':Nat} {f:Obj->Obj} (I:Inv X pins σ H s) (h:H p=some (.lst xs))
  (ho:s.heap.get? p=some { cls:=.type "list",data:=.seq its.toArray n }) (hf:f { cls:=.type "list",data:=.seq its.toArray n }={ cls:=.type "list",data:=.seq its'.toArray n' }) (r:Vals ys its') (hz:ys.length<=sizeLine) (t:Nat) :
  Inv X pins σ (upd H p (.lst ys)) { s with heap:=s.heap.update p f,toks:=t }:=by
 have e:(s.heap.update p f).get? p=some { cls:=.type "list",data:=.seq its'.toArray n' }:=by
  rw [F0 f ho (by rw [hf]<;>rfl),hf]
 refine I.write (x:=p) (e:=p) (by rw [h]; trivial) (.inl rfl) (fun b u hb q=>(Fq _ _ (Gk hb)).trans q) ⟨_,e⟩ ?_
 exact ⟨hz,its',n',r,e⟩
noncomputable def C4:V->V->V->Hp->(Hp->Prop)->Prop:=fun o i v H Q=>∃ p xs k j,o = .ref p/\i = .int k/\H p=some (.lst xs)/\nE xs.length k=some j/\Q (upd H p (.lst (xs.set j v)))
theorem set_list:Bw X C4:=by
 intro pins s σ H o i v ov iv u Q I ro ri rv h
 obtain ⟨p,xs,k,j,rfl,rfl,hp,hj,q⟩:=h
 cases ro
 obtain ⟨t,rfl⟩:=ri
 obtain ⟨its,n,r,ho,hz⟩:=I.lst hp
 obtain ⟨h1,h2,h3,h4⟩:=ug hj
 have hl:=r.length
 have hn:=n8
 have I':Inv X pins σ (upd H p (.lst (xs.set j v))) { s with heap:=s.heap.update p (Hy (·.setIfInBounds j u)) } :=
  I.lstUpd hp ho (vN its n j u) (r.set rv j) (by rw [List.length_set]; exact hz) s.toks
 by_cases h0:0<=k
 ·have hk:k.toNat=j:=by
   rw [seqIndex_of h0 h4] at h1
   exact Fw h1
  exact PySem.W.ki_setAt ho h0 (by lia) (by rw [Fz,<- hl]; exact h4) (by rw [hk]; exact ⟨_,I',q⟩)
 ·have hk:(k+(its.toArray.size:Int)).toNat=j:=by
   rw [seqIndex_neg (by lia) h3] at h1
   rw [Fz,<- hl]
   exact Fw h1
  exact PySem.W.ki_setBack ho (by lia) (by rw [Fz,<- hl]; exact h3) (by lia) (by rw [hk]; exact ⟨_,I',q⟩)
theorem rN (lo hi:Option Int) (n:Nat):(sliceBounds lo hi none n).1=((HT.sIx n 0 lo:Nat):Int)/\(sliceBounds lo hi none n).2.1=((HT.sIx n n hi:Nat):Int)/\(sliceBounds lo hi none n).2.2=1:=by
 refine ⟨?_,?_,rfl⟩
 ·cases lo with
  | none=>simp [sliceBounds,HT.sIx]
  | some i =>
   simp only [sliceBounds,HT.sIx,Option.getD_none,show (1:Int) > 0 by decide,if_true]
   by_cases h:i < 0
   ·simp only [h,if_true]<;>lia
   ·simp only [h,if_false]<;>lia
 ·cases hi with
  | none=>simp [sliceBounds,HT.sIx]
  | some i =>
   simp only [sliceBounds,HT.sIx,Option.getD_none,show (1:Int) > 0 by decide,if_true]
   by_cases h:i < 0
   ·simp only [h,if_true]<;>lia
   ·simp only [h,if_false]<;>lia
theorem qJ (its:List AC) (lo hi:Option Int):slicePick its.toArray lo hi none=((its.drop (HT.sIx its.length 0 lo)).take (HT.sIx its.length its.length hi - HT.sIx its.length 0 lo)).toArray:=by
 obtain ⟨h1,h2,h3⟩:=rN lo hi its.toArray.size
 unfold slicePick
 rw [h1,h2,h3]
 simp only [sliceRange_one,pick_run,Fz]<;>rfl
noncomputable def Ex (K:Fp):V->Option Int->Option Int->Hp->VK->Prop:=fun x lo hi H Q=>∃ a xs,x = .ref a/\av K H a xs/\∀ p,H p=none->Q (.ref p) (upd H p (.lst (dS xs lo hi)))
theorem jd:DQ X (Ex X.K):=by
 intro pins s σ H x v vl vu lo hi sl Q I rx hs pl pu h
 obtain ⟨a,xs,rfl,hx,q⟩:=h
 cases rx
 obtain ⟨its,r,ht,hz⟩:=I.list hx
 have hlen:=r.length
 refine ⟨"list",_,slot_list_getitem.lookup,ht.isList.typeIs,?_⟩
 refine wpAny_getItem_list_slice ht.isList hs pl pu .none (by simp) ?_ (by rw [Fz]<;>lia)
 rw [qJ,<- hlen]
 refine ⟨.ref s.heap.objs.size,_,I.laid (t':=s.toks) (o:=.lst (dS xs lo hi)) (fun b ob q=>Fd _ q) (Fg _) ?_,rfl,q _ (I.hok.fresh (Fg _))⟩
 exact ⟨FW (tO xs lo hi) hz,_,0,(r.drop (HT.sIx xs.length 0 lo)).take (HT.sIx xs.length xs.length hi - HT.sIx xs.length 0 lo),FH _ rfl⟩
noncomputable def dw:V->Bool
 | .non=>true
 | .bl _=>true
 | .int _=>true
 | .str _=>true
 | _=>false
noncomputable def dB:V->V->Bool
 | .non,.non=>true
 | .bl a,.bl b=>a == b
 | .bl a,.int b=>(if a then 1 else 0) == b
 | .int a,.bl b=>a == (if b then 1 else 0)
 | .int a,.int b=>a == b
 | .str a,.str b=>a == b
 | _,_=>false
theorem rj {A:Gd} {s:Do} {y x:V} {u v:AC} (ry:RelV y u) (rx:RelV x v) (fy:dw y=true) (fx:dw x=true):J3 A s u v (dB y x):=by
 cases y with
 | non =>
  cases ry
  cases x with
  | non=>cases rx; exact Kf _
  | bl b=>cases rx; exact SeqAt.EqAt.none_bool b
  | int b=>obtain ⟨t,rfl⟩:=rx; exact SeqAt.EqAt.none_int b t
  | str b=>obtain ⟨t,rfl⟩:=rx; exact SeqAt.EqAt.none_str b t
  | _=>exact absurd (show false=true from fx) FC
 | bl a =>
  cases ry
  cases x with
  | non=>cases rx; exact SeqAt.EqAt.bool_none a
  | bl b=>cases rx; exact SeqAt.EqAt.bool_bool a b
  | int b=>obtain ⟨t,rfl⟩:=rx; exact SeqAt.EqAt.bool_int a b t
  | str b=>obtain ⟨t,rfl⟩:=rx; exact SeqAt.EqAt.bool_str a b t
  | _=>exact absurd (show false=true from fx) FC
 | int a =>
  obtain ⟨t',rfl⟩:=ry
  cases x with
  | non=>cases rx; exact SeqAt.EqAt.int_none a t'
  | bl b=>cases rx; exact SeqAt.EqAt.int_bool a t' b
  | int b=>obtain ⟨t,rfl⟩:=rx; exact SeqAt.EqAt.int_int a t' b t
  | str b=>obtain ⟨t,rfl⟩:=rx; exact JP a t' b t
  | _=>exact absurd (show false=true from fx) FC
 | str a =>
  obtain ⟨t',rfl⟩:=ry
  cases x with
  | non=>cases rx; exact SeqAt.EqAt.str_none a t'
  | bl b=>cases rx; exact SeqAt.EqAt.str_bool a t' b
  | int b=>obtain ⟨t,rfl⟩:=rx; exact JQ a t' b t
  | str b=>obtain ⟨t,rfl⟩:=rx; exact SeqAt.EqAt.str_str a t' b t
  | _=>exact absurd (show false=true from fx) FC
 | _=>exact absurd (show false=true from fy) FC
noncomputable def oo (x:V) (u:AC):Bool:=match u with
 | .none=>dB .non x
 | .bool b=>dB (.bl b) x
 | .int i _=>dB (.int i) x
 | .str z _=>dB (.str z) x
 | _=>false
theorem xP {x y:V} {u:AC} (r:RelV y u) (f:dw y=true):oo x u=dB y x:=by
 cases y with
 | non=>cases r; rfl
 | bl b=>cases r; rfl
 | int i=>obtain ⟨t,rfl⟩:=r; rfl
 | str z=>obtain ⟨t,rfl⟩:=r; rfl
 | _=>exact absurd (show false=true from f) FC
theorem oW {x:V}:∀ {xs:List V} {us:List AC},Vals xs us->xs.all dw=true->us.any (oo x)=xs.any fun y=>dB y x
 | _,_,.nil,_=>rfl
 | y::xs,u::us,.cons r t,f=>by
  rw [Hz,FY] at f
  rw [Iz,Iz,xP r f.1,oW t f.2]
theorem m7 {A:Gd} {s:Do} {x:V} {v:AC} (rx:RelV x v) (fx:dw x=true):∀ {xs:List V} {us:List AC},Vals xs us->xs.all dw=true->∀ u∈us,J3 A s u v (oo x u)
 | _,_,.nil,_=>fun u hu=>by cases hu
 | y::xs,u::us,.cons r t,f=>fun u' hu=>by
  rw [Hz,FY] at f
  rcases FB.mp hu with rfl | hu
  ·rw [xP r f.1]; exact rj r rx f.1 fx
  ·exact m7 rx fx t f.2 u' hu
noncomputable def uA (x:V) (xs:List V):Bool:=xs.any fun y=>dB y x
noncomputable def Cb (K:Fp) (neg:Bool):R2:=fun x y H Q=>∃ p xs,y = .ref p/\(av K H p xs\/bJ K H p xs)/\dw x=true/\xs.all dw=true/\Q (.bl (if neg then !uA x xs else uA x xs)) H
theorem qg:fL X (compareOp .In) (Cb X.K false):=by
 intro pins s σ H x y v u Q I rx ry h
 obtain ⟨p,xs,rfl,hq,fx,fs,q⟩:=h
 cases ry
 rcases hq with hq | hq
 ·obtain ⟨its,r,pl,hz⟩:=I.list hq
  refine SeqAt.in_listAt (oo x) pl.isList (fun w hw=>m7 rx fx r fs w (by simpa using hw)) ⟨.bl _,H,I,rfl,?_⟩
  rw [show its.toArray.any (oo x)=its.any (oo x) by simp,oW r fs]
  exact q
 ·obtain ⟨its,r,pl,hz⟩:=I.tuple hq
  refine SeqAt.in_tupleAt (oo x) pl (fun w hw=>m7 rx fx r fs w (by simpa using hw)) ⟨.bl _,H,I,rfl,?_⟩
  rw [show its.toArray.any (oo x)=its.any (oo x) by simp,oW r fs]
  exact q
theorem di:ij X (.builtin "len") (fun xs H Q=>∃ p ys,xs=[.ref p]/\(av X.K H p ys\/bJ X.K H p ys)/\Q (.int ys.length) H):=by
 intro pins s σ H xs us Q I r h
 obtain ⟨p,ys,rfl,hq,q⟩:=h
 obtain ⟨u,rfl,rx⟩:=vals1 r
 cases rx
 have hn:=n8
 rcases hq with hq | hq
 ·obtain ⟨its,r',pl,hz⟩:=I.list hq
  have hlen:=r'.length
  exact Calls.call_len_list pl.isList (by simp only [Fz]<;>lia) ⟨.int ys.length,H,I.tok _,⟨s.toks+1,by rw [Fz,hlen]⟩,q⟩
 ·obtain ⟨its,r',pl,hz⟩:=I.tuple hq
  have hlen:=r'.length
  exact len_tuple pl (by simp only [Fz]<;>lia) ⟨.int ys.length,H,I.tok _,⟨s.toks+1,by rw [Fz,hlen]⟩,q⟩
theorem rK:ij X (.type "list") (fun xs H Q=>∃ p ys,xs=[.ref p]/\(av X.K H p ys\/bJ X.K H p ys)/\∀ l,H l=none->Q (.ref l) (upd H l (.lst ys))):=by
 intro pins s σ H xs us Q I r h
 obtain ⟨p,ys,rfl,hq,q⟩:=h
 obtain ⟨u,rfl,rx⟩:=vals1 r
 cases rx
 have fin:∀ (its:List AC),Vals ys its->ys.length<=sizeLine->∀ (h':GG) (c':Nat),(∀ b o',s.heap.get? b=some o'->h'.get? b=some o') ->
   h'.get? s.heap.objs.size=some { cls:=.type "list",dict:=none,data:=.seq its.toArray c',slots:=#[] }->EP X pins σ Q (.ref s.heap.objs.size) { s with heap:=h' }:=fun its r' hz h' c' kp e =>
  ⟨.ref s.heap.objs.size,_,I.laid (t':=s.toks) kp (Fg _) (show aJ X.prog X.w _ h' _ (.lst ys) from ⟨hz,its,c',r',e⟩),rfl,q _ (I.hok.fresh (Fg _))⟩
 rcases hq with hq | hq
 ·obtain ⟨its,r',pl,hz⟩:=I.list hq
  have hlen:=r'.length
  obtain ⟨o,ho,hc,n,hd⟩:=pl.isList
  exact call_list_seq p (.inl rfl) ho hc hd (fun h' c' kp e=>fin its r' hz h' c' kp e) (by simp only [Fz]<;>lia)
 ·obtain ⟨its,r',pl,hz⟩:=I.tuple hq
  have hlen:=r'.length
  obtain ⟨o,ho,hc,n,hd⟩:=pl
  exact call_list_seq p (.inr rfl) ho hc hd (fun h' c' kp e=>fin its r' hz h' c' kp e) (by simp only [Fz]<;>lia)
def DV (K:Fp) (T:String) (x:V) (H:Hp):Prop:=match x with
 | .str _=>T = "str"
 | .int _=>T = "int"
 | .ref p=>(T = "list"/\∃ xs,av K H p xs)\/(T = "tuple"/\∃ o,K.lookup p=some o/\o.cls = .type "tuple"/\o.dict=none) \/
   (T = "dict"/\((∃ kvs,H p=some (.dK kvs))\/∃ kvs,H p=some (.dT kvs)))\/(T = "set"/\∃ S n,H p=some (.set S n))
 | _=>False
theorem A5 {pins:List (Fe × Obj)} {σ:St} {H:Hp} {s:Do} {T:String} {x:V} {v:AC} (I:Inv X pins σ H s) (r:RelV x v) (ty:DV X.K T x H) :
  s.TypeIs v T/\∀ a,v = .ref a->∃ ob,s.heap.get? a=some ob/\ob.dict=none:=by
 cases x with
 | str z =>
  obtain ⟨t,rfl⟩:=r
  cases (show T = "str" from ty)
  exact ⟨typeIs_str s z t,fun _ e=>nomatch e⟩
 | int i =>
  obtain ⟨t,rfl⟩:=r
  cases (show T = "int" from ty)
  exact ⟨typeIs_int s i t,fun _ e=>nomatch e⟩
 | ref p =>
  cases r
  rcases ty with ⟨rfl,xs,hq⟩ | ⟨rfl,o,hk,hc,hd⟩ | ⟨rfl,hk⟩ | ⟨rfl,S,n,hk⟩
  ·obtain ⟨its,_,pl,_⟩:=I.list hq
   refine ⟨pl.isList.typeIs,fun a e=>?_⟩
   cases e
   obtain ⟨o,n,e,c,hd,_⟩:=pl
   exact ⟨o,e,hd⟩
  ·refine ⟨⟨o,I.kIn p o hk,hc⟩,fun a e=>?_⟩
   cases e
   exact ⟨o,I.kIn _ o hk,hd⟩
  ·have z:∃ o,s.heap.get? p=some o/\o.ExactDict:=by
    rcases hk with ⟨kvs,hk⟩ | ⟨kvs,hk⟩
    ·obtain ⟨_,_,_,_,o,_,_,e,ex,_⟩:=I.hok p _ hk
     exact ⟨o,e,ex⟩
    ·obtain ⟨_,_,_,_,o,_,_,e,ex,_⟩:=I.hok p _ hk
     exact ⟨o,e,ex⟩
   obtain ⟨o,e,ex⟩:=z
   refine ⟨⟨o,e,ex.1⟩,fun a e2=>?_⟩
   cases e2
   exact ⟨o,e,ex.2.1⟩
  ·obtain ⟨o,_,_,_,e,ex,_⟩:=I.hok p _ hk
   refine ⟨⟨o,e,ex.1⟩,fun a e2=>?_⟩
   cases e2
   exact ⟨o,e,ex.2.1⟩
 | _=>exact Gi ty
noncomputable def EN (K:Fp) (T:String) (r:V->List V->Hp->VK->Prop) (to:TE) (t:TA):TE:=fun σ H Q=>to σ H fun x H1=>DV K T x H1/\t σ H1 fun xs H2=>r x xs H2 Q
variable {o e:Gv} {es:List Gv} {to:TE} {t:TA} {name:Str} {apos cpos:Pos} {T id:String} {r:V->List V->Hp->VK->Prop}
theorem iT (pa:PlainAttrs T) (slot:Slot T name id) (hty:typeOf (.builtin id)=pure (.type "method_descriptor")) (hm:EX X id r) (ho:PE X o to) (ha:PA X (e::es) t)
  (hbase:attributeBase o name X.env (eval o X.env)=eval o X.env:=by rfl)
  (hfew:((backTo cpos (starEach (e::es) X.env)).all (fun x=>!x.1)&&(backToKw cpos (keywordEach [] X.env)).all (fun x=>x.1.isSome)
   && decide ((e::es).length+([]:List J2).length+(if ([]:List J2).isEmpty then 0 else 1) < 30))=true:=by rfl)
  (hline:(apos.endLine == cpos.line)=true:=by rfl) (hs:starEach (e::es) X.env=(false,eval e X.env)::starEach es X.env:=by rfl) (hplain:(backTo cpos (starEach es X.env)).any (·.1)=false:=by rfl) :
  PE X (.Call (.Attribute o name apos) (e::es) [] cpos) (EN X.K T r to t):=by
 intro pins s σ H Q I h
 refine wpAny_Call_method_late hbase hfew hline rfl (aB (ho pins s σ H _ I h) fun v s1 ⟨x,H1,I1,r1,ty,q1⟩=>?_)
 obtain ⟨h1,h2⟩:=A5 I1 r1 ty
 refine ⟨T,id,pa,slot,hty,h1,h2,?_⟩
 have hA:=ha cpos pins s1 σ H1 _ I1 q1
 rw [hs] at hA |-
 refine Hu (by show (false || (backTo cpos (starEach es X.env)).any (·.1))=false; rw [hplain]<;>rfl) (GR ?_)
 exact aB hA fun us s2 ⟨vs,H2,I2,r2,q2⟩=>hm pins s2 σ H2 x vs v us Q I2 r1 r2 q2
end
end L2
namespace L2
open PySem PySem.Spec PyProof.Rows
def ux (X:Cx) (id:String) (r:V->List V->Hp->VK->Prop):Prop :=
 ∀ (pins:List (Fe × Obj)) (s:Do) (σ:St) (H:Hp) (x:V) (xs:List V) (v:AC) (us:List AC) (Q:VK),Inv X pins σ H s->RelV x v->Vals xs us->r x xs H Q ->
  wpAny (model X.prog X.w) X.A (call (.builtin id) (v::us)) (EP X pins σ Q) X.xe s
theorem Vals.one:∀ {x:V} {us:List AC},Vals [x] us->∃ u,us=[u]/\RelV x u
 | _,_,.cons r .nil=>⟨_,rfl,r⟩
section
variable {X:Cx} {pins:List (Fe × Obj)} {σ:St} {H:Hp} {s:Do} {l b:Fe} {xs ys zs:List V}
theorem Inv.lset {its its':List AC} {n:Nat} {f:Array AC->Array AC} {t':Nat} (I:Inv X pins σ H s) (hH:H l=some (.lst xs))
  (e:s.heap.get? l=some { cls:=.type "list",data:=.seq its.toArray n }) (hf:f its.toArray=its'.toArray) (hv:Vals ys its') (hz:ys.length<=sizeLine) :
  Inv X pins σ (upd H l (.lst ys)) { s with heap:=s.heap.update l (Hy f),toks:=t' }:=by
 have q:=PySem.IsL.update e f
 rw [hf] at q
 refine I.write (x:=l) (e:=l) (by rw [hH]; exact trivial) (.inl rfl) (fun b' u hb hu=>(Fq s.heap (Hy f) (Gk hb)).trans hu) ⟨_,q⟩ ?_
 exact ⟨hz,its',_,hv,q⟩
theorem Inv.lnew {its:List AC} {t':Nat} (I:Inv X pins σ H s) (hv:Vals ys its) (hz:ys.length<=sizeLine) :
  Inv X pins σ (upd H s.heap.objs.size (.lst ys)) { s with heap:=s.heap.push { cls:=.type "list",data:=.seq its.toArray },toks:=t' } :=
 I.laid (fun _ _ q=>Fd _ q) (Fg _) ⟨hz,its,0,hv,FH _ rfl⟩
theorem Inv.fresh (I:Inv X pins σ H s):H s.heap.objs.size=none:=I.hok.fresh (Fg _)
theorem Inv.lstM (I:Inv X pins σ H s) (hH:H l=some (.lst xs)):xs.length<=sizeLine/\∃ (its:List AC) (n:Nat),Vals xs its/\xs.length=its.length/\s.heap.get? l=some { cls:=.type "list",data:=.seq its.toArray n }:=by
 obtain ⟨z,its,n,r,e⟩:=I.hok l _ hH
 exact ⟨z,its,n,r,r.length,e⟩
theorem yX {n:Nat} (h:n<=sizeLine):Builtin.List.listTooLong n=false:=by
 unfold Builtin.List.listTooLong
 exact decide_eq_false (by lia)
end
section
variable {X:Cx}
noncomputable def Ae:V->List V->Hp->VK->Prop:=fun x vs H Q=>∃ l xs y,x = .ref l/\vs=[y]/\H l=some (.lst xs)/\xs.length < sizeLine/\Q .non (upd H l (.lst (xs++[y])))
theorem g7:ux X "list.append" Ae:=by
 intro pins s σ H x vs v us Q I rx rv h
 obtain ⟨l,xs,y,rfl,rfl,hH,hz,q⟩:=h
 cases rx
 obtain ⟨u,rfl,ru⟩:=rv.one
 obtain ⟨z,its,n,r,hl,e⟩:=I.lstM hH
 refine call_meets F.slot_list_append ⟨_,e,rfl⟩ F.entry_list_append (F.args_list_append_2 _ _) (PySem.list_append l its.toArray n u (by rw [Fz]; lia)) ⟨e,?_⟩
 refine ⟨.non,_,I.lset (its':=its++[u]) hH e (by simp) (r.append (.cons ru .nil)) ?_,rfl,q⟩
 rw [Fo,Io]
 lia
noncomputable def zV:V->List V->Hp->VK->Prop:=fun x vs H Q=>∃ l b xs zs,x = .ref l/\vs=[.ref b]/\H l=some (.lst xs)/\H b=some (.lst zs)/\xs.length+zs.length<=sizeLine/\Q .non (upd H l (.lst (xs++zs)))
theorem DS:ux X "list.extend" zV:=by
 intro pins s σ H x vs v us Q I rx rv h
 obtain ⟨l,b,xs,zs,rfl,rfl,hH,hB,hz,q⟩:=h
 cases rx
 obtain ⟨u,rfl,ru⟩:=rv.one
 cases ru
 obtain ⟨z,its,n,r,hl,e⟩:=I.lstM hH
 obtain ⟨z2,its2,n2,r2,wX,e2⟩:=I.lstM hB
 have hsz:its.toArray.size+its2.toArray.size<=sizeLine:=by rw [Fz,Fz]; lia
 have hlong:¬ (!its.toArray.isEmpty&&Builtin.List.listTooLong (its.toArray.size+its2.toArray.size))=true:=by
  rw [yX hsz,Bool.and_false]
  exact FC
 refine call_meets F.slot_list_extend ⟨_,e,rfl⟩ F.entry_list_extend (F.args_list_extend_2 _ _)
  (AutoSeq1.list_extend_list_list_0 l its.toArray n b its2.toArray n2 hlong (by rw [Fz]; lia) (by lia)) ⟨e,e2,?_⟩
 refine ⟨.non,_,I.lset (its':=its++its2) hH e (by simp) (r.append r2) ?_,rfl,q⟩
 rw [Fo]
 lia
noncomputable def Er:R2:=fun x y H Q=>∃ l b xs zs,x = .ref l/\y = .ref b/\H l=some (.lst xs)/\H b=some (.lst zs)/\xs.length+zs.length<=sizeLine/\∀ p,H p=none->Q (.ref p) (upd H p (.lst (xs++zs)))
theorem d8:fL X (binaryOp .Add) Er:=by
 intro pins s σ H x y v u Q I rx ry h
 obtain ⟨l,b,xs,zs,rfl,rfl,hH,hB,hz,q⟩:=h
 cases rx
 cases ry
 obtain ⟨z,its,n,r,hl,e⟩:=I.lstM hH
 obtain ⟨z2,its2,n2,r2,wX,e2⟩:=I.lstM hB
 refine PySem.P.add_list e e2 ?_ (by rw [Fz,Fz]; lia)
 have ea:its.toArray++its2.toArray=(its++its2).toArray:=by simp
 rw [ea]
 exact ⟨.ref _,_,I.lnew (t':=s.toks) (r.append r2) (by rw [Fo]; lia),rfl,q _ I.fresh⟩
end
section
variable {prog:FG} {w:FU} {A:Gd} {E:AC->Do->Prop} {s:Do}
set_option maxRecDepth 100000 in
end
section
variable {X:Cx}
end
end L2
namespace Att
open PySem PySem.W PySem.Calls PyProof.Rows
theorem n6 {P:Gc} {h:GG}:∀ (ns:List Int) (vs:List AC),WellAll P h vs (ns.map WData.int)->J4 vs ns:=by
 intro ns
 induction ns with
 | nil =>
  intro vs w
  rw [IQ] at w
  cases w
  exact .nil
 | cons n ns ih =>
  intro vs w
  rw [FO] at w
  cases w with
  | cons a b =>
   cases a
   exact .cons _ _ (ih _ b)
theorem xf {l:OpenLaw} {n:Nat} (hn:l.most=some n) {P:Gc} {h:GG} {args:List WData} {vals:List AC}
  (hpre:l.row.toRowW.claim.pre args=true) (hwl:WellAll P h vals args) :
  ∃ a vs ns,vals=[Fv a]/\args=[WData.list (ns.map WData.int)]/\h.get? a=some { cls:=.type "list",data:=.seq vs.toArray }/\J4 vs ns/\ns.length<=n:=by
 have hsh:WShape.hasAll [] args [.list .int]=true:=(pre_splitW hpre).1
 have hc:l.pre.holds [] { args:=args }=true:=(pre_splitW hpre).2
 obtain ⟨d,r,rfl,h1,h2⟩:=hasAllW_cons hsh
 obtain rfl:=hasAllW_nil h2
 obtain ⟨xs,rfl,h3⟩:=hasW_list h1
 obtain ⟨ns,rfl⟩:=items_int h3
 have hlen:ns.length<=n:=by
  unfold OpenLaw.pre at hc
  have h4:(WTm.not (.lt (.lit (.int (n:Int))) (.len (.arg 0)))).holds [] { args:=[.list (ns.map .int)] }=true:=by
   have h4:=(holds_andW hc).1
   rw [hn] at h4
   exact h4
  have h5:=condW_of h4 (w_not (w_lt w_lit (w_len_list (w_arg rfl))))
  rw [Ff] at h5
  refine Nat.le_of_not_lt fun q=>?_
  have q':(n:Int) < ((ns.length:Nat):Int):=by lia
  first
   | (rw [decide_eq_true q'] at h5; exact absurd h5 (by decide))
   | (simp at h5; lia)
 cases hwl with
 | cons w1 w2 =>
  cases w2
  cases w1 with
  | list ho hall=>exact ⟨_,_,ns,rfl,rfl,ho,n6 ns _ hall,hlen⟩
theorem xx (l:OpenLaw) (args:List WData):l.row.toRowW.claim.post args (.bool true) args=true :=
 postW_of (r:=l.row.toRowW) (X:=(true == true))
  (show WShape.has [] (.bool true) .bool=true by first | rfl | decide | simp [WShape.has,WShape.arms,WShape.armsAll])
  (show (WTm.eq .res (.lit (.bool true))).value [] { args:=args,res:=some (.bool true),after:=args }=some (.bool (true == true)) from w_eq_bool (w_res rfl) w_lit) rfl
theorem attach_call {l:OpenLaw} {n:Nat} {q:FG} {loose:List Str} {XP:(Str->Option AC)->GG->Prop} {YP:FU->GG->Prop} {d:DefRec}
  (hn:l.most=some n) (hdf:d.params.defaults=[])
  (call:∀ (w:FU) (s₀ s₁:Do) (mg mb:Str->Option AC) (fa:Fe) (o:Obj) (pm cd doc:AC) (a:Fe) (vs:List AC) (ns:List Int),
   Ground q loose [] XP w s₀ mg mb s₁.heap->YP w s₁.heap ->
   s₁.heap.get? fa=some o->o.data = .func (docDef d.name d.params d.body d.scope pm cd doc)->s₁.heap.CodeRec cd d.name->mg d.name=some (.ref fa) ->
   s₁.heap.get? a=some { cls:=.type "list",data:=.seq vs.toArray }->J4 vs ns->ns.length<=n->s₁.gens = #[] ->
   codeAny (model l.prog w) callerA (.call (.ref fa) ⟨[.ref a],[]⟩) (fun r s'=>r = .ok (.ret (.bool true))/\OldK s₁.heap s'.heap/\s'.os=s₁.os/\IC s'.gens) s₁) :
  WalkO q loose XP YP l.row.toRowW d [] (fun f vs=>J5 f vs):=by
 intro w s₀ s₁ mg mb G Y fa o pm cd doc dV kV ho hd hcd hD hmg hg args vals as hpre hlay hrd hwl hlo
 obtain rfl:dV = .none:=Dflts.none hD hdf
 obtain rfl:kV = .none:=Dflts.noKw hD
 obtain ⟨a,vs,ns,rfl,rfl,hobj,hints,hlen⟩:=xf hn hpre hwl
 refine enter_call (Hn (call w s₀ s₁ mg mb fa o pm cd doc a vs ns G Y ho (fd_plain hd) hcd hmg hobj hints hlen hg) fun r s' hq=>?_)
 obtain ⟨rfl,h2,h3,h4⟩:=hq
 exact ⟨.inl ⟨.bool true,.bool true,[],rfl,fun _=>rfl,.bool true,xx l _,fun _=>⟨List.Pairwise.nil,fun _ hm=>(nomatch hm)⟩⟩,h2,h3,h4⟩
section
variable {prog:FG} {w:FU} {A:Gd} {E:AC->Do->Prop} {s:Do} {K:JY}
noncomputable def ledger (h:GG) (L d:Fe):List (Fe × Obj):=(Gp h.objs.size).filterMap fun a=>if a=L\/a=d then none else (h.get? a).map fun o=>(a,o)
end
end Att
namespace L2
open PySem PySem.Spec PyProof.Rows
theorem iR:∀ {vs:List AC} {ns:List Int},J4 vs ns->Vals (ns.map V.int) vs
 | _,_,.nil=>.nil
 | _,_,.cons n t h=>.cons ⟨t,rfl⟩ (iR h)
def yD (H:Hp):Prop:=∀ b,H b=none\/∃ o xs,H b=some (.frz o (.lst xs))
theorem yK {P:FG} {w:FU} {K:Fp} {mg mb:Str->Option AC} {CX:g8} {k:Nat} {fa a:Fe} {fd:Fh} {x:Str} {sp:Sp} {s₁:Do} {vs:List AC} {ns:List Int}
  (KX:K.In s₁.heap) (hns:s₁.heap.Ns mainGlobals mg) (hb:s₁.heap.Ns builtinsNs mb) (hbb:∀ x:Str,x≠"__name__"->mb x=bootBuiltins x) (hlim:s₁.heap.NoLimit) (hg:s₁.gens = #[])
  (ha:s₁.heap.get? a=some { cls:=.type "list",data:=.seq vs.toArray }) (hi:J4 vs ns) (hl:ns.length<=sizeLine) (hr:bh k callerA)
  (F:∀ base:GG,K.In base->base.Ns mainGlobals mg->aF P w K mg base CX k fa fd [x] sp) (hbind:∀ (s:Do) (u:AC),Jv s fd ⟨[u],[]⟩ [(x,u)])
  (hsp:∀ H:Hp,yD H->av K H a (ns.map V.int)->sp [.ref a] H (fun v _=>v = .bl true) fun _ _ _=>False)
  (hCX:∀ H e s',CX [] H s₁ (fun _ _ _=>False) e s'->False) :
  codeAny (model P w) callerA (.call (.ref fa) ⟨[.ref a],[]⟩) (fun r s'=>r = .ok (.ret (.bool true))/\OldK s₁.heap s'.heap/\s'.os=s₁.os/\IC s'.gens) s₁:=by
 have rv:=iR hi
 have lenV:=hi.length
 -- from an abstract heap in which nothing but the script may be tracked
 have core:∀ H:Hp,yD H->av K H a (ns.map V.int)->bS P w H s₁.heap->(∀ b,H b≠none->b=a)->(H a≠none->K.lookup a=none) ->
   codeAny (model P w) callerA (.call (.ref fa) ⟨[.ref a],[]⟩) (fun r s'=>r = .ok (.ret (.bool true))/\OldK s₁.heap s'.heap/\s'.os=s₁.os/\IC s'.gens) s₁:=by
  intro H hO hS hok hA hK
  have base_of:∀ {b:Fe} {o:Obj},s₁.heap.get? b=some o->H b=none->(fV s₁.heap H).get? b=some o:=fun e n=>iK e n
  have noA:∀ {b:Fe} {o:Obj} {es:Array Gn} {ep:Nat},s₁.heap.get? b=some o->o.data = .dict es ep->H b=none:=fun {b o es ep} e d=>by
   cases q:H b with
   | none=>rfl
   | some u =>
    have e':b=a:=hA b (by rw [q]; simp)
    subst e'
    rw [ha] at e; cases e
    have d':Data.seq vs.toArray _=Data.dict es ep:=d
    cases d'
  have nsK:∀ {b:Fe} {m:Str->Option AC},s₁.heap.Ns b m->(fV s₁.heap H).Ns b m:=fun {b m} ⟨o,es,ep,e,d,r⟩=>⟨o,es,ep,base_of e (noA e d),d,r⟩
  have hKb:K.In (fV s₁.heap H):=fun b o e=>base_of (KX b o e) (by
   cases q:H b with
   | none=>rfl
   | some u =>
    have e':b=a:=hA b (by rw [q]; simp)
    subst e'
    rw [hK (by rw [q]; simp)] at e; cases e)
  have hM:Mod K mg (fV s₁.heap H):=⟨hKb,nsK hns,⟨mb,nsK hb,hbb⟩,let ⟨mc,h1,h2⟩:=hlim; ⟨mc,nsK h1,h2⟩⟩
  have e0:jv P w K mg (fV s₁.heap H) callerA [] s₁ H:=⟨rfl,hM,fun b o e=>oS e,Ju (ka _ _),trivial,fun b hb=>absurd (show b∈([]:List Fe) from hb) (by simp),hok,.of_eq hg⟩
  refine Hn ((F _ hKb (nsK hns)).run callerA [] s₁ H ⟨[.ref a],[]⟩ [.ref a] [.ref a] _ _ hr e0 (hbind s₁ (.ref a)) (.cons rfl .nil) (hsp H hO hS)) fun r s' h=>?_
  cases r with
  | error e=>exact (hCX H e s' h).elim
  | ok fl =>
   cases fl with
   | next=>exact Gi h
   | brk=>exact Gi h
   | cont=>exact Gi h
   | ret u =>
    obtain ⟨v,H',os,bare,un,hok',r',q⟩:=h
    have q':v = .bl true:=q
    subst q'
    obtain rfl:u=Ig true:=r'
    refine ⟨rfl,OldK.of_keep fun b o e=>?_,os,bare⟩
    cases q:H b with
    | none=>exact un.keep b o e q (by intro z; exact absurd (show b∈([]:List Fe) from z) (by simp)) (by simp)
    | some u =>
     rcases hO b with z | ⟨ob,xs,z⟩
     ·rw [q] at z; cases z
     ·have z2:=un.frzs b ob _ z
      obtain ⟨e1,_⟩:=hok b _ z
      obtain ⟨e2,_⟩:=hok' b _ z2
      rw [e] at e1; cases e1
      exact e2
 cases hk:K.lookup a with
 | some o =>
  -- the script is one of the module's own objects
  have e:=KX a o hk
  rw [ha] at e
  cases e
  refine core (fun _=>none) (fun _=>.inl rfl) (.inr ⟨_,vs.toArray,_,hk,rfl,rfl,rfl,by rw [Fz,lenV]; exact hl,by simpa using rv⟩) (fun b u z=>by have z':(none:Option HO)=some u:=z; cases z') (fun b z=>absurd rfl z) fun z=>absurd rfl z
 | none =>
  refine core (fun b=>if b=a then some (.frz { cls:=.type "list",data:=.seq vs.toArray } (.lst (ns.map V.int))) else none) (fun b=>?_) (.inl (.inr ⟨{ cls:=.type "list",data:=.seq vs.toArray },if_pos rfl⟩)) (fun b u z=>?_) (fun b z=>?_) fun _=>hk
  ·by_cases hb:b=a
   ·exact .inr ⟨_,_,if_pos hb⟩
   ·exact .inl (if_neg hb)
  ·by_cases hb:b=a
   ·have z':=(if_pos hb).symm.trans z
    cases z'
    subst hb
    exact ⟨ha,by rw [Ff]; exact hl,vs,_,rv,ha⟩
   ·have z':=(if_neg hb).symm.trans z
    cases z'
  ·by_cases hb:b=a
   ·exact hb
   ·exact absurd (if_neg hb) z
end L2
namespace L2
open PySem PySem.Spec PyProof.Rows
noncomputable abbrev Fc {K:Fp} {h:GG} (_:K.In h):Fp:=K
theorem Ey {l:W.OpenLaw} {n k:Nat} {q:FG} {loose:List Str} {XP:(Str->Option AC)->GG->Prop} {YP:FU->GG->Prop} {d:DefRec} {K:Gc->FD} {CX:FU->g8} {sp:FU->Sp} {x:Str}
  (hn:l.most=some n) (hn2:n<=sizeLine) (hdf:d.params.defaults=[]) (hr:bh k callerA)
  (hY:∀ (w:FU) (h:GG),YP w h->(K w.params).In h)
  (F:∀ (w:FU) (mg:Str->Option AC) (fa:Fe) (h:GG),(K w.params).In h->h.Ns mainGlobals mg->mg d.name=some (.ref fa) ->
   ∃ fd:Fh,(∀ (s:Do) (u:AC),Jv s fd ⟨[u],[]⟩ [(x,u)]) /\
    ∀ base:GG,(K w.params).In base->base.Ns mainGlobals mg->aF l.prog w (K w.params) mg base (CX w) k fa fd [x] (sp w))
  (hsp:∀ (w:FU) (H:Hp) (a:Fe) (ns:List Int),ns.length<=n->yD H->av (K w.params) H a (ns.map V.int)->sp w [.ref a] H (fun v _=>v = .bl true) fun _ _ _=>False)
  (hCX:∀ (w:FU) (H:Hp) (s:Do) (e:AC) (s':Do),CX w [] H s (fun _ _ _=>False) e s'->False) :
  W.WalkO q loose XP YP l.row.toRowW d [] (fun f vs=>J5 f vs):=by
 refine Att.attach_call hn hdf fun w s₀ s₁ mg mb fa o pm cd doc a vs ns G Y ho hd hcd hmg hobj hints hlen hg=>?_
 have KX:=hY w _ Y
 obtain ⟨fd,hb,hF⟩:=F w mg fa _ KX G.T.g hmg
 exact yK KX G.T.g G.T.b G.T.builtins G.T.nolimit hg hobj hints (FW hlen hn2) hr hF hb (fun H hO hS=>hsp w H a ns hlen hO hS) fun H e s'=>hCX w H s₁ e s'
end L2
namespace L2
open PySem PySem.Spec PyProof.Rows
noncomputable def inClass (s:Hc) (j:Nat):Hc:=match s with
 | .ClassDef _ _ _ body _ _ _ _ _ _ _=>body.getD j (.Pass ⟨0,0,0,0⟩)
 | _=>.Pass ⟨0,0,0,0⟩
noncomputable def aw (s:Hc):Arguments:=match s with
 | .FunctionDef _ a _ _ _ _ _ _ _ _=>a
 | _=>{ posonlyargs:=[],args:=[],vararg:=none,kwonlyargs:=[],kw_defaults:=[],kwarg:=none,defaults:=[] }
noncomputable def au (s:Hc):List Hc:=match s with
 | .FunctionDef _ _ b _ _ _ _ _ _ _=>b
 | _=>[]
noncomputable def ag (s:Hc):Ib:=match s with
 | .FunctionDef _ _ _ _ _ _ sc _ _ _=>sc
 | _=>{ kind:=.function,names:=[],isGenerator:=false,isCoroutine:=false }
noncomputable abbrev bC:g8:=fun _ _ _ _ _ _=>False
noncomputable abbrev E0:XK:=fun _ _ _=>False
structure bg (K:FD) (x qual:Str) (st:Hc) (f:Fe) (fd:Fh):Prop where
 ex:∃ (oc:AC) (od:Option Fe) (kV doc pm:AC) (an:Option Fe) (cdv ct:AC) (osl:Array (Option AC)),
  fd=Gm x qual (aw st) (au st) (ag st) .none kV doc pm an cdv ct/\K.lookup f=some ⟨oc,od,.func fd,osl⟩/\FM K cdv qual=true
 kp:FE K (.ref f)=true
section
variable {P:FG} {w:FU} {K:FD} {mg:Str->Option AC} {base:GG}
theorem bg.ok {x qual:Str} {st:Hc} {f:Fe} {fd:Fh} {N ps:List Str} {k:Nat} {sp:Sp} (F:bg K x qual st f fd) (S:ay N ps (ag st)) (len:∀ vs H Q E,sp vs H Q E->vs.length=ps.length)
  (hbody:∀ (cdv:AC) (A:Gd) (outer:List Env) (s:Do) (H:Hp) (vs:List V) (Q:VK) (E:XK),bh k (A.deeper (envOfC qual (ag st) s.heap.objs.size f cdv))->sp vs H Q E ->
   ∃ t,fz (gz bC P w K mg base N qual (ag st) f cdv A outer s H E).nox (au st) t/\t { nx:=fun _ H'=>Q .non H',rt:=Q } (start N vs) H):aF P w K mg base bC (k+1) f fd ps sp:=by
 obtain ⟨oc,od,kV,doc,pm,an,cdv,ct,osl,rfl,lk,hcd⟩:=F.ex
 refine qP lk hcd S len fun A outer s H vs Q E hr hsp=>?_
 obtain ⟨t,h,q⟩:=hbody cdv A outer s H vs Q E hr hsp
 exact ⟨t,h.nox,q⟩
theorem bg.binds {x qual:Str} {st:Hc} {f:Fe} {fd:Fh} {ps:List Str} (F:bg K x qual st f fd)
  (h:∀ (kV doc pm:AC) (an:Option Fe) (cdv ct:AC) (us:List AC),us.length=ps.length->bindArgs (Gm x qual (aw st) (au st) (ag st) .none kV doc pm an cdv ct) ⟨us,[]⟩=pure (ps.zip us)):Binds K fd ps []:=by
 obtain ⟨oc,od,kV,doc,pm,an,cdv,ct,osl,rfl,lk,hcd⟩:=F.ex
 exact .all (h kV doc pm an cdv ct)
theorem aE {x qual:Str} {st:Hc} {f:Fe} {oc:AC} {od an:Option Fe} {osl:Array (Option AC)} {kV doc pm cdv ct:AC} (l:K.lookup f=some ⟨oc,od,.func (Gm x qual (aw st) (au st) (ag st) .none kV doc pm an cdv ct),osl⟩)
  (c:FM K cdv qual=true) (k:FE K (.ref f)=true):bg K x qual st f (Gm x qual (aw st) (au st) (ag st) .none kV doc pm an cdv ct):=⟨⟨oc,od,kV,doc,pm,an,cdv,ct,osl,rfl,l,c⟩,k⟩
end
theorem Dh {A:Gd} {k:Nat} (hr:bh k A):A.units+1 < cLine:=HU (Nat.add_le_add_left (by decide:1<=64) _) hr.units
section
variable {X:Cx}
theorem pv (i:Nat) {x:Str} {pos:Pos} (hN:X.N[i]? = some x:=by rfl) (hv:zj X.env.scope x:=by first | exact FP rfl | exact Jx (FP rfl) | exact Jx (Jx rfl)) (hd:(x == ("__debug__" : Str))=false:=by decide)
  (hcd:(x == ("__classdict__" : Str))=false:=by decide):PE X (.Name x pos) (sL i):=BD hN hv hd hcd
end
theorem dq {A B:Prop} (h:B):if false=true then A else B:=by
 rw [if_neg FC]
 exact h
theorem d7 {A B:Prop} (h:A):if true=true then A else B:=by
 rw [if_pos rfl]
 exact h
theorem rm {c A B:Prop} [Decidable c] (h1:c->A) (h2:¬ c->B):if c then A else B:=by
 by_cases h:c
 ·rw [if_pos h]
  exact h1 h
 ·rw [if_neg h]
  exact h2 h
theorem jz {c A B:Prop} [Decidable c] (hc:c) (h:B):if (!decide c)=true then A else B:=by
 rw [decide_eq_true hc]
 exact dq h
def af (H H':Hp):Prop:=∀ b o,H b=some o->H' b=some o
theorem af.refl (H:Hp):af H H:=fun _ _ h=>h
theorem af.trans {H H1 H2:Hp} (a:af H H1) (b:af H1 H2):af H H2:=fun c o h=>b c o (a c o h)
theorem af.free {H H':Hp} (e:af H H') {l:Fe} (h:H' l=Jf):H l=Jf:=by
 cases q:H l with
 | none=>rfl
 | some o =>
  rw [e l o q] at h
  cases h
theorem af.seq {K:FD} {H H':Hp} {a:Fe} {xs:List V} (e:af H H') (h:av K H a xs):av K H' a xs:=by
 rcases h with (h | ⟨o,h⟩) | h
 ·exact .inl (.inl (e _ _ h))
 ·exact .inl (.inr ⟨o,e _ _ h⟩)
 ·exact .inr h
end L2
set_option maxHeartbeats 4000000
namespace L2
open PySem PySem.Spec PyProof.Rows
section
variable {X:Cx}
def C5 (i j:Int):Prop:=0 < j/\j.natAbs.log2 < 9000
theorem iG:fL X (binaryOp .FloorDiv) (rI C5 fun i j=>.int (i / j)):=AH fun i j _ _ _ _ _ hc q=>by
 have h1:(0:Int) < j:=hc.1
 exact floordiv_int (by lia) (by rw [Int.fdiv_eq_ediv_of_nonneg i (by lia)]; exact q) (.inl (PyProof.noPylong_of_log2 hc.2))
theorem gT:ij X (.builtin "isinstance") (fun xs H Q=>∃ x c cv t b,xs=[x,c]/\(∀ u,RelV c u->u=cv)/\gR X.K H x t/\JT X.K t cv=some b/\Q (.bl b) H):=by
 intro pins s σ H xs us Q I r h
 obtain ⟨x,c,cv,t,b,rfl,hcv,ty,e,q⟩:=h
 obtain ⟨u,w',rfl,r1,r2⟩:=vals2 r
 rw [hcv w' r2]
 exact wN I r1 ty e fun tk=>⟨.bl b,H,I.tok _,rfl,q⟩
theorem kR {n:String}:∀ u,RelV (.ty n) u->u=IA n:=fun _ h=>h
end
theorem qF {α β:Type} {l:List α} {f:α->β->Sem (ForInStep β)} (g:β->α->β) (c:β) (h:∀ x∈l,∀ c,f x c=pure (.yield (g c x))) :
  forIn l c f=pure (l.foldl g c):=by
 induction l generalizing c with
 | nil=>rfl
 | cons x l ih =>
  rw [IF,h x Gq,pure_bind]
  exact ih _ fun y hy=>h y (FI _ hy)
noncomputable def oB (cells:List (Str × Fe)) (names:List (Str × JH)) (acc:List (Str × Fe)):List (Str × Fe) :=
 names.foldl (fun cs y=>if y.2 == .free then (y.1,(cells.lookup y.1).getD 0)::cs else cs) acc
theorem jD {scope:Ib} {env:Env} (h:∀ y∈scope.names,y.2 = .free->∃ c,env.cells.lookup y.1=some c):closureFor scope env=pure (oB env.cells scope.names []):=by
 simp only [closureFor]
 rw [qF (fun cs y=>if y.2 == .free then (y.1,(env.cells.lookup y.1).getD 0)::cs else cs) [] fun x hx c=>?_]
 ·rfl
 ·obtain ⟨n,k⟩:=x
  by_cases hk:k = .free
  ·subst hk
   obtain ⟨a,ea⟩:=h (n,.free) hx rfl
   have ea':env.cells.lookup n=some a:=ea
   simp only [beq_self_eq_true,if_true,cellOf,ea',pure_bind,Iy]
  ·have hb:(k == HA)=false:=by simpa using hk
   simp only [hb,Gs,if_false]
theorem lookup_mem {α:Type}:∀ {l:List (Str × α)} {x:Str} {c:α},l.lookup x=some c->(x,c)∈l
 | [],_,_,h=>by simp at h
 | (y,d)::r,x,c,h=>by
  rw [Gh] at h
  cases hx:x == y with
  | true =>
   rw [hx] at h
   have e:x=y:=by simpa using hx
   subst e
   cases h
   exact Gq
  | false =>
   rw [hx] at h
   exact FI _ (lookup_mem h)
theorem mem_lookup {α:Type}:∀ {l:List (Str × α)} {x:Str} {c:α},(x,c)∈l->∃ d,l.lookup x=some d
 | [],_,_,h=>by cases h
 | (y,d)::r,x,c,h=>by
  rw [Gh]
  cases hx:x == y with
  | true=>exact ⟨d,rfl⟩
  | false =>
   rcases FB.mp h with e | h
   ·cases e; simp at hx
   ·exact mem_lookup h
theorem iy {cells:List (Str × Fe)}:∀ {names:List (Str × JH)} {acc:List (Str × Fe)} {p:Str × Fe},p∈oB cells names acc↔p∈acc\/((p.1,HA)∈names/\p.2=(cells.lookup p.1).getD 0)
 | [],acc,p=>by simp [oB]
 | (n,k)::r,acc,p=>by
  show p∈oB cells r (if k == .free then (n,(cells.lookup n).getD 0)::acc else acc)↔_
  rw [iy (names:=r)]
  by_cases hk:k = .free
  ·subst hk
   simp only [beq_self_eq_true,if_true,FB]
   constructor
   ·rintro ((rfl | h) | h)
    ·exact .inr ⟨.inl rfl,rfl⟩
    ·exact .inl h
    ·exact .inr ⟨.inr h.1,h.2⟩
   ·rintro (h | ⟨h | h,e⟩)
    ·exact .inl (.inr h)
    ·obtain ⟨a,b⟩:=p
     cases h
     exact .inl (.inl (by rw [show b=_ from e]))
    ·exact .inr ⟨h,e⟩
  ·have hb:(k == HA)=false:=by simpa using hk
   simp only [hb,Gs,if_false,FB]
   constructor
   ·rintro (h | h)
    ·exact .inl h
    ·exact .inr ⟨.inr h.1,h.2⟩
   ·rintro (h | ⟨h | h,e⟩)
    ·exact .inl h
    ·cases h; exact absurd rfl hk
    ·exact .inr ⟨h,e⟩
theorem fG {scope:Ib} {env:Env} {x:Str} {k:JH} (h:(relabel scope env).names.lookup x=some k):∃ k',(x,k')∈scope.names/\(k'=k\/(k' = .free/\k = .cell)):=by
 have m:=lookup_mem h
 unfold relabel at m
 obtain ⟨⟨n,k'⟩,hm,e⟩:=GH.mp m
 dsimp only at e
 split at e
 ·rename_i hc
  rw [FY,FY] at hc
  have e1:n=x:=congrArg JU e
  have e2:JV=k:=congrArg Prod.snd e
  subst e1 e2
  exact ⟨k',hm,.inr ⟨by simpa using hc.1.1,rfl⟩⟩
 ·have e1:n=x:=congrArg JU e
  have e2:k'=k:=congrArg Prod.snd e
  subst e1 e2
  exact ⟨k',hm,.inl rfl⟩
noncomputable def cH (X:Cx) (scope:Ib) (N:List Str) (cl:List (Str × Fe)) (C:Fe) (s:Do) (H:Hp) (fp:List Fe) (xe:AC->Do->Prop):Cx :=
 { X with N:=N,s₀:=s,H₀:=H,env:=compEnvC scope cl C X.env,outer:=X.stack,stack:=X.stack,ex:=fp,fn:=fun _=>false,pn:=[],xe:=xe }
inductive gG (X:Cx) (scope:Ib):List Str->List (Option Nat)->Prop where
 | nil:gG X scope [] []
 | own {x:Str} {N:List Str} {ix:List (Option Nat)} (r:gG X scope N ix):gG X scope (x::N) (none::ix)
 | cap {x:Str} {j:Nat} {N:List Str} {ix:List (Option Nat)} (h1:X.N[j]? = some x) (h2:X.env.kindOf x=some .cell) (h3:(relabel scope X.env).names.lookup x=some .cell) (r:gG X scope N ix):gG X scope (x::N) (some j::ix)
noncomputable def dm (ix:List (Option Nat)) (σ:St):St:=ix.map fun o=>match o with
 | none=>none
 | some j=>(σ[j]?).getD none
theorem gG.get {X:Cx} {scope:Ib} {σ:St}:∀ {N:List Str} {ix:List (Option Nat)},gG X scope N ix->∀ (i:Nat) (x:Str) (v:V),N[i]? = some x->(dm ix σ)[i]? = some (some v) ->
  ∃ j:Nat,X.N[j]? = some x/\σ[j]? = some (some v)/\X.env.kindOf x=some .cell/\(relabel scope X.env).names.lookup x=some .cell
 | _,_,.nil,i,x,v,h,_=>by simp at h
 | _,_,.own r,0,x,v,_,h=>by simp [dm] at h
 | _,_,.own r,i+1,x,v,h1,h2=>r.get i x v (by simpa using h1) (by simpa [dm] using h2)
 | _,_,.cap (j:=j) e1 e2 e3 r,0,x,v,h1,h2=>by
  simp at h1
  subst h1
  refine ⟨j,e1,?_,e2,e3⟩
  simp only [dm,FO,GS,HC] at h2
  cases q:σ[j]? with
  | none=>rw [q] at h2; cases h2
  | some o=>rw [q] at h2; simp only [Iy] at h2; rw [h2]
 | _,_,.cap e1 e2 e3 r,i+1,x,v,h1,h2=>r.get i x v (by simpa using h1) (by simpa [dm] using h2)
theorem gG.length {X:Cx} {scope:Ib} {N:List Str} {ix:List (Option Nat)} (h:gG X scope N ix):ix.length=N.length:=by
 induction h with
 | nil=>rfl
 | own _ ih=>simp [ih]
 | cap _ _ _ _ ih=>simp [ih]
def Ext (a b:St):Prop:=b.length=a.length/\∀ (i:Nat) v,a[i]? = some (some v)->b[i]? = some (some v)
theorem Ext.set {a:St} {i:Nat} {v:V} (h:a[i]? = some none):Ext a (a.set i (some v)):=by
 refine ⟨by simp,fun j w e=>?_⟩
 by_cases hj:j=i
 ·subst hj; rw [h] at e; cases e
 ·rw [HF (Gk hj)]; exact e
def sW (X:Cx) (ifs:List Gv) (t:TT):Prop :=
 ∀ (pins:List (Fe × Obj)) (s:Do) (σ:St) (H:Hp) (Q:Bool->Hp->Prop),Inv X pins σ H s->t σ H Q ->
  wpAny (model X.prog X.w) X.A (forIn ifs true fun c r=>if r=true then do let ok <- isTrue c X.env (eval c X.env); pure (HV ok) else pure (HV r)) (TP X pins σ Q) X.xe s
noncomputable def vb:TT:=fun _ H Q=>Q true H
theorem gN {X:Cx}:sW X [] vb:=fun pins s σ H Q I h=>wpAny_tests_nil ⟨H,I,h⟩
theorem jc {X:Cx} {c:Gv} {t:TT} (h:PT X c t):sW X [c] t:=fun pins s σ H Q I q=>wpAny_tests_one (h pins s σ H Q I q)
def ot (J:It) (g:TG) (tt:TT) (te:TE) (σ0:St) (D:Fe) (Q:VK) (H1:Hp):Prop:=∃ W:Nat->Nat->List V->Hp->Prop,(∃ m,W 0 m [] (upd H1 D (.lst [])))/\∀ i m ys H,W i m ys H ->
 (J.stop i H/\Q (.ref D) H)\/(J.go i H/\∀ x H',J.yld i H x H'->g x σ0 H' fun σ2 H2=>Ext σ0 σ2/\tt σ2 H2 fun b H3 =>
  if b=true then te σ2 H3 fun v H4=>H4 D=some (.lst ys)/\ys.length < sizeLine/\∃ m',m' < m/\W (i+1) m' (ys++[v]) (upd H4 D (.lst (ys++[v]))) else ∃ m',m' < m/\W (i+1) m' ys H3)
noncomputable def oi (wi:TI) (g:TG) (tt:TT) (te:TE) (ix:List (Option Nat)):TE:=fun σ H Q=>wi σ H fun J H1=>∀ D,H1 D=none->ot J g tt te (dm ix σ) D Q H1
section
variable {prog:FG} {w:FU} {A:Gd} {R:Result->Do->Prop} {s:Do}
theorem qb {elt target iter:Gv} {ifs:List Gv} {scope:Ib} {pos:Pos} {it acc:AC} {env:Env} (I:Nat->Do->Prop)
  (turn:∀ n s,I n s->wpAny (model prog w) A (pyNext it) (fun r s₁=>match r with
   | none=>R (.ok .next) s₁
   | some v=>wpAny (model prog w) A (letOwnedTupleGo target it v) (fun _ s₁'=>wpAny (model prog w) A (assign target env v) (fun _ s₂ =>
     wpAny (model prog w) A (forIn ifs true fun c r=>if r=true then do let ok <- isTrue c env (eval c env); pure (HV ok) else pure (HV r)) (fun ok s₃ =>
      if ok=true then wpAny (model prog w) A (eval elt env) (fun x s₄ =>
       wpAny (model prog w) A (call (.builtin "list.append") [acc,x]) (fun _ s₅=>∃ m,m < n/\I m s₅) (notedBy (model prog w) A env fun e s'=>R (.error e) s') s₄) (notedBy (model prog w) A env fun e s'=>R (.error e) s') s₃
      else ∃ m,m < n/\I m s₃) (notedBy (model prog w) A env fun e s'=>R (.error e) s') s₂) (notedBy (model prog w) A env fun e s'=>R (.error e) s') s₁') (notedBy (model prog w) A env fun e s'=>R (.error e) s') s₁) (notedBy (model prog w) A env fun e s'=>R (.error e) s') s)
  (n:Nat) (h:I n s):codeAny (model prog w) A (.compLoop (.ListComp elt [⟨target,iter,ifs,0⟩] scope pos) 0 it acc env) R s:=by
 refine codeAny_loop rfl I (fun n s hI=>?_) n h
 show wpAny _ A ((compTurn (.ListComp elt [⟨target,iter,ifs,0⟩] scope pos) 0 it acc env).onRaise (fun x=>do noteFrame x env; theTreesLotGoes x)) _ _ s
 refine wpAny_noted ?_
 rw [compTurn_list]
 refine Da (Ho (Da (Gu (turn n s hI) (fun r s₁ h₁=>?_) fun _ _ h'=>h')))
 cases r with
 | none=>exact Ft h₁
 | some v =>
  refine Da (Gu h₁ (fun _ s₁' h₁'=>?_) fun _ _ h'=>h')
  refine Da (Gu h₁' (fun _ s₂ h₂=>Da (Gu h₂ (fun ok s₃ h₃=>?_) fun _ _ h'=>h')) fun _ _ h'=>h')
  cases ok with
  | false=>exact Ft ⟨rfl,h₃⟩
  | true =>
   exact Da (Da (Gu h₃ (fun x s₄ h₄=>Da (Gu h₄ (fun _ s₅ h₅=>Ft (Ft ⟨rfl,h₅⟩)) fun _ _ h'=>h')) fun _ _ h'=>h'))
end
section
variable {X:Cx}
noncomputable def sg (sc:Ib):Bool:=sc.names.all fun y=>y.2 != .cell
noncomputable def freeOk (sc:Ib) (env:Env):Bool:=sc.names.all fun y=>y.2 != .free || env.kindOf y.1 == some .cell
noncomputable def namesOk (sc:Ib):Bool:=sc.names.all fun y=>y.2 != .local || sc.names.lookup y.1 == some .local
structure iF (X:Cx) (pins:List (Fe × Obj)) (σ:St) (H:Hp) (C:Fe) (s:Do):Prop where
 inv:Inv X pins σ H s
 ns:∃ m,s.heap.Ns C m
 free:H C=none
 loc:C≠X.env.locals
 young:X.s₀.heap.objs.size<=C
 cell:∀ x c,X.env.cells.lookup x=some c->c≠C
 pin:∀ p∈X.pn++pins,p.1≠C
theorem iF.gone {pins:List (Fe × Obj)} {σ:St} {H:Hp} {C:Fe} {s:Do} (B:iF X pins σ H C s) {h':GG} (hs:Hb C s.heap h'):Inv X pins σ H { s with heap:=h' } :=
 B.inv.turned (t':=s.toks) (it:=C) (fun b o hb e=>hs.extBut b o hb e) B.free B.loc (.inr B.young) B.cell B.pin
theorem qw {elt tg iter:Gv} {ifs:List Gv} {scope:Ib} {pos pos':Pos} {N:List Str} {ix:List (Option Nat)} {wi:TI} {g:TG} {tt:TT} {te:TE} {use:Option (AC->Sem Unit)} {Qv:AC->Do->Prop}
  (hc:X.calm=true) (hi:PI X tg iter wi) (hk:scope.kind = .function) (hcell0:sg scope=true) (hfree0:freeOk scope X.env=true) (hnames0:namesOk scope=true) (caps:gG X scope N ix)
  (hg:∀ cl C s H fp xe,PG (cH X scope N cl C s H fp xe) tg g) (ht:∀ cl C s H fp xe,sW (cH X scope N cl C s H fp xe) ifs tt) (he:∀ cl C s H fp xe,PE (cH X scope N cl C s H fp xe) elt te)
  (hs:∀ x,foldedSetIterable iter X.env x=pure x)
  {pins:List (Fe × Obj)} {s:Do} {σ:St} {H:Hp} {Q:VK} (I:Inv X pins σ H s) (h:oi wi g tt te ix σ H Q)
  (fin:∀ (C D:Fe) (H6:Hp) (s6:Do),iF X pins σ H6 C s6->Q (.ref D) H6->compPost (model X.prog X.w) X.A X.xe use Qv (.ref D) C (.ok .next) s6) :
  wpAny (model X.prog X.w) X.A (comprehension (.ListComp elt [⟨tg,iter,ifs,0⟩] scope pos) scope X.env pos' (newList []) false (eval iter X.env) use) Qv X.xe s:=by
 have hcell:∀ y∈scope.names,y.2≠.cell:=fun y hy e=>by
  have:=Fu.mp hcell0 y hy
  rw [e] at this; exact absurd this (by decide)
 have hfree:∀ y∈scope.names,y.2 = .free->X.env.kindOf y.1=some .cell:=fun y hy e=>by
  have:=Fu.mp hfree0 y hy
  rw [e] at this; simpa using this
 have hnames:∀ y∈scope.names,y.2 = .local->scope.names.lookup y.1=some .local:=fun y hy e=>by
  have:=Fu.mp hnames0 y hy
  rw [e] at this; simpa using this
 have hcl:∀ y∈scope.names,y.2 = .free->∃ c,X.env.cells.lookup y.1=some c:=fun y hy e=>I.ok.has y.1 (.inl (hfree y hy e))
 refine wpAny_comprehension_free (use:=use) rfl hs (jD hcl) hk hnames ?_
 generalize ecl:oB X.env.cells scope.names []=cl
 -- the cells of the block are the def's
 have cl1:∀ x c,cl.lookup x=some c->X.env.cells.lookup x=some c:=fun x c e=>by
  have m:=lookup_mem e
  rw [<- ecl] at m
  rcases iy.mp m with z | ⟨z,z'⟩
  ·cases z
  ·obtain ⟨a,ea⟩:=hcl _ z rfl
   have ea':X.env.cells.lookup x=some a:=ea
   have z2:c=(X.env.cells.lookup x).getD 0:=z'
   rw [ea',Iy] at z2
   rw [ea',z2]
 have cl2:∀ x,(x,HA)∈scope.names->∃ c,cl.lookup x=some c:=fun x hx=>by
  have m:(x,(X.env.cells.lookup x).getD 0)∈cl:=by rw [<- ecl]; exact iy.mpr (.inr ⟨hx,rfl⟩)
  exact mem_lookup m
 refine aB (hi pins s σ H _ I h) fun v s1 h1=>aB h1 fun itv s2 h2=>?_
 obtain ⟨it,fp,tn,J,H2,e,I2,T,st2,f2,body⟩:=h2
 subst e
 refine Jb (wpAny_newFunctionEnv hcell (by intro y hy; simp at hy) (fun h₁ hns₁ hsb₁=>?_) hk)
 dsimp only at hns₁ hsb₁ |-
 have hD:H2 s2.heap.objs.size=none:=I2.hok.fresh (Fg _)
 obtain ⟨W,⟨m0,w0⟩,turn⟩:=body _ hD
 have I3:Inv X pins σ (upd H2 s2.heap.objs.size (.lst [])) { s2 with heap:=s2.heap.push { cls:=.type "list",dict:=none,data:=.seq ([]:List AC).toArray } } :=
  I2.laid (t':=s2.toks) (fun b o e=>Fd _ e) (Fg _) ⟨Fy _,[],0,.nil,FH _ rfl⟩
 generalize hs3:({ s2 with heap:=s2.heap.push { cls:=.type "list",dict:=none,data:=.seq ([]:List AC).toArray } }:Do)=s3 at I3
 have es3:s2.heap.push { cls:=.type "list",dict:=none,data:=.seq ([]:List AC).toArray }=s3.heap:=by rw [<- hs3]
 rw [es3] at hns₁ hsb₁ |-
 generalize hD':s2.heap.objs.size=D at *
 generalize hH3:upd H2 D (.lst [])=H3 at *
 have szC:s3.heap.objs.size=D+1:=by rw [<- es3,HH,hD']
 -- what was,is
 have old:∀ b o,s3.heap.get? b=some o->h₁.get? b=some o:=fun b o e=>hsb₁.extBut b o (FV (Fi e)) (Fd _ e)
 have fpl:∀ b∈fp,b < D:=fun b hb=>by
  obtain ⟨o,e,_⟩:=T.obj 0 _ st2 b hb
  rw [<- hD']; exact Fi e
 have fpD:∀ b∈fp,H3 b=none:=fun b hb=>by
  rw [<- hH3,aq (FV (fpl b hb))]; exact (f2 b hb).1
 have fstk:∀ b∈fp,b∉bW X.stack:=fun b hb z=>by
  obtain ⟨_,f1,f3,_⟩:=f2 b hb
  rcases FB.mp (I2.stkSub b z) with e | e
  ·exact f1 e
  ·exact f3 e
 let E':AC->Do->Prop:=notedBy (model X.prog X.w) X.A (compEnvC scope cl s3.heap.objs.size X.env) fun e s'=>compPost (model X.prog X.w) X.A X.xe use Qv (.ref D) s3.heap.objs.size (.error e) s'
 have ok':(cH X scope N cl s3.heap.objs.size s3 H3 fp E').Ok:=by
  refine { mod:=I.ok.mod,kind:=?_,glob:=I.ok.glob,blt:=I.ok.blt,above:=Fg _,inj:=?_,has:=?_,cab:=?_,hd:=I.ok.hd,frames:=I.ok.frames,stk:=.inl rfl,exf:=?_,bs:=I3.bs,bsz:=?_,noex:=?_,exfs:=fstk,funs:=I3.stack,frf:=I3.stkFree }
  ·show (relabel scope X.env).kind = .function
   exact hk
  ·exact fun x y c e1 e2=>I.ok.inj x y c (cl1 x c e1) (cl1 y c e2)
  ·intro x hx
   have hx':(relabel scope X.env).names.lookup x=some .cell\/(relabel scope X.env).names.lookup x=some .free:=hx
   have:(x,HA)∈scope.names:=by
    rcases hx' with e | e
    ·obtain ⟨k',hm,z | ⟨z,_⟩⟩:=fG e
     ·subst z; exact absurd rfl (hcell _ hm)
     ·subst z; exact hm
    ·obtain ⟨k',hm,z | ⟨z,z'⟩⟩:=fG e
     ·subst z; exact hm
     ·cases z'
   exact cl2 x this
  ·intro x c z; cases z
  ·intro b hb
   refine ⟨fun z=>?_,fun x c e=>(f2 b hb).2.2.2.2.1 x c (cl1 x c e)⟩
   have lt:=fpl b hb
   have z':b=s3.heap.objs.size:=z
   rw [z',szC] at lt
   exact absurd lt (HL.mpr (GB D))
  ·exact FW I3.ok.bsz I3.sz
  ·intro b o e hb
   rcases (f2 b hb).2.2.2.1 with z | z
   ·exact I.ok.noex b o e z
   ·exact absurd (FA (Fi e) (FW I.ok.bsz z)) (Gb _)
 have I4:∀ tk,Inv (cH X scope N cl s3.heap.objs.size s3 H3 fp E') [] (dm ix σ) H3 { s3 with heap:=h₁,toks:=tk }:=fun tk=>by
  refine ⟨ok',rfl,I3.bare,Un.kept old,⟨_,hns₁,fun i x v e1 e2 e3=>?_⟩,fun x c e=>?_,?_,fun x c e=>I3.freeC x c (cl1 x c e),fun p hp=>(by cases hp),I3.hok.kept old,?_⟩
  ·obtain ⟨j,j1,j2,j3,j4⟩:=caps.get i x v e1 e2
   obtain ⟨m,hn,hl⟩:=I3.loc
   obtain ⟨u,r,l⟩:=hl j x v j1 j2 (.inr (.inl j3))
   refine ⟨u,r,.inr ⟨.inl j4,?_⟩⟩
   rcases l with ⟨l,_⟩ | ⟨_,c,ec,hcell⟩
   ·have l':X.env.kindOf x=some .local:=l
    rw [j3] at l'; cases l'
   ·obtain ⟨k',hm,z | ⟨z,_⟩⟩:=fG j4
    ·subst z; exact absurd rfl (‹∀ y∈scope.names,y.2≠.cell› _ hm)
    ·subst z
     obtain ⟨c',ec'⟩:=cl2 x hm
     have:=cl1 x c' ec'
     rw [ec] at this; cases this
     obtain ⟨o,ho,hd⟩:=hcell
     exact ⟨c,ec',o,old _ _ ho,hd⟩
  ·obtain ⟨v,o,ho,hd⟩:=I3.cell x c (cl1 x c e)
   exact ⟨v,o,old _ _ ho,hd⟩
  ·exact I3.hok.fresh (Fg _)
  ·show (dm ix σ).length=N.length
   rw [<- caps.length]; simp [dm]
 have st4:tn 0 h₁:=T.keep 0 _ _ st2 fun b hb o e=>old b o (by rw [<- es3]; exact Fd _ e)
 -- the block's end
 have fin6:∀ (s6:Do) (H6:Hp),Inv (cH X scope N cl s3.heap.objs.size s3 H3 fp E') [] (dm ix σ) H6 s6->Q (.ref D) H6 ->
   compPost (model X.prog X.w) X.A X.xe use Qv (.ref D) s3.heap.objs.size (.ok .next) s6:=fun s6 H6 I6 q=>by
  obtain ⟨m,hn,_⟩:=I6.loc
  refine fin s3.heap.objs.size D H6 s6 ⟨I3.call' (s':=s6) (ch:=fp) I6.os I6.base I6.hok I6.bare ?_,⟨m,hn⟩,I6.free,?_,I3.sz,?_,?_⟩ q
  ·intro b hb
   obtain ⟨_,f1,_,f3,f4,f5⟩:=f2 b hb
   exact ⟨f3,f1,f4,f5⟩
  ·exact Im I3.lt
  ·intro x c e z
   obtain ⟨v,o,ho,_⟩:=I3.cell x c e
   exact absurd (Fi ho) (by rw [z]; exact Gb _)
  ·intro p hp z
   exact absurd (Fi (I3.pin p hp).1) (by rw [z]; exact Gb _)
 -- the loop
 have loop:∀ s4:Do,s4={ s3 with heap:=h₁,toks:=s2.toks+([]:List (Str × AC)).length } ->
   codeAny (model X.prog X.w) X.A (.compLoop (.ListComp elt [⟨tg,iter,ifs,0⟩] scope pos) 0 (.ref it) (.ref D) (compEnvC scope cl s3.heap.objs.size X.env)) (compPost (model X.prog X.w) X.A X.xe use Qv (.ref D) s3.heap.objs.size) s4:=by
  rintro s4 rfl
  refine qb (fun n s'=>∃ i ys H',Inv (cH X scope N cl s3.heap.objs.size s3 H3 fp E') [] (dm ix σ) H' s'/\tn i s'.heap/\(∀ b∈fp,H' b=none)/\W i n ys H') ?_ m0 ⟨0,[],H3,I4 _,st4,fpD,w0⟩
  rintro n s5 ⟨i,ys,H5,I5,st5,fr5,w5⟩
  have stat:∀ {H':Hp},(∀ b∈fp,H' b=none)->∀ b∈fp,iz (cH X scope N cl s3.heap.objs.size s3 H3 fp E') [] H' b:=fun hn b hb=>by
   refine ⟨hn b hb,fun z=>?_,fstk b hb,.inl hb,fun x c e=>(f2 b hb).2.2.2.2.1 x c (cl1 x c e),fun p hp=>(by cases hp)⟩
   have lt:=fpl b hb
   have z':b=s3.heap.objs.size:=z
   rw [z',szC] at lt
   exact absurd lt (HL.mpr (GB D))
  rcases turn i n ys H5 w5 with ⟨stop,q⟩ | ⟨go,step⟩
  ·refine aB (T.done (cH X scope N cl s3.heap.objs.size s3 H3 fp E') rfl rfl rfl hc i [] s5 _ H5 E' I5 (stat fr5) st5 stop) fun r s6 ⟨hr,I6⟩=>?_
   subst hr
   exact fin6 s6 H5 I6 q
  ·refine aB (T.item (cH X scope N cl s3.heap.objs.size s3 H3 fp E') rfl rfl rfl hc i [] s5 _ H5 E' I5 (stat fr5) st5 go) fun r s6 ⟨u,hr,h6⟩=>?_
   subst hr
   refine aB h6 fun _ s7 ⟨x,H7,I7,r7,y7,st7,fr7⟩=>?_
   have I7':=I7.pinned (stat fr7) (T.obj _ _ st7)
   refine aB (hg cl s3.heap.objs.size s3 H3 fp E' _ s7 _ H7 x u _ I7' r7 (step x H7 y7)) fun _ s8 ⟨σ8,H8,I8,ext,q8⟩=>?_
   have again:∀ {σ9:St} {H9:Hp} {s9:Do} {m':Nat} {zs:List V},Ext (dm ix σ) σ9->Inv (cH X scope N cl s3.heap.objs.size s3 H3 fp E') ([]++jl fp s7.heap) σ9 H9 s9->m' < n->W (i+1) m' zs H9 ->
     ∃ m,m < n/\∃ i ys H',Inv (cH X scope N cl s3.heap.objs.size s3 H3 fp E') [] (dm ix σ) H' s9/\tn i s9.heap/\(∀ b∈fp,H' b=none)/\W i m ys H':=fun {σ9 H9 s9 m' zs} ex I9 hm w9=>by
    refine ⟨m',hm,i+1,zs,H9,(I9.unpinned).weak ex.1.symm ex.2,T.keep _ _ _ st7 fun b hb o e=>(I9.pin (b,o) (FK _ (FK _ (fZ hb e)))).1,fun b hb=>?_,w9⟩
    obtain ⟨o,e,d⟩:=T.obj _ _ st7 b hb
    exact (I9.pin (b,o) (FK _ (FK _ (fZ hb e)))).2.1
   refine aB (ht cl s3.heap.objs.size s3 H3 fp E' _ s8 σ8 H8 _ I8 q8) fun ok s9 ⟨H9,I9,q9⟩=>?_
   cases ok with
   | false =>
    obtain ⟨m',hm,w9⟩:=q9
    exact again ext I9 hm w9
   | true =>
    refine aB (he cl s3.heap.objs.size s3 H3 fp E' _ s9 σ8 H9 _ I9 q9) fun u10 s10 ⟨v10,H10,I10,r10,hDl,hlt,m',hm,w10⟩=>?_
    refine aB (g7 (X:=cH X scope N cl s3.heap.objs.size s3 H3 fp E') _ s10 σ8 H10 (.ref D) [v10] (.ref D) [u10] (fun _ H'=>H'=upd H10 D (.lst (ys++[v10]))) I10 rfl (.cons r10 .nil) ⟨D,ys,v10,rfl,rfl,hDl,hlt,rfl⟩) fun _ s11 ⟨_,H11,I11,_,e11⟩=>?_
    subst e11
    exact again ext I11 hm w10
 exact codeAny_compStart_list (loop _ (by rw [<- hs3])) (T.self _ 0 _ _ _ st4 (loop _ (by rw [<- hs3])))
theorem ir {elt tg iter:Gv} {ifs:List Gv} {scope:Ib} {pos:Pos} {N:List Str} {ix:List (Option Nat)} {wi:TI} {g:TG} {tt:TT} {te:TE}
  (hc:X.calm=true) (hi:PI X tg iter wi) (hk:scope.kind = .function) (hcell0:sg scope=true) (hfree0:freeOk scope X.env=true) (hnames0:namesOk scope=true) (caps:gG X scope N ix)
  (hg:∀ cl C s H fp xe,PG (cH X scope N cl C s H fp xe) tg g) (ht:∀ cl C s H fp xe,sW (cH X scope N cl C s H fp xe) ifs tt) (he:∀ cl C s H fp xe,PE (cH X scope N cl C s H fp xe) elt te)
  (hs:∀ x,foldedSetIterable iter X.env x=pure x:=by intro _; rfl) :
  PE X (.ListComp elt [⟨tg,iter,ifs,0⟩] scope pos) (oi wi g tt te ix):=by
 intro pins s σ H Q I h
 rw [eval_ListComp]
 refine qw (use:=none) hc hi hk hcell0 hfree0 hnames0 caps hg ht he hs I h fun C D H6 s6 B q=>?_
 obtain ⟨m,hn⟩:=B.ns
 exact ⟨m,hn,fun h' hsb=>⟨.ref D,H6,B.gone hsb,rfl,q⟩⟩
noncomputable def DE (i:Nat) (te:TE):TS:=fun D σ H=>te σ H fun x H1=>D.nx (σ.set i (some x)) H1
theorem gF {i:Nat} {y:Str} {py:Pos} {spos:Pos} {elt tg iter:Gv} {ifs:List Gv} {scope:Ib} {pos:Pos} {N:List Str} {ix:List (Option Nat)} {wi:TI} {g:TG} {tt:TT} {te:TE}
  (hN:X.N.Nodup) (hi':X.N[i]? = some y) (hx:Loc X.env.scope y) (hsw:swapsWith (.ListComp elt [⟨tg,iter,ifs,0⟩] scope pos) (some (.Name y py)) spos.line X.env=pure true)
  (hc:X.calm=true) (hi:PI X tg iter wi) (hk:scope.kind = .function) (hcell0:sg scope=true) (hfree0:freeOk scope X.env=true) (hnames0:namesOk scope=true) (caps:gG X scope N ix)
  (hg:∀ cl C s H fp xe,PG (cH X scope N cl C s H fp xe) tg g) (ht:∀ cl C s H fp xe,sW (cH X scope N cl C s H fp xe) ifs tt) (he:∀ cl C s H fp xe,PE (cH X scope N cl C s H fp xe) elt te)
  (hs:∀ x,foldedSetIterable iter X.env x=pure x:=by intro _; rfl) (hf:X.fn y=true\/X.env.scope.names.lookup y=some .local:=by first | exact .inl rfl | exact .inr rfl | assumption) :
  PS X (.Assign [.Name y py] (.ListComp elt [⟨tg,iter,ifs,0⟩] scope pos) spos) (DE i (oi wi g tt te ix)):=by
 intro pins s σ H D I h
 rw [exec_Assign_Name_used _ _ _ _ hsw]
 refine Da (Ho (Da ?_))
 show wpAny _ X.A (do let _ <- comprehension (.ListComp elt [⟨tg,iter,ifs,0⟩] scope pos) scope X.env _ (newList []) false (eval iter X.env) (some (assign (.Name y py) X.env))) _ _ s
 refine Da (Gu (qw (use:=some (assign (.Name y py) X.env)) (Qv:=fun _ s'=>SP X pins D .next s') hc hi hk hcell0 hfree0 hnames0 caps hg ht he hs I h fun C a H6 s6 B q=>?_) (fun _ s' hq=>Ft (Ft hq)) fun _ _ e=>e)
 obtain ⟨m,hn⟩:=B.ns
 show wpAny _ X.A (assign (.Name y py) X.env (.ref a)) _ _ s6
 refine wpAny_assign_Name (kj B.inv hN hi' hx (v:=.ref a) rfl (fun s7 I7 ⟨z,hz,hz'⟩=>?_) hf)
 have hzC:C≠z:=by
  rcases hz' with e | e
  ·rw [e]; exact B.loc
  ·exact fun w=>B.cell y z e w.symm
 refine ⟨m,hn.sameBut hz hzC,fun h' hsb=>?_⟩
 have B7:iF X pins (σ.set i (some (.ref a))) H6 C s7:=⟨I7,⟨m,hn.sameBut hz hzC⟩,B.free,B.loc,B.young,B.cell,B.pin⟩
 exact ⟨_,H6,B7.gone hsb,q⟩
theorem wJ {K:FD} {a:Fe} {xs:List V} {g:TG} {tt:TT} {te:TE} {σ0:St} {H:Hp} {D:Fe} {Q:VK} (f:V->V) (hz:xs.length<=sizeLine) (hx:av K H a xs) (hD:H D=none)
  (hs:∀ (i:Nat) (x:V) (H':Hp) (R:VK) (R0:Hp->Prop),xs[i]? = some x->(∀ b,b≠D->H' b=H b)->R (f x) H'->g x σ0 H' fun σ2 H2=>Ext σ0 σ2/\tt σ2 H2 fun b H3=>if b=true then te σ2 H3 R else R0 H3)
  (hq:Q (.ref D) (upd H D (.lst (xs.map f)))) :
  ot (sS K a) g tt te σ0 D Q H:=by
 have stays:∀ ys:List V,av K (upd H D (.lst ys)) a xs:=fun ys=>by
  have sm:af H (upd H D (.lst ys)):=fun b u q=>by rw [aq (aO q hD)]; exact q
  exact sm.seq hx
 refine ⟨fun i m ys H'=>m=xs.length - i/\i<=xs.length/\ys=(xs.take i).map f/\H'=upd H D (.lst ys),⟨xs.length,by simp,Fy _,by simp,rfl⟩,?_⟩
 rintro i m ys H' ⟨rfl,hi,rfl,rfl⟩
 by_cases hlt:i < xs.length
 ·refine .inr ⟨⟨xs,xs[i],stays _,by simp [hlt]⟩,fun x H'' y=>?_⟩
  obtain ⟨e,y⟩:=y
  subst e
  have ex:=y xs (stays _)
  refine hs i x _ _ _ ex (fun b hb=>aq hb) ⟨ae,by simp; lia,xs.length - (i+1),by lia,rfl,hlt,?_,?_⟩
  ·rw [FS,ex,Fx]; rfl
  ·rw [mC]
 ·have e:i=xs.length:=by lia
  subst e
  refine .inl ⟨⟨xs,stays _,Fg _⟩,?_⟩
  rw [List.take_length]
  exact hq
end
end L2
namespace L2
open PySem PySem.Spec PyProof.Rows
section
variable {P:FG} {w:FU} {H:Hp} {h h':GG} {a:Fe} {o:HO}
theorem aJ.there (x:aJ P w H h a o):∃ u,h.get? a=some u:=by
 cases o with
 | lst xs=>obtain ⟨_,_,_,_,e⟩:=x; exact ⟨_,e⟩
 | tup xs=>obtain ⟨_,_,_,_,e,_⟩:=x; exact ⟨_,e⟩
 | dK kvs=>obtain ⟨_,_,_,_,_,_,_,e,_⟩:=x; exact ⟨_,e⟩
 | dT kvs=>obtain ⟨_,_,_,_,_,_,_,e,_⟩:=x; exact ⟨_,e⟩
 | set S n=>obtain ⟨_,_,_,_,e,_⟩:=x; exact ⟨_,e⟩
 | ins C dx fs=>obtain ⟨_,_,_,e,_⟩:=x; exact ⟨_,e⟩
 | own y=>obtain ⟨_,e⟩:=x; exact ⟨_,e⟩
 | xd fs=>obtain ⟨_,⟨_,_,_,e,_⟩,_⟩:=x; exact ⟨_,e⟩
 | rng lo hi=>obtain ⟨_,_,_,e⟩:=x; exact ⟨_,e⟩
 | frz ob u=>obtain ⟨e,_⟩:=x; exact ⟨_,e⟩
 | tbl ps=>exact ⟨_,show h.get? a=some _ from x⟩
 | met f y=>exact ⟨_,show h.get? a=some _ from x⟩
 | ext φ=>obtain ⟨_,e,_⟩:=x; exact e
theorem bS.none (x:bS P w H h) (e:h.get? a=Jf):H a=Jf:=by
 cases q:H a with
 | none=>rfl
 | some u =>
  obtain ⟨v,z⟩:=(x a u q).there
  rw [e] at z; cases z
theorem bS.part (x:bS P w H h) (k:∀ b o,H b≠Jf->h.get? b=some o->h'.get? b=some o):bS P w H h':=fun b u e=>by
 refine (x b u e).stay (fun c v hc q=>k c v ?_ q) (fun _ q=>q) fun _ _ q=>q
 intro z
 rcases hc with rfl | hc
 ·rw [z] at e; cases e
 ·rw [z] at hc; cases hc
end
def wZ (h:GG) (e T:Fe) (cls:AC) (od:Option Fe) (fl:AC):Prop:=∃ oe vs oT ts,h.get? e=some oe/\oe.cls=cls/\oe.data = .fields vs/\vs[1]? = some (.ref T)/\T≠e/\h.get? T=some oT/\oT.data = .fields ts/\ts[3]? = some fl/\∀ d,od=some d->oe.dict=some d
noncomputable abbrev Tr (h:GG) (e T:Fe) (cls:AC) (od:Option Fe):Prop:=wZ h e T cls od .none
structure Kept (l:List Env) (ch:List Fe) (h h':GG):Prop where
 keep:∀ b o,b∉bW l->b∉ch->h.get? b=some o->h'.get? b=some o
 slot:∀ b o,b∈bW l->h.get? b=some o->∃ sl,h'.get? b=some { o with slots:=sl }
theorem Kept.trans {l:List Env} {ch:List Fe} {h h1 h2:GG} (a:Kept l ch h h1) (b:Kept l ch h1 h2):Kept l ch h h2 :=
 ⟨fun c o h1 h2 q=>b.keep c o h1 h2 (a.keep c o h1 h2 q),fun c o hm q=>by
  obtain ⟨sl,e⟩:=a.slot c o hm q
  obtain ⟨sl',e'⟩:=b.slot c _ hm e
  exact ⟨sl',e'⟩⟩
section
variable {M:Model} {A:Gd} {E:AC->Do->Prop} {s:Do} {Q:Unit->Do->Prop} {base:GG} {env:Env} {outer l:List Env} {L e T:Fe} {cls:AC}
theorem yc (hl:s.heap.FunFrames base l) {b:Fe} {o:Obj} (hb:b∈bW l) (q:s.heap.get? b=some o):∀ vs,o.data≠.fields vs:=by
 obtain ⟨_,o',ho,hd⟩:=hl.mem hb
 rw [q] at ho; cases ho; exact hd
theorem qo (f:Array AC->Array AC) (o:Obj):(o.mapFields f).dict=o.dict:=by
 obtain ⟨c,d,dt,sl⟩:=o
 cases dt<;>rfl
theorem Kept.sub {ch ch':List Fe} {h h':GG} (k:Kept l ch h h') (f:∀ b o,h.get? b=some o->b∈ch->b∈ch'):Kept l ch' h h' :=
 ⟨fun b o hb hc q=>k.keep b o hb (fun z=>hc (f b o q z)) q,k.slot⟩
theorem mO {h:GG} {b:Fe} (f:Obj->Obj) (hn:b∉bW l):Kept l [b] h (h.update b f) :=
 ⟨fun c o _ hc q=>(Fq _ _ (fun z=>hc (by rw [<- z]; exact Gx.mpr rfl))).trans q,
  fun c o hm q=>⟨o.slots,(Fq _ _ (fun z=>hn (by rw [z]; exact hm))).trans q⟩⟩
theorem uB {oe:Obj} {vs:Array AC} {head:AC} {hadNext:Bool} (hfr:A.frames=some (env::outer)) (hl:s.heap.FunFrames base (env::outer)) (hf:env.frame=some L) (he:s.heap.get? e=some oe) (hd:oe.data = .fields vs) (hz:1 < vs.size)
  (hQ:∀ h' T',h'.get? e=some (oe.mapFields (·.setIfInBounds 1 (.ref T')))->s.heap.get? T'=none->T'≠e->(∃ oT ts,h'.get? T'=some oT/\oT.data = .fields ts/\ts[3]? = some (rawInt L))->Kept (env::outer) [e] s.heap h'->Q () { s with heap:=h' }) :
  wpAny M A (do let a <- frameOf env; let pl <- entryPlaceOf L hadNext; let b <- JM head a .none (rawInt L) .none pl; setField (.ref e) 1 b) Q E s:=by
 have en:e∉bW (env::outer):=fun z=>yc hl z he vs hd
 refine Da (wpAny_frameOf_fun hfr hl hf fun h1 ⟨z1,z2,z3⟩=>Da (wpAny_entryPlaceOf fun pl hpl=>?_))
 unfold JM newFields
 refine Da (Jb ?_ (hpl.sizeOk5 _ _ _ _ _))
 have e1:h1.get? e=some oe:=(z2 e en).trans he
 have Tn:h1.objs.size≠e:=Im (Fi e1)
 generalize hob:({ cls:=.type "traceback",dict:=none,data:=.fields ([head,.ref L,.none,rawInt L,.none]++(if pl.isEmpty then List.replicate 6 GE else pl)).toArray }:Obj)=ob
 have nf:ob.isFreed=false:=by rw [<- hob]; rfl
 have e2:=Fd ob e1
 have eT:(h1.push ob).get? h1.objs.size=some ob:=FH h1 nf
 refine wpAny_setField e2 hd hz (hQ _ h1.objs.size (F0 _ e2 (Ip (He hd _))) ?_ Tn ⟨ob,_,(Fq _ _ (Gk Tn)).trans eT,by rw [<- hob],?_⟩ ?_)
 ·rw [z1]
  exact GP (Fg _)
 ·first | (simp; done) | (rcases hpl with rfl | ⟨_,_,_,_,_,_,_,rfl⟩<;>simp)
 ·have k:=mO (h:=h1.push ob) (l:=env::outer) (Jg (·.setIfInBounds 1 (.ref h1.objs.size))) en
  exact ⟨fun b o hb hc q=>k.keep b o hb hc (Fd _ ((z2 b hb).trans q)),fun b o hm q=>by
   obtain ⟨sl,q1⟩:=z3 b o q
   obtain ⟨sl',q2⟩:=k.slot b _ hm (Fd _ q1)
   exact ⟨sl',q2⟩⟩
theorem yt {oe:Obj} {vs:Array AC} {od:Option Fe} (hfr:A.frames=some (env::outer)) (hl:s.heap.FunFrames base (env::outer)) (hf:env.frame=some L) (he:s.heap.get? e=some oe) (hc:oe.cls=cls) (hd:oe.data = .fields vs) (h1:vs[1]? = some .none) (hod:∀ d,od=some d->oe.dict=some d)
  (hQ:∀ h' T',wZ h' e T' cls od (rawInt L)->s.heap.get? T'=none->Kept (env::outer) [e] s.heap h'->Q () { s with heap:=h' }):wpAny M A (noteFrame (.ref e) env) Q E s:=by
 have hz:=(Ha.mp h1).1
 unfold noteFrame
 simp only [hf]
 refine Da (JN he hd h1 ?_)
 rw [if_neg (by decide)]
 refine uB hfr hl hf he hd hz fun h' T' q1 q2 q3 ⟨oT,ts,q4,q5,q6⟩ q7=>hQ h' T' ⟨_,_,oT,ts,q1,(Obj.cls_mapFields _ _).trans hc,He hd _,by simp [hz],q3,q4,q5,q6,fun d z=>(qo _ _).trans (hod d z)⟩ q2 q7
theorem uC {od:Option Fe} (hfr:A.frames=some (env::outer)) (hl:s.heap.FunFrames base (env::outer)) (hf:env.frame=some L) (tr:Tr s.heap e T cls od)
  (hQ:∀ h' T',wZ h' e T' cls od (rawInt L)->s.heap.get? T'=none->Kept (env::outer) [e,T] s.heap h'->Q () { s with heap:=h' }):wpAny M A (noteFrame (.ref e) env) Q E s:=by
 obtain ⟨oe,vs,oT,ts,he,hc,hd,h1,hTe,hT,hdT,h3,hod⟩:=tr
 have hz:=(Ha.mp h1).1
 have Tn:T∉bW (env::outer):=fun z=>yc hl z hT ts hdT
 unfold noteFrame
 simp only [hf]
 refine Da (JN he hd h1 ?_)
 rw [if_pos (show (Fv T != GE)=true from by simp)]
 refine Da (JN hT hdT h3 ?_)
 rw [if_neg (show ¬ ((GE == rawInt L)=true) from by simp [rawInt])]
 refine Da (wpAny_setField hT hdT (Ha.mp h3).1 ?_)
 have k0:=mO (h:=s.heap) (Jg (·.setIfInBounds 3 GE)) Tn
 have there:∀ b o,s.heap.get? b=some o->∃ o',(s.heap.update T (Jg (·.setIfInBounds 3 GE))).get? b=some o':=fun b o q=>by
  by_cases z:b=T
  ·subst z
   exact ⟨_,F0 _ q (by rw [hT] at q; cases q; exact Ip (He hdT _))⟩
  ·exact ⟨o,(Fq _ _ (Gk z)).trans q⟩
 refine uB (s:={ s with heap:=s.heap.update T (Jg (·.setIfInBounds 3 GE)) }) (base:=base) hfr (hl.of_keeps fun b o q n=>⟨o,(Fq _ _ (fun z=>n ts (by rw [<- z,hT] at q; cases q; exact hdT))).trans q,rfl⟩) hf ((Fq _ _ hTe).trans he) hd hz
  fun h' T' q1 q2 q3 ⟨oT,ts,q4,q5,q6⟩ q7=>hQ h' T' ⟨_,_,oT,ts,q1,(Obj.cls_mapFields _ _).trans hc,He hd _,by simp [hz],q3,q4,q5,q6,fun d z=>(qo _ _).trans (hod d z)⟩ ?_ ((k0.sub (ch':=[e,T]) fun b o _ z=>FI _ z).trans (q7.sub fun b o _ z=>by rw [Gx.mp z]; exact Gq))
 cases y:s.heap.get? T' with
 | none=>rfl
 | some o =>
  obtain ⟨o',z⟩:=there _ _ y
  rw [q2] at z
  cases z
theorem mw {od:Option Fe} {fl:AC} (hn:T∉bW l) (tr:wZ s.heap e T cls od fl)
  (hQ:∀ h',Tr h' e T cls od->Kept l [T] s.heap h'->Q () { s with heap:=h' }):wpAny M A (setFlight (.ref e) none) Q E s:=by
 obtain ⟨oe,vs,oT,ts,he,hc,hd,h1,hTe,hT,hdT,h3,hod⟩:=tr
 have hz:=(Ha.mp h3).1
 unfold setFlight
 refine Da (JN he hd h1 ?_)
 rw [if_pos (show (Fv T != GE)=true from by simp)]
 refine wpAny_setField hT hdT hz (hQ _ ⟨oe,vs,_,_,(Fq _ _ hTe).trans he,hc,hd,h1,hTe,F0 _ hT (Ip (He hdT _)),He hdT _,by simp [hz],hod⟩ (mO _ hn))
theorem Aj {od:Option Fe} {fl:AC} (hl:s.heap.FunFrames base l) (tr:wZ s.heap e T cls od fl):T∉bW l:=fun z=>by
 obtain ⟨oe,vs,oT,ts,he,hc,hd,h1,hTe,hT,hdT,_⟩:=tr
 exact yc hl z hT ts hdT
theorem nh {T':Fe} (hl:s.heap.FunFrames base l) (n:s.heap.get? T'=none):T'∉bW l:=fun z=>by
 obtain ⟨_,o,ho,_⟩:=hl.mem z
 rw [n] at ho
 cases ho
theorem pz {h h':GG} {T':Fe} {ch:List Fe} (n:h.get? T'=none) (a:Kept l ch h h') {h2:GG} (k:Kept l [T'] h' h2):Kept l ch h h2 :=
 ⟨fun b o hb hc q=>k.keep b o hb (fun z=>by rw [Gx.mp z,n] at q; cases q) (a.keep b o hb hc q),fun b o hm q=>by
  obtain ⟨sl,e1⟩:=a.slot b o hm q
  obtain ⟨sl',e2⟩:=k.slot b _ hm e1
  exact ⟨sl',e2⟩⟩
theorem yG {od:Option Fe} (hfr:A.frames=some (env::outer)) (hl:s.heap.FunFrames base (env::outer)) (hf:env.frame=some L) (tr:Tr s.heap e T cls od)
  (hQ:∀ h' T',Tr h' e T' cls od->(T'=T\/s.heap.get? T'=none)->Kept (env::outer) [e,T] s.heap h'->Q () { s with heap:=h' }):wpAny M A (leaving env (.ref e)) Q E s:=by
 unfold leaving
 exact Da (uC hfr hl hf tr fun h' T' t1 n1 k1=>mw (l:=env::outer) (s:={ s with heap:=h' }) (nh hl n1) t1 fun h2 t2 k2=>hQ h2 T' t2 (.inr n1) (pz n1 k1 k2))
theorem vE {oe:Obj} {vs:Array AC} {od:Option Fe} (hfr:A.frames=some (env::outer)) (hl:s.heap.FunFrames base (env::outer)) (hf:env.frame=some L) (he:s.heap.get? e=some oe) (hc:oe.cls=cls) (hd:oe.data = .fields vs) (h1:vs[1]? = some .none) (hod:∀ d,od=some d->oe.dict=some d)
  (hQ:∀ h' T',Tr h' e T' cls od->s.heap.get? T'=none->Kept (env::outer) [e] s.heap h'->Q () { s with heap:=h' }):wpAny M A (leaving env (.ref e)) Q E s:=by
 unfold leaving
 exact Da (yt hfr hl hf he hc hd h1 hod fun h' T' t1 n1 k1=>mw (l:=env::outer) (s:={ s with heap:=h' }) (nh hl n1) t1 fun h2 t2 k2=>hQ h2 T' t2 n1 (pz n1 k1 k2))
theorem zC {od:Option Fe} (hfr:A.frames=some (env::outer)) (hl:s.heap.FunFrames base (env::outer)) (hf:env.frame=some L) (tr:Tr s.heap e T cls od)
  (hQ:∀ h' T',Tr h' e T' cls od->(T'=T\/s.heap.get? T'=none)->Kept (env::outer) [e,T] s.heap h'->Q () { s with heap:=h' }) :
  wpAny M A (noteFrame (.ref e) env) (fun _ s2=>wpAny M A (setFlight (.ref e) none) Q E s2) E s :=
 uC hfr hl hf tr fun h' T' t1 n1 k1=>mw (l:=env::outer) (s:={ s with heap:=h' }) (nh hl n1) t1 fun h2 t2 k2=>hQ h2 T' t2 (.inr n1) (pz n1 k1 k2)
theorem yA {od:Option Fe} (hl:s.heap.FunFrames base l) (tr:Tr s.heap e T cls od)
  (hQ:∀ h' T',Tr h' e T' cls od->(T'=T\/s.heap.get? T'=none)->Kept l [e,T] s.heap h'->Q () { s with heap:=h' }):wpAny M A (setFlight (.ref e) none) Q E s :=
 mw (Aj hl tr) tr fun h' t k=>hQ h' T t (.inl rfl) (k.sub fun b o _ z=>FI _ z)
end
section
variable {X:Cx} {pins:List (Fe × Obj)} {σ:St} {H:Hp} {s:Do} {h':GG} {ch:List Fe}
structure jS (X:Cx) (pins:List (Fe × Obj)) (H:Hp) (b:Fe):Prop where
 new:X.s₀.heap.get? b=none
 free:H b=none
 loc:b≠X.env.locals
 cell:∀ x c,X.env.cells.lookup x=some c->c≠b
 pin:∀ p∈X.pn++pins,p.1≠b
theorem Inv.ours (I:Inv X pins σ H s) (hx:X.ex=[]) {b:Fe} (n:s.heap.get? b=none):X.s₀.heap.get? b=none/\b≠X.env.locals/\(∀ x c,X.env.cells.lookup x=some c->c≠b)/\∀ p∈X.pn++pins,p.1≠b:=by
 refine ⟨?_,?_,fun x c e z=>?_,fun p hp z=>?_⟩
 ·cases q:X.s₀.heap.get? b with
  | none=>rfl
  | some o =>
   obtain ⟨o',e⟩:=I.base.there b o q (by rw [hx]; simp)
   rw [n] at e; cases e
 ·rintro rfl
  obtain ⟨m,⟨o,_,_,e,_⟩,_⟩:=I.loc
  rw [n] at e; cases e
 ·subst z
  obtain ⟨v,o,e',_⟩:=I.cell x c e
  rw [n] at e'; cases e'
 ·have:=(I.pin p hp).1
  rw [z,n] at this; cases this
theorem Inv.exc (I:Inv X pins σ H s) (hx:X.ex=[]) (ours:∀ b∈ch,jS X pins H b) (k:Kept X.stack ch s.heap h'):Inv X pins σ H { s with heap:=h' }:=by
 have sub:=I.stkSub
 have above:=I.ok.above
 have outs:∀ b∈X.fs,b∈bW X.stack:=fun b hb=>by
  rcases I.ok.stk with e | ⟨e,hf⟩
  ·rw [e]; exact hb
  ·rw [e]
   show b∈bW (X.env::X.outer)
   unfold bW
   rw [GW,hf]
   exact FI _ hb
 have anyk:∀ b o,b∉ch->s.heap.get? b=some o->∃ sl,h'.get? b=some { o with slots:=sl }:=fun b o hc q=>by
  by_cases hb:b∈bW X.stack
  ·exact k.slot b o hb q
  ·exact ⟨o.slots,k.keep b o hb hc q⟩
 have nch:∀ b o,X.s₀.heap.get? b=some o->b∉ch:=fun b o q z=>by rw [(ours b z).new] at q; cases q
 have lch:X.env.locals∉ch:=fun z=>(ours _ z).loc rfl
 have cch:∀ x c,X.env.cells.lookup x=some c->c∉ch:=fun x c e z=>(ours _ z).cell x c e rfl
 have cellK:∀ x c v,X.env.cells.lookup x=some c->s.heap.IsCell c v->h'.IsCell c v:=fun x c v e z=>by
  obtain ⟨o,ho,hd⟩:=z
  obtain ⟨sl,q⟩:=anyk c o (cch x c e) ho
  exact ⟨_,q,hd⟩
 refine ⟨I.ok,I.os,I.bare,⟨fun b o e n hb hxx=>?_,fun b o e n hb hxx=>?_,I.base.free,fun b o e hxx=>?_,I.base.tups,I.base.frzs,I.base.tbls⟩,?_,fun x c e=>?_,I.free,I.freeC,fun p hp=>?_,?_,I.len⟩
 ·refine k.keep b o (fun z=>?_) (nch b o e) (I.base.keep b o e n hb hxx)
  rcases FB.mp (sub b z) with z | z
  ·exact absurd (FA (Fi e) above) (by rw [z]; exact Gb _)
  ·exact hb z
 ·obtain ⟨sl,e1⟩:=I.base.slot b o e n hb hxx
  obtain ⟨sl',e2⟩:=k.slot b _ (outs b hb) e1
  exact ⟨sl',e2⟩
 ·obtain ⟨o',e1⟩:=I.base.there b o e hxx
  obtain ⟨sl,e2⟩:=anyk b o' (nch b o e) e1
  exact ⟨_,e2⟩
 ·obtain ⟨m,⟨o,es,ep,ho,r⟩,hl⟩:=I.loc
  obtain ⟨sl,q⟩:=anyk _ o lch ho
  refine ⟨m,⟨_,es,ep,q,r⟩,fun i x v e1 e2 e3=>?_⟩
  obtain ⟨u,ru,lk⟩:=hl i x v e1 e2 e3
  refine ⟨u,ru,?_⟩
  rcases lk with z | ⟨z,c,e,ic⟩
  ·exact .inl z
  ·exact .inr ⟨z,c,e,cellK x c _ e ic⟩
 ·obtain ⟨v,z⟩:=I.cell x c e
  exact ⟨v,cellK x c v e z⟩
 ·obtain ⟨e,n,ne,nf,d⟩:=I.pin p hp
  refine ⟨k.keep p.1 p.2 (fun z=>?_) (fun z=>(ours _ z).pin p hp rfl) e,n,ne,nf,d⟩
  rcases FB.mp (sub _ z) with z | z
  ·exact ne z
  ·exact nf z
 ·refine I.hok.part fun b o hb q=>k.keep b o (fun z=>hb (I.stkFree b z)) (fun z=>hb (ours b z).free) q
theorem Inv.track {e:Fe} {φ:GG->Prop} (I:Inv X pins σ H s) (o:jS X pins H e) (new:aJ X.prog X.w (upd H e (.ext φ)) s.heap e (.ext φ)):Inv X pins σ (upd H e (.ext φ)) s:=by
 have ne:∀ b u,H b=some u->b≠e:=fun b u q z=>by rw [z,o.free] at q; cases q
 refine ⟨I.ok,I.os,I.bare,⟨I.base.keep,I.base.slot,fun b ob q n hx=>?_,I.base.there,fun b xs q=>?_,fun b ob u q=>?_,fun b ps q=>?_⟩,I.loc,I.cell,?_,fun x c q=>?_,fun p hp=>?_,fun b u q=>?_,I.len⟩
 ·rw [aq (fun z=>by rw [z,o.new] at q; cases q)]; exact I.base.free b ob q n hx
 ·have:=I.base.tups b xs q
  rw [aq (ne _ _ this)]; exact this
 ·have:=I.base.frzs b ob u q
  rw [aq (ne _ _ this)]; exact this
 ·obtain ⟨m,z⟩:=I.base.tbls b ps q
  exact ⟨m,by rw [aq (ne _ _ z)]; exact z⟩
 ·rw [aq (Gk o.loc)]; exact I.free
 ·rw [aq (o.cell x c q)]; exact I.freeC x c q
 ·obtain ⟨z,n,r⟩:=I.pin p hp
  exact ⟨z,by rw [aq (o.pin p hp)]; exact n,r⟩
 ·by_cases z:b=e
  ·subst z; rw [ae] at q; cases q; exact new
  ·rw [aq z] at q
   exact (I.hok b u q).stay (fun _ _ _ x=>x) (fun c x=>by rw [aq (ne _ _ x)]; exact x) fun c xs x=>by rw [aq (ne _ _ x)]; exact x
end
noncomputable def fC (P:FG) (w:FU):g8:=fun outer H s E e s'=>∃ (ea T:Fe) (cls:AC) (od:Option Fe) (H':Hp),e = .ref ea/\s.heap.get? ea=none/\s.heap.get? T=none/\H' ea=none/\H' T=none/\Tr s'.heap ea T cls od /\
 s'.os=s.os/\IC s'.gens/\Un (bW outer) [] H H' s.heap s'.heap/\bS P w H' s'.heap/\E cls od H'
theorem mq {P:FG} {w:FU} {X:Cx}:Passes (fC P w) X E0:=fun _ _ _ _ _ _ _ ⟨_,_,_,_,_,_,_,_,_,_,_,_,_,_,_,q⟩=>q.elim
structure uh (X:Cx) (E:XK):Prop where
 ex:X.ex=[]
 rise:∀ {pins:List (Fe × Obj)} {σ:St} {H:Hp} {s:Do} {e:Fe} {cls:AC} {oe:Obj} {vs:Array AC} {od:Option Fe},Inv X pins σ H s->X.s₀.heap.get? e=none->H e=none->s.heap.get? e=some oe->oe.cls=cls->oe.data = .fields vs->vs[1]? = some .none->(∀ d,od=some d->oe.dict=some d)->E cls od H->X.xe (.ref e) s
 pass:Passes (fC X.prog X.w) X E
theorem uh.made {X:Cx} {E:XK} {pins:List (Fe × Obj)} {σ:St} {H:Hp} {s:Do} {e:Fe} {cls:AC} {vs:List AC} {h':GG} (T:uh X E) (I:Inv X pins σ H s) (m:Heap.MadeExcOf s.heap h' e cls vs) (q:E cls none H):X.xe (.ref e) { s with heap:=h' }:=by
 obtain ⟨t,he,htn,ht⟩:=m.there
 exact T.rise (I.kept (t':=s.toks) m.keeps) (I.ours T.ex m.new).1 (I.hok.none m.new) he rfl rfl rfl (fun d z=>by cases z) q
section
variable {P:FG} {w:FU} {K:FD} {mg:Str->Option AC} {base:GG} {N:List Str} {qual:Str} {scope:Ib} {f:Fe} {cd:AC} {A:Gd} {outer:List Env} {s:Do} {H:Hp} {E:XK}
theorem ym {pins:List (Fe × Obj)} {σ:St} {H2:Hp} {s2:Do} {ea T:Fe} {cls:AC} {od:Option Fe} (I:Inv (gz (fC P w) P w K mg base N qual scope f cd A outer s H E) pins σ H2 s2) (tr:Tr s2.heap ea T cls od)
  (n1:s.heap.get? ea=none) (n2:s.heap.get? T=none) (f1:H2 ea=none) (f2:H2 T=none) (q:E cls od H2):(gz (fC P w) P w K mg base N qual scope f cd A outer s H E).xe (.ref ea) s2:=by
 have fr:(A.deeper (envOfC qual scope s.heap.objs.size f cd)).frames=some (envOfC qual scope s.heap.objs.size f cd::outer):=I.ok.frames
 have above:s.heap.objs.size<=(envOfC qual scope s.heap.objs.size f cd).locals:=I.ok.above
 have nex:∀ b:Fe,b∉(gz (fC P w) P w K mg base N qual scope f cd A outer s H E).ex:=fun b z=>absurd (show b∈([]:List Fe) from z) (by simp)
 have sub:∀ b∈bW (envOfC qual scope s.heap.objs.size f cd::outer),b=(envOfC qual scope s.heap.objs.size f cd).locals\/b∈bW outer:=fun b hb=>FB.mp (I.stkSub b hb)
 have out:∀ b∈bW outer,b∈bW (envOfC qual scope s.heap.objs.size f cd::outer):=fun b hb=>by
  unfold bW at hb |-
  rw [GW]
  split
  ·exact hb
  ·exact FI _ hb
 refine yG fr I.stack rfl tr fun h' T' tr' hT' k=>?_
 have anyk:∀ b o,b≠ea->b≠T->s2.heap.get? b=some o->∃ sl,h'.get? b=some { o with slots:=sl }:=fun b o h1 h2 z=>by
  by_cases hb:b∈bW (envOfC qual scope s.heap.objs.size f cd::outer)
  ·exact k.slot b o hb z
  ·exact ⟨o.slots,k.keep b o hb (by simp [h1,h2]) z⟩
 have ne:∀ b o,s.heap.get? b=some o->b≠ea/\b≠T:=fun b o z=>⟨fun y=>(by rw [y,n1] at z; cases z),fun y=>(by rw [y,n2] at z; cases z)⟩
 refine ⟨ea,T',cls,od,H2,rfl,n1,?_,f1,?_,tr',I.os,I.bare,⟨fun b o z n hb hx=>?_,fun b o z n hb hx=>?_,fun b o z n hx=>I.base.free b o z n (nex b),fun b o z hx=>?_,I.base.tups,I.base.frzs,I.base.tbls⟩,?_,q⟩
 ·rcases hT' with z | z
  ·rw [z]; exact n2
  ·cases y:s.heap.get? T' with
   | none=>rfl
   | some o =>
    obtain ⟨o',e'⟩:=I.base.there T' o y (nex _)
    rw [z] at e'; cases e'
 ·rcases hT' with z | z
  ·rw [z]; exact f2
  ·exact I.hok.none z
 ·refine k.keep b o (fun y=>?_) (by have:=ne b o z; simp [this.1,this.2]) (I.base.keep b o z n hb (nex b))
  rcases sub b y with y | y
  ·exact absurd (FA (Fi z) above) (by rw [y]; exact Gb _)
  ·exact hb y
 ·obtain ⟨sl,e1⟩:=I.base.slot b o z n hb (nex b)
  obtain ⟨sl',e2⟩:=k.slot b _ (out b hb) e1
  exact ⟨sl',e2⟩
 ·obtain ⟨o',e1⟩:=I.base.there b o z (nex b)
  obtain ⟨sl,e2⟩:=anyk b o' (ne b o z).1 (ne b o z).2 e1
  exact ⟨_,e2⟩
 ·refine I.hok.part fun b o hb z=>k.keep b o (fun y=>hb (I.stkFree b y)) (fun y=>?_) z
  rcases FB.mp y with y | y
  ·exact hb (by rw [y]; exact f1)
  ·exact hb (by rw [show b=T by simpa using y]; exact f2)
theorem cI:uh (gz (fC P w) P w K mg base N qual scope f cd A outer s H E) E where
 ex:=rfl
 rise:=fun {pins σ H1 s1 e cls oe vs od} I2 n1 f1 he hc hd hv hod q=>by
  have fr:(A.deeper (envOfC qual scope s.heap.objs.size f cd)).frames=some (envOfC qual scope s.heap.objs.size f cd::outer):=I2.ok.frames
  have above:s.heap.objs.size<=(envOfC qual scope s.heap.objs.size f cd).locals:=I2.ok.above
  have nex:∀ b:Fe,b∉(gz (fC P w) P w K mg base N qual scope f cd A outer s H E).ex:=fun b z=>absurd (show b∈([]:List Fe) from z) (by simp)
  have sub:∀ b∈bW (envOfC qual scope s.heap.objs.size f cd::outer),b=(envOfC qual scope s.heap.objs.size f cd).locals\/b∈bW outer:=fun b hb=>FB.mp (I2.stkSub b hb)
  have out:∀ b∈bW outer,b∈bW (envOfC qual scope s.heap.objs.size f cd::outer):=fun b hb=>by
   unfold bW at hb |-
   rw [GW]
   split
   ·exact hb
   ·exact FI _ hb
  have n1:s.heap.get? e=none:=n1
  refine vE (cls:=cls) (od:=od) fr I2.stack rfl he hc hd hv hod fun h2 T' tr' hT' k=>?_
  have anyk:∀ b o,b≠e->s1.heap.get? b=some o->∃ sl,h2.get? b=some { o with slots:=sl }:=fun b o h1 z=>by
   by_cases hb:b∈bW (envOfC qual scope s.heap.objs.size f cd::outer)
   ·exact k.slot b o hb z
   ·exact ⟨o.slots,k.keep b o hb (by simp [h1]) z⟩
  have ne:∀ b o,s.heap.get? b=some o->b≠e:=fun b o z y=>by rw [y,n1] at z; cases z
  refine ⟨e,T',cls,od,H1,rfl,n1,(I2.ours rfl hT').1,f1,I2.hok.none hT',tr',I2.os,I2.bare,⟨fun b o z n hb hx=>?_,fun b o z n hb hx=>?_,fun b o z n hx=>I2.base.free b o z n (nex b),fun b o z hx=>?_,I2.base.tups,I2.base.frzs,I2.base.tbls⟩,?_,q⟩
  ·refine k.keep b o (fun y=>?_) (by simp [ne b o z]) (I2.base.keep b o z n hb (nex b))
   rcases sub b y with y | y
   ·exact absurd (FA (Fi z) above) (by rw [y]; exact Gb _)
   ·exact hb y
  ·obtain ⟨sl,e1⟩:=I2.base.slot b o z n hb (nex b)
   obtain ⟨sl',e2⟩:=k.slot b _ (out b hb) e1
   exact ⟨sl',e2⟩
  ·obtain ⟨o',e1⟩:=I2.base.there b o z (nex b)
   obtain ⟨sl,e2⟩:=anyk b o' (ne b o z) e1
   exact ⟨_,e2⟩
  ·refine I2.hok.part fun b o hb z=>k.keep b o (fun y=>hb (I2.stkFree b y)) (fun y=>?_) z
   exact hb (by rw [show b=e by simpa using y]; exact f1)
 pass:=fun pins σ H1 s1 e s2 I hcx=>by
  obtain ⟨ea,T,cls,od,H2,rfl,n1,n2,f1,f2,tr,os,bare,un,hok,q⟩:=hcx
  have I2:=I.call' os un hok bare fun b z=>absurd z (by simp)
  exact ym I2 tr (I.ours rfl n1).1 (I.ours rfl n2).1 f1 f2 q
end
section
variable {P:FG} {w:FU} {K:FD} {mg:Str->Option AC} {base:GG}
theorem aF.up {CX:g8} {k:Nat} {f:Fe} {fd:Fh} {ps:List Str} {sp:Sp} (F:aF P w K mg base bC k f fd ps sp):aF P w K mg base CX k f fd ps sp :=
 ⟨F.len,fun A outer s H args us vs Q E hr he hb hv hs=>Hn (F.run A outer s H args us vs Q E hr he hb hv hs) fun r s' q=>by
  cases r with
  | error e=>exact Gi q
  | ok fl=>cases fl<;>exact q⟩
theorem bg.okE {x qual:Str} {st:Hc} {f:Fe} {fd:Fh} {N ps:List Str} {k:Nat} {sp:Sp} (F:bg K x qual st f fd) (S:ay N ps (ag st)) (len:∀ vs H Q E,sp vs H Q E->vs.length=ps.length)
  (hbody:∀ (cdv:AC) (A:Gd) (outer:List Env) (s:Do) (H:Hp) (vs:List V) (Q:VK) (E:XK),bh k (A.deeper (envOfC qual (ag st) s.heap.objs.size f cdv))->sp vs H Q E ->
   ∃ t,fz (gz (fC P w) P w K mg base N qual (ag st) f cdv A outer s H E) (au st) t/\t { nx:=fun _ H'=>Q .non H',rt:=Q } (start N vs) H):aF P w K mg base (fC P w) (k+1) f fd ps sp:=by
 obtain ⟨oc,od,kV,doc,pm,an,cdv,ct,osl,rfl,lk,hcd⟩:=F.ex
 exact qP lk hcd S len fun A outer s H vs Q E hr hsp=>hbody cdv A outer s H vs Q E hr hsp
end
noncomputable abbrev kI:List AC:=[.type "ValueError",.type "Exception",.type "BaseException",.type "object"]
noncomputable abbrev vL (K:FD) (C:Fe):Prop:=W.excIn K C kI "ValueError.__new__" = true
theorem AJ {K:FD} {h:GG} {C:Fe} (X:K.In h) (q:vL K C):∃ bm N nm qn bs hd sn sub ab col dd k0 k1 k2 k3 k5 mN,
  h.get? C=some (excClassObj nm qn C N bs bm hd sn sub ab col dd k0 k1 k2 k3 k5 "ValueError.__new__")/\h.Ns N mN/\mN "__init__" = none/\OwnTail h kI bm:=by
 unfold vL W.excIn at q
 split at q
 ·rename_i dd cd sl ho
  split at q
  ·rename_i C' bm k0 k1 k2 k3 n k5 hm hs
   obtain ⟨q5,q6⟩:=GF.mp q
   obtain ⟨q4,hok⟩:=GF.mp q5
   obtain ⟨q3,ht⟩:=GF.mp q4
   obtain ⟨q2,hdel⟩:=GF.mp q3
   obtain ⟨e1,e2⟩:=GF.mp q2
   have e1:=beq_iff_eq.mp e1
   have e2:=beq_iff_eq.mp e2
   have hni:=beq_iff_eq.mp q6
   subst e1 e2
   obtain ⟨nm,bs,mro,ns,qn,hd,sn,sub,ab,col,del⟩:=cd
   have hsl:sl = #[k0,k1,k2,k3,some (.builtin "ValueError.__new__"),k5]:=by
    rw [<- hs]
   have hdel':del=false:=by simpa using hdel
   have hm':mro = .ref C'::bm:=hm
   subst hm' hdel' hsl
   exact ⟨bm,ns,nm,qn,bs,hd,sn,sub,ab,col,dd,k0,k1,k2,k3,k5,_,X _ _ ho,.of_isNs (W.isNs_of_in X hok),W.nsMap_none_of_in X hok hni,W.tail_of_in X ht⟩
  ·cases q
 ·cases q
noncomputable def Cw (E:XK) (C:Fe) (t:TA):TS:=fun _ σ H=>t σ H fun vs H1=>vs.length<=sizeLine/\E (.ref C) none H1
theorem yg {X:Cx} {E:XK} {C:Fe} {x:Str} {np cpos pos:Pos} {a:Gv} {ta:TA} (T:uh X E) (O:vL X.K C) (hg:Gl X x) (hm:X.mg x=some (.ref C)) (ha:PA X [a] ta) (hc:X.calm=true:=by rfl)
  (hs:starEach [a] X.env=[(false,eval a X.env)]:=by rfl) (hd:(x == ("__debug__" : Str))=false:=by decide):PS X (.Raise (some (.Call (.Name x np) [a] [] cpos)) none pos) (Cw E C ta):=by
 intro pins s σ H D I h
 obtain ⟨bm,N,nm,qn,bs,hd',sn,sub,ab,col,dd,k0,k1,k2,k3,k5,mN,hC,hN,hni,TL⟩:=AJ I.ok.mod.kin O
 refine wpAny_Raise_call_subT (C:=C) (nm:=nm) (q:=qn) (N:=N) (bs:=bs) (bm:=bm) (hdct:=hd') (sn:=sn) (sub:=sub) (ab:=ab) (col:=col) (dd:=dd) (k0:=k0) (k1:=k1) (k2:=k2) (k3:=k3) (k5:=k5)
  GJ (mN:=mN) (TL.hasType GJ.hasBase) (I.ok.hd hc) (by rw [hs]; rfl) hni (du I hg hm ⟨rfl,?_⟩ hd)
 have p:=ha cpos pins s σ H _ I h
 rw [hs] at p |-
 exact GR (aB p fun us s1 ⟨vs,H1,I1,r,q⟩=>⟨rfl,by rw [<- r.length]; exact q.1,I1.bk _ _ hC,hN.keeps I1.bk,TL.keeps I1.bk,fun h' e m=>T.made I1 m q.2⟩)
noncomputable def Cx.inExc (X:Cx) (e:Fe):Cx:={ X with A:=X.A.mark (some (.ref e)),calm:=false,xe:=fun _ _=>False }
section
variable {X:Cx} {pins:List (Fe × Obj)} {σ:St} {H:Hp} {s:Do} {e:Fe}
theorem Inv.inExc (I:Inv X pins σ H s) (e:Fe):Inv (X.inExc e) pins σ H s :=
 ⟨⟨I.ok.mod,I.ok.kind,I.ok.glob,I.ok.blt,I.ok.above,I.ok.inj,I.ok.has,I.ok.cab,fun z=>(by cases z),I.ok.frames,I.ok.stk,I.ok.exf,I.ok.bs,I.ok.bsz,I.ok.noex,I.ok.exfs,I.ok.funs,I.ok.frf⟩,I.os,I.bare,I.base,I.loc,I.cell,I.free,I.freeC,I.pin,I.hok,I.len⟩
theorem Inv.outExc (ok:X.Ok) (I:Inv (X.inExc e) pins σ H s):Inv X pins σ H s:=⟨ok,I.os,I.bare,I.base,I.loc,I.cell,I.free,I.freeC,I.pin,I.hok,I.len⟩
theorem Inv.unbind {i:Nat} {n:Str} {m:Str->Option AC} {v:Option AC} {h':GG} {t':Nat} (I:Inv X pins σ H s) (hN:X.N.Nodup) (hi:X.N[i]? = some n)
  (hl:∀ (i:Nat) (x:Str) (v:V),X.N[i]? = some x->σ[i]? = some (some v)->zj X.env.scope x->∃ u,RelV v u/\Look X.env s.heap m x u)
  (hn':h'.Ns X.env.locals (fun x=>if x=n then v else m x)) (hs:Hb X.env.locals s.heap h'):Inv X pins (σ.set i none) H { s with heap:=h',toks:=t' }:=by
 have lo:∀ b o,X.s₀.heap.get? b=some o->b≠X.env.locals:=fun b o e z=>by
  exact absurd (FA (Fi e) I.ok.above) (by rw [z]; exact Gb _)
 have cne:=I.cne
 refine ⟨I.ok,I.os,I.bare,⟨fun b o e n hb hx=>(hs.2 b (lo b o e)).trans (I.base.keep b o e n hb hx),fun b o e n hb hx=>?_,I.base.free,fun b o e hx=>?_,I.base.tups,I.base.frzs,I.base.tbls⟩,
  ⟨_,hn',fun j y v' e1 e2 e3=>?_⟩,fun y c e=>?_,I.free,I.freeC,fun p hp=>?_,I.hok.part fun b o hb q=>(hs.2 b fun z=>hb (by rw [z]; exact I.free)).trans q,by simpa using I.len⟩
 ·obtain ⟨sl,e1⟩:=I.base.slot b o e n hb hx
  exact ⟨sl,(hs.2 b (lo b o e)).trans e1⟩
 ·obtain ⟨o',e1⟩:=I.base.there b o e hx
  exact ⟨o',(hs.2 b (lo b o e)).trans e1⟩
 ·by_cases hj:j=i
  ·subst hj
   by_cases hlt:j < σ.length
   ·rw [Ic hlt] at e2; cases e2
   ·rw [Iq (by simpa using hlt)] at e2; cases e2
  ·rw [HF (Gk hj)] at e2
   obtain ⟨u,r,q⟩:=hl j y v' e1 e2 e3
   have yn:y≠n:=fun e=>hj (mM hN e1 (e▸hi))
   refine ⟨u,r,?_⟩
   rcases q with ⟨k,e⟩ | ⟨k,c,e,z⟩
   ·exact .inl ⟨k,by simp [yn,e]⟩
   ·exact .inr ⟨k,c,e,z.sameBut hs (cne y c e)⟩
 ·obtain ⟨w',z⟩:=I.cell y c e
  exact ⟨w',z.sameBut hs (cne y c e)⟩
 ·obtain ⟨e,n,ne,nf,d⟩:=I.pin p hp
  exact ⟨(hs.2 p.1 ne).trans e,n,ne,nf,d⟩
end
def DN (X:Cx) (e:Gv) (t:XK->TE):Prop:=∀ (E:XK) (σ:St) (pn':List (Fe × Obj)) (xe':AC->Do->Prop),
 (∀ (pins:List (Fe × Obj)) (H:Hp) (s:Do) (v:AC) (s':Do),Inv { X with pn:=pn',xe:=xe' } pins σ H s->fC X.prog X.w X.stack H s E v s'->xe' v s') ->
 ∀ (pins:List (Fe × Obj)) (s:Do) (H:Hp) (Q:VK),Inv { X with pn:=pn',xe:=xe' } pins σ H s->t E σ H Q->wpAny (model X.prog X.w) X.A (eval e X.env) (EP { X with pn:=pn',xe:=xe' } pins σ Q) xe' s
theorem Be {X:Cx} {CX:g8} {k:Nat} {f:Fe} {fd:Fh} {ps:List Str} {sp:Sp} {E:XK} {pins:List (Fe × Obj)} {σ:St} {H:Hp} {s:Do} {Q:VK} {us:List AC} {vs:List V}
  (F:aF X.prog X.w X.K X.mg X.base CX k f fd ps sp) (hr:bh k X.A) (hb:Binds X.K fd ps []) (hx:∀ (pins:List (Fe × Obj)) (H:Hp) (s:Do) (v:AC) (s':Do),Inv X pins σ H s->CX X.stack H s E v s'->X.xe v s')
  (I:Inv X pins σ H s) (r:Vals vs us) (h:sp vs H Q E):wpAny (model X.prog X.w) X.A (call (.ref f) us) (EP X pins σ Q) X.xe s:=by
 have hl:us.length=ps.length:=by rw [<- r.length]; exact F.len _ _ _ _ h
 have hb':=hb s us I.kIn (by rw [FR]; exact hl)
 rw [FR] at hb'
 refine Ii (Hn (F.run X.A X.stack s H ⟨us,[]⟩ us vs Q E hr I.env0 hb' r h) fun r s' hq=>?_)
 cases r with
 | error v=>exact hx pins H s v s' I hq
 | ok fl=>cases fl<;>first | exact I.after hq | exact Gi hq
end L2
namespace L2
open PySem PySem.Spec PyProof.Rows
structure Def (P:FG) (w:FU) (K:FD) (mg:Str->Option AC) (base:GG) (x:Str) (ps:List Str) (k:Nat) (sp:Sp) (f:Fe) (fd:Fh):Prop where
 ok:aF P w K mg base (fC P w) k f fd ps sp
 b:Binds K fd ps []
 kp:FE K (.ref f)=true
 m:mg x=some (.ref f)
section
variable {X:Cx} {f:Fe} {fd:Fh} {ps:List Str} {sp:Sp} {x:Str} {p pos:Pos} {e:Gv} {es:List Gv} {t:TA} {j k:Nat}
theorem bc (D:Def X.prog X.w X.K X.mg X.base x ps j sp f fd) (hr:bh k X.A) (ha:PA X (e::es) t) (hjk:j<=k:=by decide) (hg:Gl X x:=by rfl)
  (hdb:(x == ("__debug__" : Str))=false:=by decide) (he:starEach (e::es) X.env=(false,eval e X.env)::starEach es X.env:=by rfl) (hpl:(backTo pos (starEach es X.env)).any (·.1)=false:=by rfl) :
  PE X (.Call (.Name x p) (e::es) [] pos) (jE sp [] E0 t):=tY D.ok (hr.mono hjk) hg D.m D.kp D.b .nil mq ha hdb he hpl
theorem gn (D:Def X.prog X.w X.K X.mg X.base x ps j sp f fd) (hr:bh k X.A) (hjk:j<=k:=by decide) (hg:Gl X x:=by rfl) (hdb:(x == ("__debug__" : Str))=false:=by decide) :
  PE X (.Call (.Name x p) [] [] pos) (jE sp [] E0 rJ):=yw D.ok (hr.mono hjk) hg D.m D.kp D.b .nil mq hdb
theorem fQ {E:XK} (T:uh X E) (D:Def X.prog X.w X.K X.mg X.base x ps j sp f fd) (hr:bh k X.A) (ha:PA X (e::es) t) (hjk:j<=k:=by decide) (hg:Gl X x:=by rfl)
  (hdb:(x == ("__debug__" : Str))=false:=by decide) (he:starEach (e::es) X.env=(false,eval e X.env)::starEach es X.env:=by rfl) (hpl:(backTo pos (starEach es X.env)).any (·.1)=false:=by rfl) :
  PE X (.Call (.Name x p) (e::es) [] pos) (jE sp [] E t):=tY D.ok (hr.mono hjk) hg D.m D.kp D.b .nil T.pass ha hdb he hpl
theorem z7 (D:Def X.prog X.w X.K X.mg X.base x ps j sp f fd) (hr:bh k X.A) (ha:∀ (pn':List (Fe × Obj)) (xe':AC->Do->Prop),PA { X with pn:=pn',xe:=xe' } (e::es) t) (hjk:j<=k:=by decide) (hg:Gl X x:=by rfl)
  (hdb:(x == ("__debug__" : Str))=false:=by decide) (he:starEach (e::es) X.env=(false,eval e X.env)::starEach es X.env:=by rfl) (hpl:(backTo pos (starEach es X.env)).any (·.1)=false:=by rfl) :
  DN X (.Call (.Name x p) (e::es) [] pos) (fun E=>jE sp [] E t):=by
 intro E σ pn' xe' hp pins s H Q I h
 refine Hd (du (X:={ X with pn:=pn',xe:=xe' }) I hg D.m ?_ hdb)
 refine W.callWith_K (h₀:=X.base) I.ok.mod.kin D.kp (aB (ha pn' xe' pos pins s σ H _ I h) fun us s1 ⟨vs,H1,I1,r,q⟩=>⟨I1.kIn,?_⟩) he hpl
 have q:sp (vs++[]) H1 Q E:=q
 rw [FR] at q
 exact Be (X:={ X with pn:=pn',xe:=xe' }) D.ok (hr.mono hjk) D.b hp I1 r q
end
theorem bL:bootBuiltins "isinstance" = some (.builtin "isinstance"):=by decide +kernel
theorem A3:bootBuiltins "int" = some (.type "int"):=by decide +kernel
theorem Ad:bootBuiltins "bool" = some (.type "bool"):=by decide +kernel
theorem oX:bootBuiltins "list" = some (.type "list"):=by decide +kernel
theorem Bj:bootBuiltins "str" = some (.type "str"):=by decide +kernel
theorem iL:bootBuiltins "len" = some (.builtin "len"):=by decide +kernel
theorem af.upd {H H':Hp} (h:af H H') {p:Fe} (n:H p=none) (o:HO):af H (L2.upd H' p o):=fun b u q=>by
 rw [aq (aO q n)]; exact h b u q
theorem af.new {H H':Hp} (h:af H H') {p:Fe} (n:H' p=none) (o:HO):af H (L2.upd H' p o):=h.trans fun b u q=>by
 rw [aq (aO q n)]; exact q
theorem sz {n:Nat} (h:n<=1000000):n<=sizeLine:=FW h (by decide)
theorem BV {n:Nat} (h:n<=1000000):n < sizeLine:=HU h (by decide)
theorem tU {K:FD}:JT K (.type "int") (.type "int")=some true:=by rfl
theorem qC {K:FD}:JT K (.type "list") (.type "list")=some true:=by rfl
theorem tW {K:FD}:JT K (.type "str") (.type "str")=some true:=by rfl
theorem sH {K:FD}:JT K (.type "int") (.type "bool")=some false:=by rfl
theorem mh {ns:List Int} {i:Int} (h0:0<=i) (h1:i < (ns.length:Int)):gI (ns.map V.int) i=some (.int (ns.getD i.toNat 0)):=by
 have hk:i.toNat < ns.length:=by lia
 have ek:i=((i.toNat:Nat):Int):=by lia
 have q:gI (ns.map V.int) ((i.toNat:Nat):Int)=some (.int (ns.getD i.toNat 0)):=gb (by rw [FN,Gw,Fk hk]<;>rfl)
 rw [<- ek] at q
 exact q
end L2
namespace L2
open PySem PySem.Spec PyProof.Rows
theorem EB {σ:St} {H:Hp} {F:Bool->Hp->Prop} (h:F true H):vb σ H F:=h
theorem pm {j:Int} (h:0 < j):0 < j:=h
noncomputable def gQ (ns:List Int) (lo hi:Option Int):List Int:=(ns.drop (HT.sIx ns.length 0 lo)).take (HT.sIx ns.length ns.length hi - HT.sIx ns.length 0 lo)
theorem mU (ns:List Int) (lo hi:Option Int):dS (ns.map V.int) lo hi=(gQ ns lo hi).map V.int:=by
 unfold dS gQ
 rw [Ff,List.map_take,List.map_drop]
theorem z9 {ns:List Int} {i:Nat} {x:V} (h:(ns.map V.int)[i]? = some x):∃ c,x = .int c:=by
 rw [FN] at h
 cases e:ns[i]? with
 | none=>rw [e] at h; cases h
 | some c=>rw [e] at h; cases h; exact ⟨c,rfl⟩
end L2
namespace L2
open PySem PySem.Spec PyProof.Rows
noncomputable def Eg (t u:TS):TS:=fun D σ H=>∃ P:St->Hp->Prop,t { D with nx:=P } σ H/\∀ σ' H',P σ' H'->u D σ' H'
theorem pB {X:Cx} {st:Hc} {rest:List Hc} {t u:TS} (h1:PS X st t) (h2:fz X rest u):fz X (st::rest) (Eg t u):=by
 intro pins s σ H D I h
 obtain ⟨P,ha,hb⟩:=h
 refine Iu (aB (h1 pins s σ H { D with nx:=P } I ha) fun f s1 q=>?_)
 cases f with
 | next =>
  obtain ⟨σ',H',I',q⟩:=q
  exact h2 pins s1 σ' H' D I' (hb σ' H' q)
 | ret v=>exact q
 | brk=>exact q
 | cont=>exact q
theorem gc {c A B:Prop} [Decidable c] (hc:c) (h:A):if decide c=true then A else B:=by rw [decide_eq_true hc]; exact d7 h
theorem dU {c A B:Prop} [Decidable c] (hc:¬ c) (h:B):if decide c=true then A else B:=by rw [decide_eq_false hc]; exact dq h
theorem zE {n:Nat} {i:Int} (h0:0<=i) (h1:i < n):nE n i=some i.toNat:=by unfold nE; rw [if_pos h0,if_pos h1]
theorem tS (ns:List Int) (lo hi:Option Int):(gQ ns lo hi).length<=ns.length:=by
 unfold gQ; rw [Ga,Iw]; lia
theorem xq (ns:List Int) {t:Int} (h:0<=t):gQ ns (some t) none=ns.drop t.toNat:=by
 unfold gQ
 have e1:HT.sIx ns.length 0 (some t)=min t.toNat ns.length:=by
  show (if t < 0 then _ else _)=_
  rw [if_neg (by lia)]
 rw [e1,HT.sIx_none]
 by_cases hl:t.toNat<=ns.length
 ·rw [Nat.min_eq_left hl]; exact FL (by simp)
 ·rw [Nat.min_eq_right (by lia),G6 (Fg _),G6 (by lia)]; simp
end L2
namespace Ck
noncomputable def zb:Nat->List Int
 | 0=>[1]
 | k+1=>zb k++[((Gp (k+1)).map fun j=>(zb k).getD j 0*(zb k).getD (k - j) 0).sum]
noncomputable def sh (k:Nat):Int:=(zb k).getD k 0
end Ck
namespace Ck
noncomputable def r:Nat->Nat->Int
 | 0,_=>1
 | _+1,0=>0
 | u+1,d+1=>if d < u then 0 else r u (d+1)+r (u+1) d
noncomputable def row (n u:Nat):List Int:=(Gp (n+1 - u)).map fun i=>r u (u+i)
noncomputable def pw (a:Int):Nat->Int
 | 0=>1
 | k+1=>pw a k*a
end Ck
namespace Ck
noncomputable def lt:List Nat->List Nat->Bool
 | c::s,e::t=>if c=e then lt s t else c == 40
 | _,_=>false
end Ck
namespace Ck
open PySem
noncomputable def ix (n d:Nat):Option Int->Nat
 | none=>d
 | some v=>if v < 0 then (v+(n:Int)).toNat else min v.toNat n
end Ck
namespace Ck
open PySem L2
end Ck
namespace L2
open PySem
end L2
namespace Ck
open PySem L2
end Ck
namespace L2
open PySem PySem.Spec PyProof.Rows
theorem zU {x y:Str} (h:x.cps.toList=y.cps.toList):x=y:=by
 obtain ⟨a⟩:=x
 obtain ⟨b⟩:=y
 have:a=b:=by
  have h':a.toList=b.toList:=h
  rw [<- JI (xs:=a),h',JI]
 rw [this]
end L2
namespace Ck
open PySem L2
end Ck
namespace L2
open PySem PySem.Spec PyProof.Rows
section
variable {X:Cx} {tg:Gv}
end
noncomputable def iC:List V->List V->Bool
 | [],[]=>true
 | x::xs,y::ys=>dB x y&&iC xs ys
 | _,_=>false
theorem pT:∀ {xs ys:List V},xs.length≠ys.length->iC xs ys=false
 | [],[],h=>absurd rfl h
 | [],_::_,_=>rfl
 | _::_,[],_=>rfl
 | x::xs,y::ys,h=>by
  rw [iC,pT (xs:=xs) (ys:=ys) (by simpa using h),Bool.and_false]
theorem pG:∀ {xs ys:List V},xs.length=ys.length->(Gp xs.length).all (fun j=>dB (xs.getD j .non) (ys.getD j .non))=iC xs ys
 | [],[],_=>rfl
 | x::xs,y::ys,h=>by
  rw [iC,<- pG (xs:=xs) (ys:=ys) (by simpa using h),Gg,Jq,Hz,Ke]
  rfl
noncomputable def Bp (K:FD) (neg:Bool):R2:=fun x y H Q=>∃ a b xs ys,x = .ref a/\y = .ref b/\av K H a xs/\av K H b ys/\xs.all dw=true/\ys.all dw=true/\Q (.bl (if neg then !iC xs ys else iC xs ys)) H
section
variable {X:Cx}
theorem items_eqAt {A:Gd} {s:Do} {xs ys:List V} {us vs:List AC} (r:Vals xs us) (r':Vals ys vs) (fx:xs.all dw=true) (fy:ys.all dw=true) :
  ∀ j (h1:j < us.toArray.size) (h2:j < vs.toArray.size),J3 A s us.toArray[j] vs.toArray[j] (dB (xs.getD j .non) (ys.getD j .non)):=fun j h1 h2=>by
 have l1:=r.length
 have l2:=r'.length
 have h1':j < us.length:=by simpa using h1
 have h2':j < vs.length:=by simpa using h2
 obtain ⟨u,eu,ru⟩:=r.get (Fk (show j < xs.length by lia))
 obtain ⟨v,ev,rv⟩:=r'.get (Fk (show j < ys.length by lia))
 have e1:us.toArray[j]=u:=by
  rw [Fk h1'] at eu
  simpa using eu
 have e2:vs.toArray[j]=v:=by
  rw [Fk h2'] at ev
  simpa using ev
 rw [e1,e2]
 have g1:xs.getD j .non=xs[j]'(by lia):=by rw [Gw,Fk (show j < xs.length by lia)]; rfl
 have g2:ys.getD j .non=ys[j]'(by lia):=by rw [Gw,Fk (show j < ys.length by lia)]; rfl
 rw [g1,g2]
 exact rj ru rv (Fu.mp fx _ (HI _)) (Fu.mp fy _ (HI _))
theorem uN (hu:X.A.units < cLine):fL X (compareOp .Eq) (Bp X.K false):=by
 intro pins s σ H x y v u Q I rx ry h
 obtain ⟨a,b,xs,ys,rfl,rfl,ha,hb,fx,fy,q⟩:=h
 cases rx
 cases ry
 obtain ⟨us,r,pl,hz⟩:=I.list ha
 obtain ⟨vs,r',pl',hz'⟩:=I.list hb
 have l1:=r.length
 have l2:=r'.length
 by_cases hl:xs.length=ys.length
 ·refine SeqAt.eq_listAt (e:=fun j=>dB (xs.getD j .non) (ys.getD j .non)) pl.isList pl'.isList (by simp; lia) hu (items_eqAt r r' fx fy) ⟨.bl _,H,I,rfl,?_⟩
  rw [show us.toArray.size=xs.length by simp; lia,pG hl]
  exact q
 ·refine Jh pl.isList pl'.isList (by simp; lia) hu ⟨.bl false,H,I,rfl,?_⟩
  rw [<- pT hl]
  exact q
theorem jV (hu:X.A.units < cLine):fL X (compareOp .NotEq) (Bp X.K true):=by
 intro pins s σ H x y v u Q I rx ry h
 obtain ⟨a,b,xs,ys,rfl,rfl,ha,hb,fx,fy,q⟩:=h
 cases rx
 cases ry
 obtain ⟨us,r,pl,hz⟩:=I.list ha
 obtain ⟨vs,r',pl',hz'⟩:=I.list hb
 have l1:=r.length
 have l2:=r'.length
 by_cases hl:xs.length=ys.length
 ·refine JW (e:=fun j=>dB (xs.getD j .non) (ys.getD j .non)) pl.isList pl'.isList (by simp; lia) hu (items_eqAt r r' fx fy) _ _ _ _ ⟨.bl _,H,I,rfl,?_⟩
  rw [show us.toArray.size=xs.length by simp; lia,pG hl]
  exact q
 ·refine IJ pl.isList pl'.isList (by simp; lia) hu _ _ _ _ ⟨.bl true,H,I,rfl,?_⟩
  have z:=pT hl
  rw [z] at q
  exact q
end
end L2
namespace L2
open PySem PySem.Spec PyProof.Rows PySem.W Builtin Builtin.ObjectAttr Builtin.Getset_descriptor
noncomputable def wq (K:JY) (C:Fe):Bool :=
 findIn K (.ref C) "__getattribute__" == some (some (.builtin "BaseException.__getattribute__"))&&findIn K (.ref C) "__getattr__" == some none &&
 findIn K (.ref C) "__class__" == some (some (.builtin "object.__class__"))&&specialIn K (.builtin "object.__class__") "__get__" == some (some (.builtin "getset_descriptor.__get__")) &&
 takesIn K (.builtin "object.__class__") == some true&&mroIn K C (.type "object") == some true&&mroIn K C (.type "BaseException") == some true&&(clsIn K C).isSome
structure gP (K:JY) (C:Fe):Prop where
 ga:findIn K (.ref C) "__getattribute__" = some (some (.builtin "BaseException.__getattribute__"))
 gh:findIn K (.ref C) "__getattr__" = some none
 cl:findIn K (.ref C) "__class__" = some (some (.builtin "object.__class__"))
 gt:specialIn K (.builtin "object.__class__") "__get__" = some (some (.builtin "getset_descriptor.__get__"))
 tk:takesIn K (.builtin "object.__class__")=some true
 mo:mroIn K C (.type "object")=some true
 mb:mroIn K C (.type "BaseException")=some true
 is:(clsIn K C).isSome=true
theorem uc {K:JY} {C:Fe} (h:wq K C=true):gP K C:=by
 unfold wq at h
 simp only [FY,beq_iff_eq] at h
 obtain ⟨⟨⟨⟨⟨⟨⟨a,b⟩,c⟩,d⟩,e⟩,f⟩,g⟩,i⟩:=h
 exact ⟨a,b,c,d,e,f,g,i⟩
section
variable {K:JY} {e C:Fe} {M:Model} {h:GG} {prog:FG} {w:FU} {A:Gd} {E:AC->Do->Prop} {s:Do}
def uG (e C:Fe) (h:GG):Prop:=∃ o,h.get? e=some o/\o.cls = .ref C/\∃ vs,o.data = .fields vs
theorem uG.ty (x:uG e C h):Looks M h (typeOf (.ref e)) (.ref C):=by
 obtain ⟨o,ho,hc,_⟩:=x
 rw [<- hc]
 exact (Looks.ld ho).andThen .now
theorem gP.find (F:gP K C) (X:K.In h) (x:AC):Looks M h (Builtin.ObjectAttr.find x (.ref C) "__class__") (.bind (.builtin "getset_descriptor.__get__") (.builtin "object.__class__")):=by
 unfold Builtin.ObjectAttr.find
 refine (looks_findIn X F.cl).andThen ?_
 refine Looks.andThen (a:=some (.builtin "getset_descriptor.__get__")) (looks_specialIn X F.gt) ?_
 refine Looks.andThen (a:=some (.builtin "getset_descriptor.__get__",.builtin "object.__class__")) ?_ (Looks.tag .now)
 exact (looks_takesIn X F.tk).andThen .now
end
section
variable {K:JY} {e C:Fe} {M:Model} {h:GG} {prog:FG} {w:FU} {A:Gd} {E:AC->Do->Prop} {s:Do}
theorem gP.got (F:gP K C) {R:Result->Do->Prop} {tp:AC} (X:K.In s.heap) (I:uG e C s.heap) (q:R (.ok (.ret (.ref C))) s) :
  codeAny (model prog w) A (.call (.builtin "getset_descriptor.__get__") ⟨[.builtin "object.__class__",.ref e,tp],[]⟩) R s:=by
 obtain ⟨hh,g,dr,t,os⟩:=s
 have L0:=I.ty (M:=model prog w)
 have L1:=looks_mroIn (M:=model prog w) X F.mo
 refine Hj KF.slot_gs.plain KF.entry_gs (KF.slot_gs.check _ _ _ _ _ _ _ _ KF.type_class (KF.args_gs _ _ _) ?_)
 unfold Builtin.«getset_descriptor.__get__» descrGet
 rw [dga_obj]
 refine Da (Ft ?_)
 unfold descrGetter descrCheckInstance descrNameAndClass isInstance
 simp only [KF.owner_class]
 repeat lk
 refine ⟨IR _ (by decide +kernel),codeAny_builtin KF.entry_class ?_⟩
 unfold Builtin.«object.__class__» shownTypeOf
 repeat lk
 exact q
theorem gP.checked (F:gP K C) {nv:AC} {Q:Unit->Do->Prop} (X:K.In s.heap) (I:uG e C s.heap) (q:Q () s):wpAny M A (checkBuiltinCall "BaseException.__getattribute__" ⟨[.ref e,nv],[]⟩) Q E s:=by
 obtain ⟨hh,g,dr,t,os⟩:=s
 have LI:Looks M hh (isInstance (.ref e) (.type "BaseException")) true:=I.ty.andThen (looks_mroIn X F.mb)
 have e1:builtinKind "BaseException.__getattribute__" = some .slot:=(by decide +kernel)
 have e2:splitId "BaseException.__getattribute__" = some (("BaseException","__getattribute__"):String × String):=by decide +kernel
 have e3:=JJ (.ref e) nv
 simp only [checkBuiltinCall,e1,e2]
 refine Da (LI.at ?_)
 repeat (first | assumption | wp_step)
theorem gP.attr (F:gP K C) {tk:Tok} {Q:AC->Do->Prop} (X:K.In s.heap) (I:uG e C s.heap) (q:Q (.ref C) s):wpAny (model prog w) A (getAttrBy (.ref e) (.str "__class__" tk) false false) Q E s:=by
 obtain ⟨hh,g,dr,t,os⟩:=s
 have L0:=I.ty (M:=model prog w)
 have L1:=looks_findIn (M:=model prog w) X F.ga
 have L2:=looks_findIn (M:=model prog w) X F.gh
 have L3:=F.find (M:=model prog w) X (.ref e)
 have b:=Ji.ga.bind (.ref e)
 unfold getAttrBy
 refine Gf (Da (L0.at (Da (L1.at ?_))))
 show wpAny _ _ (getAttrByItsOwn _ _ _ _ _ _) _ _ _
 unfold getAttrByItsOwn hookBefore
 refine Da (L2.at ?_)
 refine Da (wpAny_attempt (Gf ?_))
 show wpAny _ _ (boundAndCalled _ _ _) _ _ _
 unfold boundAndCalled
 rw [b]
 refine Da (Ft (Ii (Hj Ji.ga.plain Jy (F.checked X I ?_))))
 show wpAny _ _ (Builtin.«object.__getattribute__» ⟨[.ref e,.str "__class__" tk],[]⟩) _ _ _
 unfold Builtin.«object.__getattribute__»
 repeat lk
 show wpAny _ _ (run (.call (.builtin "getset_descriptor.__get__") ⟨[.builtin "object.__class__",.ref e,.ref C],[]⟩) none) _ _ _
 refine wpAny_run (h:=none) (F.got X I ?_)
 show wpAny _ _ (pure (Fv C)) _ _ _
 refine Ft ?_
 show wpAny _ _ (ret (.ref C)) _ _ _
 refine Ft ?_
 exact handed_on rfl q
theorem yO (F:gP K C):KitX K (.ref e) (.ref C) (uG e C) where
 ty:=fun _ _ _ I=>I.ty
 it:=fun _ _ X _=>by
  have hc:=F.is
  unfold clsIn at hc
  split at hc
  ·rename_i ho
   intro A' Q' E' s' k q
   unfold isType loadHead
   exact Da (wpAny_loadPart (k _ _ (X _ _ ho)) (Ft q))
  ·cases hc
 ne:=fun h tp dd its n sl X htp=>by
  have hc:=F.is
  refine Bool.eq_false_iff.mpr fun q=>?_
  have z:C=tp:=Value.ref.inj (beq_iff_eq.mp q)
  subst z
  unfold clsIn at hc
  split at hc
  ·rename_i ho
   have z:=(X _ _ ho).symm.trans htp
   cases z
  ·cases hc
 ca:=fun {prog w A E Q s} X I q=>by
  obtain ⟨hh,g,d,t,os⟩:=s
  unfold getAttr? getAttrBy?
  refine Da (wpAny_mkText (Da (wpAny_attempt (F.attr (s:=⟨hh,g,d,t+1,os⟩) X I ?_))))
  exact Ft q
end
section
variable {X:Cx}
theorem g5 {a:Fe}:∀ u,RelV (.ref a) u->u=Fv a:=fun _ h=>h
theorem sr {A:Gd} {k:Nat} (hr:bh k A):A.units < cLine:=Nat.lt_of_succ_lt (Dh hr)
end
theorem qx:bootBuiltins "ValueError" = some (.type "ValueError"):=by decide +kernel
end L2
namespace Ck
open PySem L2
end Ck
namespace L2
open PySem PySem.Spec PyProof.Rows
structure bq (P:FG) (w:FU) (K:FD) (mg:Str->Option AC) (base:GG) (ps:List Str) (k:Nat) (sp:Sp) (f:Fe) (fd:Fh):Prop where
 ok:aF P w K mg base (fC P w) k f fd ps sp
 b:Binds K fd ps []
section
variable {X:Cx} {C f:Fe} {fd:Fh} {ps:List Str} {sp:Sp} {m:Str} {apos pos:Pos} {o e:Gv} {es:List Gv} {ta:TE} {t:TA} {j k:Nat}
theorem E7 {pl:Sem Bool} (ho:PE X o ta) (c:eW X.K C) (hm:Meth X.K C m f) (D:bq X.prog X.w X.K X.mg X.base ps j sp f fd) (hr:bh k X.A) (ha:PA X (e::es) t) (hjk:j<=k:=by decide)
  (hst:starEach (e::es) X.env=(false,eval e X.env)::starEach es X.env:=by rfl) (hpl:(backTo pos (starEach es X.env)).any (·.1)=false:=by rfl)
  (ht:eval (.Call (.Attribute o m apos) (e::es) [] pos) X.env=(do
   let ov <- eval o X.env
   standAt apos.atName
   let (f,first) <- holding [ov] (getMethod ov m pl)
   callWith pos f first (backTo pos (starEach (e::es) X.env)) (backToKw pos (keywordEach [] X.env))):=by rfl) :
  PE X (.Call (.Attribute o m apos) (e::es) [] pos) (zk C m sp [] E0 ta t):=zF ho c hm D.ok (hr.mono hjk) D.b .nil mq ha hst hpl ht
end
structure vR (K:FD) (C:Fe) (m:Str) (f:Fe):Prop where
 hg:Jj K (.ref C) "__getattribute__" = some (some (.builtin "type.__getattribute__"))
 rd:JX K C (.type "type")=true
 at_:Jz K (.ref C) (.type "type") m=some (.val (.ref f))
 kp:FE K (.ref f)=true
section
variable {X:Cx} {C f:Fe} {fd:Fh} {ps:List Str} {sp:Sp} {x m:Str} {p apos pos:Pos} {e:Gv} {es:List Gv} {t:TA} {j k:Nat}
theorem g9 {pl:Sem Bool} (hm:X.mg x=some (.ref C)) (M:vR X.K C m f) (D:bq X.prog X.w X.K X.mg X.base ps j sp f fd) (hr:bh k X.A) (ha:PA X (e::es) t) (hjk:j<=k:=by decide) (hg:Gl X x:=by rfl)
  (hdb:(x == ("__debug__" : Str))=false:=by decide) (hst:starEach (e::es) X.env=(false,eval e X.env)::starEach es X.env:=by rfl) (hpl:(backTo pos (starEach es X.env)).any (·.1)=false:=by rfl)
  (ht:eval (.Call (.Attribute (.Name x p) m apos) (e::es) [] pos) X.env=(do
   let ov <- eval (.Name x p) X.env
   standAt apos.atName
   let (f,first) <- holding [ov] (getMethod ov m pl)
   callWith pos f first (backTo pos (starEach (e::es) X.env)) (backToKw pos (keywordEach [] X.env))):=by rfl) :
  PE X (.Call (.Attribute (.Name x p) m apos) (e::es) [] pos) (jE sp [] E0 t):=by
 intro pins s σ H Q I h
 refine W.methodCall_KW (pl:=pl) (du I hg hm ?_ hdb) ht
 refine W.method_cls I.kIn M.hg (W.cls_value I.kIn M.rd M.at_ rfl ?_)
 have I1:Inv X pins σ H { s with toks:=s.toks+1 }:=I.tok _
 refine W.callWith_K (first:=[]) (h₀:=X.base) I.ok.mod.kin M.kp (aB (ha pos pins _ σ H _ I1 h) fun us s2 ⟨vs,H2,I2,r,q2⟩=>⟨I2.kIn,?_⟩) hst hpl
 exact nA D.ok (hr.mono hjk) D.b .nil mq I2 r q2
end
section
variable {X:Cx} {C f:Fe} {fd:Fh} {ps:List Str} {sp:Sp} {x:Str} {p pos:Pos} {j k:Nat}
theorem gq (M:Mk X.K C f) (hm:X.mg x=some (.ref C)) (D:bq X.prog X.w X.K X.mg X.base ps j sp f fd) (hr:bh k X.A) (hjk:j+1<=k:=by decide) (hg:Gl X x:=by rfl) (hdb:(x == ("__debug__" : Str))=false:=by decide) :
  PE X (.Call (.Name x p) [] [] pos) (zi C sp [] E0 rJ):=yS M D.ok (hr.mono hjk) hg hm D.b .nil mq hdb
end
end L2
namespace L2
open PySem
noncomputable def below (N:Nat) (sp:Nat->Sp):Sp:=fun vs H Q E=>∃ m,m < N/\sp m vs H Q E
end L2
namespace L2
open PySem PySem.Spec PyProof.Rows
inductive eV (K:FD) (H:Hp):Nat->V->V->Bool->Prop
 | flat {n:Nat} {x y:V} (fx:dw x=true) (fy:dw y=true):eV K H n x y (dB x y)
 | same {n:Nat} {a:Fe}:eV K H n (.ref a) (.ref a) true
 | lst {n:Nat} {a b:Fe} {xs ys:List V} {e:Nat->Bool} (ne:a≠b) (ha:av K H a xs) (hb:av K H b ys) (hl:xs.length=ys.length)
   (hi:∀ j x y,xs[j]? = some x->ys[j]? = some y->eV K H n x y (e j)):eV K H (n+1) (.ref a) (.ref b) ((Gp xs.length).all e)
 | lstN {n:Nat} {a b:Fe} {xs ys:List V} (ne:a≠b) (ha:av K H a xs) (hb:av K H b ys) (hl:xs.length≠ys.length):eV K H (n+1) (.ref a) (.ref b) false
 | tup {n:Nat} {a b:Fe} {xs ys:List V} {e:Nat->Bool} (ne:a≠b) (ha:bJ K H a xs) (hb:bJ K H b ys)
   (hi:∀ j x y,xs[j]? = some x->ys[j]? = some y->eV K H n x y (e j)):eV K H (n+1) (.ref a) (.ref b) ((Gp (min xs.length ys.length)).all e&&xs.length == ys.length)
theorem eV.lstT {K:FD} {H:Hp} {n:Nat} {a b:Fe} {xs ys:List V} (ne:a≠b) (ha:av K H a xs) (hb:av K H b ys) (hl:xs.length=ys.length) (hi:∀ (j:Nat) (x y:V),xs[j]? = some x->ys[j]? = some y->eV K H n x y true):eV K H (n+1) (.ref a) (.ref b) true:=by
 have h:=eV.lst (e:=fun _=>true) ne ha hb hl hi
 have e (k:Nat):(Gp k).all (fun _=>true)=true:=Fu.mpr fun _ _=>rfl
 rw [e] at h
 exact h
section
variable {X:Cx} {pins:List (Fe × Obj)} {σ:St} {H:Hp} {s:Do}
theorem fk {xs:List V} {us:List AC} (r:Vals xs us) {j:Nat} (h:j < us.toArray.size):∃ x,xs[j]? = some x/\RelV x us.toArray[j]:=by
 have h':j < us.length:=by simpa using h
 have hx:j < xs.length:=by rw [r.length]; exact h'
 obtain ⟨u,eu,ru⟩:=r.get (Fk hx)
 rw [Fk h'] at eu
 exact ⟨_,Fk hx,by
  have:us.toArray[j]=u:=by simpa using eu
  rw [this]; exact ru⟩
theorem eV.at_ {n:Nat} {x y:V} {b:Bool} (d:eV X.K H n x y b):∀ {A:Gd} {u v:AC},A.units+n < cLine->Inv X pins σ H s->RelV x u->RelV y v->J3 A s u v b:=by
 induction d with
 | flat fx fy=>intro A u v _ I ru rv; exact rj ru rv fx fy
 | same =>
  intro A u v _ I ru rv
  cases (show u=Fv _ from ru)
  cases (show v=Fv _ from rv)
  exact Kf _
 | @lst n a b xs ys e ne ha hb hl hi ih =>
  intro A u v hu I ru rv
  cases (show u=Fv _ from ru)
  cases (show v=Fv _ from rv)
  obtain ⟨us,r,pl,_⟩:=I.list ha
  obtain ⟨vs,r',pl',_⟩:=I.list hb
  have l1:=r.length
  have l2:=r'.length
  have z:=SeqAt.RcAt.lists (A:=A) (e:=e) pl.isList pl'.isList (by simp; lia) (by lia) fun j h1 h2=>by
   obtain ⟨x,ex,rx⟩:=fk r h1
   obtain ⟨y,ey,ry⟩:=fk r' h2
   exact ih j x y ex ey (A:=A.in1) (by show A.units+1+n < cLine; lia) I rx ry
  rw [show us.toArray.size=xs.length by simp; lia] at z
  exact .of_refs ne z
 | @lstN n a b xs ys ne ha hb hl =>
  intro A u v hu I ru rv
  cases (show u=Fv _ from ru)
  cases (show v=Fv _ from rv)
  obtain ⟨us,r,pl,_⟩:=I.list ha
  obtain ⟨vs,r',pl',_⟩:=I.list hb
  have l1:=r.length
  have l2:=r'.length
  exact .of_refs ne (SeqAt.RcAt.lists_lengths pl.isList pl'.isList (by simp; lia) (by lia))
 | @tup n a b xs ys e ne ha hb hi ih =>
  intro A u v hu I ru rv
  cases (show u=Fv _ from ru)
  cases (show v=Fv _ from rv)
  obtain ⟨us,r,pl,_⟩:=I.tuple ha
  obtain ⟨vs,r',pl',_⟩:=I.tuple hb
  have l1:=r.length
  have l2:=r'.length
  have z:=SeqAt.RcAt.tuples (A:=A) (e:=e) pl pl' (by lia) fun j h1 h2=>by
   obtain ⟨x,ex,rx⟩:=fk r h1
   obtain ⟨y,ey,ry⟩:=fk r' h2
   exact ih j x y ex ey (A:=A.in1) (by show A.units+1+n < cLine; lia) I rx ry
  rw [show us.toArray.size=xs.length by simp; lia,show vs.toArray.size=ys.length by simp; lia] at z
  exact .of_refs ne z
noncomputable def A1 (K:FD) (neg:Bool):R2:=fun x y H Q=>∃ n b,n<=100/\eV K H n x y b/\(∃ a c,x = .ref a/\y = .ref c/\a≠c)/\Q (.bl (if neg then !b else b)) H
theorem Bh (hu:X.A.units+100 < cLine):fL X (compareOp .Eq) (A1 X.K false):=by
 intro pins s σ H x y u v Q I ru rv h
 obtain ⟨n,b,hn,d,⟨a,c,rfl,rfl,hne⟩,q⟩:=h
 cases (show u=Fv _ from ru)
 cases (show v=Fv _ from rv)
 cases d with
 | flat fx _=>cases fx
 | same=>exact absurd rfl hne
 | @lst n _ _ xs ys e ne ha hb hl hi =>
  obtain ⟨us,r,pl,_⟩:=I.list ha
  obtain ⟨vs,r',pl',_⟩:=I.list hb
  have l1:=r.length
  have l2:=r'.length
  refine SeqAt.eq_listAt (e:=e) pl.isList pl'.isList (by simp; lia) (by lia) (fun j h1 h2=>?_) ⟨.bl _,H,I,rfl,?_⟩
  ·obtain ⟨x,ex,rx⟩:=fk r h1
   obtain ⟨y,ey,ry⟩:=fk r' h2
   exact (hi j x y ex ey).at_ (A:=X.A.in1) (by show X.A.units+1+n < cLine; lia) I rx ry
  ·rw [show us.toArray.size=xs.length by simp; lia]; exact q
 | @lstN n _ _ xs ys ne ha hb hl =>
  obtain ⟨us,r,pl,_⟩:=I.list ha
  obtain ⟨vs,r',pl',_⟩:=I.list hb
  have l1:=r.length
  have l2:=r'.length
  exact Jh pl.isList pl'.isList (by simp; lia) (by lia) ⟨.bl false,H,I,rfl,q⟩
 | @tup n _ _ xs ys e ne ha hb hi =>
  obtain ⟨us,r,pl,_⟩:=I.tuple ha
  obtain ⟨vs,r',pl',_⟩:=I.tuple hb
  have l1:=r.length
  have l2:=r'.length
  refine SeqAt.eq_tupleAt (e:=e) pl pl' (by lia) (fun j h1 h2=>?_) ⟨.bl _,H,I,rfl,?_⟩
  ·obtain ⟨x,ex,rx⟩:=fk r h1
   obtain ⟨y,ey,ry⟩:=fk r' h2
   exact (hi j x y ex ey).at_ (A:=X.A.in1) (by show X.A.units+1+n < cLine; lia) I rx ry
  ·rw [show us.toArray.size=xs.length by simp; lia,show vs.toArray.size=ys.length by simp; lia]; exact q
theorem xQ (hu:X.A.units+100 < cLine):fL X (compareOp .NotEq) (A1 X.K true):=by
 intro pins s σ H x y u v Q I ru rv h
 obtain ⟨n,b,hn,d,⟨a,c,rfl,rfl,hne⟩,q⟩:=h
 cases (show u=Fv _ from ru)
 cases (show v=Fv _ from rv)
 cases d with
 | flat fx _=>cases fx
 | same=>exact absurd rfl hne
 | @lst n _ _ xs ys e ne ha hb hl hi =>
  obtain ⟨us,r,pl,_⟩:=I.list ha
  obtain ⟨vs,r',pl',_⟩:=I.list hb
  have l1:=r.length
  have l2:=r'.length
  refine JW (e:=e) pl.isList pl'.isList (by simp; lia) (by lia) (fun j h1 h2=>?_) _ _ _ _ ⟨.bl _,H,I,rfl,?_⟩
  ·obtain ⟨x,ex,rx⟩:=fk r h1
   obtain ⟨y,ey,ry⟩:=fk r' h2
   exact (hi j x y ex ey).at_ (A:=X.A.in1) (by show X.A.units+1+n < cLine; lia) I rx ry
  ·rw [show us.toArray.size=xs.length by simp; lia]; exact q
 | @lstN n _ _ xs ys ne ha hb hl =>
  obtain ⟨us,r,pl,_⟩:=I.list ha
  obtain ⟨vs,r',pl',_⟩:=I.list hb
  have l1:=r.length
  have l2:=r'.length
  exact IJ pl.isList pl'.isList (by simp; lia) (by lia) _ _ _ _ ⟨.bl true,H,I,rfl,q⟩
 | @tup n _ _ xs ys e ne ha hb hi =>
  obtain ⟨us,r,pl,_⟩:=I.tuple ha
  obtain ⟨vs,r',pl',_⟩:=I.tuple hb
  have l1:=r.length
  have l2:=r'.length
  refine SeqAt.RcNeAt.tuples (e:=e) pl pl' (by lia) (fun j h1 h2=>?_) _ _ _ _ ⟨.bl _,H,I,rfl,?_⟩
  ·obtain ⟨x,ex,rx⟩:=fk r h1
   obtain ⟨y,ey,ry⟩:=fk r' h2
   exact (hi j x y ex ey).at_ (A:=X.A.in1) (by show X.A.units+1+n < cLine; lia) I rx ry
  ·rw [show us.toArray.size=xs.length by simp; lia,show vs.toArray.size=ys.length by simp; lia]; exact q
theorem uJ {A:Gd} {k:Nat} (hr:bh k A):A.units+100 < cLine:=HU (by lia) hr.un
end
end L2
namespace L2
open PySem PySem.Spec PyProof.Rows
section
variable {X:Cx}
end
section
variable {X:Cx} {pins:List (Fe × Obj)} {σ:St} {H:Hp} {s:Do} {h':GG}
theorem Inv.trackO {e:Fe} {o':HO} (I:Inv X pins σ H s) (o:jS X pins H e) (new:aJ X.prog X.w (upd H e o') s.heap e o'):Inv X pins σ (upd H e o') s:=by
 have ne:∀ b u,H b=some u->b≠e:=fun b u q z=>by rw [z,o.free] at q; cases q
 refine ⟨I.ok,I.os,I.bare,⟨I.base.keep,I.base.slot,fun b ob q n hx=>?_,I.base.there,fun b xs q=>?_,fun b ob u q=>?_,fun b ps q=>?_⟩,I.loc,I.cell,?_,fun x c q=>?_,fun p hp=>?_,fun b u q=>?_,I.len⟩
 ·rw [aq (fun z=>by rw [z,o.new] at q; cases q)]; exact I.base.free b ob q n hx
 ·have:=I.base.tups b xs q
  rw [aq (ne _ _ this)]; exact this
 ·have:=I.base.frzs b ob u q
  rw [aq (ne _ _ this)]; exact this
 ·obtain ⟨m,z⟩:=I.base.tbls b ps q
  exact ⟨m,by rw [aq (ne _ _ z)]; exact z⟩
 ·rw [aq (Gk o.loc)]; exact I.free
 ·rw [aq (o.cell x c q)]; exact I.freeC x c q
 ·obtain ⟨z,n,r⟩:=I.pin p hp
  exact ⟨z,by rw [aq (o.pin p hp)]; exact n,r⟩
 ·by_cases z:b=e
  ·subst z; rw [ae] at q; cases q; exact new
  ·rw [aq z] at q
   exact (I.hok b u q).stay (fun _ _ _ x=>x) (fun c x=>by rw [aq (ne _ _ x)]; exact x) fun c xs x=>by rw [aq (ne _ _ x)]; exact x
theorem Inv.turned2 {t':Nat} {e it:Fe} (I:Inv X pins σ H s) (k:∀ b o,b≠e->b≠it->s.heap.get? b=some o->h'.get? b=some o) (he:∃ o,h'.get? e=some o) (hi:∃ o,h'.get? it=some o) (f1:iz X pins H e) (f2:iz X pins H it) :
  Inv X pins σ H { s with heap:=h',toks:=t' }:=by
 have nit:∀ b u,H b=some u->b≠e/\b≠it:=fun b u q=>⟨fun z=>(by rw [z,f1.1] at q; cases q),fun z=>(by rw [z,f2.1] at q; cases q)⟩
 have sp:∀ b,b∉[e,it]->b≠e/\b≠it:=fun b hb=>⟨fun z=>hb (by simp [z]),fun z=>hb (by simp [z])⟩
 refine I.step (g':=s.gens) (d':=s.drawn) (ch:=[e,it]) (fun b hb=>?_) (fun b o _ _ hc q _=>k b o (sp b hc).1 (sp b hc).2 q) (fun b o _ _ hc q _=>⟨o.slots,k b o (sp b hc).1 (sp b hc).2 q⟩) (fun _ _ _ _ n=>n)
  (fun b o hc q=>⟨o,k b o (sp b hc).1 (sp b hc).2 q⟩) (fun _ _ q=>q) (fun _ _ _ q=>q) (fun b ps q=>⟨#[],by rw [q]; simp⟩) (fun m hm=>?_) (fun b u q=>?_) I.bare
 ·rcases FB.mp hb with z | z
  ·rw [z]; exact ⟨f1.2.2.2.1,f1.2.1,f1.2.2.2.2.1,f1.2.2.2.2.2⟩
  ·rw [show b=it by simpa using z]; exact ⟨f2.2.2.2.1,f2.2.1,f2.2.2.2.2.1,f2.2.2.2.2.2⟩
 ·obtain ⟨o,es,ep,ho,r⟩:=hm
  exact ⟨o,es,ep,k _ o (Gk f1.2.1) (Gk f2.2.1) ho,r⟩
 ·refine (I.hok b u q).stay (fun c v hc q'=>?_) (fun _ q=>q) fun _ _ q=>q
  have:c≠e/\c≠it:=by
   rcases hc with z | z
   ·rw [z]; exact nit b u q
   ·exact nit c _ z
  exact k c v this.1 this.2 q'
end
noncomputable def xX (K:FD) (l:Fe):It :=
 ⟨fun i H=>∃ xs x,av K H l xs/\xs[i]? = some x,fun i H v H'=>∃ T x,H T=none/\(∀ xs,av K H l xs->xs[i]? = some x)/\v = .ref T/\H'=upd H T (.tup [.int i,x]),fun i H=>∃ xs,av K H l xs/\xs.length<=i⟩
theorem xp {P:FG} {w:FU} {K:FD} {elts:List Gv} {k0:Nat} {tp:Pos} (e it l:Fe) (hei:e≠it) :
  Turn P w K (.Tuple elts k0 tp) (xX K l) [e,it] e (fun i h=>(∃ old,IsEnum h e it i old)/\h.IsListIter it l i) where
 mem:=by simp
 obj:=fun i h st b hb=>by
  obtain ⟨⟨old,he⟩,o,ho,c,d⟩:=st
  rcases FB.mp hb with z | z
  ·rw [z]
   exact ⟨_,he,fun v z=>by
    have z':Data.fields _=Data.cell v:=z
    cases z'⟩
  ·rw [show b=it by simpa using z]
   exact ⟨o,ho,fun v z=>by rw [d] at z; cases z⟩
 keep:=fun i h h' st k=>⟨let ⟨old,he⟩:=st.1; ⟨old,k e (by simp) _ he⟩,st.2.at fun o q=>k it (by simp) o q⟩
 item:=by
  intro X hP hw hK hc i pins s σ H E I hf st hg
  subst hP hw hK
  obtain ⟨xs,x,hq,hx⟩:=hg
  obtain ⟨its,rv,p,hz⟩:=I.list hq
  obtain ⟨u,hu,ru⟩:=rv.get hx
  obtain ⟨⟨old,he⟩,hit⟩:=st
  have fe:=hf e (by simp)
  have fi:=hf it (by simp)
  refine wpAny_pyNext_enum_item he hit p.isList (x:=u) (by simpa using hu) hei fun h1 ho hit1 hT hsz hk=>?_
  refine ⟨_,rfl,wpAny_letOwnedTupleGo_enum ho fun h2 he2 sb=>?_⟩
  have nT:s.heap.get? s.heap.objs.size=none:=GP (Fg _)
  have elt:e < s.heap.objs.size:=Fi he
  have ilt:it < s.heap.objs.size:=by obtain ⟨_,q,_⟩:=hit; exact Fi q
  have hit2:h2.IsListIter it l (i+1):=hit1.at fun o q=>(sb.2 it (Gk hei)).trans q
  have k2:∀ b o,b≠e->b≠it->s.heap.get? b=some o->h2.get? b=some o:=fun b o b1 b2 q=>(sb.2 b b1).trans (hk b o b1 b2 q)
  have I2:Inv X pins σ H { s with heap:=h2,toks:=s.toks+1 }:=I.turned2 k2 ⟨_,he2⟩ (by obtain ⟨o,q,_⟩:=hit2; exact ⟨o,q⟩) fe fi
  have oT:jS X pins H s.heap.objs.size:=by
   have fT:iz X pins H s.heap.objs.size:=I.fpOk (Fg _) (I.hok.fresh (Fg _))
   exact ⟨GP I.sz,fT.1,fT.2.1,fT.2.2.2.2.1,fT.2.2.2.2.2⟩
  have hT2:h2.get? s.heap.objs.size=some { cls:=.type "tuple",data:=.seq #[.int i s.toks,u] }:=(sb.2 _ (Im elt)).trans hT
  have I3:=I2.trackO (o':=.tup [.int i,x]) oT ⟨sz (n:=2) (by decide),[.int i s.toks,u],.cons ⟨_,rfl⟩ (.cons ru .nil),_,hT2,rfl,_,rfl⟩
  refine ⟨.ref s.heap.objs.size,_,I3,rfl,⟨_,x,oT.free,fun ys hy=>by rw [I.list_inj hy hq]; exact hx,rfl,rfl⟩,⟨⟨_,by simpa using he2⟩,hit2⟩,fun b hb=>?_⟩
  rcases FB.mp hb with z | z
  ·rw [z,aq (FV elt)]; exact fe.1
  ·rw [show b=it by simpa using z,aq (FV ilt)]; exact fi.1
 done:=by
  intro X hP hw hK hc i pins s σ H E I hf st hg
  subst hP hw hK
  obtain ⟨xs,hq,hx⟩:=hg
  obtain ⟨its,rv,p,hz⟩:=I.list hq
  obtain ⟨⟨old,he⟩,hit⟩:=st
  have hl:=rv.length
  obtain ⟨f0,f1,f2,f3,f4,f5⟩:=hf it (by simp)
  refine wpAny_pyNext_enum_end (I.ok.hd hc) he hit p.isList (Array.getElem?_eq_none (by simp; lia)) fun h2 eb=>⟨rfl,?_⟩
  exact I.turned (t':=s.toks) (fun b o hb q=>eb b o hb q) f0 f1 f3 f4 f5
 self:=fun _ _ _ _ _ st h=>by
  obtain ⟨⟨old,he⟩,_⟩:=st
  exact wpAny_pyIter_enum he h
noncomputable def CY (K:FD) (ta:TA):TI:=fun σ H R=>ta σ H fun vs H1=>∃ l,vs=[.ref l]/\(∃ xs,av K H1 l xs)/\R (xX K l) H1
section
variable {X:Cx}
theorem As {elts:List Gv} {k0:Nat} {tp:Pos} {a:Gv} {ta:TA} {p pos:Pos} (hg:Gl X "enumerate") (hm:X.mg "enumerate" = none) (ha:PA X [a] ta) (hs:starEach [a] X.env=[(false,eval a X.env)]:=by rfl) :
  PI X (.Tuple elts k0 tp) (.Call (.Name "enumerate" p) [a] [] pos) (CY X.K ta):=by
 intro pins s σ H R I h
 refine Call_ (jt I hg hm boot_enumerate (GX (aB (ha pos pins s σ H _ I h) fun us s1 ⟨vs,H1,I1,r1,q1⟩=>?_) hs rfl))
 obtain ⟨l,rfl,⟨xs,hq⟩,q⟩:=q1
 obtain ⟨u,rfl,ru⟩:=vals1 r1
 cases ru
 obtain ⟨its,rv,pl,hz⟩:=I1.list hq
 refine call_enumerate_list pl.isList fun h2 he hit hsz hk=>?_
 have I2:Inv X pins σ H1 { s1 with heap:=h2 }:=I1.kept (t':=s1.toks) hk
 refine wpAny_pyIter_enum he ⟨_,[s1.heap.objs.size+1,s1.heap.objs.size],_,_,H1,rfl,I2,xp _ s1.heap.objs.size l (Nat.succ_ne_self _),⟨⟨_,he⟩,hit⟩,fun b hb=>?_,q⟩
 rcases FB.mp hb with z | z
 ·rw [z]; exact I1.fpOk (GB _) (I1.hok.fresh (GB _))
 ·rw [show b=s1.heap.objs.size by simpa using z]; exact I1.fpOk (Fg _) (I1.hok.fresh (Fg _))
theorem yE {K:FD} {l:Fe} {xs:List V} {g:TG} {tb:TS} {D:Ends} {σ:St} {H:Hp} (Pv:Nat->St->Hp->Prop) (h0:Pv 0 σ H) (hl:∀ i σ H,i<=xs.length->Pv i σ H->av K H l xs)
  (hs:∀ i x σ H T,xs[i]? = some x->Pv i σ H->H T=none->g (.ref T) σ (upd H T (.tup [.int i,x])) fun σ2 H2=>tb { D with nx:=Pv (i+1),ct:=Pv (i+1),bk:=D.nx } σ2 H2) (hd:∀ σ H,Pv xs.length σ H->D.nx σ H) :
  ∃ W:Nat->Nat->St->Hp->Prop,(∃ m,W 0 m σ H)/\∀ i m σ H,W i m σ H ->
   ((xX K l).stop i H/\D.nx σ H)\/((xX K l).go i H/\∃ N:St->Hp->Prop,(∀ σ' H',N σ' H'->∃ m',m' < m/\W (i+1) m' σ' H')/\∀ x H',(xX K l).yld i H x H'->g x σ H' fun σ2 H2=>tb { D with nx:=N,ct:=N,bk:=D.nx } σ2 H2):=by
 refine ⟨fun i m σ H=>m=xs.length - i/\i<=xs.length/\Pv i σ H,⟨xs.length,by simp,Fy _,h0⟩,?_⟩
 rintro i m σ H ⟨rfl,hi,p⟩
 have q:=hl i σ H hi p
 by_cases hlt:i < xs.length
 ·refine .inr ⟨⟨xs,_,q,Fk hlt⟩,Pv (i+1),fun σ' H' p'=>⟨xs.length - (i+1),by lia,rfl,hlt,p'⟩,fun v H' y=>?_⟩
  obtain ⟨T,x,nT,hx,rfl,rfl⟩:=y
  exact hs i x σ H T (hx xs q) p nT
 ·have e:i=xs.length:=by lia
  subst e
  exact .inl ⟨⟨xs,q,Fg _⟩,hd σ H p⟩
end
end L2
namespace Ck
open PySem L2
inductive Tree where
 | int (i:Int)
 | lst (l:List Tree)
 | tup (l:List Tree)
mutual
noncomputable def Rep (H:Hp):Tree->V->Prop
 | .int i,v=>v = .int i
 | .lst ts,v=>∃ a xs,v = .ref a/\H a=some (.lst xs)/\ts.length<=1000000/\iw H ts xs
 | .tup ts,v=>∃ a xs,v = .ref a/\H a=some (.tup xs)/\ts.length<=1000000/\iw H ts xs
noncomputable def iw (H:Hp):List Tree->List V->Prop
 | [],xs=>xs=[]
 | t::ts,xs=>∃ v vs,xs=v::vs/\Rep H t v/\iw H ts vs
end
mutual
noncomputable def dep:Tree->Nat
 | .int _=>0
 | .lst ts=>yp ts+1
 | .tup ts=>yp ts+1
noncomputable def yp:List Tree->Nat
 | []=>0
 | t::ts=>max (dep t) (yp ts)
end
mutual
theorem Rep.same {H H':Hp} (s:af H H'):∀ (t:Tree) {v:V},Rep H t v->Rep H' t v
 | .int i,v,h=>by unfold Rep at h |-; exact h
 | .lst ts,v,h=>by
  unfold Rep at h |-
  obtain ⟨a,xs,e,ha,hl,r⟩:=h
  exact ⟨a,xs,e,s _ _ ha,hl,iw.same s ts r⟩
 | .tup ts,v,h=>by
  unfold Rep at h |-
  obtain ⟨a,xs,e,ha,hl,r⟩:=h
  exact ⟨a,xs,e,s _ _ ha,hl,iw.same s ts r⟩
theorem iw.same {H H':Hp} (s:af H H'):∀ (ts:List Tree) {xs:List V},iw H ts xs->iw H' ts xs
 | [],xs,h=>by unfold iw at h |-; exact h
 | t::ts,xs,h=>by
  unfold iw at h |-
  obtain ⟨v,vs,e,r,rs⟩:=h
  exact ⟨v,vs,e,Rep.same s t r,iw.same s ts rs⟩
end
noncomputable abbrev Pair:=Int × Int
end Ck
namespace L2
open PySem
end L2
namespace Ck
open PySem L2
theorem DP (xs:List V) (k:Nat):dS xs (some (k:Int)) none=xs.drop k:=by
 unfold dS
 rw [HT.sIx_nat,HT.sIx_none]
 rw [FL (by rw [Iw]; lia)]
 by_cases h:k<=xs.length
 ·rw [show min k xs.length=k by lia]
 ·rw [G6 (show xs.length<=k by lia),G6 (by lia)]
theorem z4 (xs:List V) (k:Nat):dS xs none (some (k:Int))=xs.take k:=by
 unfold dS
 rw [HT.sIx_nat,HT.sIx_none,List.drop_zero,Nat.sub_zero]
 by_cases h:k<=xs.length
 ·rw [show min k xs.length=k by lia]
 ·rw [FL (by lia),FL (by lia)]
theorem nQ {c A B:Prop} [Decidable c] (hc:¬ c) (h:A):if (!decide c)=true then A else B:=by
 rw [decide_eq_false hc]
 exact d7 h
end Ck
namespace L2
open PySem PySem.Spec PyProof.Rows PySem.SeqAt
section
variable {X:Cx}
theorem eX {K:FD} {a:Fe} {xs:List V} {g:TG} {tt:TT} {te:TE} {σ0:St} {H:Hp} {D:Fe} {Q:VK} (Pv:Nat->List V->Hp->Prop) (hz:xs.length<=sizeLine)
  (h0:Pv 0 [] (upd H D (.lst []))) (hl:∀ i ys H',i<=xs.length->Pv i ys H'->av K H' a xs/\ys.length<=i)
  (hs:∀ (i:Nat) (x:V) (ys:List V) (H':Hp) (R:VK) (R0:Hp->Prop),xs[i]? = some x->Pv i ys H'->(∀ v H3,H3 D=some (.lst ys)->Pv (i+1) (ys++[v]) (upd H3 D (.lst (ys++[v])))->R v H3)->(∀ H3,Pv (i+1) ys H3->R0 H3) ->
   g x σ0 H' fun σ2 H2=>Ext σ0 σ2/\tt σ2 H2 fun b H3=>if b=true then te σ2 H3 R else R0 H3)
  (hq:∀ ys H',Pv xs.length ys H'->Q (.ref D) H') :
  ot (sS K a) g tt te σ0 D Q H:=by
 refine ⟨fun i m ys H'=>m=xs.length - i/\i<=xs.length/\Pv i ys H',⟨xs.length,by simp,Fy _,h0⟩,?_⟩
 rintro i m ys H' ⟨rfl,hi,p⟩
 obtain ⟨sq,ly⟩:=hl i ys H' hi p
 by_cases hlt:i < xs.length
 ·refine .inr ⟨⟨xs,xs[i],sq,by simp [hlt]⟩,fun x H'' y=>?_⟩
  obtain ⟨e,y⟩:=y
  subst e
  have ex:=y xs sq
  refine hs i x ys _ _ _ ex p (fun v H3 hD p'=>⟨hD,by lia,xs.length - (i+1),by lia,rfl,hlt,p'⟩) fun H3 p'=>⟨xs.length - (i+1),by lia,rfl,hlt,p'⟩
 ·have e:i=xs.length:=by lia
  subst e
  exact .inl ⟨⟨xs,sq,Fg _⟩,hq ys H' p⟩
end
end L2
namespace Ck
open PySem L2
end Ck
namespace Ck
open PySem L2
structure gd (fs:List (Str × V)) (w:Str) (l:Int):Prop where
 word:fs.lookup ("word" : Str)=some (.str w)
 least:fs.lookup ("least" : Str)=some (.int l)
 no:∀ m:Str,m≠("word" : Str)->m≠("least" : Str)->fs.lookup m=none
theorem zy (w:Str) (l:Int):gd (fJ ("least" : Str) (.int l) (fJ ("word" : Str) (.str w) [])) w l :=
 ⟨by rw [dP,if_neg (by decide),dP,if_pos rfl],by rw [dP,if_pos rfl],fun m a b=>by rw [dP,if_neg b,dP,if_neg a]; rfl⟩
noncomputable def up (d:Int) (p:Pair):Pair:=(p.1+d,p.2+d)
end Ck
namespace Ck
open PySem L2
end Ck
namespace Ck
open PySem L2
end Ck
namespace L2
open PySem PySem.Spec PyProof.Rows
theorem Bg:bootBuiltins "all" = some (.builtin "all"):=by decide +kernel
section
variable {X:Cx}
theorem vf {bs:List Bool}:∀ {us:List AC},Vals (bs.map V.bl) us->us=bs.map Ig:=by
 induction bs with
 | nil=>intro us r; rw [IQ] at r; cases r; rfl
 | cons b bs ih =>
  intro us r
  rw [FO] at r
  cases r with
  | cons h t=>rw [ih t,FO]; cases (show _=Ig b from h); rfl
theorem all_range (bs:List Bool):(Gp bs.length).all (fun i=>bs.getD i false)=bs.all id:=by
 induction bs with
 | nil=>rfl
 | cons b bs ih =>
  rw [Gg,Jq,Hz,Ke,Hz]
  have:((fun i=>(b::bs).getD i false) ∘ Nat.succ)=fun i=>bs.getD i false:=by funext i; rfl
  rw [this,ih]
  rfl
theorem yT (hc:X.calm=true):ij X (.builtin "all") (fun xs H Q=>∃ (p:Fe) (bs:List Bool),xs=[.ref p]/\av X.K H p (bs.map V.bl)/\Q (.bl (bs.all id)) H):=by
 intro pins s σ H xs us Q I r h
 obtain ⟨p,bs,rfl,hl,q⟩:=h
 obtain ⟨u,rfl,ru⟩:=vals1 r
 cases ru
 obtain ⟨its,r',pl,hz⟩:=I.list hl
 have ei:=vf r'
 have hlt:p < s.heap.objs.size:=by obtain ⟨_,e,_⟩:=pl.isList; exact Fi e
 refine call_all_walk (wpAny_pyIter_list pl.isList ⟨_,_,_,_,_,_,fun i=>bs.getD i false,rfl,Walks.list (A:=X.A.in1) (I.ok.hd hc) _ p (FV hlt) its.toArray,⟨⟨_,FH _ rfl,rfl,rfl⟩,pl.isList.push _⟩,?_,fun h' tk hk=>⟨.bl _,H,I.kept (old_kept hk),rfl,?_⟩⟩)
 ·intro i v s' Q' E' hP hQ
  have hb:bs[i]? = some (bs.getD i false)/\v = .bool (bs.getD i false):=by
   have hP':its[i]? = some v:=by simpa using hP
   rw [ei,FN] at hP'
   cases hb:bs[i]? with
   | none=>rw [hb] at hP'; cases hP'
   | some b =>
    rw [hb] at hP'
    have e1:bs.getD i false=b:=by rw [Gw,hb]; rfl
    rw [e1]
    exact ⟨rfl,(Fw hP').symm⟩
  rw [hb.2]
  exact Hl hQ
 ·have e1:its.toArray.size=bs.length:=by rw [ei]; simp
  rw [e1,all_range]
  exact q
end
end L2
namespace Ck
open PySem L2
end Ck
namespace Ck
open PySem L2
end Ck
namespace Ck
open PySem L2
end Ck
namespace Ck
open PySem L2
noncomputable def steps (ws:List Int):List Int:=(Gp (ws.length - 1)).map fun (i:Nat)=>(ws.getD (i+1) 0 - ws.getD i 0) % ((ws.length:Int)+1)
end Ck
namespace L2
open PySem PySem.W
end L2
namespace Ck
open PySem L2
theorem ne_int {a b:Int} (h:a≠b):¬ V.int a=V.int b:=fun z=>h (by injection z)
end Ck
namespace Ck
end Ck
namespace Ck
open PySem L2
end Ck
namespace Ck
open PySem L2
theorem pD (a b:Int):decide (V.int a=V.int b)=decide (a=b):=by
 by_cases h:a=b
 ·rw [decide_eq_true h,decide_eq_true (by rw [h])]
 ·rw [decide_eq_false h,decide_eq_false (ne_int h)]
end Ck
namespace Ck
end Ck
namespace Ck
open PySem L2
end Ck
namespace L2
open PySem PySem.Spec PyProof.Rows
section
variable {X:Cx}
end
end L2
namespace L2
open PySem PySem.Spec PyProof.Rows
end L2
namespace L2
open PySem PySem.Spec PyProof.Rows
end L2
namespace Ck
open PySem L2
noncomputable def EJ (n:Nat):List Int:=(Gp n).map fun (k:Nat)=>(k:Int)
noncomputable def stk (row:List Int) (k p:Nat):List Int:=(EJ p).filter fun m=>!decide (m∈row.take k)
end Ck
namespace Ck
open PySem L2
end Ck
namespace Ck
open PySem L2
noncomputable def E9 (n:Nat):List Int:=(Gp n).map fun (k:Nat)=>1+(k:Int)
end Ck
namespace Ck
end Ck
namespace Ck
end Ck
namespace L2
open PySem PySem.Spec PyProof.Rows PySem.SeqAt
section
variable {X:Cx}
end
end L2
namespace Ck
open PySem L2
end Ck
namespace L2
open PySem
theorem xM {A:Gd} {k:Nat} (hr:bh k A):A.units+1 < cLine:=HU (by lia) hr.un
end L2
namespace Ck
open PySem L2
end Ck
namespace L2
open PySem PySem.Spec PyProof.Rows
section
variable {κ:Type} [DecidableEq κ]
noncomputable def bM (kvs:List (κ × V)) (k:κ):Option V:=(kvs.find? fun kv=>decide (kv.1=k)).map (·.2)
noncomputable def putK (kvs:List (κ × V)) (k:κ) (v:V):List (κ × V) :=
 if (kvs.any fun kv=>decide (kv.1=k))=true then kvs.map (fun kv=>if kv.1=k then (kv.1,v) else kv) else kvs++[(k,v)]
theorem jT {p:κ × V} {r:List (κ × V)} {k:κ} (e:p.1=k):bM (p::r) k=some p.2:=by simp [bM,Hx,e]
theorem jH {p:κ × V} {r:List (κ × V)} {k:κ} (e:¬ p.1=k):bM (p::r) k=bM r k:=by simp [bM,Hx,e]
theorem jU (k:κ):∀ kvs:List (κ × V),(kvs.any fun kv=>decide (kv.1=k))=(bM kvs k).isSome
 | []=>rfl
 | p::r=>by
  rw [Iz]
  by_cases e:p.1=k
  ·simp only [jT e,decide_eq_true e,Bool.true_or,Option.isSome_some]
  ·rw [jH e,decide_eq_false e,Bool.false_or]; exact jU k r
theorem i6 (kvs:List (κ × V)) (k:κ) (v:V):(putK kvs k v).length<=kvs.length+1:=by
 unfold putK
 split
 ·rw [Ff]; lia
 ·rw [Fo,Gg,HW]; lia
theorem yM {kvs:List (κ × V)} {k:κ} (v:V) (h:bM kvs k=none):putK kvs k v=kvs++[(k,v)]:=by
 unfold putK
 rw [jU,h]
 exact if_neg (by decide)
theorem eB.isSome_eq {o:Option V} {u:Option AC} (r:eB o u):o.isSome=u.isSome:=by
 cases o with
 | none=>cases u with
  | none=>rfl
  | some _=>exact (show False from r).elim
 | some _=>cases u with
  | none=>exact (show False from r).elim
  | some _=>rfl
theorem eB.getD {o:Option V} {u:Option AC} {d:V} {d':AC} (r:eB o u) (rd:RelV d d'):RelV (o.getD d) (u.getD d'):=by
 cases o with
 | none=>cases u with
  | none=>exact rd
  | some _=>exact (show False from r).elim
 | some _=>cases u with
  | none=>exact (show False from r).elim
  | some _=>exact r
theorem KV.val {kvs:List (κ × V)} {vs:List (κ × AC)} (r:KV kvs vs) (k:κ):eB (bM kvs k) (valueAt vs k):=by
 unfold KV at r
 induction r with
 | nil=>exact GO
 | @cons p q ps qs h t ih =>
  obtain ⟨h1,h2⟩:=h
  by_cases e:p.1=k
  ·have e':q.1=k:=h1.symm.trans e
   have b:valueAt (q::qs) k=some q.2:=by simp [valueAt,Hx,e']
   rw [jT e,b]; exact h2
  ·have e':¬ q.1=k:=fun z=>e (h1.trans z)
   have b:valueAt (q::qs) k=valueAt qs k:=by simp [valueAt,Hx,e']
   rw [jH e,b]; exact ih
theorem KV.any {kvs:List (κ × V)} {vs:List (κ × AC)} (r:KV kvs vs) (k:κ):(kvs.any fun kv=>decide (kv.1=k))=vs.any fun kv=>decide (kv.1=k):=by
 unfold KV at r
 induction r with
 | nil=>rfl
 | cons h t ih=>rw [Iz,Iz,ih,h.1]
theorem KV.repl {kvs:List (κ × V)} {vs:List (κ × AC)} (r:KV kvs vs) (k:κ) {y:V} {u:AC} (ry:RelV y u) :
  KV (kvs.map fun kv=>if kv.1=k then (kv.1,y) else kv) (vs.map fun kv=>if kv.1=k then (kv.1,u) else kv):=by
 unfold KV at r |-
 induction r with
 | nil=>exact .nil
 | @cons p q ps qs h t ih =>
  rw [FO,FO]
  refine .cons ?_ ih
  obtain ⟨h1,h2⟩:=h
  by_cases e:p.1=k
  ·rw [if_pos e,if_pos (h1.symm.trans e)]; exact ⟨h1,ry⟩
  ·rw [if_neg e,if_neg (fun z=>e (h1.trans z))]; exact ⟨h1,h2⟩
theorem KV.put {kvs:List (κ × V)} {vs:List (κ × AC)} (r:KV kvs vs) (k:κ) {y:V} {u:AC} (ry:RelV y u):KV (putK kvs k y) (stored vs k u):=by
 unfold putK stored
 rw [r.any k]
 by_cases e:(vs.any fun kv=>decide (kv.1=k))=true
 ·rw [if_pos e,if_pos e]; exact r.repl k ry
 ·rw [if_neg e,if_neg e]; exact Paired.snoc r ⟨rfl,ry⟩
theorem KV.length {kvs:List (κ × V)} {vs:List (κ × AC)} (r:KV kvs vs):kvs.length=vs.length:=Ge r
end
theorem gW {P:FG} {w:FU} {k:Key} {u:AC} (r:RelV (kV k) u):(aV P w).is k u=true:=by
 cases k with
 | inl i=>obtain ⟨t,e⟩:=(show ∃ t,u=JO i t from r); subst e; exact tR P w i t
 | inr x=>obtain ⟨t,e⟩:=(show ∃ t,u=IB x t from r); subst e; exact tT P w x t
theorem p6 {P:FG} {w:FU}:∀ {ks:List Key} {us:List AC},Vals (ks.map kV) us->ItemsAre (aV P w) ks us
 | [],_,r=>by rw [IQ] at r; cases r; exact .nil
 | k::ks,_,r=>by
  rw [FO] at r
  cases r with
  | cons h t=>exact .cons (gW h) (p6 t)
noncomputable abbrev KT (H:Hp):List (List Key × V)->List (List Key × Fe × AC)->Prop:=FQ fun p q=>p.1=q.1/\H q.2.1=some (.tup (p.1.map kV))/\RelV p.2 q.2.2
theorem KT.val {H:Hp} {kvs:List (List Key × V)} {xs:List (List Key × Fe × AC)} (r:KT H kvs xs) (k:List Key):eB (bM kvs k) ((atKey xs k).map (·.2)):=by
 induction r with
 | nil=>exact GO
 | @cons p q ps qs h t ih =>
  obtain ⟨h1,_,h2⟩:=h
  by_cases e:p.1=k
  ·have e':q.1=k:=h1.symm.trans e
   have b:atKey (q::qs) k=some q.2:=by simp [atKey,Hx,e']
   rw [jT e,b]; exact h2
  ·have e':¬ q.1=k:=fun z=>e (h1.trans z)
   have b:atKey (q::qs) k=atKey qs k:=by simp [atKey,Hx,e']
   rw [jH e,b]; exact ih
theorem KT.repl {H:Hp} {kvs:List (List Key × V)} {xs:List (List Key × Fe × AC)} (r:KT H kvs xs) (k:List Key) {y:V} {u:AC} (ry:RelV y u) :
  KT H (kvs.map fun kv=>if kv.1=k then (kv.1,y) else kv) (xs.map (putAt k u)):=by
 induction r with
 | nil=>exact .nil
 | @cons p q ps qs h t ih =>
  rw [FO,FO]
  refine .cons ?_ ih
  obtain ⟨h1,h2,h3⟩:=h
  unfold putAt
  by_cases e:p.1=k
  ·rw [if_pos e,if_pos (h1.symm.trans e)]; exact ⟨h1,h2,ry⟩
  ·rw [if_neg e,if_neg (fun z=>e (h1.trans z))]; exact ⟨h1,h2,h3⟩
theorem KT.put {H:Hp} {kvs:List (List Key × V)} {xs:List (List Key × Fe × AC)} (r:KT H kvs xs) (k:List Key) {b:Fe} {y:V} {u:AC} (hb:H b=some (.tup (k.map kV))) (ry:RelV y u) :
  KT H (putK kvs k y) (storedH xs k b u):=by
 have e:(kvs.any fun kv=>decide (kv.1=k))=(atKey xs k).isSome:=by
  rw [jU,(r.val k).isSome_eq,Option.isSome_map]
 unfold putK storedH
 rw [e]
 by_cases q:(atKey xs k).isSome=true
 ·rw [if_pos q,if_pos q]; exact r.repl k ry
 ·rw [if_neg q,if_neg q]; exact Paired.snoc r ⟨rfl,hb,ry⟩
theorem KT.keeps {H H':Hp} {kvs:List (List Key × V)} {xs:List (List Key × Fe × AC)} (r:KT H kvs xs) (ht:∀ b ys,H b=some (.tup ys)->H' b=some (.tup ys)):KT H' kvs xs :=
 Paired.mapP r fun _ _ z=>⟨z.1,ht _ _ z.2.1,z.2.2⟩
section
variable {P:FG} {w:FU} {H:Hp} {h:GG} {a:Fe}
theorem ze {u:HO} (ok:bS P w H h) (e:Rd H a u):aJ P w H h a u:=e.ok ok
theorem mz {kvs:List (Key × V)} (ok:bS P w H h) (e:Rd H a (.dK kvs)):kvs.length<=sizeLine/\(a == sysModules)=false/\∃ vs,KV kvs vs/\h.DictOf (aV P w) a vs :=
 show aJ P w H h a (.dK kvs) from ze ok e
theorem nW {kvs:List (Key × V)} (ok:bS P w H h) (e:H a=some (.dK kvs)):kvs.length<=sizeLine/\(a == sysModules)=false/\∃ vs,KV kvs vs/\h.DictOf (aV P w) a vs:=mz ok (.inl e)
theorem ko {ks:List Key} (ok:bS P w H h) (e:H a=some (.tup (ks.map kV))):(tupleKind (aV P w)).is h ks a:=by
 obtain ⟨_,its,r,o,h1,h2,n,h3⟩:=(show aJ P w H h a (.tup (ks.map kV)) from ok a _ e)
 exact ⟨o,its.toArray,n,h1,h2,h3,by simpa using p6 r⟩
theorem lE {kvs:List (List Key × V)} (ok:bS P w H h) (e:Rd H a (.dT kvs)):kvs.length<=sizeLine/\(a == sysModules)=false /\
  ∃ xs,KT H kvs xs/\h.DictOfH (tupleKind (aV P w)) a xs:=by
 obtain ⟨z,y,xs,r,o,es,ep,h1,h2,h3,h4,h5⟩:=(show aJ P w H h a (.dT kvs) from ze ok e)
 refine ⟨z,y,xs,r,o,es,ep,h1,h2,h3,h4,fun x hx=>?_,h5⟩
 have all:∀ {l:List (List Key × V)} {m:List (List Key × Fe × AC)},KT H l m->∀ x∈m,(tupleKind (aV P w)).is h x.1 x.2.1:=by
  intro l m q
  induction q with
  | nil=>intro x hx; exact nomatch hx
  | @cons p q ps qs hq t ih =>
   intro x hx
   rcases FB.mp hx with e | hx
   ·subst e
    exact ko ok (by rw [<- hq.1]; exact hq.2.1)
   ·exact ih x hx
 exact all r x hx
theorem De {kvs:List (List Key × V)} (ok:bS P w H h) (e:H a=some (.dT kvs)):kvs.length<=sizeLine/\(a == sysModules)=false /\
  ∃ xs,KT H kvs xs/\h.DictOfH (tupleKind (aV P w)) a xs:=lE ok (.inl e)
end
def gE (H:Hp) (a:Fe) (y:V) (r:Option V):Prop :=
 (∃ kvs k,Rd H a (.dK kvs)/\y=kV k/\r=bM kvs k)\/∃ kvs k b,Rd H a (.dT kvs)/\y = .ref b/\H b=some (.tup (k.map kV))/\r=bM kvs k
def rB (H:Hp) (a:Fe) (y v:V) (H':Hp):Prop :=
 (∃ kvs k,H a=some (.dK kvs)/\y=kV k/\kvs.length < sizeLine/\H'=upd H a (.dK (putK kvs k v))) \/
 ∃ kvs k b,H a=some (.dT kvs)/\y = .ref b/\H b=some (.tup (k.map kV))/\kvs.length < sizeLine/\H'=upd H a (.dT (putK kvs k v))
theorem gE.k {H:Hp} {a:Fe} {kvs:List (Key × V)} {k:Key} (e:H a=some (.dK kvs)):gE H a (kV k) (bM kvs k):=.inl ⟨kvs,k,.inl e,rfl,rfl⟩
theorem rB.k {H:Hp} {a:Fe} {kvs:List (Key × V)} {k:Key} {v:V} (e:H a=some (.dK kvs)) (hl:kvs.length < sizeLine):rB H a (kV k) v (upd H a (.dK (putK kvs k v))):=.inl ⟨kvs,k,e,rfl,hl,rfl⟩
section
variable {X:Cx} {pins:List (Fe × Obj)} {σ:St} {H:Hp} {s:Do} {a:Fe} {y v:V} {u r:AC} {o:Option V} {A:Gd} {E:AC->Do->Prop}
theorem Inv.big (I:Inv X pins σ H s):sysModules < s.heap.objs.size:=by
 have h:mainGlobals < s.heap.objs.size:=(I.mod.glob.keeps I.bk).lt
 exact Nat.lt_trans (by decide) h
theorem xB {Q:AC->Do->Prop} (hu:A.units+1 < cLine) (I:Inv X pins σ H s) (g:gE H a y (some v)) (ry:RelV y u) (h:∀ w' s',Inv X pins σ H s'->RelV v w'->Q w' s') :
  wpAny (model X.prog X.w) A (getItem (.ref a) u) Q E s:=by
 rcases g with ⟨kvs,k,e,ey,l⟩ | ⟨kvs,k,b,e,ey,eb,l⟩
 ·subst ey
  obtain ⟨z,hd,vs,rel,dd⟩:=mz I.hok e
  obtain ⟨w',hw,rw'⟩:=eB.some_of (v:=v) (o:=valueAt vs k) (by rw [l]; exact rel.val k)
  exact wpAny_getItem_of (gW ry) dd.mapOf hw (h w' _ (I.tok _) rw')
 ·subst ey
  cases (show u=Fv b from ry)
  obtain ⟨z,hd,xs,rel,dd⟩:=lE I.hok e
  obtain ⟨w',hw,rw'⟩:=eB.some_of (v:=v) (o:=(atKey xs k).map (·.2)) (by rw [l]; exact rel.val k)
  obtain ⟨p,hp,hp2⟩:=Ie.mp hw
  refine wpAny_getItem_heap (HX hu) (ko I.hok eb) dd hp ?_
  rw [hp2]
  exact h w' _ (I.tok _) rw'
theorem z6 {Q:AC->Do->Prop} (hu:A.units+1 < cLine) (I:Inv X pins σ H s) (g:gE H a y o) (ry:RelV y u) (h:∀ s',Inv X pins σ H s'->Q (.bool (!o.isSome)) s') :
  wpAny (model X.prog X.w) A (compareOp .NotIn u (.ref a)) Q E s:=by
 rcases g with ⟨kvs,k,e,ey,l⟩ | ⟨kvs,k,b,e,ey,eb,l⟩
 ·subst ey
  obtain ⟨z,hd,vs,rel,dd⟩:=mz I.hok e
  refine wpAny_notIn_of (gW ry) hd dd.mapOf ?_
  rw [<- (rel.val k).isSome_eq,<- l]
  exact h _ (I.tok _)
 ·subst ey
  cases (show u=Fv b from ry)
  obtain ⟨z,hd,xs,rel,dd⟩:=lE I.hok e
  refine wpAny_notIn_heap (HX hu) (ko I.hok eb) hd dd ?_
  have q:=(rel.val k).isSome_eq
  rw [Option.isSome_map] at q
  rw [<- q,<- l]
  exact h _ (I.tok _)
theorem mv {h':GG} {t':Nat} {ob:HO} (I:Inv X pins σ H s) (mu:xb (H a)) (hs:Hb a s.heap h') (he:∃ q,h'.get? a=some q) (new:aJ X.prog X.w (upd H a ob) h' a ob) :
  Inv X pins σ (upd H a ob) { s with heap:=h',toks:=t' } :=
 I.write (x:=a) (e:=a) mu (.inl rfl) (fun b q hb z=>(hs.2 b hb).trans z) he new
theorem nY {P:FG} {w:FU} {H':Hp} {h':GG} {kvs:List (Key × V)} {vs:List (Key × AC)} (z:kvs.length<=sizeLine) (hd:(a == sysModules)=false) (rel:KV kvs vs) (dd:h'.DictOf (aV P w) a vs) :
  aJ P w H' h' a (.dK kvs):=⟨z,hd,vs,rel,dd⟩
theorem xo {H':Hp} {Q:Unit->Do->Prop} (hu:A.units+1 < cLine) (I:Inv X pins σ H s) (g:rB H a y v H') (ry:RelV y u) (rv:RelV v r) (h:∀ s',Inv X pins σ H' s'->Q () s') :
  wpAny (model X.prog X.w) A (setItem (.ref a) u r) Q E s:=by
 rcases g with ⟨kvs,k,e,ey,l,eH⟩ | ⟨kvs,k,b,e,ey,eb,l,eH⟩
 ·subst ey eH
  obtain ⟨z,hd,vs,rel,dd⟩:=nW I.hok e
  have hz:vs.length<=sizeLine:=by rw [<- rel.length]; exact z
  have hl:(putK kvs k v).length<=sizeLine:=by have:=i6 kvs k v; lia
  refine wpAny_setItem_pairs (hsz:=hz) (gW ry) dd fun h' dd' hs=>h _ ?_
  have he:∃ q,h'.get? a=some q:=let ⟨q,_,_,hq,_⟩:=dd'; ⟨q,hq⟩
  exact mv I (by rw [e]; exact GO) hs he (nY hl hd (rel.put k rv) dd')
 ·subst ey eH
  cases (show u=Fv b from ry)
  obtain ⟨z,hd,xs,rel,dd⟩:=De I.hok e
  have hz:xs.length<=sizeLine:=by rw [<- Ge rel]; exact z
  have hl:(putK kvs k v).length<=sizeLine:=by have:=i6 kvs k v; lia
  refine wpAny_setItem_heap (hsz:=hz) (HX hu) (ko I.hok eb) dd fun h' dd' hs=>h _ ?_
  obtain ⟨q,es,ep,hq,h2,h3,h4,_,h5⟩:=dd'
  refine mv I (by rw [e]; exact GO) hs ⟨q,hq⟩ ⟨hl,hd,_,(rel.put k eb rv).keeps fun c ys ec=>?_,q,es,ep,hq,h2,h3,h4,h5⟩
  rw [aq (wj ec e (fun z=>nomatch z))]
  exact ec
end
section
variable {X:Cx} {pins:List (Fe × Obj)} {σ:St} {H:Hp} {s:Do} {a:Fe} {kvs:List (Key × V)} {k:Key} {u:AC} {A:Gd} {E:AC->Do->Prop}
end
def BY (i:Gv):Prop:=∀ ov iv,subscripted i false ov iv=operate [ov,iv] (getItem ov iv)
theorem zS {prog:FG} {w:FU} {A:Gd} {E:AC->Do->Prop} {s:Do} {env:Env} {value slice:Gv} {pos:Pos} {T id:String} {Q:AC->Do->Prop}
  (hl:typeLookup (.type T) "__getitem__" = pure (some (.builtin id))) (hs:BY slice)
  (h:wpAny (model prog w) A (eval value env) (fun o s₁=>wpAny (model prog w) A (eval slice env) (fun i s₂=>s₂.TypeIs o T/\wpAny (model prog w) A (getItem o i) Q E s₂) E s₁) E s) :
  wpAny (model prog w) A (eval (.Subscript value slice pos) env) Q E s:=by
 refine Subscript_ (Gu h (fun o s₁ h₁=>Gu h₁ (fun i s₂ h₂=>?_) fun _ _ x=>x) fun _ _ x=>x)
 obtain ⟨hT,h₂⟩:=h₂
 unfold subscriptTail
 refine Da ?_
 rw [getitemInPython_of_ne hT.not_modules]
 refine Da (JA hT hl ?_)
 have fin:wpAny (model prog w) A (subscripted slice false o i) (fun r s₃=>wpAny (model prog w) A (letTemporaryGo value o r >>= fun _=>pure r) Q E s₃) E s₂:=by
  rw [hs o i]
  exact wpAny_operating (Gu h₂ (fun r s₃ h₃=>Da (wpAny_letTemporaryGo (Ft h₃))) fun _ _ x=>x)
 first
  | exact Ft (Da fin)
  | exact Da (Ft (Da fin))
  | exact Da fin
theorem tQ {X:Cx} {pins:List (Fe × Obj)} {σ:St} {H:Hp} {s:Do} {a:Fe} {y:V} {o:Option V} (I:Inv X pins σ H s) (g:gE H a y o):s.TypeIs (.ref a) "dict":=by
 rcases g with ⟨kvs,k,e,_,_⟩ | ⟨kvs,k,b,e,_,_,_⟩
 ·obtain ⟨_,_,vs,_,dd⟩:=mz I.hok e
  exact dd.typeIs
 ·obtain ⟨_,_,xs,_,dd⟩:=lE I.hok e
  exact dd.typeIs
noncomputable def C2 (td ty:TE):TE:=fun σ H Q=>td σ H fun x H1=>ty σ H1 fun y H2=>∃ a v,x = .ref a/\gE H2 a y (some v)/\Q v H2
noncomputable def An (ty td:TE):TE:=fun σ H Q=>ty σ H fun y H1=>td σ H1 fun x H2=>∃ a o,x = .ref a/\gE H2 a y o/\Q (.bl (!o.isSome)) H2
noncomputable def Dv (td ty tv:TE):TS:=fun D σ H=>tv σ H fun v H1=>td σ H1 fun x H2=>ty σ H2 fun y H3=>∃ a H4,x = .ref a/\rB H3 a y v H4/\D.nx σ H4
section
variable {X:Cx} {o i e value:Gv} {pos pos' tpos:Pos} {td ty tv:TE}
theorem tZ (hu:X.A.units+1 < cLine) (ho:PE X o td) (hi:PE X i ty) (hs:BY i):PE X (.Subscript o i pos) (C2 td ty):=by
 intro pins s σ H Q I h
 refine zS PySem.F.slot_dict_getitem.lookup hs (aB (ho pins s σ H _ I h) fun u s1 ⟨x,H1,I1,rx,q1⟩=>aB (hi pins s1 σ H1 _ I1 q1) fun iv s2 ⟨y,H2,I2,ry,a,v,ex,g,q2⟩=>?_)
 subst ex
 obtain rfl:u=Fv a:=rx
 exact ⟨tQ I2 g,xB hu I2 g ry fun w' s3 I3 rw'=>⟨v,H2,I3,rw',q2⟩⟩
theorem xN (hu:X.A.units+1 < cLine) (hi:PE X i ty) (ho:PE X o td):PC X .NotIn i o (An ty td):=by
 intro pins s σ H Q I h
 refine aB (hi pins s σ H _ I h) fun iv s1 ⟨y,H1,I1,ry,q1⟩=>aB (ho pins s1 σ H1 _ I1 q1) fun u s2 ⟨x,H2,I2,rx,a,ov,ex,g,q2⟩=>?_
 subst ex
 obtain rfl:u=Fv a:=rx
 exact z6 hu I2 g ry fun s3 I3=>⟨.bl (!ov.isSome),H2,I3,rfl,q2⟩
theorem Aq (hu:X.A.units+1 < cLine) (ho:PE X o td) (hi:PE X i ty) (hv:PE X value tv) (hs:swapsWith value (some (.Subscript o i pos')) pos.line X.env=pure false) :
  PS X (.Assign [.Subscript o i pos'] value pos) (Dv td ty tv):=by
 intro pins s σ H D I h
 refine wpAny_Assign_Subscript (aB (hv pins s σ H _ I h) fun r s1 ⟨v,H1,I1,rv,q1⟩=>aB (ho pins s1 σ H1 _ I1 q1) fun u s2 ⟨x,H2,I2,rx,q2⟩=>aB (hi pins s2 σ H2 _ I2 q2) fun iv s3 ⟨y,H3,I3,ry,a,H4,ex,g,q3⟩=>?_) hs
 subst ex
 obtain rfl:u=Fv a:=rx
 exact xo hu I3 g ry rv fun s4 I4=>⟨σ,H4,I4,q3⟩
end
theorem sR {P:FG} {w:FU} {H:Hp} (h:GG) (hb:sysModules < h.objs.size):aJ P w H (h.push { cls:=.type "dict",data:=.dict #[] }) h.objs.size (.dK []) :=
 ⟨Fy _,beq_eq_false_iff_ne.mpr (Gk (FV hb)),[],.nil,JB h⟩
noncomputable def B9:TE:=fun _ H Q=>∀ p,H p=none->Q (.ref p) (upd H p (.dK []))
section
variable {X:Cx} {pos:Pos}
theorem ya:PE X (.Dict [] [] pos) B9:=fun pins s σ H Q I h =>
 wpAny_Dict_empty ⟨.ref s.heap.objs.size,_,I.laid (a:=s.heap.objs.size) (o:=.dK []) (t':=s.toks) (fun _ _ q=>Fd _ q) (Fg _) (sR s.heap I.big),rfl,h _ (I.hok.fresh (Fg _))⟩
end
noncomputable def j8:List (TE × TE)->St->Hp->(List (V × V)->Hp->Prop)->Prop
 | [],_,H,Q=>Q [] H
 | (tk,tv)::r,σ,H,Q=>tk σ H fun x H1=>tv σ H1 fun y H2=>j8 r σ H2 fun ps H3=>Q ((x,y)::ps) H3
noncomputable abbrev VV:List (V × V)->List (AC × AC)->Prop:=FQ fun p q=>RelV p.1 q.1/\RelV p.2 q.2
def um (X:Cx) (pos:Pos) (keys:List (Option Gv)) (values:List Gv) (trs:List (TE × TE)):Prop :=
 ∀ (pins:List (Fe × Obj)) (s:Do) (σ:St) (H:Hp) (Q:List (V × V)->Hp->Prop),Inv X pins σ H s->j8 trs σ H Q ->
  wpAny (model X.prog X.w) X.A (evalPairs (pairTrees keys values X.env pos)) (fun vs s'=>∃ ps H',Inv X pins σ H' s'/\VV ps vs/\Q ps H') X.xe s
theorem uu {X:Cx} {pos:Pos}:um X pos [] [] []:=fun pins s σ H Q I h=>pairTrees_nil_walk ⟨[],H,I,.nil,h⟩
theorem rZ {X:Cx} {pos:Pos} {k v:Gv} {ks:List (Option Gv)} {vs:List Gv} {tk tv:TE} {trs:List (TE × TE)} (hk:PE X k tk) (hv:PE X v tv) (hr:um X pos ks vs trs) :
  um X pos (some k::ks) (v::vs) ((tk,tv)::trs):=fun pins s σ H Q I h =>
 pairTrees_cons_walk (aB (hk pins s σ H _ I h) fun u s1 ⟨x,H1,I1,rx,q1⟩=>aB (hv pins s1 σ H1 _ I1 q1) fun w2 s2 ⟨y,H2,I2,ry,q2⟩ =>
  aB (hr pins s2 σ H2 _ I2 q2) fun ws s3 ⟨ps,H3,I3,rel,q3⟩=>⟨(x,y)::ps,H3,I3,.cons ⟨rx,ry⟩ rel,q3⟩)
noncomputable def dD (kvs more:List (Key × V)):List (Key × V):=more.foldl (fun acc kv=>putK acc kv.1 kv.2) kvs
theorem KV.merge:∀ {more:List (Key × V)} {rs:List (Key × AC)} {kvs:List (Key × V)} {vs:List (Key × AC)},KV more rs->KV kvs vs->KV (dD kvs more) (merged vs rs):=by
 intro more rs kvs vs r
 unfold KV at r
 induction r generalizing kvs vs with
 | nil=>intro q; exact q
 | @cons p q ps qs h t ih =>
  intro r0
  have e:KV (putK kvs p.1 p.2) (stored vs q.1 q.2):=by
   have:=r0.put p.1 h.2
   rw [<- h.1]; exact this
  exact ih e
theorem gw:∀ (more kvs:List (Key × V)),(dD kvs more).length<=kvs.length+more.length
 | [],kvs=>by show kvs.length<=kvs.length+0; lia
 | p::r,kvs=>by
  have h1:=gw r (putK kvs p.1 p.2)
  have h2:=i6 kvs p.1 p.2
  show (dD (putK kvs p.1 p.2) r).length<=_
  rw [Gg]; lia
theorem og {P:FG} {w:FU}:∀ {kvs:List (Key × V)} {ws:List (AC × AC)},VV (kvs.map fun kv=>(kV kv.1,kv.2)) ws->∃ rs,Carries (aV P w) ws rs/\KV kvs rs
 | [],_,r=>by rw [IQ] at r; cases r; exact ⟨[],GO,.nil⟩
 | p::kvs,_,r=>by
  rw [FO] at r
  cases r with
  | @cons a b as bs h t =>
   obtain ⟨rs,c,q⟩:=og (P:=P) (w:=w) t
   obtain ⟨b1,b2⟩:=b
   exact ⟨(p.1,b2)::rs,⟨gW h.1,rfl,c⟩,.cons ⟨rfl,h.2⟩ q⟩
noncomputable def nI (trs:List (TE × TE)):TE:=fun σ H Q=>∀ p,H p=none->j8 trs σ (upd H p (.dK [])) fun ps H2=>H2 p=some (.dK [])/\∃ kvs:List (Key × V),ps=kvs.map (fun kv=>(kV kv.1,kv.2))/\kvs.length<=15/\Q (.ref p) (upd H2 p (.dK (dD [] kvs)))
theorem pK {X:Cx} {pos:Pos} {keys:List (Option Gv)} {values:List Gv} {trs:List (TE × TE)} (h:um X pos keys values trs) (hall:keys.all (·.isSome)=true) (hl:keys.length=values.length) (h0:keys≠[])
  (h15:keys.length<=15):PE X (.Dict keys values pos) (nI trs):=by
 intro pins s σ H Q I q
 have hn:=I.hok.fresh (Fg s.heap.objs.size)
 have I1:=I.laid (a:=s.heap.objs.size) (o:=.dK []) (h':=s.heap.push { cls:=.type "dict",data:=.dict #[] }) (t':=s.toks) (fun _ _ q=>Fd _ q) (Fg _) (sR s.heap I.big)
 refine wpAny_Dict_walk (knd:=aV X.prog X.w) hall hl h0 h15 (aB (h pins _ σ _ _ I1 (q _ hn)) fun ws s2 ⟨ps,H2,I2,rel,e,kvs,ep,lk,q2⟩=>?_)
 subst ep
 obtain ⟨rs,c,rk⟩:=og (P:=X.prog) (w:=X.w) rel
 obtain ⟨z,hd,vs0,r0,dd⟩:=nW I2.hok e
 cases r0
 refine ⟨rs,c,dd,fun h' dd' hs=>⟨.ref s.heap.objs.size,_,?_,rfl,q2⟩⟩
 have hz:(dD [] kvs).length<=sizeLine:=by
  have h1:=gw kvs []
  rw [HW] at h1
  rw [HK]; lia
 have he:∃ q,h'.get? s.heap.objs.size=some q:=let ⟨q,_,_,hq,_⟩:=dd'; ⟨q,hq⟩
 exact mv I2 (by rw [e]; exact GO) hs he (nY hz hd (rk.merge .nil) dd')
structure M1 (X:Cx) (o:Gv) (m:Str) (apos:Pos) (e:Gv) (cpos:Pos):Prop where
 base:attributeBase o m X.env (eval o X.env)=eval o X.env
 few:((backTo cpos (starEach [e] X.env)).all (fun x=>!x.1)&&(backToKw cpos (keywordEach [] X.env)).all (fun x=>x.1.isSome)
  && decide (([e]:List Gv).length+([]:List J2).length+(if ([]:List J2).isEmpty then 0 else 1) < 30))=true
 line:(apos.endLine == cpos.line)=true
 trees:backTo cpos (starEach [e] X.env)=[(false,eval e X.env)]
structure M2 (X:Cx) (o:Gv) (m:Str) (apos:Pos) (e f:Gv) (cpos:Pos):Prop where
 base:attributeBase o m X.env (eval o X.env)=eval o X.env
 few:((backTo cpos (starEach [e,f] X.env)).all (fun x=>!x.1)&&(backToKw cpos (keywordEach [] X.env)).all (fun x=>x.1.isSome)
  && decide (([e,f]:List Gv).length+([]:List J2).length+(if ([]:List J2).isEmpty then 0 else 1) < 30))=true
 line:(apos.endLine == cpos.line)=true
 trees:backTo cpos (starEach [e,f] X.env)=[(false,eval e X.env),(false,eval f X.env)]
def CH (H:Hp) (a:Fe):Prop:=(∃ kvs,Rd H a (.dK kvs))\/∃ kvs,Rd H a (.dT kvs)
theorem xS {X:Cx} {pins:List (Fe × Obj)} {σ:St} {H:Hp} {s:Do} {a:Fe} (I:Inv X pins σ H s) (d:CH H a) :
  s.TypeIs (.ref a) "dict"/\(∀ b,Fv a = .ref b->∃ ob,s.heap.get? b=some ob/\ob.dict=none)/\(a == sysModules)=false:=by
 rcases d with ⟨kvs,e⟩ | ⟨kvs,e⟩
 ·obtain ⟨_,hd,vs,_,dd⟩:=mz I.hok e
  refine ⟨dd.typeIs,fun b q=>?_,hd⟩
  cases q
  obtain ⟨ob,_,_,h1,h2,_⟩:=dd
  exact ⟨ob,h1,h2.2.1⟩
 ·obtain ⟨_,hd,xs,_,dd⟩:=lE I.hok e
  refine ⟨dd.typeIs,fun b q=>?_,hd⟩
  cases q
  obtain ⟨ob,_,_,h1,h2,_⟩:=dd
  exact ⟨ob,h1,h2.2.1⟩
section
variable {X:Cx} {pins:List (Fe × Obj)} {σ:St} {H:Hp} {s:Do} {a:Fe} {y d:V} {u r:AC} {o:Option V} {A:Gd} {E:AC->Do->Prop}
theorem BP {Q:AC->Do->Prop} (hu:A.units+1 < cLine) (I:Inv X pins σ H s) (g:gE H a y o) (ry:RelV y u) (rd:RelV d r) (h:∀ w' s',Inv X pins σ H s'->RelV (o.getD d) w'->Q w' s') :
  wpAny (model X.prog X.w) A (call (.builtin "dict.get") [.ref a,u,r]) Q E s:=by
 rcases g with ⟨kvs,k,e,ey,l⟩ | ⟨kvs,k,b,e,ey,eb,l⟩
 ·subst ey
  obtain ⟨z,hd,vs,rel,dd⟩:=mz I.hok e
  refine call_meetsIn Ir dd.typeIs Jr (Jk _ _ _) (meets_dict_get_default (aV X.prog X.w) a (gW ry) hd r) ⟨_,dd.mapOf,h _ _ (I.tok _) ?_⟩
  rw [l]
  exact (rel.val k).getD rd
 ·subst ey
  cases (show u=Fv b from ry)
  obtain ⟨z,hd,xs,rel,dd⟩:=lE I.hok e
  refine call_meetsIn Ir dd.typeIs Jr (Jk _ _ _) (meetsH_dict_get_default (tupleKind (aV X.prog X.w)) a b hd r) ⟨HX hu,k,xs,ko I.hok eb,dd,h _ _ (I.tok _) ?_⟩
  rw [l]
  exact (rel.val k).getD rd
end
noncomputable def Bz (td ty tx:TE):TE:=fun σ H Q=>td σ H fun x H1=>∃ a,x = .ref a/\CH H1 a/\ty σ H1 fun y H2=>tx σ H2 fun z H3=>∃ o,gE H3 a y o/\Q (o.getD z) H3
section
variable {X:Cx} {o e f:Gv} {apos cpos:Pos} {td ty tx:TE}
theorem yI (hu:X.A.units+1 < cLine) (ho:PE X o td) (he:PE X e ty) (hf:PE X f tx) (m:M2 X o "get" apos e f cpos):PE X (.Call (.Attribute o "get" apos) [e,f] [] cpos) (Bz td ty tx):=by
 intro pins s σ H Q I h
 refine wpAny_Call_method m.base m.few m.line Jl Ir PySem.F.type_dict_get (aB (ho pins s σ H _ I h) fun u s1 ⟨x,H1,I1,rx,a,ex,d,q1⟩=>?_)
 subst ex
 obtain rfl:u=Fv a:=rx
 obtain ⟨t1,t2,_⟩:=xS I1 d
 refine ⟨t1,t2,?_⟩
 rw [m.trees]
 refine Hu rfl (GR (HS (aB (he pins s1 σ H1 _ I1 q1) fun iv s2 ⟨y,H2,I2,ry,q2⟩ =>
  HS (aB (hf pins s2 σ H2 _ I2 q2) fun fv s3 ⟨z,H3,I3,rz,ov,g,q3⟩=>Ja ?_))))
 exact BP hu I3 g ry rz fun w' s4 I4 rw'=>⟨_,H3,I4,rw',q3⟩
end
section
variable {X:Cx} {pins:List (Fe × Obj)} {σ:St} {H:Hp} {s:Do} {a:Fe} {kvs:List (Key × V)} {A:Gd} {E:AC->Do->Prop}
end
section
variable {X:Cx} {pins:List (Fe × Obj)} {σ:St} {H:Hp} {s:Do} {a:Fe} {y:V} {u:AC} {A:Gd} {E:AC->Do->Prop}
end
end L2
namespace L2
open PySem PySem.Spec PyProof.Rows
section
variable {κ:Type} [DecidableEq κ]
theorem zT {kvs:List (κ × V)} {k:κ} {v:V} (h:bM kvs k=some v):k∈kvs.map (·.1):=by
 have q:(kvs.any fun kv=>decide (kv.1=k))=true:=by
  rw [jU,h]
  all_goals rfl
 obtain ⟨p,hp,e⟩:=List.any_eq_true.mp q
 exact GH.mpr ⟨p,hp,of_decide_eq_true e⟩
end
end L2
namespace L2
open PySem PySem.Spec PyProof.Rows
section
variable {X:Cx}
end
end L2
namespace Ck
open PySem L2
end Ck
namespace L2
open PySem PySem.Spec PyProof.Rows PyProof
end L2
namespace L2
open PySem PySem.Spec PyProof.Rows
section
variable {X:Cx} {f:Fe} {fd:Fh} {ps:List Str} {sp:Sp} {x:Str} {p pos:Pos} {a b e:Gv} {es:List Gv} {tc:TE} {t:TA} {j k:Nat}
end
end L2
namespace Dk
open PySem PyProof.Rows
section
variable {prog:FG} {w:FU} {K:Type} [DecidableEq K] {knd:KeyKind prog w K} {A:Gd} {E:AC->Do->Prop} {s:Do}
theorem wF {d:Fe} {kvs:List (K × AC)} {Q:Bool->Do->Prop} (hd:(d == sysModules)=false) (hm:s.heap.DictOf knd d kvs) (h:Q false s):wpAny (model prog w) A (Builtin.List.listLengthHint (.ref d)) Q E s:=by
 unfold Builtin.List.listLengthHint
 refine Da (JA hm.typeIs F.slot_dict_len.lookup ?_)
 generalize hid:("dict.__len__" : String)=id0
 wp_delta
 rw [show splitId id0=some ("dict","__len__") from by subst hid; decide +kernel]
 subst hid
 refine Da (wpAny_isInstance (T:="dict") (b:=true) hm.typeIs (by rw [isSubtype_type]; kernel_rfl) ?_)
 refine JC (fun hab=>absurd hab (by decide)) (fun _=>?_)
 refine JC (fun _=>?_) (fun hab=>absurd (by decide +kernel) hab)
 refine Da (wpAny_typeOf hm.typeIs (Ft ?_))
 exact h
theorem tX {R:Result->Do->Prop} {d:Fe} {kvs:List (K × AC)} (hh:A.handled=none) (hd:(d == sysModules)=false) (hm:s.heap.DictOf knd d kvs) (hlen:kvs.length<=2 ^ 24) (S:Fe) (res:AC) (c₀:Nat) (hS:s.heap.get? S=some { cls:=.type "list",data:=.seq #[] c₀ })
  (hR:∀ h' tk acc' c',(∀ b o,b≠S->s.heap.get? b=some o->h'.get? b=some o)->h'.get? S=some { cls:=.type "list",dict:=none,data:=.seq acc' c',slots:=#[] } ->
   ItemsOf (fun i v=>∃ k x,kvs[i]? = some (k,x)/\knd.is k v=true) acc' kvs.length->R (.ok (.ret res)) { s with heap:=h',toks:=tk }) :
  wpAny (model prog w) A.in1 (Builtin.List.listExtendWith (.ref S) (.ref d) res)
   (fun fin s'=>match fin with | .done f=>R (.ok f) s' | .again c'=>c'.quiet=true/\codeAny (model prog w) A c' R s') (fun e s'=>R (.error e) s') s:=by
 obtain ⟨ep,hat⟩:=hm.dictAt
 have hT:=hm.typeIs
 have hSd:S≠d:=fun e=>by
  obtain ⟨o,es,ho,hc,hdt,_⟩:=hat
  rw [<- e,hS] at ho
  cases ho
  cases hdt
 have hdlt:d < s.heap.objs.size:=hat.lt_size
 have hSlt:S < s.heap.objs.size:=Fi hS
 have hSI:S≠s.heap.objs.size:=FV hSlt
 have hdI:d≠s.heap.objs.size:=FV hdlt
 have hSf:S∉[s.heap.objs.size,d]:=fun hm=>by
  rcases FB.mp hm with h | h
  ·exact hSI h
  ·exact hSd (Gx.mp h)
 have W:=(Walks.dictKeys (knd:=knd) (prog:=prog) (w:=w) (A:=A.in1) hh s.heap.objs.size d hdI kvs ep).toS
 have key:∀ (h:GG) (c₁ tk:Nat),h.IsKeyIter s.heap.objs.size d 0 kvs.length ep->h.DictAt knd d kvs ep->(∀ b o,b≠S->s.heap.get? b=some o->h.get? b=some o) ->
   h.get? S=some { cls:=.type "list",data:=.seq #[] c₁ }->codeAny (model prog w) A (.builtin "list.extend.loop" ⟨[.ref S,.ref s.heap.objs.size,res],[]⟩) R { s with heap:=h,toks:=tk }:=by
  intro h c₁ tk hit hda hk hS₁
  refine codeAny_extend_loopS W (by rw [HK]; lia) S hSf res kvs.length 0 _ #[] c₁ rfl (Fy _) ⟨hit,hda⟩ hS₁ (ItemsOf.nil _) fun s' acc' c' hm hS' hacc=>?_
  rw [Moved.eq_with hm]
  refine hR s'.heap s'.toks acc' c' (fun b o hb e=>hm.heap b o (fun hmem=>?_) (hk b o hb e)) hS' hacc
  rcases FB.mp hmem with e' | hmem
  ·exact hb e'
  ·exact absurd (Fi e) (by rw [Gx.mp hmem]; exact Gb _)
 unfold Builtin.List.listExtendWith
 refine Da (wpAny_typeOf hT ?_)
 have h1:Builtin.List.listSameRef (.ref S) (.ref d)=false:=by simp [Builtin.List.listSameRef,hSd]
 have h2:(IA "dict" == IA "list")=false:=by decide
 have h3:(IA "dict" == IA "tuple")=false:=by decide
 simp only [h1,h2,h3,Bool.or_false,Gs,if_false]
 refine Da (wpAny_pyIter_dict hd hat ?_)
 have up:∀ b o,s.heap.get? b=some o->(s.heap.push { cls:=.type "dict_keyiterator",data:=.fields #[.ref d,.int 0 0,.int kvs.length 0,.int ep 0] }).get? b=some o:=fun b o e=>Fd _ e
 refine Da (Gf (wF (knd:=knd) (kvs:=kvs) hd (hat.keep up).dictOf ?_))
 have hit₁:(s.heap.push { cls:=.type "dict_keyiterator",data:=.fields #[.ref d,.int 0 0,.int kvs.length 0,.int ep 0] }).IsKeyIter s.heap.objs.size d 0 kvs.length ep:=⟨_,FH _ rfl,rfl,rfl⟩
 have hS₁:=up _ _ hS
 refine JC (fun _=>?_) (fun _=>Ft ⟨plainId_quiet F.plain_extend_loop _,key _ c₀ _ hit₁ (hat.keep up) (fun b o _ e=>up _ _ e) hS₁⟩)
 refine Da (wpAny_rule ?_)
 refine Da ?_
 show wpAny _ _ (updateSeq S (·.push .none) >>= fun _=>updateSeq S (·.pop)) _ _ _
 have hS₂:=F0 (Hy (·.push GE)) hS₁ rfl
 have hS₃:=F0 (Hy (·.pop)) hS₂ rfl
 refine Da (JD hS₁ rfl (JD hS₂ rfl (Ft ⟨plainId_quiet F.plain_extend_loop _,key _ _ _ ?_ ?_ (fun b o hb e=>?_) hS₃⟩) (by show 1<=sizeLine; rw [HK]; lia) (by show 0<=_; exact Fy _)) (Fy _) (by show 1<=_; rw [HK]; lia))
 ·exact hit₁.at fun o e=>(Fq _ _ hSI).trans ((Fq _ _ hSI).trans e)
 ·exact (hat.keep up).at' fun o e=>(Fq _ _ hSd).trans ((Fq _ _ hSd).trans e)
 ·exact (Fq _ _ (Gk hb)).trans ((Fq _ _ (Gk hb)).trans (up _ _ e))
theorem list_dict {Q:AC->Do->Prop} {d:Fe} {kvs:List (K × AC)} (hh:A.handled=none) (hd:(d == sysModules)=false) (hm:s.heap.DictOf knd d kvs) (hlen:kvs.length<=2 ^ 24)
  (q:∀ h' tk acc' c',(∀ b o,s.heap.get? b=some o->h'.get? b=some o)->h'.get? s.heap.objs.size=some { cls:=.type "list",dict:=none,data:=.seq acc' c',slots:=#[] } ->
   ItemsOf (fun i v=>∃ k x,kvs[i]? = some (k,x)/\knd.is k v=true) acc' kvs.length->Q (.ref s.heap.objs.size) { s with heap:=h',toks:=tk }) :
  wpAny (model prog w) A (call (.type "list") [.ref d]) Q E s:=by
 have far:∀ {c o},s.heap.get? c=some o->s.heap.objs.size≠c:=fun e=>Im (Fi e)
 refine callType_codes (Q₁:=fun T s1=>T = .ref s.heap.objs.size/\s1={ s with heap:=s.heap.push { cls:=.type "list",data:=.seq #[] } }) F.called_list (F.typeCall_list_1 _) F.entry_list_init (code_list_new _ ⟨rfl,rfl⟩) fun T s1 e1=>?_
 obtain ⟨rfl,rfl⟩:=e1
 have g0:(s.heap.push { cls:=.type "list",data:=.seq #[] }).get? s.heap.objs.size=some { cls:=.type "list",data:=.seq #[] }:=FH _ rfl
 have g1:=F0 (Hy (fun _=>(#[]:Array AC))) g0 rfl
 have oth:∀ b o,s.heap.get? b=some o->((s.heap.push { cls:=.type "list",data:=.seq #[] }).update s.heap.objs.size (Hy (fun _=>(#[]:Array AC)))).get? b=some o:=fun b o e=>(Fq _ _ (far e)).trans (Fd _ e)
 refine ⟨⟨_,g0,rfl⟩,F.args_list_init_2 _ _,?_⟩
 show wpAny _ _ (do let was <- Builtin.List.listItems (.ref s.heap.objs.size); Builtin.List.listUpdate (.ref s.heap.objs.size) (fun _=>#[]); letGo was.toList.reverse; Builtin.List.listExtendWith (.ref s.heap.objs.size) (.ref d) .none) _ _ _
 refine Da ?_
 unfold Builtin.List.listItems
 refine Da (wpAny_seqItems g0 rfl (Ft ?_))
 show wpAny _ _ (updateSeq s.heap.objs.size (fun _=>#[]) >>= fun _=>letGo (#[]:Array AC).toList.reverse >>= fun _=>Builtin.List.listExtendWith (.ref s.heap.objs.size) (.ref d) .none) _ _ _
 refine Da (JD g0 rfl (Da (wpAny_letGo ?_)) (Fy _) (Fy _))
 obtain ⟨ep,hat⟩:=hm.dictAt
 exact tX (s:={ s with heap:=(s.heap.push { cls:=.type "list",data:=.seq #[] }).update s.heap.objs.size (Hy (fun _=>(#[]:Array AC))) }) (A:=A.in1) hh hd (hat.keep oth).dictOf hlen _ _ _ g1
  fun h' tk acc' c' k e1 e2=>⟨rfl,q h' tk acc' c' (fun b o e=>k b o (Gk (far e)) (oth b o e)) e1 e2⟩
end
end Dk
namespace L2
open PySem PySem.Spec PyProof.Rows
theorem Dd {P:FG} {w:FU} {k:Key} {u:AC} (r:(aV P w).is k u=true):RelV (kV k) u:=by
 rcases bU r with ⟨i,t,rfl,rfl⟩ | ⟨x,t,rfl,rfl⟩
 ·exact ⟨t,rfl⟩
 ·exact ⟨t,rfl⟩
theorem qj {P:FG} {w:FU}:∀ {kvs:List (Key × V)} {vs:List (Key × AC)} {us:List AC},KV kvs vs->us.length=vs.length->(∀ (j:Nat) v,us[j]? = some v->∃ k x,vs[j]? = some (k,x)/\(aV P w).is k v=true)->Vals (kvs.map fun kv=>kV kv.1) us
 | [],_,us,.nil,hl,_=>by cases us with | nil=>exact .nil | cons _ _=>cases hl
 | p::kvs,q::vs,us,.cons h r,hl,hk=>by
  cases us with
  | nil=>cases hl
  | cons u us =>
   refine .cons ?_ (qj r (by simpa using hl) fun j v e=>hk (j+1) v (by simpa using e))
   obtain ⟨k,x,e1,e2⟩:=hk 0 u rfl
   have:q=(k,x):=by simpa using e1
   subst this
   show RelV (kV p.1) u
   rw [h.1]
   exact Dd e2
theorem vz {X:Cx} (hc:X.calm=true):ij X (.type "list") (fun xs H Q=>∃ a kvs,xs=[V.ref a]/\H a=some (.dK kvs)/\∀ l,H l=none->Q (.ref l) (upd H l (.lst (kvs.map fun kv=>kV kv.1)))):=by
 intro pins s σ H xs us Q I r h
 obtain ⟨a,kvs,rfl,e,q⟩:=h
 obtain ⟨u,rfl,rx⟩:=vals1 r
 cases rx
 obtain ⟨z,hd,vs,rel,dd⟩:=nW I.hok e
 refine Dk.list_dict (I.ok.hd hc) hd dd (by rw [<- rel.length]; rw [HK] at z; lia) fun h' tk acc' c' kp he hacc=>?_
 refine ⟨.ref s.heap.objs.size,_,I.laid (t':=tk) (o:=.lst (kvs.map fun kv=>kV kv.1)) kp (Fg _) ⟨?_,acc'.toList,c',qj (P:=X.prog) (w:=X.w) rel (by simpa using hacc.1) fun j v e=>hacc.2 j v (by simpa using e),he⟩,rfl,q _ (I.hok.fresh (Fg _))⟩
 rw [Ff]; exact z
end L2
namespace L2
open PySem PySem.Spec PyProof.Rows
end L2
namespace Ck
open PySem L2
theorem gj:∀ (more kvs:List (Key × V)),((kvs++more).map (·.1)).Nodup->dD kvs more=kvs++more
 | [],kvs,_=>by rw [FR]; rfl
 | p::more,kvs,h=>by
  have hn:bM kvs p.1=none:=by
   cases e:bM kvs p.1 with
   | none=>rfl
   | some v =>
    exfalso
    have hm:=zT e
    rw [Fx,FO] at h
    exact (GU.mp h).2.2 _ hm _ (Gq ..) rfl
  show dD (putK kvs p.1 p.2) more=_
  rw [yM _ hn,gj more _ (by rw [FF]; exact h),FF]
  rfl
noncomputable def dR (items:List (Str × Fe)):List (Key × V):=items.map fun it=>(.inr it.1,.ref it.2)
noncomputable def pZ (r:Str × List (Str × Fe)):TE × TE:=(tC (.str r.1),nI (r.2.map fun it=>(tC (.str it.1),tC (.ref it.2))))
theorem jM (σ:L2.St):∀ (items:List (Str × Fe)) (H:Hp) (Q:List (V × V)->Hp->Prop),Q ((dR items).map fun kv=>(kV kv.1,kv.2)) H->j8 (items.map fun it=>(tC (.str it.1),tC (.ref it.2))) σ H Q
 | [],_,_,h=>h
 | it::items,H,Q,h=>jM σ items H _ h
theorem kl (items:List (Str × Fe)):(dR items).map (·.1)=(items.map (·.1)).map Hw:=by
 rw [dR,GI,GI]; rfl
theorem nodup_inr {ys:List Str} (h:ys.Nodup):(ys.map (Hw:Str->Key)).Nodup:=by
 induction ys with
 | nil=>exact .nil
 | cons y ys ih =>
  rw [GY] at h
  rw [FO,GY]
  exact ⟨fun z=>by obtain ⟨a,b,c⟩:=GH.mp z; cases c; exact h.1 b,ih h.2⟩
def qL (p:Fe) (H:Hp) (r:Str × List (Str × Fe)) (kv:Key × V):Prop:=kv.1 = .inr r.1/\∃ d,d≠p/\kv.2 = .ref d/\H d=some (.dK (dR r.2))
theorem p7 (σ:L2.St) (p:Fe):∀ (rows:List (Str × List (Str × Fe))) (H:Hp) (Q:List (V × V)->Hp->Prop),(∀ r∈rows,(r.2.map (·.1)).Nodup/\r.2.length<=15)->H p=some (.dK []) ->
  (∀ (kvs:List (Key × V)) (H':Hp),af H H'->H' p=some (.dK [])->FQ (qL p H') rows kvs->Q (kvs.map fun kv=>(kV kv.1,kv.2)) H')->j8 (rows.map pZ) σ H Q
 | [],H,Q,_,hp,h=>h [] H (af.refl H) hp .nil
 | r::rows,H,Q,hk,hp,h=>by
  intro d hd
  obtain ⟨nd,l15⟩:=hk r (Gq ..)
  refine jM σ r.2 _ _ ⟨ae,dR r.2,rfl,by rw [dR,Ff]; exact l15,?_⟩
  rw [gj _ _ (by rw [GL,kl]; exact nodup_inr nd),GL,mC]
  have s1:=af.new (af.refl H) hd (.dK (dR r.2))
  refine p7 σ p rows _ _ (fun r hr=>hk r (FI _ hr)) (s1 _ _ hp) fun kvs H' s2 hp' pr=>?_
  exact h ((.inr r.1,.ref d)::kvs) H' (s1.trans s2) hp' (.cons ⟨rfl,d,(aO hp hd).symm,rfl,s2 _ _ ae⟩ pr)
def uS (H:Hp) (p:Fe) (rows:List (Str × List (Str × Fe))):Prop:=∃ kvs,H p=some (.dK kvs)/\FQ (qL p H) rows kvs
theorem B1 {H:Hp} {p:Fe} {rows:List (Str × List (Str × Fe))} {kvs:List (Key × V)} (h:FQ (qL p H) rows kvs) {w:Str} {items:List (Str × Fe)} (hf:rows.lookup w=some items):∃ d,bM kvs (.inr w)=some (.ref d)/\H d=some (.dK (dR items)):=by
 induction h with
 | nil=>cases hf
 | @cons r kv rows kvs h _ ih =>
  obtain ⟨h1,d,_,h2,h3⟩:=h
  obtain ⟨rw,ri⟩:=r
  by_cases e:w=rw
  ·subst e
   rw [Gh,beq_self_eq_true] at hf
   cases hf
   exact ⟨d,by rw [jT h1,h2],h3⟩
  ·rw [Gh,beq_eq_false_iff_ne.mpr e] at hf
   obtain ⟨d',e1,e2⟩:=ih hf
   exact ⟨d',by rw [jH (by rw [h1]; intro z; cases z; exact e rfl)]; exact e1,e2⟩
theorem wg (items:List (Str × Fe)):((dR items).map fun kv=>kV kv.1)=(items.map (·.1)).map V.str:=by
 rw [dR,GI,GI]; rfl
theorem wI {σ:L2.St} {H:Hp} {Q:VK} {rows:List (Str × List (Str × Fe))} (hk:∀ r∈rows,(r.2.map (·.1)).Nodup/\r.2.length<=15) (ho:(rows.map (·.1)).Nodup) (hl:rows.length<=15)
  (h:∀ p H',af H H'->H p=none->uS H' p rows->Q (.ref p) H'):nI (rows.map pZ) σ H Q:=by
 intro p hp
 refine p7 σ p rows _ _ hk ae fun kvs H' s1 hp' pr=>⟨hp',kvs,rfl,by rw [<- pr.length]; exact hl,?_⟩
 have ek:kvs.map (·.1)=(rows.map (·.1)).map Hw:=by
  clear hk ho hl h s1 hp' hp
  induction pr with
  | nil=>rfl
  | cons h _ ih=>rw [FO,FO,FO,h.1,ih]
 rw [gj _ _ (by rw [GL,ek]; exact nodup_inr ho),GL]
 have s0:af H H':=fun b o e=>s1 b o (by rw [aq (fun z=>by rw [z,hp] at e; cases e)]; exact e)
 refine h p _ (s0.upd hp _) hp ⟨kvs,ae,?_⟩
 have keep:∀ o:HO,FQ (qL p (upd H' p o)) rows kvs:=fun o=>by
  clear hk ho hl h s1 hp' hp ek s0
  induction pr with
  | nil=>exact .nil
  | cons h _ ih =>
   obtain ⟨h1,d,h2,h3,h4⟩:=h
   exact .cons ⟨h1,d,h2,h3,by rw [aq h2]; exact h4⟩ ih
 exact keep _
theorem uS.get {H:Hp} {p:Fe} {rows:List (Str × List (Str × Fe))} (h:uS H p rows) {w:Str} {items:List (Str × Fe)} (hf:rows.lookup w=some items):∃ d,gE H p (.str w) (some (.ref d))/\H d=some (.dK (dR items)):=by
 obtain ⟨kvs,hp,pr⟩:=h
 obtain ⟨d,e1,e2⟩:=B1 pr hf
 exact ⟨d,e1▸gE.k (k:=.inr w) hp,e2⟩
def bD (H:Hp) (x:V) (f:Str × Fe × Int):Prop:=∃ a dx fs,x = .ref a/\H a=some (.ins f.2.1 dx fs)/\gd fs f.1 f.2.2
theorem bD.same {H H':Hp} {x:V} {f:Str × Fe × Int} (h:bD H x f) (s:af H H'):bD H' x f:=by
 obtain ⟨a,dx,fs,h1,h2,h3⟩:=h
 exact ⟨a,dx,fs,h1,s _ _ h2,h3⟩
theorem bO {H H':Hp} {xs:List V} {fm:List (Str × Fe × Int)} (h:FQ (bD H) xs fm) (s:af H H'):FQ (bD H') xs fm:=by
 induction h with
 | nil=>exact .nil
 | cons h _ ih=>exact .cons (h.same s) ih
theorem e9 {H:Hp} {xs ys:List V} {fm gm:List (Str × Fe × Int)} (h:FQ (bD H) xs fm) (g:FQ (bD H) ys gm):FQ (bD H) (xs++ys) (fm++gm):=by
 induction h with
 | nil=>exact g
 | cons h _ ih=>exact .cons h ih
theorem jj {H:Hp} {xs:List V} {fm:List (Str × Fe × Int)} (h:FQ (bD H) xs fm) {i:Nat} {x:V} (hx:xs[i]? = some x):∃ f,fm[i]? = some f/\bD H x f:=by
 induction h generalizing i with
 | nil=>cases hx
 | @cons y f ys fs h _ ih =>
  cases i with
  | zero=>simp only [GS,HC] at hx; subst hx; exact ⟨f,rfl,h⟩
  | succ i=>rw [FZ] at hx; obtain ⟨g,g1,g2⟩:=ih hx; exact ⟨g,by rw [FZ]; exact g1,g2⟩
end Ck
namespace L2
open PySem PySem.Spec PyProof.Rows Ck
section
variable {X:Cx}
end
end L2
namespace Ck
open PySem L2
end Ck
namespace Ck
open PySem L2
end Ck
namespace L2
open PySem PySem.Spec PyProof.Rows Ck
noncomputable def keyOf:Option Gv->Option Str
 | some (.Constant (.str x) _ _)=>some x
 | _=>none
noncomputable def nameOf:Gv->Option Str
 | .Name x _=>some x
 | _=>none
noncomputable def g6:Gv->Option (List (Option Gv) × List Gv)
 | .Dict ks vs _=>some (ks,vs)
 | _=>none
theorem hZ {k:Option Gv} {x:Str} (h:keyOf k=some x):∃ j p,k=some (.Constant (.str x) j p):=by
 unfold keyOf at h
 split at h
 ·cases h; exact ⟨_,_,rfl⟩
 ·cases h
theorem mK {e:Gv} {x:Str} (h:nameOf e=some x):∃ p,e = .Name x p:=by
 unfold nameOf at h
 split at h
 ·cases h; exact ⟨_,rfl⟩
 ·cases h
theorem i3 {e:Gv} {d:List (Option Gv) × List Gv} (h:g6 e=some d):∃ p,e = .Dict d.1 d.2 p:=by
 unfold g6 at h
 split at h
 ·cases h; exact ⟨_,rfl⟩
 ·cases h
noncomputable def gC:List (Option Gv)->List Gv->List (Str × Str)->Bool
 | [],[],[]=>true
 | k::ks,v::vs,n::ns=>decide (keyOf k=some n.1)&&decide (nameOf v=some n.2)&&!(n.2 == ("__debug__" : Str))&&gC ks vs ns
 | _,_,_=>false
noncomputable def kJ:List (Option Gv)->List Gv->List (Str × List (Str × Str))->Bool
 | [],[],[]=>true
 | k::ks,v::vs,n::ns=>decide (keyOf k=some n.1)&&(match g6 v with | some d=>gC d.1 d.2 n.2&&decide (n.2≠[])&&decide (n.2.length<=15) | none=>false)&&kJ ks vs ns
 | _,_,_=>false
def jq (X:Cx) (n:Str × Str) (it:Str × Fe):Prop:=n.1=it.1/\Gl X n.2/\X.mg n.2=some (.ref it.2)
theorem iS:∀ {ks:List (Option Gv)} {vs:List Gv} {ns:List (Str × Str)},gC ks vs ns=true->ks.all (·.isSome)=true/\ks.length=vs.length/\ks.length=ns.length
 | [],[],[],_=>⟨rfl,rfl,rfl⟩
 | k::ks,v::vs,n::ns,h=>by
  unfold gC at h
  simp only [FY,decide_eq_true_iff] at h
  obtain ⟨⟨⟨h1,_⟩,_⟩,h4⟩:=h
  obtain ⟨j,p,rfl⟩:=hZ h1
  obtain ⟨a,b,c⟩:=iS h4
  exact ⟨by rw [Hz,a]; rfl,by simp [b],by simp [c]⟩
 | [],_::_,_,h=>by cases h
 | _::_,[],_,h=>by cases h
 | [],[],_::_,h=>by cases h
 | _::_,_::_,[],h=>by cases h
theorem pF {X:Cx} {pos:Pos}:∀ {ks:List (Option Gv)} {vs:List Gv} {ns:List (Str × Str)} {items:List (Str × Fe)},gC ks vs ns=true->FQ (jq X) ns items->um X pos ks vs (items.map fun it=>(tC (.str it.1),tC (.ref it.2)))
 | [],[],[],_,_,.nil=>uu
 | k::ks,v::vs,n::ns,_,h,.cons (b:=it) hn hr=>by
  unfold gC at h
  simp only [FY,decide_eq_true_iff,Ij] at h
  obtain ⟨⟨⟨h1,h2⟩,h3⟩,h4⟩:=h
  obtain ⟨j,p,rfl⟩:=hZ h1
  obtain ⟨p',rfl⟩:=mK h2
  obtain ⟨e,g,m⟩:=hn
  rw [FO,<- e]
  exact rZ ai (gL g m rfl h3) (pF h4 hr)
 | [],_::_,_,_,h,_=>by cases h
 | _::_,[],_,_,h,_=>by cases h
 | [],[],_::_,_,h,_=>by cases h
 | _::_,_::_,[],_,h,_=>by cases h
def mS (X:Cx) (n:Str × List (Str × Str)) (r:Str × List (Str × Fe)):Prop:=n.1=r.1/\FQ (jq X) n.2 r.2
theorem sN {X:Cx} {pos:Pos}:∀ {ks:List (Option Gv)} {vs:List Gv} {ns:List (Str × List (Str × Str))} {rows:List (Str × List (Str × Fe))},kJ ks vs ns=true->FQ (mS X) ns rows ->
  um X pos ks vs (rows.map pZ)/\ks.all (·.isSome)=true/\ks.length=vs.length/\ks.length=ns.length
 | [],[],[],_,_,.nil=>⟨uu,rfl,rfl,rfl⟩
 | k::ks,v::vs,n::ns,_,h,.cons (b:=r) hn hr=>by
  unfold kJ at h
  simp only [FY,decide_eq_true_iff] at h
  obtain ⟨⟨h1,h2⟩,h4⟩:=h
  obtain ⟨j,p,rfl⟩:=hZ h1
  cases hd:g6 v with
  | none=>rw [hd] at h2; cases h2
  | some d =>
   rw [hd] at h2
   simp only [FY,decide_eq_true_iff] at h2
   obtain ⟨⟨k1,k2⟩,k3⟩:=h2
   obtain ⟨p',rfl⟩:=i3 hd
   obtain ⟨e,pn⟩:=hn
   obtain ⟨a1,a2,a3⟩:=iS k1
   obtain ⟨b1,b2,b3,b4⟩:=sN (pos:=pos) h4 hr
   refine ⟨?_,by rw [Hz,b2]; rfl,by simp [b3],by simp [b4]⟩
   rw [FO]
   unfold pZ
   rw [<- e]
   exact rZ ai (pK (pF k1 pn) a1 a2 (fun z=>k2 (Gz (by rw [<- a3,z]; rfl))) (by lia)) b1
 | [],_::_,_,_,h,_=>by cases h
 | _::_,[],_,_,h,_=>by cases h
 | [],[],_::_,_,h,_=>by cases h
 | _::_,_::_,[],_,h,_=>by cases h
theorem zW {X:Cx} {ks:List (Option Gv)} {vs:List Gv} {pos:Pos} (ns:List (Str × List (Str × Str))) (rows:List (Str × List (Str × Fe))) (h:kJ ks vs ns=true) (h0:ns≠[]) (h15:ns.length<=15) (pr:FQ (mS X) ns rows) :
  PE X (.Dict ks vs pos) (nI (rows.map pZ)):=by
 obtain ⟨b1,b2,b3,b4⟩:=sN (pos:=pos) h pr
 exact pK b1 b2 b3 (fun z=>h0 (Gz (by rw [<- b4,z]; rfl))) (by lia)
end L2
namespace L2
open PySem PySem.Spec PyProof.Rows Ck
noncomputable def lK:List Hc->Option Gv
 | [.Return (some e) _]=>some e
 | _=>none
theorem nr {b:List Hc} {e:Gv} (h:lK b=some e):∃ p,b=[.Return (some e) p]:=by
 unfold lK at h
 split at h
 ·cases h; exact ⟨_,rfl⟩
 ·cases h
noncomputable def sx (b:List Hc) (ns:List (Str × List (Str × Str))):Bool:=match lK b with
 | some e=>(match g6 e with | some d=>kJ d.1 d.2 ns | none=>false)
 | none=>false
theorem xa {X:Cx} {b:List Hc} {ns:List (Str × List (Str × Str))} {rows:List (Str × List (Str × Fe))} (h:sx b ns=true) (h0:ns≠[]) (h15:ns.length<=15) (pr:FQ (mS X) ns rows):fz X b (rM (nI (rows.map pZ))):=by
 unfold sx at h
 cases hr:lK b with
 | none=>rw [hr] at h; cases h
 | some e =>
  rw [hr] at h
  obtain ⟨p,rfl⟩:=nr hr
  cases hd:g6 e with
  | none=>simp only [hd] at h; cases h
  | some d =>
   simp only [hd] at h
   obtain ⟨p',rfl⟩:=i3 hd
   exact ar (aA (zW ns rows h h0 h15 pr))
end L2
namespace Ck
open PySem L2
inductive St:List Int->Int->Prop
 | nil:St [] 0
 | snoc {rs:List Int} {a n:Int}:St rs a->a<=n->n<=(rs.length:Int)->St (rs++[n]) n
end Ck
namespace Ck
open PySem L2
end Ck
namespace Ck
open PySem L2
end Ck
namespace Ck
open PySem L2
inductive Bt where
 | leaf
 | node (l r:Bt)
noncomputable def Bt.size:Bt->Nat
 | .leaf=>0
 | .node l r=>l.size+r.size+1
noncomputable def brk:Bt->List Nat
 | .leaf=>[]
 | .node l r=>40::(brk l++41::brk r)
noncomputable def pre (n j:Nat):Int:=((Gp j).map fun i=>sh i*sh (n - 1 - i)).sum
end Ck
namespace L2
open PySem PySem.Spec PyProof.Rows
section
variable {X:Cx}
variable {X:Cx} {o e:Gv} {es:List Gv} {to:TE} {t:TA} {name:Str} {apos cpos:Pos} {T id:String} {r:V->List V->Hp->VK->Prop}
end
section
variable {X:Cx}
end
end L2
namespace Ck
open PySem L2
theorem Ez {b:Bool} {A B:Prop} (h:b=false) (x:A):if (if true=true then !b else b)=true then A else B:=by subst h; exact x
theorem EE {b:Bool} {A B:Prop} (h:b=true) (x:B):if (if true=true then !b else b)=true then A else B:=by subst h; exact x
theorem eqT {b:Bool} {A B:Prop} (h:b=true) (x:A):if (if false=true then !b else b)=true then A else B:=by subst h; exact x
theorem kP {b:Bool} {A B:Prop} (h:b=false) (x:B):if (if false=true then !b else b)=true then A else B:=by subst h; exact x
theorem eV.void {K:FD} {H:Hp} {n:Nat} {a b:Fe} {xs:List V} (ne:a≠b) (ha:av K H a xs) (hb:av K H b []):eV K H (n+1) (.ref a) (.ref b) (decide (xs=[])):=by
 cases xs with
 | nil=>exact eV.lstT ne ha hb rfl (fun j x y hx _=>by cases hx)
 | cons x xs=>exact eV.lstN ne ha hb (by simp)
noncomputable def Fb (ts:List Bt):Nat:=(ts.map Bt.size).sum
end Ck
namespace L2
open PySem PySem.Spec PyProof.Rows
noncomputable def eY (P:Fe) (ps:Array AC):HO:=.ext fun h=>∃ more:Array AC,h.get? P=some (W.tabObj (ps++more))/\HY (ps++more).toList
theorem nP {pr:FG} {w:FU} {H:Hp} {h:GG} {P:Fe} {ps:Array AC} (more:Array AC) (hP:h.get? P=some (W.tabObj (ps++more))) (ht:HY (ps++more).toList):aJ pr w H h P (eY P ps) :=
 ⟨⟨more,hP,ht⟩,⟨_,hP⟩,fun _ _ ⟨m,e,t⟩ k=>⟨m,k _ e,t⟩⟩
theorem kn (a b:Int) (t u:Tok) (x:AC):∀ {l:List AC},HY l->HY (l++[.int a t,.int b u,x])
 | [],_=>trivial
 | .int _ _::.int _ _::_::rest,h=>kn a b t u x (l:=rest) h
theorem xh {H:Hp} {a:Fe} {o:HO} (h:H a=some o):upd H a o=H:=by
 funext b
 unfold upd
 split
 ·next e=>rw [e,h]
 ·rfl
def BM (mg:Str->Option AC) (h:GG):Prop:=∃ bm o,mg "__builtins__" = some (.ref bm)/\bm≠builtinsNs/\h.get? bm=some o/\o.cls = .type "module"/\o.dict=some builtinsNs/\o.data = .plain
theorem wL {X:Cx} {args:Arguments} {body:Gv} {scope:Ib} {pos:Pos} {c P:Fe} (hcode:X.env.code = .ref c) (hC:∀ h,X.K.In h->W.CodeHd h c P) (hdef:defaultsOf args X.env=([],[]))
  (hcl:∃ cl,closureFor scope X.env=pure cl) (hB:BM X.mg X.base):PE X (.Lambda args body scope pos) (fun _ H Q=>∃ ps,H P=some (eY P ps)/\∀ f,Q (.ref f) H):=by
 rintro pins s σ H Q I ⟨ps,hP,q⟩
 obtain ⟨⟨more,eP,tP⟩,_,_⟩:=I.hok P _ hP
 obtain ⟨cl,hcl⟩:=hcl
 have hg:s.heap.Ns mainGlobals X.mg:=I.mod.glob.keeps I.bk
 obtain ⟨bm,o,b1,b2,b3,b4,b5,b6⟩:=hB
 have b3':=I.bs _ _ b3
 have hbG:bm≠mainGlobals:=fun z=>by
  obtain ⟨o',es,ep,e,hd,_⟩:=hg
  rw [z,e] at b3'
  have:=Fw b3'.1
  rw [<- this,hd] at b6
  cases b6
 have hbP:bm≠P:=fun z=>by
  have:=b3'.2
  rw [z,hP] at this
  cases this
 have hgP:mainGlobals≠P:=fun z=>by
  obtain ⟨o',es,ep,e,hd,_⟩:=hg
  rw [z,eP] at e
  cases e
  cases hd
 have hb:s.heap.BuiltinsAt X.mg P:=⟨bm,o,b1,b2,hbG,hbP,b3'.1,b4,b5,b6⟩
 refine W.kla_eval hdef ?_
 cases e:codeAmong pos (ps++more).toList with
 | some cv=>exact W.kla_makeFunctionHit hcl I.ok.glob hg hcode (hC _ I.kIn) eP tP e hb fun ctv h' tk hk _=>⟨.ref h'.objs.size,H,I.kept (t':=tk) fun b u z=>Fd _ (hk b u z),rfl,q _⟩
 | none =>
  refine W.kla_makeFunction hcl I.ok.glob hg hcode (hC _ I.kIn) eP tP e hgP hb fun c' ctv h' tk hx _ _ _ htb=>⟨.ref h'.objs.size,H,?_,rfl,q _⟩
  have ht:HY (ps++(more++#[rawInt pos.line,rawInt pos.col,.ref c'])).toList:=by
   rw [<- IP,Array.toList_append]
   exact kn _ _ _ _ _ tP
  have hp:(h'.push (W.kla_obj "<lambda>" (X.env.qual++"<lambda>") args body scope cl ((X.mg "__name__").getD .none) c' ctv)).get? P=some (W.tabObj (ps++(more++#[rawInt pos.line,rawInt pos.col,.ref c']))):=by
   rw [<- IP]
   exact Fd _ htb
  have J:=I.write (x:=P) (e:=P) (o:=eY P ps) (t':=tk) (by rw [hP]; exact trivial) (.inl rfl) (fun b u n z=>Fd _ (hx b u n z)) ⟨_,hp⟩ (nP _ hp ht)
  rw [xh hP] at J
  exact J
theorem bg.okC {P:FG} {w:FU} {K:FD} {mg:Str->Option AC} {base:GG} {x qual:Str} {st:Hc} {f c:Fe} {fd:Fh} {N ps:List Str} {k:Nat} {sp:Sp} (F:bg K x qual st f fd) (S:ay N ps (ag st)) (hc:fd.code = .ref c) (len:∀ vs H Q E,sp vs H Q E->vs.length=ps.length)
  (body:∀ (A:Gd) (outer:List Env) (s:Do) (H:Hp) (vs:List V) (Q:VK) (E:XK),bh k (A.deeper (envOfC qual (ag st) s.heap.objs.size f (.ref c)))->sp vs H Q E ->
   ∃ t,fz (gz bC P w K mg base N qual (ag st) f (.ref c) A outer s H E).nox (au st) t/\t { nx:=fun _ H'=>Q .non H',rt:=Q } (start N vs) H):aF P w K mg base bC (k+1) f fd ps sp:=by
 obtain ⟨oc,od,kV,doc,pm,an,cdv,ct,osl,rfl,lk,hcd⟩:=F.ex
 obtain rfl:cdv = .ref c:=hc
 refine qP lk hcd S len fun A outer s H vs Q E hr hsp=>?_
 obtain ⟨t,h,q⟩:=body A outer s H vs Q E hr hsp
 exact ⟨t,h.nox,q⟩
structure DX (T D:Fe) (ps:Array AC) (oD:Obj) (kD:List (Key × V)) (H:Hp):Prop where
 tab:H T=some (eY T ps)
 dic:H D=some (.frz oD (.dK kD))
theorem DJ {P:FG} {w:FU} {K:FD} {mg mb:Str->Option AC} {CX:g8} {k:Nat} {fa a c T D:Fe} {fd:Fh} {x:Str} {sp:Sp} {s₁:Do} {vs:List AC} {ns:List Int} {ps:Array AC} {oD:Obj} {kD:List (Key × V)}
  (KX:K.In s₁.heap) (hns:s₁.heap.Ns mainGlobals mg) (hb:s₁.heap.Ns builtinsNs mb) (hbb:∀ x:Str,x≠"__name__"->mb x=bootBuiltins x) (hlim:s₁.heap.NoLimit) (hg:s₁.gens = #[])
  (ha:s₁.heap.get? a=some { cls:=.type "list",data:=.seq vs.toArray }) (hi:J4 vs ns) (hl:ns.length<=sizeLine) (hr:bh k callerA)
  (hT:s₁.heap.TableAt c T ps) (hTK:K.lookup T=none) (hTr:HY ps.toList)
  (hD:s₁.heap.get? D=some oD) (hDK:K.lookup D=none) (okD:∀ H:Hp,aJ P w H s₁.heap D (.dK kD)) (D1:D≠mainGlobals) (D2:D≠builtinsNs) (D3:D≠cStatics)
  (F:∀ base:GG,K.In base->base.Ns mainGlobals mg->aF P w K mg base CX k fa fd [x] sp) (hbind:∀ (s:Do) (u:AC),Jv s fd ⟨[u],[]⟩ [(x,u)])
  (hsp:∀ H:Hp,av K H a (ns.map V.int)->DX T D ps oD kD H->sp [.ref a] H (fun v H'=>v = .bl true/\H' T=some (eY T ps)) fun _ _ _=>False)
  (hCX:∀ H e s',CX [] H s₁ (fun _ _ _=>False) e s'->False) :
  codeAny (model P w) callerA (.call (.ref fa) ⟨[.ref a],[]⟩) (fun r s'=>r = .ok (.ret (.bool true))/\OldK s₁.heap s'.heap/\s'.os=s₁.os/\IC s'.gens) s₁:=by
 have rv:=iR hi
 have lenV:=hi.length
 have dataD:∃ es ep,oD.data = .dict es ep:=by
  obtain ⟨_,_,vs',_,o',es,ep,e,_,d,_⟩:=okD fun _=>none
  rw [hD] at e
  cases e
  exact ⟨es,ep,d⟩
 obtain ⟨esD,epD,dataD⟩:=dataD
 have aT:a≠T:=fun z=>by
  have e:=hT.2
  rw [<- z,ha] at e
  cases e
 have DT:D≠T:=fun z=>by
  have e:=hT.2
  rw [<- z,hD] at e
  cases e
  cases dataD
 have aD:a≠D:=fun z=>by
  rw [z,hD] at ha
  cases ha
  cases dataD
 -- what is tracked: the table,the dict,and the script if it is none of the module's own
 obtain ⟨H,hGr,hHS,hH0,hok⟩:∃ H:Hp,DX T D ps oD kD H/\av K H a (ns.map V.int)/\(∀ b,b≠T->H b=none\/(b=a/\K.lookup a=none\/b=D)/\∃ o u,H b=some (.frz o u))/\bS P w H s₁.heap:=by
  have t0:∀ H:Hp,aJ P w H s₁.heap T (eY T ps):=fun H=>nP #[] (by rw [Hf]; exact hT.2) (by rw [Hf]; exact hTr)
  have d0:∀ H:Hp,aJ P w H s₁.heap D (.frz oD (.dK kD)):=fun H=>⟨hD,okD H⟩
  have put:∀ H:Hp,(∀ b u,b≠T->b≠D->H b=some u->aJ P w (upd (upd H D (.frz oD (.dK kD))) T (eY T ps)) s₁.heap b u)->bS P w (upd (upd H D (.frz oD (.dK kD))) T (eY T ps)) s₁.heap:=fun H f b u z=>by
   by_cases e:b=T
   ·subst e
    rw [ae] at z
    cases z
    exact t0 _
   ·rw [aq e] at z
    by_cases e2:b=D
    ·subst e2
     rw [ae] at z
     cases z
     exact d0 _
    ·rw [aq e2] at z
     exact f b u e e2 z
  cases hk:K.lookup a with
  | some o =>
   have e:=KX a o hk
   rw [ha] at e
   cases e
   refine ⟨upd (upd (fun _=>none) D (.frz oD (.dK kD))) T (eY T ps),⟨ae,(aq DT).trans ae⟩,.inr ⟨_,vs.toArray,_,hk,rfl,rfl,rfl,by rw [Fz,lenV]; exact hl,by simpa using rv⟩,fun b n=>?_,put _ fun b u _ _ z=>by cases z⟩
   by_cases e:b=D
   ·subst e
    exact .inr ⟨.inr rfl,_,_,(aq n).trans ae⟩
   ·exact .inl ((aq n).trans (aq e))
  | none =>
   refine ⟨upd (upd (upd (fun _=>none) a (.frz { cls:=.type "list",data:=.seq vs.toArray } (.lst (ns.map V.int)))) D (.frz oD (.dK kD))) T (eY T ps),⟨ae,(aq DT).trans ae⟩,.inl (.inr ⟨{ cls:=.type "list",data:=.seq vs.toArray },(aq aT).trans ((aq aD).trans ae)⟩),fun b n=>?_,put _ fun b u _ _ z=>?_⟩
   ·by_cases e:b=D
    ·subst e
     exact .inr ⟨.inr rfl,_,_,(aq n).trans ae⟩
    ·by_cases e2:b=a
     ·subst e2
      exact .inr ⟨.inl ⟨rfl,rfl⟩,_,_,(aq n).trans ((aq e).trans ae)⟩
     ·exact .inl ((aq n).trans ((aq e).trans (aq e2)))
   ·by_cases e2:b=a
    ·subst e2
     rw [ae] at z
     cases z
     exact ⟨ha,by rw [Ff]; exact hl,vs,_,rv,ha⟩
    ·rw [aq e2] at z
     cases z
 have no:∀ {b:Fe},b≠T->(b=a->K.lookup a=none->False)->b≠D->H b=none:=fun {b} n f g=>by
  rcases hH0 b n with z | ⟨⟨z,z2⟩ | z,_⟩
  ·exact z
  ·exact (f z z2).elim
  ·exact (g z).elim
 have nsK:∀ {b:Fe} {m:Str->Option AC},b≠D->s₁.heap.Ns b m->(fV s₁.heap H).Ns b m:=fun {b m} nD ⟨o,es,ep,e,d,r⟩=>by
  refine ⟨o,es,ep,iK e (no (fun z=>?_) (fun z _=>?_) nD),d,r⟩
  ·have:=hT.2
   rw [<- z,e] at this
   cases this
   cases d
  ·rw [z,ha] at e
   cases e
   cases d
 have hKb:K.In (fV s₁.heap H):=fun b o e=>iK (KX b o e) (no (fun z=>by rw [z,hTK] at e; cases e) (fun z z2=>by rw [z,z2] at e; cases e) fun z=>by rw [z,hDK] at e; cases e)
 have hM:Mod K mg (fV s₁.heap H):=⟨hKb,nsK (Gk D1) hns,⟨mb,nsK (Gk D2) hb,hbb⟩,let ⟨mc,h1,h2⟩:=hlim; ⟨mc,nsK (Gk D3) h1,h2⟩⟩
 have e0:jv P w K mg (fV s₁.heap H) callerA [] s₁ H:=⟨rfl,hM,fun _ _ e=>oS e,Ju (ka _ _),trivial,fun b hb=>absurd (show b∈([]:List Fe) from hb) (by simp),hok,.of_eq hg⟩
 refine Hn ((F _ hKb (nsK (Gk D1) hns)).run callerA [] s₁ H ⟨[.ref a],[]⟩ [.ref a] [.ref a] _ _ hr e0 (hbind s₁ (.ref a)) (.cons rfl .nil) (hsp H hHS hGr)) fun r s' h=>?_
 match r,h with
 | .error e,h=>exact (hCX H e s' h).elim
 | .ok .next,h=>exact Gi h
 | .ok .brk,h=>exact Gi h
 | .ok .cont,h=>exact Gi h
 | .ok (.ret u),h =>
  obtain ⟨v,H',os,bare,un,hok',r',q,qT⟩:=h
  subst q
  obtain rfl:u=Ig true:=r'
  obtain ⟨⟨more,eT,_⟩,_,_⟩:=hok' T _ qT
  have kept:∀ b o,s₁.heap.get? b=some o->b≠T->s'.heap.get? b=some o:=fun b o e n=>by
   rcases hH0 b n with z | ⟨_,ob,ub,z⟩
   ·exact un.keep b o e z (by intro y; exact absurd (show b∈([]:List Fe) from y) (by simp)) (by simp)
   ·have z2:=un.frzs b _ _ z
    obtain ⟨e1,_⟩:=hok b _ z
    obtain ⟨e2,_⟩:=hok' b _ z2
    rw [e] at e1
    cases e1
    exact e2
  refine ⟨rfl,⟨fun b o e=>?_,fun b o e=>?_⟩,os,bare⟩
  ·by_cases z:b=T
   ·subst z
    have:=hT.2
    rw [e] at this
    cases this
    exact .inr (.inl ⟨hT.isCodeTable,rfl,ps,more,rfl,eT⟩)
   ·exact .inl (kept b o e z)
  ·by_cases z:b=T
   ·exact ⟨_,by rw [z]; exact eT⟩
   ·exact ⟨o,kept b o e z⟩
end L2
namespace L2
open PySem PySem.Spec PyProof.Rows PySem.Builtin PySem.Builtin.Str
noncomputable def AA:V->List V->Hp->VK->Prop:=fun x vs H Q=>∃ z y,x = .str z/\vs=[.str y]/\(y.length == 0)=false/\z.length<=sizeLine/\∀ p,H p=none->Q (.ref p) (upd H p (.tup [.str (GC z y).1,.str (GC z y).2.1,.str (GC z y).2.2]))
theorem sj {X:Cx}:ux X "str.partition" AA:=by
 intro pins s σ H x xs v us Q I rx rs h
 obtain ⟨z,y,rfl,rfl,hy,hz,q⟩:=h
 obtain ⟨t,rfl⟩:=rx
 obtain ⟨u,rfl,t',rfl⟩:=vals1 rs
 refine call_meets F.slot_str_partition (typeIs_str _ _ _) F.entry_str_partition (F.args_str_partition_2 _ _) (meets_str_partition z y t t' hy hz) ?_
 have q':=q s.heap.objs.size (I.hok.fresh (Fg _))
 have put:∀ (a b c:Str) (ta tb tc:Tok) (k:Nat),Q (.ref s.heap.objs.size) (upd H s.heap.objs.size (.tup [.str a,.str b,.str c]))->EP X pins σ Q (.ref s.heap.objs.size) { s with toks:=k,heap:=s.heap.push { cls:=.type "tuple",data:=.seq [.str a ta,.str b tb,.str c tc].toArray } }:=fun a b c ta tb tc k hq =>
  ⟨.ref s.heap.objs.size,_,I.laid (t':=k) (o:=.tup [.str a,.str b,.str c]) (fun b u e=>Fd _ e) (Fg _) ⟨by show 3<=sizeLine; decide,[.str a ta,.str b tb,.str c tc],.cons ⟨_,rfl⟩ (.cons ⟨_,rfl⟩ (.cons ⟨_,rfl⟩ .nil)),⟨_,FH _ rfl,rfl,_,rfl⟩⟩,rfl,hq⟩
 unfold GC at q'
 revert q'
 cases occurrences z y 0 z.length 1 with
 | nil=>intro q'; exact put _ _ _ _ _ _ _ q'
 | cons i r=>intro q'; exact put _ _ _ _ _ _ _ q'
theorem qm:∀ (l:List Str) (k:Tok),Vals (l.map V.str) (strsFrom k l)
 | [],_=>.nil
 | p::l,k=>.cons ⟨k,rfl⟩ (qm l (k+1))
noncomputable def AQ:V->List V->Hp->VK->Prop:=fun x vs H Q=>∃ z y,x = .str z/\vs=[.str y]/\(y.length == 0)=false/\(decide (z.length < y.length) || decide (strKind z < strKind y))=false/\(occurrences z y 0 z.length (z.length+1)).isEmpty=false/\z.length<=sizeLine /\
 (partsBetween z (occurrences z y 0 z.length (z.length+1)) y.length).length<=sizeLine/\∀ p,H p=none->Q (.ref p) (upd H p (.lst ((partsBetween z (occurrences z y 0 z.length (z.length+1)) y.length).map V.str)))
theorem yF {X:Cx}:ux X "str.split" AQ:=by
 intro pins s σ H x xs v us Q I rx rs h
 obtain ⟨z,y,rfl,rfl,hy,h1,hf,hz,hp,q⟩:=h
 obtain ⟨t,rfl⟩:=rx
 obtain ⟨u,rfl,t',rfl⟩:=vals1 rs
 refine call_meets F.slot_str_split (typeIs_str _ _ _) F.entry_str_split (F.args_str_split_2 _ _) (meets_str_split_sep z y t t' h1 hy hf hz hp) ?_
 exact ⟨.ref s.heap.objs.size,_,I.laid (o:=.lst ((partsBetween z (occurrences z y 0 z.length (z.length+1)) y.length).map V.str)) (fun b u e=>Fd _ e) (Fg _) ⟨by rw [Ff]; exact hp,_,0,qm _ _,FH _ rfl⟩,rfl,q _ (I.hok.fresh (Fg _))⟩
noncomputable def Dg:V->List V->Hp->VK->Prop:=fun x vs H Q=>∃ z y,x = .str z/\vs=[.str y]/\Q (.bl (HM z y)) H
theorem uz {X:Cx}:ux X "str.endswith" Dg:=by
 intro pins s σ H x xs v us Q I rx rs h
 obtain ⟨z,y,rfl,rfl,q⟩:=h
 obtain ⟨t,rfl⟩:=rx
 obtain ⟨u,rfl,t',rfl⟩:=vals1 rs
 exact SC.endswith ⟨.bl (HM z y),H,I,rfl,q⟩
noncomputable def DY (t:TE):TE:=fun σ H Q=>t σ H fun u H'=>∃ y,u = .str y/\y.length<=sizeLine/\Q (.str y) H'
theorem iB {X:Cx} {e:Gv} {t:TE} {pos:Pos} (h:PE X e t):PE X (.FormattedValue e (-1) none pos) (DY t):=by
 intro pins s σ H Q I hq
 refine IK (aB (h pins s σ H _ I hq) fun v s1 ⟨x,H1,I1,r,y,e,hy,q⟩=>?_)
 subst e
 obtain ⟨t,rfl⟩:=r
 exact wpAny_formatField_str ⟨.str y,H1,I1,⟨_,rfl⟩,q⟩ ⟨.str y,H1,I1.tok _,⟨_,rfl⟩,q⟩ hy
noncomputable def vH:List TE->Str->TE
 | [],out=>fun _ H Q=>Q (.str out) H
 | t::ts,out=>fun σ H Q=>t σ H fun u H'=>∃ y,u = .str y/\(out++y).length<=sizeLine/\vH ts (out++y) σ H' Q
theorem sQ {X:Cx} {pins:List (Fe × Obj)} {σ:St} {Q:VK}:∀ {es:List Gv} {ts:List TE},FQ (PE X) es ts->∀ {out:Str} {s:Do} {H:Hp},Inv X pins σ H s->out.length<=sizeLine->vH ts out σ H Q->wpAny (model X.prog X.w) X.A (joinParts out (evalEach es X.env)) (EP X pins σ Q) X.xe s
 | _,_,.nil,out,s,H,I,ho,hq=>joinParts_nil ⟨.str out,H,I.tok _,⟨_,rfl⟩,hq⟩ ho
 | _,_,.cons h hs,out,s,H,I,ho,hq=>by
  refine joinParts_cons (aB (h pins s σ H _ I hq) fun v s1 ⟨x,H1,I1,r,y,e,hy,q⟩=>?_)
  subst e
  obtain ⟨t,rfl⟩:=r
  exact ⟨hy,sQ hs I1 hy q⟩
theorem lL {X:Cx} {e1 e2:Gv} {es:List Gv} {t1 t2:TE} {ts:List TE} {pos:Pos} (h1:PE X e1 t1) (h2:PE X e2 t2) (hs:FQ (PE X) es ts):PE X (.JoinedStr (e1::e2::es) pos) (vH (t1::t2::ts) GQ):=by
 intro pins s σ H Q I hq
 exact JoinedStr_many (sQ (.cons h1 (.cons h2 hs)) I (by decide) hq)
end L2
namespace Dk
open PySem PyProof.Rows
section
variable {prog:FG} {w:FU} {K:Type} [DecidableEq K] {knd:KeyKind prog w K} {A:Gd} {E:AC->Do->Prop} {s:Do}
theorem zr {d:Fe} {kvs:List (K × AC)} {k:K} {key v:AC} {Q:Unit->Do->Prop} (ik:knd.is k key=true) (dd:s.heap.DictOf knd d kvs) (nk:k∉kvs.map (·.1)) (lz:kvs.length<=sizeLine)
  (q:∀ h',h'.DictOf knd d (kvs++[(k,v)])->Hb d s.heap h'->Q () { s with heap:=h' }):wpAny (model prog w) A (dictPut d (knd.hash k) key v) Q E s:=by
 obtain ⟨o,es,ep,g,x,y,ks,pp,nd⟩:=dd
 have le:es.size<=sizeLine:=by
  have l1:=pp.length
  rw [HJ] at l1
  omega
 have fi:es.findIdx? (fun e=>knd.is k e.key)=none:=by
  have f1:=pp.findIdx k
  rw [List.findIdx?_eq_none_iff.mpr fun kv hkv=>decide_eq_false fun z=>nk (GH.mpr ⟨kv,hkv,z⟩)] at f1
  obtain ⟨l⟩:=es
  simpa using f1
 unfold dictPut
 refine Da (wpAny_dictFind_of ik g y ks ?_)
 rw [fi]
 refine wpAny_updateDictKeys (hz:=le) g y (q _ ⟨_,_,ep+1,F0 _ g (Obj.isFreed_of_dict (Obj.data_mapDictKeys y _)),x.mapDictKeys _,Obj.data_mapDictKeys y _,ks.push ik _,?_,?_⟩ (Heap.SameBut.update ..))
 ·have p2:=pp.append ik (knd.hash k) v
  obtain ⟨l⟩:=es
  simpa using p2
 ·rw [Fx]
  refine GU.mpr ⟨nd,GY.mpr ⟨by simp,List.nodup_nil⟩,fun a ha b hb z=>nk ?_⟩
  have:b=k:=by simpa using hb
  rw [<- this,<- z]
  exact ha
theorem merge_disp {d o:Fe} {kvs more:List (K × AC)} {Q:Unit->Do->Prop} (ne:d≠o) (os:(o == sysModules)=false) (dd:s.heap.DictOf knd d kvs) (k0:kvs≠[]) (od:s.heap.DictOf knd o more) (nd:((kvs++more).map (·.1)).Nodup)
  (lz:kvs.length+more.length<=sizeLine) (q:∀ h',h'.DictOf knd d (kvs++more)->Hb d s.heap h'->Q () { s with heap:=h' }):wpAny (model prog w) A (mergeMapping d (.ref o) false) Q E s:=by
 obtain ⟨o1,e1,p1,g1,x1,y1,ks1,pp1,nd1⟩:=id dd
 obtain ⟨o2,e2,p2,g2,x2,y2,ks2,pp2,nd2⟩:=id od
 have l2:more.length=e2.size:=by
  have:=pp2.length
  rw [HJ] at this
  exact this.symm
 unfold mergeMapping
 refine Da (wpAny_isInstance od.typeIs isSubtype_dict_dict ?_)
 simp only [if_true]
 refine Da (JA od.typeIs PySem.F.slot_dict_iter.lookup ?_)
 rw [beq_self_eq_true]
 refine Da (Ft ?_)
 simp only [os,Gs,if_false]
 refine Da (Jc g1 y1 ?_)
 have ne1:e1.isEmpty=false:=by
  cases z:e1.isEmpty with
  | false=>rfl
  | true =>
   have l1:=pp1.length
   rw [Array.isEmpty_iff.mp z] at l1
   exact absurd (List.length_eq_zero_iff.mp (by simpa using l1.symm)) k0
 simp only [ne1,Gs,if_false]
 refine Da (Jc g2 y2 (Da (wpAny_dictEpoch g2 y2 ?_)))
 refine Da ?_
 refine wpAny_forIn_list _ (fun rest _ s'=>∃ h' i,s'={ s with heap:=h' }/\rest=(Gp e2.size).drop i/\i<=e2.size/\h'.DictOf knd d (kvs++more.take i)/\h'.get? o=some o2/\Hb d s.heap h') _ ?_ ?_ _ _ ⟨s.heap,0,rfl,List.drop_zero.symm,Fy _,by rw [List.take_zero,FR]; exact dd,g2,J9 _ _⟩
 ·rintro x rest b s' ⟨h',i,rfl,er,hi,dh,oh,sb⟩
  have lt:i < e2.size:=by
   rcases Nat.lt_or_ge i e2.size with z | z
   ·exact z
   ·rw [G6 (by rw [Jd]; exact z)] at er
    cases er
  have ex:x=i/\rest=(Gp e2.size).drop (i+1):=by
   rw [Hh (by rw [Jd]; exact lt),List.getElem_range] at er
   injection er with a1 a2
   exact ⟨a1,a2⟩
  obtain ⟨rfl,ex2⟩:=ex
  refine Da (Jc oh y2 ?_)
  rw [Array.getElem?_eq_getElem lt]
  have lm:x < more.length:=by omega
  obtain ⟨ik,ev⟩:=pp2.get? (e:=e2[x]) (by simp [lt]) (Fk lm)
  obtain ⟨k',ik',eh⟩:=ks2 e2[x] (Array.getElem_mem lt)
  have ek:k'=more[x].1:=knd.inj _ _ _ ik' ik
  subst ek
  show wpAny _ _ (holding [e2[x].key,e2[x].val] (dictPut d e2[x].hash e2[x].key e2[x].val) >>= _) _ _ _
  rw [eh,ev]
  have etk:more.take (x+1)=more.take x++[more[x]]:=by rw [FS,Fk lm]; rfl
  have nk:more[x].1∉(kvs++more.take x).map (·.1):=by
   intro z
   have nd':((kvs++more.take (x+1)).map (·.1)).Nodup:=by
    have:kvs++more=(kvs++more.take (x+1))++more.drop (x+1):=by rw [FF,GM]
    rw [this,Fx] at nd
    exact (GU.mp nd).1
   rw [etk,<- FF,Fx] at nd'
   exact (GU.mp nd').2.2 _ z _ (Gx.mpr rfl) rfl
  refine Da (Gf (zr ik' dh nk (by rw [Fo,Ga]; omega) fun h2 d2 sb2=>?_))
  have oh2:h2.get? o=some o2:=(sb2.2 o (Gk ne)).trans oh
  refine Da (wpAny_dictEpoch oh2 y2 ?_)
  simp only [bne_self_eq_false,Gs,if_false]
  refine Ft ⟨h2,x+1,rfl,ex2,lt,?_,oh2,sb.trans sb2⟩
  rw [etk,<- FF]
  exact d2
 ·rintro b s' ⟨h',i,rfl,er,hi,dh,oh,sb⟩
  have ei:i=e2.size:=by
   rcases Nat.lt_or_ge i e2.size with z | z
   ·rw [Hh (by rw [Jd]; exact z)] at er
    cases er
   ·omega
  refine Ft (q h' ?_ sb)
  rw [FL (by omega)] at dh
  exact dh
end
theorem jF {g:Sem AC × Sem AC->Option (Sem AC) × Sem AC} {f:(Option (Sem AC) × Sem AC)->(Option Fe × List (Sem AC × Sem AC))->Sem (ForInStep (Option Fe × List (Sem AC × Sem AC)))}
  (hf:∀ (p:Sem AC × Sem AC) (m:Option Fe) (run:List (Sem AC × Sem AC)),run.length+1 < 17->f (g p) (m,run)=pure (.yield (m,run++[p]))) (ys:List (Option (Sem AC) × Sem AC)) :
  ∀ (xs:List (Sem AC × Sem AC)) (m:Option Fe) (run:List (Sem AC × Sem AC)),run.length+xs.length < 17->forIn (xs.map g++ys) (m,run) f=forIn ys (m,run++xs) f
 | [],m,run,_=>by rw [IQ,GL,FR]
 | x::xs,m,run,l=>by
  rw [Gg] at l
  rw [FO,List.cons_append,IF,hf x m run (by omega),pure_bind]
  show forIn (xs.map g++ys) (m,run++[x]) f=_
  rw [jF hf ys xs m (run++[x]) (by rw [Fo]; show run.length+1+xs.length < 17; omega),FF]
  rfl
theorem disp_two (xs:List (Sem AC × Sem AC)) (x:Sem AC × Sem AC) (ys:List (Sem AC × Sem AC)) (hx:xs.length=16) (y0:ys≠[]) (hy:ys.length < 17) :
  dictDisplay ((xs++x::ys).map fun p=>(some p.1,p.2))=(do
   let d <- subDict (xs++[x])
   let sub <- holding [.ref d] (subDict ys)
   (holding [.ref d,.ref sub] (mergeMapping d (.ref sub) false)).onRaise fun x=>do let _ <- holding [.ref d,x] (runValue (.builtin "proto.let_go" {}))
   pure (.ref d)):=by
 unfold dictDisplay
 dsimp only
 rw [Fx,jF (g:=fun p=>(some p.1,p.2)) (fun p m run h=>by
  have e:((run++[(p.1,p.2)]).length == 17)=false:=by simp; omega
  simp only [e,Gs,if_false]) _ xs none [] (by simp [hx])]
 rw [FO,IF]
 have e17:((xs++[(x.1,x.2)]).length == 17)=true:=by simp [hx]
 have e17':(xs++[(x.1,x.2)]).isEmpty=false:=by simp
 simp only [GL,e17,e17',if_true,Gs,if_false,bind_assoc,pure_bind]
 refine congrArg _ (funext fun d=>?_)
 have nl:∀ l:List (Option (Sem AC) × Sem AC),l=l++[]:=fun l=>(FR l).symm
 rw [nl (List.map _ ys)]
 rw [jF (g:=fun p=>(some p.1,p.2)) (fun p m run h=>by
  have e:((run++[(p.1,p.2)]).length == 17)=false:=by simp; omega
  simp only [e,Gs,if_false]) [] ys (some d) [] (by simpa using hy)]
 have ey:ys.isEmpty=false:=by cases ys with | nil=>exact absurd rfl y0 | cons _ _=>rfl
 simp only [GL,List.forIn_nil,pure_bind,ey,Gs,if_false,bind_assoc]
end Dk
namespace L2
open PySem PySem.Spec PyProof.Rows Ck
section
variable {X:Cx} {pins:List (Fe × Obj)} {σ:St} {H:Hp} {s:Do}
def Fl (X:Cx) (pins:List (Fe × Obj)) (σ:St) (H:Hp) (p:Sem AC × Sem AC) (it:Str × Fe):Prop :=
 (∀ (s:Do) (Q:AC->Do->Prop),Inv X pins σ H s->(∀ t k,Q (.str it.1 t) { s with toks:=k })->wpAny (model X.prog X.w) X.A p.1 Q X.xe s) /\
 ∀ (s:Do) (Q:AC->Do->Prop),Inv X pins σ H s->Q (.ref it.2) s->wpAny (model X.prog X.w) X.A p.2 Q X.xe s
theorem xT {pos:Pos}:∀ {ks:List (Option Gv)} {vs:List Gv} {ns:List (Str × Str)} {items:List (Str × Fe)},gC ks vs ns=true->FQ (jq X) ns items->FQ (Fl X pins σ H) (pairTrees ks vs X.env pos) items
 | [],[],[],_,_,.nil=>.nil
 | k::ks,v::vs,n::ns,_,h,.cons (b:=it) hn hr=>by
  unfold gC at h
  simp only [FY,decide_eq_true_iff,Ij] at h
  obtain ⟨⟨⟨h1,h2⟩,h3⟩,h4⟩:=h
  obtain ⟨j,p,rfl⟩:=hZ h1
  obtain ⟨p',rfl⟩:=mK h2
  obtain ⟨e,g,m⟩:=hn
  refine .cons ⟨fun s Q I q=>?_,fun s Q I q=>?_⟩ (xT h4 hr)
  ·show wpAny (model X.prog X.w) X.A (eval (.Constant (.str n.1) j p) X.env) Q X.xe s
   rw [e]
   exact Calls.Constant_str (q _ _)
  ·exact Da (du I g m (Da (Ho (Ft q))) h3)
 | [],_::_,_,_,h,_=>by cases h
 | _::_,[],_,_,h,_=>by cases h
 | [],[],_::_,_,h,_=>by cases h
 | _::_,_::_,[],_,h,_=>by cases h
noncomputable def ents (items:List (Str × Fe)):List (Key × AC):=items.map fun it=>(.inr it.1,.ref it.2)
theorem uE:∀ items:List (Str × Fe),KV (dR items) (ents items)
 | []=>.nil
 | _::items=>.cons ⟨rfl,rfl⟩ (uE items)
theorem qf (items:List (Str × Fe)):(ents items).map (·.1)=(items.map (·.1)).map Hw:=by
 unfold ents
 rw [GI,GI]
 rfl
def Kp (s:Do) (h:GG):Prop:=∀ b u,s.heap.get? b=some u->h.get? b=some u
theorem nZ (I:Inv X pins σ H s) {d:Fe} (hd:s.heap.objs.size<=d):∀ {pairs:List (Sem AC × Sem AC)} {items:List (Str × Fe)},FQ (Fl X pins σ H) pairs items->∀ {acc:List (Key × AC)} {h:GG} {k:Nat} {Q:PUnit->Do->Prop},Kp s h->h.DictOf (aV X.prog X.w) d acc->acc.length+items.length<=sizeLine ->
  (∀ h' k',Kp s h'->Hb d h h'->h'.DictOf (aV X.prog X.w) d (merged acc (ents items))->Q PUnit.unit { s with heap:=h',toks:=k' }) ->
  wpAny (model X.prog X.w) X.A (forIn pairs PUnit.unit fun (x:Sem AC × Sem AC) (_:PUnit)=>(do let kv <- x.1; let vv <- holding [kv] x.2; holding [kv,vv] (dictSet d kv vv); pure (HV PUnit.unit):Sem (ForInStep PUnit))) Q X.xe { s with heap:=h,toks:=k }
 | _,_,.nil,acc,h,k,Q,kp,dd,_,q=>by
  rw [List.forIn_nil]
  exact Ft (q h k kp (J9 _ _) dd)
 | _,_,.cons (b:=it) (l₂:=items) f fs,acc,h,k,Q,kp,dd,l,q=>by
  rw [Gg] at l
  rw [IF]
  refine Da (Da (f.1 _ _ (I.kept (t':=k) kp) fun t k2=>?_))
  refine Da (Gf (f.2 _ _ (I.kept (t':=k2) kp) ?_))
  refine Da (Gf (wpAny_dictSet_pairs (knd:=aV X.prog X.w) (k:=.inr it.1) (hsz:=by omega) (gW ⟨t,rfl⟩) dd fun h1 d1 s1=>Ft ?_))
  have kp1:Kp s h1:=fun b u e=>(s1.2 b (fun z=>by rw [z] at e; exact absurd (FA (Fi e) hd) (Gb _))).trans (kp b u e)
  refine nZ I hd fs kp1 d1 (by have:=stored_length_le acc (Hw it.1:Key) (Fv it.2); omega) fun h2 k3 kp2 s2 d2=>q h2 k3 kp2 (s1.trans s2) d2
theorem oa (I:Inv X pins σ H s):∀ {pairs:List (Sem AC × Sem AC)} {items:List (Str × Fe)},FQ (Fl X pins σ H) pairs items->∀ {h:GG} {k:Nat} {Q:List (AC × AC)->Do->Prop},Kp s h->(∀ vs k',Carries (aV X.prog X.w) vs (ents items)->Q vs { s with heap:=h,toks:=k' }) ->
  wpAny (model X.prog X.w) X.A (evalPairs pairs) Q X.xe { s with heap:=h,toks:=k }
 | _,_,.nil,h,k,Q,kp,q=>evalPairs_nil (q [] k GO)
 | _,_,.cons (b:=it) f fs,h,k,Q,kp,q=>evalPairs_cons (f.1 _ _ (I.kept (t':=k) kp) fun t k2=>f.2 _ _ (I.kept (t':=k2) kp) (oa I fs kp fun vs k3 c=>q _ _ ⟨gW ⟨t,rfl⟩,rfl,c⟩))
theorem yj (I:Inv X pins σ H s) {pairs:List (Sem AC × Sem AC)} {items:List (Str × Fe)} (F:FQ (Fl X pins σ H) pairs items) (l:15 < pairs.length) (lz:items.length<=40) (nd:((ents items).map (·.1)).Nodup) {Q:Fe->Do->Prop}
  (q:∀ h' k',Kp s h'->s.heap.objs.size < h'.objs.size->h'.DictOf (aV X.prog X.w) s.heap.objs.size (ents items)->Q s.heap.objs.size { s with heap:=h',toks:=k' }):wpAny (model X.prog X.w) X.A (subDict pairs) Q X.xe s:=by
 unfold subDict
 refine Da (wpAny_alloc ?_)
 refine Da (Gf ?_)
 rw [if_neg (by omega)]
 refine Da (wpAny_rule (Da ?_))
 have sz40:40<=sizeLine:=by decide
 have kp0:Kp s (s.heap.push { cls:=.type "dict",data:=.dict #[] }):=fun b u e=>Fd _ e
 refine nZ I (Fg _) F (k:=s.toks) kp0 (JB s.heap) (by show 0+items.length<=_; omega) fun h1 k1 kp1 sb1 d1=>Ft (Ft ?_)
 rw [merged_nil_of_nodup _ nd] at d1
 refine q h1 k1 kp1 ?_ d1
 obtain ⟨_,_,_,g,_⟩:=d1
 exact Fi g
theorem kf {α β:Type} {R:α->β->Prop}:∀ {as bs:List α} {cs:List β},FQ R (as++bs) cs->∃ is js,cs=is++js/\FQ R as is/\FQ R bs js
 | [],_,cs,h=>⟨[],cs,rfl,.nil,h⟩
 | _::_,_,_,.cons r t=>by
  obtain ⟨is,js,e,h1,h2⟩:=kf t
  exact ⟨_::is,js,by rw [e]; rfl,.cons r h1,h2⟩
theorem zD {ks:List (Option Gv)} {vs:List Gv} {pos:Pos} (ns:List (Str × Str)) (items:List (Str × Fe)) (ok:gC ks vs ns=true) (pr:FQ (jq X) ns items) (l1:17 < ns.length) (l2:ns.length < 33) (nd:(items.map (·.1)).Nodup) :
  PE X (.Dict ks vs pos) (fun _ H Q=>∀ p,H p=none->Q (.ref p) (upd H p (.dK (dR items)))):=by
 intro pins s σ H Q I q
 obtain ⟨a1,a2,a3⟩:=iS ok
 have F:=xT (X:=X) (pins:=pins) (σ:=σ) (H:=H) (pos:=pos) ok pr
 rw [arm_eval_Dict,zip_pairTrees ks vs X.env pos a1 a2]
 have lp:(pairTrees ks vs X.env pos).length=ns.length:=(pairTrees_length ks vs X.env pos a1 a2).trans a3
 generalize pairTrees ks vs X.env pos=pairs at F lp |-
 obtain ⟨xs,x,ys,rfl,hx⟩:∃ xs x ys,pairs=xs++x::ys/\xs.length=16:=⟨pairs.take 16,pairs[16]'(by omega),pairs.drop 17,by rw [<- Hh,GM],by rw [Ga]; omega⟩
 rw [Fo,Gg,hx] at lp
 have y0:ys≠[]:=fun z=>by
  rw [z,HW] at lp
  omega
 obtain ⟨is,js,rfl,F1,F2⟩:=kf (as:=xs++[x]) (bs:=ys) (by rw [FF]; exact F)
 rw [Dk.disp_two xs x ys hx y0 (by omega)]
 have big:=I.big
 have lF1:=Ge F1
 have lF2:=Ge F2
 rw [Fo] at lF1
 have l1':xs.length+1=is.length:=lF1
 have sz40:40<=sizeLine:=by decide
 have ndE:((ents is++ents js).map (·.1)).Nodup:=by
  rw [Fx,qf,qf,<- Fx,<- Fx]
  exact nodup_inr nd
 have ndI:((ents is).map (·.1)).Nodup:=by
  rw [Fx] at ndE
  exact (GU.mp ndE).1
 have ndJ:((ents js).map (·.1)).Nodup:=by
  rw [Fx] at ndE
  exact (GU.mp ndE).2.1
 refine Da (Ho (Da ?_))
 refine yj I F1 (by rw [Fo]; show 15 < xs.length+1; omega) (by omega) ndI fun h1 k1 kp1 z1 d1=>?_
 have z1':s.heap.objs.size < h1.objs.size:=z1
 refine Da (Gf (wpAny_subDict (knd:=aV X.prog X.w) (by omega) ?_))
 refine oa I F2 (h:=h1.push { cls:=.type "dict",data:=.dict #[] }) (k:=k1) (fun b u e=>Fd _ (kp1 b u e)) fun vs k2 c=>⟨ents js,c,JB h1,fun h2 d2 sb2=>?_⟩
 rw [merged_nil_of_nodup _ ndJ] at d2
 have ned:s.heap.objs.size≠h1.objs.size:=FV z1'
 have d1':=(d1.push { cls:=.type "dict",data:=.dict #[] }).sameBut sb2 ned
 have kp2:Kp s h2:=fun b u e=>(sb2.2 b (fun z=>by rw [z] at e; exact absurd (Fi e) (HL.mpr (Js z1')))).trans (Fd _ (kp1 b u e))
 have lei:(ents is).length=is.length:=Ff _
 have lej:(ents js).length=js.length:=Ff _
 refine Da (wpAny_onRaise (Gf (Dk.merge_disp (knd:=aV X.prog X.w) ned (beq_eq_false_iff_ne.mpr (Gk (FV (Nat.lt_trans big z1')))) d1' (fun z=>by rw [z,HW] at lei; omega) d2 ndE (by omega) fun h3 d3 sb3=>?_)))
 have kp3:Kp s h3:=fun b u e=>(sb3.2 b (fun z=>by rw [z] at e; exact absurd (Fi e) (Gb _))).trans (kp2 b u e)
 refine Ft ⟨.ref s.heap.objs.size,_,I.laid kp3 (Fg _) (o:=.dK (dR (is++js))) (nY ?_ (beq_eq_false_iff_ne.mpr (Gk (FV big))) ?_ d3),rfl,q _ (I.hok.fresh (Fg _))⟩
 ·unfold dR
  rw [Ff,Fo]
  omega
 ·have:=uE (is++js)
  unfold ents at this |-
  rw [Fx] at this
  exact this
noncomputable def zp:V->List V->Hp->VK->Prop:=fun x vs H Q=>∃ d o kvs more,x = .ref d/\vs=[.ref o]/\d≠o/\H d=some (.dK kvs)/\H o=some (.dK more)/\kvs.length+more.length<=sizeLine/\Q .non (upd H d (.dK (dD kvs more)))
theorem zR:ux X "dict.update" zp:=by
 intro pins s σ H x xs v us Q I rx rs h
 obtain ⟨d,o,kvs,more,rfl,rfl,ne,hd,ho,l,q⟩:=h
 cases rx
 obtain ⟨u,rfl,ru⟩:=vals1 rs
 cases ru
 obtain ⟨z1,n1,v1,r1,d1⟩:=nW I.hok hd
 obtain ⟨z2,n2,v2,r2,d2⟩:=nW I.hok ho
 have l1:=r1.length
 have l2:=r2.length
 refine call_meetsIn Je d1.typeIs PySem.F.entry_dict_update (PySem.F.args_dict_update_2 _ _) (meets_dict_update (aV X.prog X.w) d o ne n2) ⟨v1,v2,d1,d2,by omega,fun h' dh _ sb=>?_⟩
 have lm:=gw more kvs
 exact ⟨.non,_,mv (t':=s.toks) I (by rw [hd]; exact GO) sb (let ⟨o,_,_,e,_⟩:=dh; ⟨o,e⟩) (nY (by omega) n1 (r2.merge r1) dh),rfl,q⟩
noncomputable def Di (td ty:TE):TE:=fun σ H Q=>td σ H fun x H1=>∃ a,x = .ref a/\CH H1 a/\ty σ H1 fun y H2=>zp x [y] H2 Q
theorem uk {o e:Gv} {td ty:TE} {apos cpos:Pos} (ho:PE X o td) (he:PE X e ty) (m:M1 X o "update" apos e cpos):PE X (.Call (.Attribute o "update" apos) [e] [] cpos) (Di td ty):=by
 intro pins s σ H Q I h
 refine wpAny_Call_method m.base m.few m.line Jl Je PySem.F.type_dict_update (aB (ho pins s σ H _ I h) fun u s1 ⟨x,H1,I1,rx,a,ex,d,q1⟩=>?_)
 subst ex
 obtain rfl:u=Fv a:=rx
 obtain ⟨t1,t2,_⟩:=xS I1 d
 rw [m.trees]
 exact ⟨t1,t2,Hu rfl (GR (HS (aB (he pins s1 σ H1 _ I1 q1) fun iv s2 ⟨y,H2,I2,ry,q2⟩=>Ja (zR pins s2 σ H2 (V.ref a) [y] (.ref a) [iv] Q I2 rfl (.cons ry .nil) q2))))⟩
noncomputable def iu (b:List Hc) (ns:List (Str × Str)):Bool:=match lK b with
 | some e=>(match g6 e with | some d=>gC d.1 d.2 ns | none=>false)
 | none=>false
noncomputable def AZ (items:List (Str × Fe)):TE:=fun _ H Q=>∀ p,H p=none->Q (.ref p) (upd H p (.dK (dR items)))
theorem ur {b:List Hc} {ns:List (Str × Str)} {t:TE} (h:iu b ns=true) (k:∀ ks vs pos,gC ks vs ns=true->PE X (.Dict ks vs pos) t):fz X b (rM t):=by
 unfold iu at h
 cases hr:lK b with
 | none=>rw [hr] at h; cases h
 | some e =>
  rw [hr] at h
  obtain ⟨p,rfl⟩:=nr hr
  cases hd:g6 e with
  | none=>simp only [hd] at h; cases h
  | some d =>
   simp only [hd] at h
   obtain ⟨p',rfl⟩:=i3 hd
   exact ar (aA (k _ _ _ h))
theorem xg {b:List Hc} {ns:List (Str × Str)} {items:List (Str × Fe)} (h:iu b ns=true) (pr:FQ (jq X) ns items) (l1:17 < ns.length) (l2:ns.length < 33) (nd:(items.map (·.1)).Nodup):fz X b (rM (AZ items)) :=
 ur h fun _ _ _ ok=>zD ns items ok pr l1 l2 nd
theorem vF {b:List Hc} {ns:List (Str × Str)} {items:List (Str × Fe)} (h:iu b ns=true) (pr:FQ (jq X) ns items) (l0:ns≠[]) (l1:ns.length<=15) (nd:(items.map (·.1)).Nodup):fz X b (rM (AZ items)) :=
 ur h fun ks vs pos ok=>by
  obtain ⟨a1,a2,a3⟩:=iS ok
  have P:=pK (pos:=pos) (pF ok pr) a1 a2 (fun z=>l0 (Gz (by rw [<- a3,z]; rfl))) (by omega)
  intro pins s σ H Q I q
  refine P pins s σ H Q I fun p hp=>jM σ items _ _ ⟨ae,dR items,rfl,?_,?_⟩
  ·unfold dR
   rw [Ff,<- Ge pr]
   exact l1
  ·rw [gj (dR items) [] (by rw [GL,kl]; exact nodup_inr nd),GL,mC]
   exact q p hp
theorem xE {lsc sc:Ib} {env:Env} {n:Nat} (he:env.cells=cellsFrom n sc.names []) (h:(lsc.names.all fun y=>decide (y.2≠.free) || decide (sc.names.lookup y.1=some .cell))=true):∃ cl,closureFor lsc env=pure cl :=
 ⟨_,jD fun y hy e=>by
  have z:=Fu.mp h y hy
  rw [e] at z
  have z:sc.names.lookup y.1=some .cell:=by simpa using z
  rw [he]
  exact mY z⟩
end
end L2
namespace L2
open PySem PySem.Spec PyProof.Rows
theorem pR {X:Cx} {K:FD} (h:X.K=K):zh X (Bm K):=h▸cz
section
variable {prog:FG} {w:FU} {A:Gd} {E:AC->Do->Prop} {s:Do}
end
section
variable {X:Cx}
end
end L2
namespace L2
open PySem PySem.Spec PyProof.Rows PySem.W
theorem ig {X:Cx} {K:JY} (hK:X.K=K):fL X (compareOp .In) (Cb K false):=by
 subst hK
 exact qg
theorem eZ (x:Str):∀ ys:List Str,uA (.str x) (ys.map V.str)=decide (x∈ys)
 | []=>rfl
 | y::ys=>by
  show (dB (.str y) (.str x) || uA (.str x) (ys.map V.str))=_
  rw [eZ x ys]
  have e:dB (.str y) (.str x)=decide (x=y):=by
   by_cases z:x=y
   ·subst z; simp [dB]
   ·rw [decide_eq_false z]
    simp [dB]
    exact fun w=>z w.symm
  rw [e]
  simp [FB]
theorem fU:∀ ys:List Str,(ys.map V.str).all dw=true
 | []=>rfl
 | _::ys=>fU ys
end L2
namespace Ck
open PySem L2
noncomputable abbrev Way:=Str × Str × Str × Str
noncomputable def two (f l h b:Str):List Way:=[(f++">"++l++h,f,l,l++">"++f++b),(l++">"++f++b,l,f,f++">"++l++h)]
noncomputable def w7:List Str:=["stairs","twins","bows","rooms","turns","brackets","floor"]
noncomputable def w5:List Str:=["brackets","bows","twins","floor","turns"]
noncomputable def sF (k j:Nat):List Way:=(w7.take j).flatMap fun u=>two (w7.getD k "") u ":parts" ":parts"
noncomputable def jP (k:Nat):List Way:=(Gp k).flatMap fun i=>sF i i
noncomputable def tI (j:Nat):List Way:=(w5.take j).flatMap fun u=>(two u u ":mirror" ":mirror").take 1
noncomputable def iH (j:Nat):List Way:=(w7.take j).flatMap fun u=>two "brackets" u "" ""
noncomputable def bH:List Way:=iH 5++two "twins" "floor" "" ""++two "trees" "codes" "" ""++two "trees" "cars" "" ""++two "cars" "codes" "" ""++jP 7++tI 5++two "bows" "bows" ":turn" ":turnback"++two "floor" "floor" ":turn" ":turnback"++two "rooms" "rooms" ":gaps" ":gapsback"++two "rooms" "bows" ":feet" ":feet"
theorem rY:bH.length=73:=by decide +kernel
noncomputable def gZ (n:Str):Str:=(GC n ":").1
noncomputable def jk (n:Str):Str:=(GC n ":").2.2
noncomputable def wM (n:Str):List Str:=Builtin.Str.partsBetween (gZ n) (Builtin.Str.occurrences (gZ n) ">" 0 (gZ n).length ((gZ n).length+1)) (Str.length (tz ">"))
noncomputable def va:List (Str × Str):=[("turn","turnback"),("turnback","turn"),("gaps","gapsback"),("gapsback","gaps")]
noncomputable def qe (m:Str):Str:=((va.lookup m).getD m)
noncomputable def wc (r:Way):Str:=if jk r.1 = "" then r.2.2.1++">"++r.2.1 else r.2.2.1++">"++r.2.1++":"++qe (jk r.1)
noncomputable def CV (r:Way):Bool:=decide (wM r.1=[r.2.1,r.2.2.1])&&decide (wc r=r.2.2.2)&&decide (r.1.length<=100)&&!(decide ((gZ r.1).length < Str.length (tz ">")) || decide (Builtin.Str.strKind (gZ r.1) < Builtin.Str.strKind (tz ">")))&&!(Builtin.Str.occurrences (gZ r.1) ">" 0 (gZ r.1).length ((gZ r.1).length+1)).isEmpty&&decide ((gZ r.1).length<=100)
theorem Ai:bH.all CV=true:=by decide +kernel
noncomputable def jW:List Str:=["brackets","stairs","twins","bows","rooms","floor","turns"]
noncomputable def i8 (u:Str) (n:Nat):List Str:=((jW.take n).filter fun v=>decide (u≠v)).map fun v=>u++">"++v++":parts"
noncomputable def dW (i:Nat):List Str:=(jW.take i).flatMap fun u=>i8 u 7
noncomputable def ib:List Str:=["brackets>stairs","stairs>brackets","brackets>twins","twins>brackets","brackets>bows","bows>brackets","brackets>rooms","rooms>brackets","brackets>turns","turns>brackets","twins>floor","floor>twins","trees>codes","codes>trees","trees>cars","cars>trees","cars>codes","codes>cars"]
noncomputable def iP:List Str:=["brackets>brackets:mirror","bows>bows:mirror","twins>twins:mirror","floor>floor:mirror","turns>turns:mirror","bows>bows:turn","bows>bows:turnback","floor>floor:turn","floor>floor:turnback","rooms>bows:feet","bows>rooms:feet","rooms>rooms:gaps","rooms>rooms:gapsback"]
noncomputable def names:List Str:=bH.map (·.1)
theorem zX:((ib++dW 7)++iP).Nodup:=by decide +kernel
theorem rV:(((ib++dW 7)++iP).all fun x=>decide (x∈names))=true/\(names.all fun x=>decide (x∈(ib++dW 7)++iP))=true:=by decide +kernel
theorem sM (x:Str):x∈(ib++dW 7)++iP↔x∈names :=
 ⟨fun h=>of_decide_eq_true (Fu.mp rV.1 x h),fun h=>of_decide_eq_true (Fu.mp rV.2 x h)⟩
structure gi (kvs:List (Key × V)) (ks:List Str):Prop where
 keys:kvs.map (·.1)=ks.map Hw
 refs:∀ kv∈kvs,∃ f,kv.2 = .ref f
theorem zO:gi [] []:=⟨rfl,fun _ h=>by cases h⟩
theorem gi.app {a b:List (Key × V)} {ks ls:List Str} (h:gi a ks) (k:gi b ls) (nd:(ks++ls).Nodup):gi (dD a b) (ks++ls):=by
 have e:dD a b=a++b:=gj b a (by rw [Fx,h.keys,k.keys,<- Fx]; exact nodup_inr nd)
 rw [e]
 exact ⟨by rw [Fx,Fx,h.keys,k.keys],fun kv hv=>(Hk.mp hv).elim (h.refs kv) (k.refs kv)⟩
theorem gi.put {a:List (Key × V)} {ks:List Str} {x:Str} {f:Fe} (h:gi a ks) (nd:(ks++[x]).Nodup):gi (putK a (.inr x) (.ref f)) (ks++[x]) :=
 h.app (b:=[(.inr x,.ref f)]) (ls:=[x]) ⟨rfl,fun kv hv=>⟨f,by rw [Gx.mp hv]⟩⟩ nd
theorem gi.len {a:List (Key × V)} {ks:List Str} (h:gi a ks):a.length=ks.length:=by
 have:=congrArg List.length h.keys
 simpa using this
theorem ui (items:List (Str × Fe)):gi (dR items) (items.map (·.1)):=⟨kl items,fun kv hv=>by
 unfold dR at hv
 obtain ⟨it,_,rfl⟩:=GH.mp hv
 exact ⟨it.2,rfl⟩⟩
theorem pH:∀ {a:List (Key × V)} {x:Key},(x∈a.map (·.1)->∃ kv∈a,bM a x=some kv.2)/\(x∉a.map (·.1)->bM a x=none)
 | [],x=>⟨fun h=>(by cases h),fun _=>rfl⟩
 | kv::a,x=>by
  have ih:=pH (a:=a) (x:=x)
  by_cases e:kv.1=x
  ·have v:bM (kv::a) x=some kv.2:=by unfold bM; simp [e]
   exact ⟨fun _=>⟨kv,Gq ..,v⟩,fun h=>absurd (FB.mpr (.inl e.symm)) h⟩
  ·have v:bM (kv::a) x=bM a x:=by unfold bM; simp [e]
   rw [v]
   refine ⟨fun h=>?_,fun h=>ih.2 fun z=>h (FI _ z)⟩
   rcases FB.mp h with z | z
   ·exact absurd z.symm e
   ·obtain ⟨k2,h2,h3⟩:=ih.1 z
    exact ⟨k2,FI _ h2,h3⟩
theorem gi.has {a:List (Key × V)} {ks:List Str} (h:gi a ks) {x:Str} (hx:x∈ks):∃ f,bM a (.inr x)=some (.ref f):=by
 obtain ⟨kv,m,e⟩:=(pH (a:=a) (x:=.inr x)).1 (by rw [h.keys]; exact GH.mpr ⟨x,hx,rfl⟩)
 obtain ⟨f,ef⟩:=h.refs kv m
 exact ⟨f,by rw [e,ef]⟩
theorem gi.no {a:List (Key × V)} {ks:List Str} (h:gi a ks) {x:Str} (hx:x∉ks):bM a (.inr x)=none :=
 (pH (a:=a) (x:=.inr x)).2 (by
  rw [h.keys]
  intro z
  obtain ⟨y,hy,e⟩:=GH.mp z
  injection e with e
  exact hx (e▸hy))
theorem zA {r:Way} (h:r∈bH):CV r=true:=Fu.mp Ai r h
noncomputable def bB (w:Str):List Str:=if w = "trees"\/w = "codes"\/w = "cars" then ["leaves","rootage"] else if w = "rooms"\/w = "floor" then ["peaks","returns"] else ["peaks","returns","height"]
noncomputable def rA (r:Way):Bool:=HM r.1 ":mirror"&&(decide (r.2.1≠"twins")&&decide (r.2.1≠"floor"))
noncomputable def bare (r:Way):Bool:=(!(Builtin.Str.occurrences r.1 ":" 0 r.1.length 1).isEmpty&&!Txt.endswith r.1 ":parts") || (decide (r.1 = "cars>codes") || decide (r.1 = "codes>cars"))
noncomputable def pO (r:Way):List Str:=if rA r=true then ["peaks","returns","height"] else if bare r=true then [] else (bB r.2.1).filter fun x=>decide (x∈bB r.2.2.1)
noncomputable def zf (a b m:Str):Bool:=if m = "" then !(decide (a = "cars")&&decide (b = "codes"))&&!(decide (a = "codes")&&decide (b = "cars")) else if m = "mirror" then decide (a = "brackets") || (decide (a = "bows") || decide (a = "turns")) else decide (m = "parts")
noncomputable def dA (r:Way):List Str:=if zf r.2.1 r.2.2.1 (jk r.1)=true then (bB r.2.1).filter fun x=>decide (x∈bB r.2.2.1) else []
theorem BR:(bH.all fun r=>decide (dA r=pO r))=true:=by decide +kernel
theorem A7 {r:Way} (h:r∈bH):dA r=pO r:=of_decide_eq_true (Fu.mp BR r h)
noncomputable def w4:List Str:=jW++(["codes","trees","cars"]:List Str)
theorem yb:(bH.all fun r=>decide (r.2.1∈w4)&&decide (r.2.2.1∈w4))=true:=by decide +kernel
theorem xG (u:Str) {n:Nat} {v:Str} (h:jW[n]? = some v):i8 u (n+1)=i8 u n++if u≠v then [u++">"++v++":parts"] else []:=by
 unfold i8
 rw [FS,h,Hv,Fx]
 refine congrArg _ ?_
 show List.map _ (Jm _ [v])=_
 by_cases e:u≠v
 ·rw [if_pos e,Ht,if_pos (decide_eq_true e)]; rfl
 ·rw [if_neg e,Ht,if_neg (by rw [decide_eq_false e]; decide)]; rfl
theorem vG {i:Nat} {u:Str} (h:jW[i]? = some u):dW (i+1)=dW i++i8 u 7:=by
 unfold dW
 rw [FS,h,Hr]
 simp
theorem Dp:((Gp 7).all fun i=>(Gp 8).all fun j=>decide ((dW i++i8 (jW.getD i "") j).Nodup))=true:=by decide +kernel
theorem BH:((Gp 7).all fun i=>(Gp 8).all fun j=>decide ((dW i++i8 (jW.getD i "") j).length<=49))=true:=by decide +kernel
theorem zv:(jW.all fun x=>decide (x.length<=100))=true:=by decide +kernel
theorem DO:ib.length=18:=by decide +kernel
theorem DK:(dW 7).length=42:=by decide +kernel
theorem EC:iP.length=13:=by decide +kernel
theorem qi {x:Str}:x∈names↔∃ r∈bH,r.1=x:=GH
theorem rF {r:Way} (h:r∈bH):wM r.1=[r.2.1,r.2.2.1]/\wc r=r.2.2.2/\r.1.length<=100/\(decide ((gZ r.1).length < Str.length (tz ">")) || decide (Builtin.Str.strKind (gZ r.1) < Builtin.Str.strKind (tz ">")))=false/\(Builtin.Str.occurrences (gZ r.1) ">" 0 (gZ r.1).length ((gZ r.1).length+1)).isEmpty=false/\(gZ r.1).length<=100:=by
 have:=zA h
 unfold CV at this
 simp only [FY,decide_eq_true_iff,Ij] at this
 obtain ⟨⟨⟨⟨⟨a,b⟩,c⟩,d⟩,e⟩,f⟩:=this
 exact ⟨a,b,c,d,e,f⟩
theorem bN (x:Str):GQ++x=x:=zU (by
 show ((#[]:Array Nat)++x.cps).toList=x.cps.toList
 simp)
theorem len_app (x y:Str):(x++y).length=x.length+y.length:=by
 show (x.cps++y.cps).size=x.cps.size+y.cps.size
 exact Array.size_append
theorem xC:(bH.all fun r=>decide (r.2.1.length<=100)&&decide (r.2.2.1.length<=100)&&decide ((qe (jk r.1)).length<=100))=true:=by decide +kernel
theorem yH {r:Way} (h:r∈bH):r.2.1.length<=100/\r.2.2.1.length<=100/\(qe (jk r.1)).length<=100:=by
 have:=Fu.mp xC r h
 simp only [FY,decide_eq_true_iff] at this
 exact ⟨this.1.1,this.1.2,this.2⟩
end Ck
namespace L2
open PySem PySem.Spec PyProof.Rows
noncomputable def lq (vs:Array AC):Option Fe :=
 match (vs[11]? : Option AC),vs.getD 11 GE,vs.getD 18 GE,vs.getD 7 GE,vs.getD 9 GE,vs.getD 10 GE with
 | some (.ref P),.ref _,.str _ _,.int _ _,.bool _,.int _ _=>some P
 | _,_,_,_,_,_=>none
theorem codeHd_of {K:FD} {c P:Fe} {od:Option Fe} {vs:Array AC} {sl:Array (Option AC)} (l:K.lookup c=some ⟨.type "code",od,.fields vs,sl⟩) (t:lq vs=some P) (ne:c≠P):∀ h,K.In h->W.CodeHd h c P:=fun h X=>by
 unfold lq at t
 split at t
 ·rename_i P' a f tf i ti b j tj e1 e2 e3 e4 e5 e6
  cases t
  have e2':vs.getD 11 .none = .ref P:=by
   rw [Array.getD_eq_getD_getElem?,e1]
   rfl
  exact ⟨_,vs,_,_,_,_,_,_,_,X c _ l,rfl,rfl,e1,e2',e3,e4,e5,e6,ne⟩
 ·cases t
theorem zd {K:FD} {mg:Str->Option AC} {b:Fe} {sl:Array (Option AC)} (m:mg "__builtins__" = some (.ref b)) (l:K.lookup b=some ⟨.type "module",some builtinsNs,.plain,sl⟩) (ne:b≠builtinsNs) (h:GG) (X:K.In h):BM mg h :=
 ⟨b,_,m,ne,X b _ l,rfl,rfl,rfl⟩
theorem dict_ok {P:FG} {w:FU} {H:Hp} {h:GG} {D:Fe} {n:Nat} (es:List (Str × Tok × Str × Tok)) (e:h.get? D=some ⟨.type "dict",none,.dict (es.map fun x=>(⟨PyData.keyHash w.params x.1,.str x.1 x.2.1,.str x.2.2.1 x.2.2.2⟩:Gn)).toArray n,#[]⟩) (nd:(es.map (·.1)).Nodup) (ne:(D == sysModules)=false) (l:es.length<=sizeLine) :
  aJ P w H h D (.dK (es.map fun x=>((.inr x.1:Key),V.str x.2.2.1))):=by
 refine ⟨by rw [Ff]; exact l,ne,es.map fun x=>((.inr x.1:Key),IB x.2.2.1 x.2.2.2),?_,_,_,n,e,⟨rfl,rfl,rfl⟩,rfl,?_,?_,?_⟩
 ·clear e nd l
  induction es with
  | nil=>exact .nil
  | cons x es ih=>exact .cons ⟨rfl,⟨_,rfl⟩⟩ ih
 ·intro y hy
  obtain ⟨x,_,rfl⟩:=GH.mp (List.mem_toArray.mp hy)
  exact ⟨.inr x.1,gW ⟨_,rfl⟩,rfl⟩
 ·clear e nd l
  induction es with
  | nil=>exact .nil
  | cons x es ih=>exact Pairs.cons (kv:=(Hw x.1,IB x.2.2.1 x.2.2.2)) (gW (k:=.inr x.1) (u:=IB x.1 x.2.1) ⟨_,rfl⟩) rfl ih
 ·rw [GI]
  have:(List.map (fun x:Str × Tok × Str × Tok=>(Hw x.1:Key)) es)=(es.map (·.1)).map Hw:=by rw [GI]; rfl
  show (List.map (fun x:Str × Tok × Str × Tok=>(Hw x.1:Key)) es).Nodup
  rw [this]
  exact Ck.nodup_inr nd
end L2
namespace L2
open PySem PySem.Spec PyProof.Rows
structure tw (T U D:Fe) (ps qs:Array AC) (oD:Obj) (kD:List (Key × V)) (H:Hp):Prop where
 tab:H T=some (eY T ps)
 tab2:H U=some (eY U qs)
 dic:H D=some (.frz oD (.dK kD))
theorem vU {P:FG} {w:FU} {K:FD} {mg mb:Str->Option AC} {CX:g8} {k:Nat} {fa a c c2 T U D:Fe} {fd:Fh} {x:Str} {sp:Sp} {s₁:Do} {vs:List AC} {ns:List Int} {ps qs:Array AC} {oD:Obj} {kD:List (Key × V)}
  (KX:K.In s₁.heap) (hns:s₁.heap.Ns mainGlobals mg) (hb:s₁.heap.Ns builtinsNs mb) (hbb:∀ x:Str,x≠"__name__"->mb x=bootBuiltins x) (hlim:s₁.heap.NoLimit) (hg:s₁.gens = #[])
  (ha:s₁.heap.get? a=some { cls:=.type "list",data:=.seq vs.toArray }) (hi:J4 vs ns) (hl:ns.length<=sizeLine) (hr:bh k callerA)
  (hT:s₁.heap.TableAt c T ps) (hTK:K.lookup T=none) (hTr:HY ps.toList) (hU:s₁.heap.TableAt c2 U qs) (hUK:K.lookup U=none) (hUr:HY qs.toList) (TU:T≠U)
  (hD:s₁.heap.get? D=some oD) (hDK:K.lookup D=none) (okD:∀ H:Hp,aJ P w H s₁.heap D (.dK kD)) (D1:D≠mainGlobals) (D2:D≠builtinsNs) (D3:D≠cStatics)
  (F:∀ base:GG,K.In base->base.Ns mainGlobals mg->aF P w K mg base CX k fa fd [x] sp) (hbind:∀ (s:Do) (u:AC),Jv s fd ⟨[u],[]⟩ [(x,u)])
  (hsp:∀ H:Hp,av K H a (ns.map V.int)->tw T U D ps qs oD kD H->sp [.ref a] H (fun v H'=>v = .bl true/\H' T=some (eY T ps)/\H' U=some (eY U qs)) fun _ _ _=>False)
  (hCX:∀ H e s',CX [] H s₁ (fun _ _ _=>False) e s'->False) :
  codeAny (model P w) callerA (.call (.ref fa) ⟨[.ref a],[]⟩) (fun r s'=>r = .ok (.ret (.bool true))/\OldK s₁.heap s'.heap/\s'.os=s₁.os/\IC s'.gens) s₁:=by
 have rv:=iR hi
 have lenV:=hi.length
 have dataD:∃ es ep,oD.data = .dict es ep:=by
  obtain ⟨_,_,vs',_,o',es,ep,e,_,d,_⟩:=okD fun _=>none
  rw [hD] at e
  cases e
  exact ⟨es,ep,d⟩
 obtain ⟨esD,epD,dataD⟩:=dataD
 have aT:a≠T:=fun z=>by
  have e:=hT.2
  rw [<- z,ha] at e
  cases e
 have aU:a≠U:=fun z=>by
  have e:=hU.2
  rw [<- z,ha] at e
  cases e
 have DU:D≠U:=fun z=>by
  have e:=hU.2
  rw [<- z,hD] at e
  cases e
  cases dataD
 have DT:D≠T:=fun z=>by
  have e:=hT.2
  rw [<- z,hD] at e
  cases e
  cases dataD
 have aD:a≠D:=fun z=>by
  rw [z,hD] at ha
  cases ha
  cases dataD
 -- what is tracked: the table,the dict,and the script if it is none of the module's own
 obtain ⟨H,hGr,hHS,hH0,hok⟩:∃ H:Hp,tw T U D ps qs oD kD H/\av K H a (ns.map V.int)/\(∀ b,b≠T->b≠U->H b=none\/(b=a/\K.lookup a=none\/b=D)/\∃ o u,H b=some (.frz o u))/\bS P w H s₁.heap:=by
  have t0:∀ H:Hp,aJ P w H s₁.heap T (eY T ps):=fun H=>nP #[] (by rw [Hf]; exact hT.2) (by rw [Hf]; exact hTr)
  have u0:∀ H:Hp,aJ P w H s₁.heap U (eY U qs):=fun H=>nP #[] (by rw [Hf]; exact hU.2) (by rw [Hf]; exact hUr)
  have d0:∀ H:Hp,aJ P w H s₁.heap D (.frz oD (.dK kD)):=fun H=>⟨hD,okD H⟩
  have put:∀ H:Hp,(∀ b u,b≠T->b≠U->b≠D->H b=some u->aJ P w (upd (upd (upd H D (.frz oD (.dK kD))) U (eY U qs)) T (eY T ps)) s₁.heap b u)->bS P w (upd (upd (upd H D (.frz oD (.dK kD))) U (eY U qs)) T (eY T ps)) s₁.heap:=fun H f b u z=>by
   by_cases e:b=T
   ·subst e
    rw [ae] at z
    cases z
    exact t0 _
   ·rw [aq e] at z
    by_cases eu:b=U
    ·subst eu
     rw [ae] at z
     cases z
     exact u0 _
    rw [aq eu] at z
    by_cases e2:b=D
    ·subst e2
     rw [ae] at z
     cases z
     exact d0 _
    ·rw [aq e2] at z
     exact f b u e eu e2 z
  cases hk:K.lookup a with
  | some o =>
   have e:=KX a o hk
   rw [ha] at e
   cases e
   refine ⟨upd (upd (upd (fun _=>none) D (.frz oD (.dK kD))) U (eY U qs)) T (eY T ps),⟨ae,(aq (Gk TU)).trans ae,(aq DT).trans ((aq DU).trans ae)⟩,.inr ⟨_,vs.toArray,_,hk,rfl,rfl,rfl,by rw [Fz,lenV]; exact hl,by simpa using rv⟩,fun b n n2=>?_,put _ fun b u _ _ _ z=>by cases z⟩
   by_cases e:b=D
   ·subst e
    exact .inr ⟨.inr rfl,_,_,(aq n).trans ((aq n2).trans ae)⟩
   ·exact .inl ((aq n).trans ((aq n2).trans (aq e)))
  | none =>
   refine ⟨upd (upd (upd (upd (fun _=>none) a (.frz { cls:=.type "list",data:=.seq vs.toArray } (.lst (ns.map V.int)))) D (.frz oD (.dK kD))) U (eY U qs)) T (eY T ps),⟨ae,(aq (Gk TU)).trans ae,(aq DT).trans ((aq DU).trans ae)⟩,.inl (.inr ⟨{ cls:=.type "list",data:=.seq vs.toArray },(aq aT).trans ((aq aU).trans ((aq aD).trans ae))⟩),fun b n n2=>?_,put _ fun b u _ _ _ z=>?_⟩
   ·by_cases e:b=D
    ·subst e
     exact .inr ⟨.inr rfl,_,_,(aq n).trans ((aq n2).trans ae)⟩
    ·by_cases e2:b=a
     ·subst e2
      exact .inr ⟨.inl ⟨rfl,rfl⟩,_,_,(aq n).trans ((aq n2).trans ((aq e).trans ae))⟩
     ·exact .inl ((aq n).trans ((aq n2).trans ((aq e).trans (aq e2))))
   ·by_cases e2:b=a
    ·subst e2
     rw [ae] at z
     cases z
     exact ⟨ha,by rw [Ff]; exact hl,vs,_,rv,ha⟩
    ·rw [aq e2] at z
     cases z
 have no:∀ {b:Fe},b≠T->b≠U->(b=a->K.lookup a=none->False)->b≠D->H b=none:=fun {b} n n2 f g=>by
  rcases hH0 b n n2 with z | ⟨⟨z,z2⟩ | z,_⟩
  ·exact z
  ·exact (f z z2).elim
  ·exact (g z).elim
 have nsK:∀ {b:Fe} {m:Str->Option AC},b≠D->s₁.heap.Ns b m->(fV s₁.heap H).Ns b m:=fun {b m} nD ⟨o,es,ep,e,d,r⟩=>by
  refine ⟨o,es,ep,iK e (no (fun z=>?_) (fun z=>?_) (fun z _=>?_) nD),d,r⟩
  ·have:=hT.2
   rw [<- z,e] at this
   cases this
   cases d
  ·have:=hU.2
   rw [<- z,e] at this
   cases this
   cases d
  ·rw [z,ha] at e
   cases e
   cases d
 have hKb:K.In (fV s₁.heap H):=fun b o e=>iK (KX b o e) (no (fun z=>by rw [z,hTK] at e; cases e) (fun z=>by rw [z,hUK] at e; cases e) (fun z z2=>by rw [z,z2] at e; cases e) fun z=>by rw [z,hDK] at e; cases e)
 have hM:Mod K mg (fV s₁.heap H):=⟨hKb,nsK (Gk D1) hns,⟨mb,nsK (Gk D2) hb,hbb⟩,let ⟨mc,h1,h2⟩:=hlim; ⟨mc,nsK (Gk D3) h1,h2⟩⟩
 have e0:jv P w K mg (fV s₁.heap H) callerA [] s₁ H:=⟨rfl,hM,fun _ _ e=>oS e,Ju (ka _ _),trivial,fun b hb=>absurd (show b∈([]:List Fe) from hb) (by simp),hok,.of_eq hg⟩
 refine Hn ((F _ hKb (nsK (Gk D1) hns)).run callerA [] s₁ H ⟨[.ref a],[]⟩ [.ref a] [.ref a] _ _ hr e0 (hbind s₁ (.ref a)) (.cons rfl .nil) (hsp H hHS hGr)) fun r s' h=>?_
 match r,h with
 | .error e,h=>exact (hCX H e s' h).elim
 | .ok .next,h=>exact Gi h
 | .ok .brk,h=>exact Gi h
 | .ok .cont,h=>exact Gi h
 | .ok (.ret u),h =>
  obtain ⟨v,H',os,bare,un,hok',r',q,qT,qU⟩:=h
  subst q
  obtain rfl:u=Ig true:=r'
  obtain ⟨⟨more,eT,_⟩,_,_⟩:=hok' T _ qT
  obtain ⟨⟨more2,eU,_⟩,_,_⟩:=hok' U _ qU
  have kept:∀ b o,s₁.heap.get? b=some o->b≠T->b≠U->s'.heap.get? b=some o:=fun b o e n n2=>by
   rcases hH0 b n n2 with z | ⟨_,ob,ub,z⟩
   ·exact un.keep b o e z (by intro y; exact absurd (show b∈([]:List Fe) from y) (by simp)) (by simp)
   ·have z2:=un.frzs b _ _ z
    obtain ⟨e1,_⟩:=hok b _ z
    obtain ⟨e2,_⟩:=hok' b _ z2
    rw [e] at e1
    cases e1
    exact e2
  refine ⟨rfl,⟨fun b o e=>?_,fun b o e=>?_⟩,os,bare⟩
  ·by_cases z:b=T
   ·subst z
    have:=hT.2
    rw [e] at this
    cases this
    exact .inr (.inl ⟨hT.isCodeTable,rfl,ps,more,rfl,eT⟩)
   ·by_cases z2:b=U
    ·subst z2
     have:=hU.2
     rw [e] at this
     cases this
     exact .inr (.inl ⟨hU.isCodeTable,rfl,qs,more2,rfl,eU⟩)
    ·exact .inl (kept b o e z z2)
  ·by_cases z:b=T
   ·exact ⟨_,by rw [z]; exact eT⟩
   ·by_cases z2:b=U
    ·exact ⟨_,by rw [z2]; exact eU⟩
    ·exact ⟨o,kept b o e z z2⟩
theorem walk_ofT2 {l:W.OpenLaw} {n k:Nat} {q:FG} {loose:List Str} {XP:(Str->Option AC)->GG->Prop} {YP:FU->GG->Prop} {d:DefRec} {K:Gc->FD} {CX:FU->g8} {sp:FU->Sp} {x:Str} {c c2 T U D:Fe} {ps qs:Array AC} {oD:Gc->Obj} {kD:List (Key × V)}
  (hn:l.most=some n) (hn2:n<=sizeLine) (hdf:d.params.defaults=[]) (hr:bh k callerA)
  (hY:∀ (w:FU) (h:GG),YP w h->(K w.params).In h/\h.TableAt c T ps/\h.TableAt c2 U qs/\h.get? D=some (oD w.params)) (hTK:∀ w:FU,(K w.params).lookup T=none) (hUK:∀ w:FU,(K w.params).lookup U=none) (TU:T≠U) (hDK:∀ w:FU,(K w.params).lookup D=none) (hTr:HY ps.toList) (hUr:HY qs.toList)
  (okD:∀ (w:FU) (h:GG) (H:Hp),h.get? D=some (oD w.params)->aJ l.prog w H h D (.dK kD)) (D1:D≠mainGlobals) (D2:D≠builtinsNs) (D3:D≠cStatics)
  (F:∀ (w:FU) (mg:Str->Option AC) (fa:Fe) (h:GG),(K w.params).In h->h.Ns mainGlobals mg->mg d.name=some (.ref fa) ->
   ∃ fd:Fh,(∀ (s:Do) (u:AC),Jv s fd ⟨[u],[]⟩ [(x,u)]) /\
    ∀ base:GG,(K w.params).In base->base.Ns mainGlobals mg->aF l.prog w (K w.params) mg base (CX w) k fa fd [x] (sp w))
  (hsp:∀ (w:FU) (H:Hp) (a:Fe) (ns:List Int),ns.length<=n->av (K w.params) H a (ns.map V.int)->tw T U D ps qs (oD w.params) kD H->sp w [.ref a] H (fun v H'=>v = .bl true/\H' T=some (eY T ps)/\H' U=some (eY U qs)) fun _ _ _=>False)
  (hCX:∀ (w:FU) (H:Hp) (s:Do) (e:AC) (s':Do),CX w [] H s (fun _ _ _=>False) e s'->False) :
  W.WalkO q loose XP YP l.row.toRowW d [] (fun f vs=>J5 f vs):=by
 refine Att.attach_call hn hdf fun w s₀ s₁ mg mb fa o pm cd doc a vs ns G Y ho hd hcd hmg hobj hints hlen hg=>?_
 obtain ⟨KX,tab,tab2,dic⟩:=hY w _ Y
 obtain ⟨fd,hb,hF⟩:=F w mg fa _ KX G.T.g hmg
 exact vU KX G.T.g G.T.b G.T.builtins G.T.nolimit hg hobj hints (FW hlen hn2) hr tab (hTK w) hTr tab2 (hUK w) hUr TU dic (hDK w) (fun H=>okD w _ H dic) D1 D2 D3 hF hb (fun H hS hG=>hsp w H a ns hlen hS hG) fun H e s'=>hCX w H s₁ e s'
theorem iU {A R:FD} {x y:Fe} {o:Obj} (n:x≠y):(A++(y,o)::R).lookup x=(A++R).lookup x:=by
 rw [IS,IS,Gh,beq_eq_false_iff_ne.mpr n]
theorem sY {A R:FD} {x:Fe} {o:Obj} {h:GG} (hin:Kg (A++(x,o)::R) h) (nx:(A++R).lookup x=none):Kg (A++R) h/\h.get? x=some o:=by
 refine ⟨fun b u e=>hin b u ?_,hin x o ?_⟩
 ·rw [iU (fun z=>by rw [z,nx] at e; cases e)]
  exact e
 ·rw [IS] at nx |-
  have ax:A.lookup x=none:=by cases z:A.lookup x with | none=>rfl | some _=>rw [z] at nx; cases nx
  rw [ax,Gh,beq_self_eq_true]
  rfl
theorem in_three {A B C D:FD} {x y z:Fe} {ox oy oz:Obj} {h:GG} (hin:Kg (A++(x,ox)::(B++(y,oy)::(C++(z,oz)::D))) h) (nx:(A++(B++(C++D))).lookup x=none) (ny:(A++(B++(C++D))).lookup y=none) (nz:(A++(B++(C++D))).lookup z=none) (xy:x≠y) (xz:x≠z) (yz:y≠z) :
  Kg (A++(B++(C++D))) h/\h.get? x=some ox/\h.get? y=some oy/\h.get? z=some oz:=by
 have e1:(A++(B++(y,oy)::(C++(z,oz)::D))).lookup x=none:=by
  rw [<- FF,iU xy,<- FF,iU xz]
  simpa only [FF] using nx
 obtain ⟨h1,g1⟩:=sY hin e1
 rw [<- FF] at h1
 have e2:(A++B++(C++(z,oz)::D)).lookup y=none:=by
  rw [<- FF,iU yz]
  simpa only [FF] using ny
 obtain ⟨h2,g2⟩:=sY h1 e2
 rw [<- FF] at h2
 obtain ⟨h3,g3⟩:=sY h2 (by simpa only [FF] using nz)
 exact ⟨by simpa only [FF] using h3,g1,g2,g3⟩
end L2
namespace L2
open PySem PySem.Spec PyProof.Rows
theorem Dr {K:FD} {h:GG} {N:Fe} {m:Str->Option AC} {n:Str} {v:AC} (X:K.In h) (G:h.Ns N m) (e:Fs K N n=some (some v)):m n=some v:=by
 obtain ⟨o,es,ep,ho,hd,_,hf⟩:=G
 unfold Fs at e
 split at e
 ·rename_i q
  have z:=X _ _ q
  rw [ho] at z
  cases z
  cases hd
  split at e
  ·rename_i he
   rw [<- hf]
   unfold nsFind findBy
   rw [<- Array.find?_toList,he]
   exact Fw e
  ·split at e<;>cases e
 ·cases e
noncomputable def sy (K:FD) (C f:Fe):Bool:=match K.lookup C with
 | some ⟨.type "type",_,.cls cd,sl⟩=>(match cd.mro,sl.toList with
  | .ref D::bm,[_,_,_,_,some (.builtin n),_]=>D == C&&(n == "ValueError.__new__"&&(!cd.hasDel&&(W.tailIn K kI bm&&(W.nsOkIn K cd.ns&&Fs K cd.ns "__init__" == some (some (.ref f))))))
  | _,_=>false)
 | _=>false
theorem uo {K:FD} {h:GG} {C f:Fe} (X:K.In h) (q:sy K C f=true):∃ bm N nm qn bs hd sn sub ab col dd k0 k1 k2 k3 k5 mN,
  h.get? C=some (excClassObj nm qn C N bs bm hd sn sub ab col dd k0 k1 k2 k3 k5 "ValueError.__new__")/\h.Ns N mN/\mN "__init__" = some (.ref f)/\OwnTail h kI bm:=by
 unfold sy at q
 split at q
 ·rename_i dd cd sl ho
  split at q
  ·rename_i C' bm k0 k1 k2 k3 n k5 hm hs
   simp only [FY,beq_iff_eq,Ij] at q
   obtain ⟨rfl,rfl,hdel,ht,hok,hi⟩:=q
   obtain ⟨nm,bs,mro,ns,qn,hd,sn,sub,ab,col,del⟩:=cd
   have hsl:sl = #[k0,k1,k2,k3,some (.builtin "ValueError.__new__"),k5]:=by rw [<- hs]
   have hdel':del=false:=hdel
   have hm':mro = .ref C'::bm:=hm
   subst hm' hdel' hsl
   have hns:=Heap.Ns.of_isNs (W.isNs_of_in X hok)
   exact ⟨bm,ns,nm,qn,bs,hd,sn,sub,ab,col,dd,k0,k1,k2,k3,k5,_,X _ _ ho,hns,Dr X hns hi,W.tail_of_in X ht⟩
  ·cases q
 ·cases q
section
variable {prog:FG} {w:FU} {A:Gd} {E:AC->Do->Prop} {h:GG} {g:Array JR} {d:Drawn} {t:Nat} {os:HG}
variable {nm q:Str} {C N f:Fe} {bs bm:List AC} {hdct:Bool} {sn:List Str} {sub:List AC} {ab:Bool} {col:Option Bool} {dd:Option Fe} {k0 k1 k2 k3 k5:Option AC}
theorem xk {mN:Str->Option AC} {rest:List AC} {oI:Obj} {Q:AC->Do->Prop} (hC:h.get? C=some (excClassObj nm q C N bs bm hdct sn sub ab col dd k0 k1 k2 k3 k5 "ValueError.__new__")) (hn:h.Ns N mN) (hi:mN "__init__" = some (.ref f))
  (T:OwnTail h kI bm) (hf:h.get? f=some oI) (hfc:oI.cls = .type "function") (hl:rest.length<=sizeLine)
  (hq:∀ h' e a0,(∀ b o,h.get? b=some o->h'.get? b=some o)->h.objs.size<=e->h'.get? e=some { cls:=.ref C,data:=.fields #[.ref a0,.none,.none,.none,.bool false,.none] } ->
   wpAny (model prog w) (A.under (.builtin "type.__call__" ⟨.ref C::rest,[]⟩)) (call (.ref f) (.ref e::rest)) (fun r s'=>r = .none/\Q (.ref e) s') E ⟨h',g,d,t,os⟩) :
  wpAny (model prog w) A (call (.ref C) rest) Q E ⟨h,g,d,t,os⟩:=by
 have F:=GJ
 have f1:=tc_lookup
 have f2:=tc_bind (.ref C)
 have hT:(⟨h,g,d,t,os⟩:Do).TypeIs (.ref C) "type":=⟨_,hC,rfl⟩
 refine Ii (codeAny_of_tree ?_)
 show wpAny _ _ (callAny (.ref C) _) _ _ _
 repeat (any_goals (first | assumption | with_reducible refine HD hC ?_ | wp_step))
 refine ⟨rfl,codeAny_call_builtin_at (IR _ (by decide +kernel)) entry_typeCall (wpAny_check_type_call_sub hC ?_)⟩
 repeat (first | with_reducible refine HD hC ?_ | with_reducible refine wpAny_madeBy_exc hC ?_ | wp_step)
 refine codeAny_call_builtin_code (IR _ F.quiet) (wpAny_check_new_subT F T hC (codeAny_exc_new_subT F T hC ?_ hl))
 show wpAny _ _ _ _ _ (⟨(h.push { cls:=.type "tuple",data:=.seq rest.toArray }).push { cls:=.ref C,data:=.fields #[.ref h.objs.size,.none,.none,.none,.bool false,.none] },g,d,t,os⟩:Do)
 generalize hh1:(h.push { cls:=.type "tuple",data:=.seq rest.toArray }).push { cls:=.ref C,data:=.fields #[.ref h.objs.size,.none,.none,.none,.bool false,.none] }=h1
 have kp:∀ b o,h.get? b=some o->h1.get? b=some o:=fun b o e=>by rw [<- hh1]; exact Fd _ (Fd _ e)
 have hget:h1.get? (h.objs.size+1)=some { cls:=.ref C,data:=.fields #[.ref h.objs.size,.none,.none,.none,.bool false,.none] }:=by rw [<- hh1]; heap_get
 have hC1:=kp _ _ hC
 have hf1:=kp _ _ hf
 have hn1:=hn.keeps kp
 have hcC:(Fv C::bm).contains (.ref C)=true:=by simp
 unfold isInstance
 repeat (first | with_reducible refine HD hget ?_ | (with_reducible refine wpAny_isSubtype_exc hC1 ?_; rw [hcC]) | wp_step)
 show wpAny _ _ (typeLookup (.ref C) _) _ _ _
 refine wpAny_typeLookup_tail hC1 hn1 (T.keeps kp) F.mroIs F.init.lookup ?_
 rw [hi]
 refine Gf (Da ?_)
 unfold bindSpecial
 refine Da (wpAny_typeOf (T:="function") ⟨_,hf1,hfc⟩ ?_)
 rw [if_pos (by decide)]
 refine Ft (Da (Gu (hq h1 (h.objs.size+1) _ kp (GB _) hget) (fun r s' hr=>?_) fun _ _ x=>x))
 obtain ⟨rfl,hQ⟩:=hr
 wp_walk
 exact hQ
end
end L2
namespace L2
open PySem PySem.Spec PyProof.Rows
section
variable {prog:FG} {w:FU} {A:Gd} {E:AC->Do->Prop} {s:Do} {env:Env}
variable {nm q:Str} {C N f:Fe} {bs bm:List AC} {hdct:Bool} {sn:List Str} {sub:List AC} {ab:Bool} {col:Option Bool} {dd:Option Fe} {k0 k1 k2 k3 k5:Option AC}
theorem xU {x:Sem AC} {Q:Flow->Do->Prop} (hb:bm.contains (.type "BaseException")=true) (hh:A.handled=none)
  (h:wpAny (model prog w) A x (fun v s1=>∃ e od a0,v = .ref e/\s1.heap.get? C=some (excClassObj nm q C N bs bm hdct sn sub ab col dd k0 k1 k2 k3 k5 "ValueError.__new__")/\s1.heap.get? e=some { cls:=.ref C,dict:=od,data:=.fields #[.ref a0,.none,.none,.none,.bool false,.none] }/\E (.ref e) s1) E s) :
  wpAny (model prog w) A (raiseStmt env (some x) none) Q E s:=by
 have hcB:(Fv C::bm).contains (.type "BaseException")=true:=by rw [List.contains_cons,hb,Bool.or_true]
 unfold raiseStmt
 refine Da (Gu h (fun v s1 h1=>?_) fun _ _ x=>x)
 obtain ⟨e,od,a0,rfl,hC,he,hE⟩:=h1
 obtain ⟨hp,g,d,tk,os⟩:=s1
 repeat (first | with_reducible refine HD he ?_ | with_reducible refine HD hC ?_ | (with_reducible refine wpAny_isSubtype_exc hC ?_; rw [hcB]) | wp_step)
 exact wpAny_raiseNew_none hh hE
theorem tN {mN:Str->Option AC} {x:Str} {np cpos pos:Pos} {args:List Gv} {Q:Flow->Do->Prop} (hb:bm.contains (.type "BaseException")=true) (hh:A.handled=none) (hpl:(backTo cpos (starEach args env)).any (·.1)=false) (hi:mN "__init__" = some (.ref f))
  (h:wpAny (model prog w) A (eval (.Name x np) env) (fun v s1=>v = .ref C/\wpAny (model prog w) A (evalArgs (.ref C) true (backTo cpos (starEach args env)) [])
   (fun a s2=>a.kw=[]/\a.pos.length<=sizeLine/\s2.heap.get? C=some (excClassObj nm q C N bs bm hdct sn sub ab col dd k0 k1 k2 k3 k5 "ValueError.__new__")/\s2.heap.Ns N mN/\OwnTail s2.heap kI bm/\(∃ oI,s2.heap.get? f=some oI/\oI.cls = .type "function") /\
    ∀ h' e a0,(∀ b o,s2.heap.get? b=some o->h'.get? b=some o)->s2.heap.objs.size<=e->h'.get? e=some { cls:=.ref C,data:=.fields #[.ref a0,.none,.none,.none,.bool false,.none] } ->
     wpAny (model prog w) (A.under (.builtin "type.__call__" ⟨.ref C::a.pos,[]⟩)) (call (.ref f) (.ref e::a.pos)) (fun r s3=>r = .none/\s3.heap.get? C=some (excClassObj nm q C N bs bm hdct sn sub ab col dd k0 k1 k2 k3 k5 "ValueError.__new__")/\(∃ od a0,s3.heap.get? e=some { cls:=.ref C,dict:=od,data:=.fields #[.ref a0,.none,.none,.none,.bool false,.none] })/\E (.ref e) s3) E { s2 with heap:=h' }) E s1) E s) :
  wpAny (model prog w) A (exec (.Raise (some (.Call (.Name x np) args [] cpos)) none pos) env) Q E s:=by
 rw [arm_exec_Raise]
 refine Da (Ho (xU (C:=C) (nm:=nm) (q:=q) (N:=N) (bs:=bs) (bm:=bm) (hdct:=hdct) (sn:=sn) (sub:=sub) (ab:=ab) (col:=col) (dd:=dd) (k0:=k0) (k1:=k1) (k2:=k2) (k3:=k3) (k5:=k5) hb hh (Da (Gu (wpAny_Call_ofName (Gu h (fun v s1 h1=>?_) fun _ _ x=>x)) (fun v s3 h3=>Da (Ho (Ft h3))) fun _ _ x=>x))))
 obtain ⟨rfl,h1⟩:=h1
 unfold callWith
 refine Da (Gf (Gu h1 (fun a s2 h2=>Da (Ho ?_)) fun _ _ x=>x))
 obtain ⟨apos,akw⟩:=a
 obtain ⟨hkw,hlen,hC,hn,T,⟨oI,hf,hfc⟩,h2⟩:=h2
 obtain rfl:akw=[]:=hkw
 obtain ⟨hp,g,d,tk,os⟩:=s2
 simp only [hpl]
 refine Da (wpAny_keeperOf_exc hC ?_)
 refine Da (xk hC hn hi T hf hfc hlen fun h' e a0 z1 z2 z3=>?_)
 refine Gu (h2 h' e a0 z1 z2 z3) (fun r s3 ⟨hr,hC3,⟨od,a0,he⟩,hE⟩=>⟨hr,Da (Gf (wpAny_point (Ft ⟨e,od,a0,rfl,hC3,he,hE⟩)))⟩) fun _ _ z=>z
end
section
variable {prog:FG} {w:FU} {A:Gd} {E:AC->Do->Prop} {h:GG} {g:Array JR} {d:Drawn} {t:Nat} {os:HG}
variable {nm q:Str} {C N e:Fe} {bs bm:List AC} {hdct:Bool} {sn:List Str} {sub:List AC} {ab:Bool} {col:Option Bool} {dd:Option Fe} {k0 k1 k2 k3 k5:Option AC}
theorem init_exc {a0:Fe} {v:AC} {Q:AC->Do->Prop} (hC:h.get? C=some (excClassObj nm q C N bs bm hdct sn sub ab col dd k0 k1 k2 k3 k5 "ValueError.__new__")) (T:OwnTail h kI bm)
  (he:h.get? e=some { cls:=.ref C,data:=.fields #[.ref a0,.none,.none,.none,.bool false,.none] })
  (hq:∀ h' a1,(∀ b o,b≠e->h.get? b=some o->h'.get? b=some o)->h'.get? e=some { cls:=.ref C,data:=.fields #[.ref a1,.none,.none,.none,.bool false,.none] }->Q .none ⟨h',g,d,t,os⟩) :
  wpAny (model prog w) A (call (.builtin "ValueError.__init__") [.ref e,v]) Q E ⟨h,g,d,t,os⟩:=by
 have F:=GJ
 refine Ii (Hj F.init.plain F.initEntry (wpAny_check_init_subT F T hC he rfl ?_))
 wp_walk
 refine hq _ h.objs.size (fun b o n z=>(Fq _ _ (Gk n)).trans (Fd _ z)) ?_
 rw [F0 _ (Fd _ he) rfl]
 rfl
end
end L2
namespace L2
open PySem PySem.Spec PyProof.Rows
noncomputable def jL:List AC->Bool
 | .ref _::r=>jL r
 | l=>l == kI
noncomputable def nU (K:FD) (C:Fe):Bool:=(W.clsIn K C).any fun cd=>jL cd.mro
theorem jJ {l:List AC} (h:jL l=true):l=kI\/∃ a r,l = .ref a::r/\jL r=true:=by
 unfold jL at h
 split at h
 ·rename_i a r
  exact .inr ⟨a,r,rfl,h⟩
 ·exact .inl (beq_iff_eq.mp h)
theorem qp (self:AC):∀ {l:List AC},jL l=true->refuseLoop self "__setattr__" l=pure ()
 | l,e=>by
  rcases jJ e with rfl | ⟨a,r,rfl,z⟩
  ·exact PySem.F.store_ValueError.passes self
  ·rw [refuseLoop_ref]
   exact qp self z
 termination_by l=>l.length
theorem rL {T:String} (hT:kI.contains (.type T)=true):∀ {l:List AC},jL l=true->l.contains (.type T)=true
 | l,e=>by
  rcases jJ e with rfl | ⟨a,r,rfl,z⟩
  ·exact hT
  ·rw [List.contains_cons,rL hT z,Bool.or_true]
 termination_by l=>l.length
section
variable {prog:FG} {w:FU} {A:Gd} {E:AC->Do->Prop} {s:Do} {K:FD} {e C:Fe} {a0:Fe} {name:Str} {v:AC}
theorem zM {Q:Unit->Do->Prop} (X:K.In s.heap) (he:s.heap.get? e=some { cls:=.ref C,data:=.fields #[.ref a0,.none,.none,.none,.bool false,.none] })
  (hs:FT K (.ref C) "__setattr__" = some (some (.builtin "object.__setattr__"))) (hp:nU K C=true) (ht:W.takerIn K C name=some none) (hh:GZ K C=true)
  (h:∀ h' dx t',h'.Ns1 dx (fun y=>if y=name then some v else none)->s.heap.get? dx=none->s.heap.objs.size<=dx->dx≠e->h'.get? e=some { cls:=.ref C,dict:=some dx,data:=.fields #[.ref a0,.none,.none,.none,.bool false,.none] }->(∀ b o,b≠e->s.heap.get? b=some o->h'.get? b=some o)->Q () { s with heap:=h',toks:=t' }) :
  wpAny (model prog w) A (setAttr (.ref e) name v) Q E s:=by
 have J:W.InstAt s.heap e { cls:=.ref C,data:=.fields #[.ref a0,.none,.none,.none,.bool false,.none] } C none:=⟨he,rfl,rfl,trivial⟩
 have SF:=PySem.F.store_object
 refine W.set_plain X J hs ?_
 obtain ⟨cd,hc,ho⟩:=W.any_some hp
 have ne:cd.mro.isEmpty=false:=by
  rcases jJ ho with z | ⟨a,r,z,_⟩<;>rw [z]<;>rfl
 have sub:W.Looks (model prog w) s.heap (isInstance (.ref e) (.type "object")) true:=J.type.andThen (W.looks_mroIn X (by unfold W.mroIn; rw [hc,Jn,if_neg (by rw [ne]; decide),rL (by decide +kernel) ho]))
 refine Hj SF.slot.plain SF.entry (@W.check_slot (model prog w) _ _ { s with toks:=s.toks+1 } "object.__setattr__" "object" "__setattr__" (.ref e) [.str name s.toks,v] [] _ SF.kind SF.split sub (SF.args (.ref e) (.str name s.toks) v) ?_)
 obtain ⟨attr,ha,hr⟩:=Option.bind_eq_some_iff.mp ht
 have hm:W.Looks (model prog w) s.heap (mroOf (.ref C)) cd.mro:=(W.looks_clsIn X hc).andThen .now
 have L3:W.Looks (model prog w) s.heap (Builtin.ObjectAttr.storeTaker? attr) none:=by
  cases attr with
  | none=>exact .now
  | some a =>
   obtain ⟨b,hb,hz⟩:=Ie.mp hr
   refine (W.looks_takesIn X hb).andThen ?_
   cases b
   ·exact .now
   ·cases hz
 rw [W.osa_eq,refuse_eq]
 refine Da (Da (J.type.here (s:={ s with toks:=s.toks+1 }) (Da (hm.here (s:={ s with toks:=s.toks+1 }) ?_))))
 rw [qp _ ho]
 refine Ft (Da (J.type.here (s:={ s with toks:=s.toks+1 }) (Da ((JK X ha).here (s:={ s with toks:=s.toks+1 }) (Da (L3.here (s:={ s with toks:=s.toks+1 }) ?_))))))
 obtain ⟨cd',hc',hd'⟩:=W.any_some hh
 refine Da (Ft (Da (Da (wpAny_loadPart he (Da (W.Looks.here (s:={ s with toks:=s.toks+1 }) (W.looks_clsIn X hc') ?_))))))
 rw [hd']
 obtain ⟨hp0,g,dr,tk,os⟩:=s
 have hx1:(hp0.push { cls:=.type "dict",data:=.dict #[] }).get? e=some { cls:=.ref C,data:=.fields #[.ref a0,.none,.none,.none,.bool false,.none] }:=Fd _ he
 have hxs:e≠hp0.objs.size:=FV (Fi he)
 refine Da (wpAny_alloc' (Da (wpAny_update' hx1 ?_)))
 refine Ft (a:=some hp0.objs.size) ?_
 show wpAny _ _ (Builtin.ObjectAttr.storeInDict hp0.objs.size (.str name tk) name v) _ _ _
 generalize hh2:(hp0.push { cls:=.type "dict",data:=.dict #[] }).update e _=h2
 have kp:∀ b o,b≠e->hp0.get? b=some o->h2.get? b=some o:=fun b o n z=>by
  rw [<- hh2]
  exact (Fq _ _ (Gk n)).trans (Fd _ z)
 have ed:h2.get? hp0.objs.size=some { cls:=.type "dict",data:=.dict #[] }:=by
  rw [<- hh2]
  exact (Fq _ _ hxs).trans (Heap.get?_push_at rfl rfl)
 have ee:h2.get? e=some { cls:=.ref C,dict:=some hp0.objs.size,data:=.fields #[.ref a0,.none,.none,.none,.bool false,.none] }:=by
  rw [<- hh2,F0 _ hx1 rfl]
 have hnd:h2.Ns hp0.objs.size (fun _=>none):=⟨_,#[],_,ed,rfl,fun z hz=>absurd hz (by simp),fun _=>rfl⟩
 unfold Builtin.ObjectAttr.storeInDict Builtin.ObjectAttr.newKeyGuard
 refine Da (Ft (Da (wpAny_nsSet1 (J1 hnd) fun h3 hn3 hs3=>?_)))
 obtain ⟨oD,esD,epD,hoD,hdD,hcD⟩:=hn3.count (Within.cons name v Within.nil)
 refine Da (wpAny_lookBehind hoD (by rw [hdD]; exact pastItsLine_dict (FW hcD (by rw [Gg,HW,HK]; omega))) ?_)
 refine Ft (h h3 hp0.objs.size _ hn3 (GP (Fg _)) (Fg _) (Gk hxs) ((hs3.2 e hxs).trans ee) fun b o n z=>(hs3.2 b (FV (Fi z))).trans (kp b o n z))
theorem Ao {ox:Obj} {od:Option Obj} {expr:Bool} {Q:AC->Do->Prop} (X:K.In s.heap) (I:W.InstAt s.heap e ox C od) (hga:FT K (.ref C) "__getattribute__" = some (some (.builtin "BaseException.__getattribute__"))) (hk:FT K (.ref C) "__getattr__" = some none) (hp:nU K C=true)
  (hf:W.findObj K C od name=some (.value v)) (hv:W.handedIn v=true) (h:∀ t',Q v { s with toks:=t' }):wpAny (model prog w) A (getAttr (.ref e) name expr) Q E s:=by
 obtain ⟨hh',g,d,t,os⟩:=s
 have L0:=I.type (M:=model prog w)
 have L1:=JK (M:=model prog w) X hga
 have L2:=JK (M:=model prog w) X hk
 have L3:=W.looks_find (M:=model prog w) X I hf
 obtain ⟨cd,hc,ho⟩:=W.any_some hp
 have ne:cd.mro.isEmpty=false:=by
  rcases jJ ho with z | ⟨a,r,z,_⟩<;>rw [z]<;>rfl
 have sub:W.Looks (model prog w) hh' (isInstance (.ref e) (.type "BaseException")) true:=I.type.andThen (W.looks_mroIn X (by unfold W.mroIn; rw [hc,Jn,if_neg (by rw [ne]; decide),rL (by decide +kernel) ho]))
 unfold getAttr getAttrBy
 refine Da (wpAny_mkText (Gf (Da (L0.at (Da (L1.at ?_))))))
 show wpAny _ _ (getAttrByItsOwn _ _ _ _ _ _) _ _ _
 unfold getAttrByItsOwn hookBefore
 refine Da ?_
 rw [if_pos (show onTheHeap (Fv C)=true from rfl)]
 refine L2.at (Da ?_)
 have FX:=PySem.F.excAttr_ValueError
 have hx0:(expr&&onTheHeap (Value.builtin "BaseException.__getattribute__"))=false:=by cases expr<;>rfl
 refine wpAny_attempt (Gf ?_)
 unfold callGetattribute
 rw [hx0,if_neg FC]
 unfold boundAndCalled
 rw [FX.ga.bind]
 refine Da (Ft (Ii (Hj FX.ga.plain Jy (@W.check_slot (model prog w) _ _ _ "BaseException.__getattribute__" "BaseException" "__getattribute__" (.ref e) [.str name t] [] _ (by decide +kernel) (by decide +kernel) sub (JJ _ _) ?_))))
 refine Da (Ft (Da (Ft (Da (L0.at (Da (L3.at ?_)))))))
 refine Ft ?_
 show wpAny _ _ (handedOut v) _ _ _
 rw [W.handedOut_of hv]
 exact Ft (h _)
end
end L2
namespace L2
open PySem PySem.Spec PyProof.Rows
noncomputable def gf (e:Fe) (cls:AC) (od:Option Fe):HO:=.ext fun h=>∃ a0:Fe,h.get? e=some { cls:=cls,dict:=od,data:=.fields #[.ref a0,.none,.none,.none,.bool false,.none] }
theorem pJ {P:FG} {w:FU} {H:Hp} {h:GG} {e a0:Fe} {cls:AC} {od:Option Fe} (he:h.get? e=some { cls:=cls,dict:=od,data:=.fields #[.ref a0,.none,.none,.none,.bool false,.none] }):aJ P w H h e (gf e cls od) :=
 ⟨⟨a0,he⟩,⟨_,he⟩,fun _ _ ⟨a,q⟩ k=>⟨a,k _ q⟩⟩
noncomputable def fI (e:Fe) (cls:AC) (od:Option Fe):HO:=.ext fun h=>∃ o,h.get? e=some o/\(o.cls=cls/\∃ vs,o.data = .fields vs)/\∀ d,od=some d->o.dict=some d
structure zo (K:FD) (C f:Fe):Prop where
 j:sy K C f=true
 ga:FT K (.ref C) "__getattribute__" = some (some (.builtin "BaseException.__getattribute__"))
 gk:FT K (.ref C) "__getattr__" = some none
 vo:nU K C=true
 hd:GZ K C=true
 sa:FT K (.ref C) "__setattr__" = some (some (.builtin "object.__setattr__"))
 fn:IT K (.ref f)=true
structure B4 (K:FD) (C:Fe):Prop where
 hg:Jj K (.ref C) "__getattribute__" = some (some (.builtin "type.__getattribute__"))
 rd:JX K C (.type "type")=true
 at_:Jz K (.ref C) (.type "type") "__init__" = some (.val (.builtin "ValueError.__init__"))
section
variable {X:Cx} {pins:List (Fe × Obj)} {σ:St} {H:Hp} {s:Do}
theorem Inv.drop {e:Fe} {φ:GG->Prop} (I:Inv X pins σ H s) (he:H e=some (.ext φ)):Inv X pins σ (fun b=>if b=e then none else H b) s:=by
 have at_:∀ b u,H b=some u->(∀ ψ,u≠.ext ψ)->(if b=e then none else H b)=some u:=fun b u q n=>by
  rw [if_neg (fun z=>by rw [z,he] at q; exact n φ (Fw q).symm)]
  exact q
 have no:∀ b,H b=none->(if b=e then none else H b)=none:=fun b q=>by
  split
  ·rfl
  ·exact q
 refine ⟨I.ok,I.os,I.bare,⟨I.base.keep,I.base.slot,fun b ob q n hx=>no b (I.base.free b ob q n hx),I.base.there,fun b xs q=>at_ b _ (I.base.tups b xs q) (fun _ z=>by cases z),fun b ob u q=>at_ b _ (I.base.frzs b ob u q) (fun _ z=>by cases z),fun b ps q=>?_⟩,I.loc,I.cell,no _ I.free,fun x c q=>no _ (I.freeC x c q),fun p hp=>?_,fun b u q=>?_,I.len⟩
 ·obtain ⟨m,z⟩:=I.base.tbls b ps q
  exact ⟨m,at_ b _ z (fun _ z=>by cases z)⟩
 ·obtain ⟨z,n,r⟩:=I.pin p hp
  exact ⟨z,no _ n,r⟩
 ·split at q
  ·cases q
  ·exact (I.hok b u q).stay (fun _ _ _ x=>x) (fun c x=>at_ c _ x (fun _ z=>by cases z)) fun c xs x=>at_ c _ x (fun _ z=>by cases z)
end
noncomputable def A2 (K:FD) (t:TA):TE:=fun σ H Q=>t σ H fun vs H1=>∃ e C f v,vs=[.ref e,v]/\H1 e=some (gf e (.ref C) none)/\sy K C f=true/\Q .non H1
noncomputable def Dj (K:FD) (ta tv:TE) (f:Str):TS:=fun D σ H=>tv σ H fun y H1=>ta σ H1 fun x H2=>∃ e C g,x = .ref e/\H2 e=some (gf e (.ref C) none)/\zo K C g/\aM K C f /\
 ∀ d,H2 d=none->D.nx σ (upd (upd H2 d (.xd [(f,y)])) e (gf e (.ref C) (some d)))
noncomputable def zB (E:XK) (C:Fe) (sp:Sp) (t:TA):TS:=fun _ σ H=>t σ H fun vs H1=>vs.length<=sizeLine/\∀ e,H1 e=none->sp (.ref e::vs) (upd H1 e (gf e (.ref C) none))
 (fun r H2=>r = .non/\∃ d,H2 e=some (gf e (.ref C) (some d))/\E (.ref C) (some d) (fun b=>if b=e then none else H2 b)) E0
noncomputable def zm (K:FD) (ta:TE) (f:Str):TE:=fun σ H Q=>ta σ H fun x H1=>∃ a C g d fs v,x = .ref a/\H1 a=some (fI a (.ref C) (some d))/\H1 d=some (.xd fs)/\zo K C g/\aM K C f/\fs.lookup f=some v/\Q v H1
section
variable {X:Cx} {o value:Gv} {f:Str} {pos pos':Pos} {ta tv:TE}
theorem yq {x:Str} {B:Fe} {p apos:Pos} {e:Gv} {es:List Gv} {t:TA} {pl:Sem Bool} (hm:X.mg x=some (.ref B)) (M:B4 X.K B) (ha:PA X (e::es) t) (hg:Gl X x:=by rfl)
  (hdb:(x == ("__debug__" : Str))=false:=by decide) (hst:starEach (e::es) X.env=(false,eval e X.env)::starEach es X.env:=by rfl) (hpl:(backTo pos (starEach es X.env)).any (·.1)=false:=by rfl)
  (ht:eval (.Call (.Attribute (.Name x p) "__init__" apos) (e::es) [] pos) X.env=(do
   let ov <- eval (.Name x p) X.env
   standAt apos.atName
   let (f,first) <- holding [ov] (getMethod ov "__init__" pl)
   callWith pos f first (backTo pos (starEach (e::es) X.env)) (backToKw pos (keywordEach [] X.env))):=by rfl) :
  PE X (.Call (.Attribute (.Name x p) "__init__" apos) (e::es) [] pos) (A2 X.K t):=by
 intro pins s σ H Q I h
 refine W.methodCall_KW (pl:=pl) (du I hg hm ?_ hdb) ht
 refine W.method_cls I.kIn M.hg (W.cls_value I.kIn M.rd M.at_ rfl ?_)
 have I1:Inv X pins σ H { s with toks:=s.toks+1 }:=I.tok _
 have hA:=ha pos pins _ σ H _ I1 h
 rw [hst] at hA |-
 refine Hu (by show (false || (backTo pos (starEach es X.env)).any (·.1))=false; rw [hpl]<;>rfl) (GR (aB hA fun us s2 ⟨vs,H2,I2,r2,ea,C,g,v,ev,he,hj,q⟩=>?_))
 subst ev
 obtain ⟨u,w2,rfl,r1,r3⟩:=vals2 r2
 cases (show u=Fv ea from r1)
 obtain ⟨⟨t0,e1⟩,_,_⟩:=(show aJ X.prog X.w H2 s2.heap ea (gf ea (.ref C) none) from I2.hok ea _ he)
 obtain ⟨bm,N,nm,qn,bs,hd',sn,sub,ab,col,dd,k0,k1,k2,k3,k5,mN,hC,hN,hi,TL⟩:=uo I2.kIn hj
 obtain ⟨hh,gg,d,tk,os⟩:=s2
 refine init_exc hC TL e1 fun h' a1 kp e2=>⟨.non,H2,?_,rfl,q⟩
 have J:=I2.write (x:=ea) (e:=ea) (o:=gf ea (.ref C) none) (h':=h') (t':=tk) (by rw [he]; exact trivial) (.inl rfl) (fun b u n z=>kp b u n z) ⟨_,e2⟩ (pJ e2)
 rw [xh he] at J
 exact J
theorem zL (ha:PE X o ta) (hv:PE X value tv) (hs:swapsWith value (some (.Attribute o f pos')) pos.line X.env=pure false):PS X (.Assign [.Attribute o f pos'] value pos) (Dj X.K ta tv f):=by
 intro pins s σ H D I h
 refine Ih (aB (hv pins s σ H _ I h) fun u s1 ⟨y,H1,I1,ry,q⟩=>aB (ha pins s1 σ H1 _ I1 q) fun ov s2 ⟨x,H2,I2,rx,e,C,g,ex,ea,c,n,q2⟩=>?_) hs
 subst ex
 obtain rfl:ov=Fv e:=rx
 obtain ⟨⟨t0,e1⟩,_,_⟩:=(show aJ X.prog X.w H2 s2.heap e (gf e (.ref C) none) from I2.hok e _ ea)
 refine zM I2.kIn e1 c.sa c.vo n.taker c.hd fun h' dx t' n1 dn dl dne e2 kp=>⟨σ,_,?_,q2 dx (I2.hok.none dn)⟩
 have z1:(h'.update e fun _=>{ cls:=.ref C,data:=.fields #[.ref t0,.none,.none,.none,.bool false,.none] }).get? e=some { cls:=.ref C,data:=.fields #[.ref t0,.none,.none,.none,.bool false,.none] }:=F0 _ e2 rfl
 have z2:∀ b,b≠e->(h'.update e fun _=>{ cls:=.ref C,data:=.fields #[.ref t0,.none,.none,.none,.bool false,.none] }).get? b=h'.get? b:=fun b n=>Fq _ _ (Gk n)
 have J:=I2.laid (a:=dx) (o:=.xd [(f,y)]) (h':=h'.update e fun _=>{ cls:=.ref C,data:=.fields #[.ref t0,.none,.none,.none,.bool false,.none] }) (t':=t') (fun b o z=>?_) dl ⟨_,n1.at fun o z=>(z2 dx dne).trans z,fun g=>?_⟩
 ·have ne2:e≠dx:=Gk dne
  exact J.write (x:=e) (e:=e) (o:=gf e (.ref C) (some dx)) (t':=t') (by rw [aq ne2,ea]; exact trivial) (.inl rfl) (fun b u n z=>(z2 b n).symm.trans z) ⟨_,e2⟩ (pJ e2)
 ·by_cases n:b=e
  ·subst n
   rw [e1] at z
   cases z
   exact z1
  ·exact (z2 b n).trans (kp b o n z)
 ·show eB (Hg g [(f,y)]) (if g=f then some u else none)
  by_cases z:g=f
  ·have hb:(g == f)=true:=beq_iff_eq.mpr z
   simp only [Hg,hb,if_pos z]
   exact ry
  ·have hb:(g == f)=false:=beq_eq_false_iff_ne.mpr z
   simp only [Hg,hb,if_neg z]
   exact trivial
theorem zP {e:Gv} (he:PE X e ta) (hb:attributeBase e f X.env (eval e X.env)=eval e X.env):PE X (.Attribute e f pos) (zm X.K ta f):=by
 intro pins s σ H Q I h
 refine uF hb (aB (he pins s σ H _ I h) fun u s1 ⟨x,H1,I1,rx,a,C,g,d,fs,v,ex,ea,ed,c,n,l,q⟩=>?_)
 subst ex
 obtain rfl:u=Fv a:=rx
 obtain ⟨⟨ox,o1,⟨o2,vs,o3⟩,o4⟩,_,_⟩:=(show aJ X.prog X.w H1 s1.heap a (fI a (.ref C) (some d)) from I1.hok a _ ea)
 obtain ⟨mA,n1,rel⟩:=(show aJ X.prog X.w H1 s1.heap d (.xd fs) from I1.hok d _ ed)
 obtain ⟨w2,hu,ru⟩:=eB.some_of (v:=v) (o:=mA f) (by rw [<- l]; exact rel f)
 obtain ⟨od,ho,hl⟩:=qr n1
 have J:W.InstAt s1.heap a ox C (some od):=⟨o1,o2,by unfold W.notCls; rw [o3],by rw [o4 d rfl]; exact ho⟩
 exact Ao I1.kIn J c.ga c.gk c.vo (W.findObj_own c.hd n rfl (by rw [hl,hu])) (qq ru) fun t'=>⟨v,H1,I1.tok _,ru,q⟩
theorem yo {K:FD} {e:Gv} (hK:X.K=K) (he:PE X e ta) (hb:attributeBase e f X.env (eval e X.env)=eval e X.env):PE X (.Attribute e f pos) (zm K ta f):=by
 subst hK
 exact zP he hb
end
end L2
namespace L2
open PySem PySem.Spec PyProof.Rows
theorem qh {X:Cx} {E:XK} {C f:Fe} {fd:Fh} {ps:List Str} {sp:Sp} {j k:Nat} {x:Str} {np cpos pos:Pos} {a:Gv} {ta:TA} (T:uh X E) (O:zo X.K C f) (D:bq X.prog X.w X.K X.mg X.base ps j sp f fd) (hr:bh k X.A) (hm:X.mg x=some (.ref C)) (ha:PA X [a] ta) (hjk:j+1<=k:=by decide) (hg:Gl X x:=by rfl) (hc:X.calm=true:=by rfl)
  (hs:starEach [a] X.env=[(false,eval a X.env)]:=by rfl) (hd:(x == ("__debug__" : Str))=false:=by decide):PS X (.Raise (some (.Call (.Name x np) [a] [] cpos)) none pos) (zB E C sp ta):=by
 intro pins s σ H Dn I h
 obtain ⟨bm,N,nm,qn,bs,hd',sn,sub,ab,col,dd,k0,k1,k2,k3,k5,mN,hC,hN,hi,TL⟩:=uo I.ok.mod.kin O.j
 obtain ⟨oI,hf,hfc⟩:∃ oI,X.base.get? f=some oI/\oI.cls = .type "function":=by
  obtain ⟨o,ho,hc⟩:=Ie.mp (show (X.K.lookup f).map (·.cls)=some (.type "function") from beq_iff_eq.mp O.fn)
  exact ⟨o,I.ok.mod.kin f o ho,hc⟩
 refine tN (C:=C) (nm:=nm) (q:=qn) (N:=N) (bs:=bs) (bm:=bm) (hdct:=hd') (sn:=sn) (sub:=sub) (ab:=ab) (col:=col) (dd:=dd) (k0:=k0) (k1:=k1) (k2:=k2) (k3:=k3) (k5:=k5)
  (mN:=mN) (f:=f) (TL.hasType GJ.hasBase) (I.ok.hd hc) (by rw [hs]; rfl) hi (du I hg hm ⟨rfl,?_⟩ hd)
 have p:=ha cpos pins s σ H _ I h
 rw [hs] at p |-
 refine GR (aB p fun us s1 ⟨vs,H1,I1,r,ql,q⟩=>⟨rfl,by rw [<- r.length]; exact ql,I1.bk _ _ hC,hN.keeps I1.bk,TL.keeps I1.bk,⟨oI,I1.bk _ _ hf,hfc⟩,fun h' e a0 kp el ee=>?_⟩)
 have en:s1.heap.get? e=none:=GP el
 have n0:=(I1.ours T.ex en).1
 have q':=q e (I1.hok.none en)
 have I2:Inv X pins σ (upd H1 e (gf e (.ref C) none)) { s1 with heap:=h' }:=I1.laid (t':=s1.toks) kp el (pJ ee)
 have r2:Vals (V.ref e::vs) (Fv e::us):=.cons rfl r
 have hl:(Fv e::us).length=ps.length:=by rw [<- r2.length]; exact D.ok.len _ _ _ _ q'
 have hb:=D.b { s1 with heap:=h' } (Fv e::us) I2.kIn (by rw [FR]; exact hl)
 rw [FR] at hb
 refine Ii (Hn (D.ok.run _ X.stack _ _ ⟨Fv e::us,[]⟩ (Fv e::us) _ _ E0 ((hr.mono hjk).make C us []) (I2.env0.make C us []) hb r2 q') fun r s' hq'=>?_)
 cases r with
 | error v=>exact mq pins σ _ _ v s' I2 hq'
 | ok fl =>
  cases fl with
  | ret u =>
   obtain ⟨v,H',I3,rv,ev,d,ed,qE⟩:=I2.after hq'
   subst ev
   obtain ⟨⟨t0,e3⟩,_,_⟩:=(show aJ X.prog X.w H' s'.heap e (gf e (.ref C) (some d)) from I3.hok e _ ed)
   exact ⟨rv,I3.bk _ _ hC,⟨_,t0,e3⟩,T.rise (I3.drop ed) n0 (if_pos rfl) e3 rfl rfl rfl (fun d' z=>z) qE⟩
  | next=>exact Gi hq'
  | brk=>exact Gi hq'
  | cont=>exact Gi hq'
section
variable {X:Cx}
theorem fS:ij X (.builtin "isinstance") (fun xs H Q=>∃ e c cv C b,xs=[.ref e,c]/\(∀ u,RelV c u->u=cv)/\(∃ od,H e=some (fI e (.ref C) od))/\gP X.K C/\JT X.K (.ref C) cv=some b/\Q (.bl b) H):=by
 intro pins s σ H xs us Q I r h
 obtain ⟨e,c,cv,C,b,rfl,hcv,⟨od,he⟩,F,k,q⟩:=h
 obtain ⟨u,v,rfl,r1,r2⟩:=vals2 r
 rw [hcv v r2]
 cases (show u=Fv e from r1)
 obtain ⟨⟨o,o1,o2,_⟩,_,_⟩:=(show aJ X.prog X.w H s.heap e (fI e (.ref C) od) from I.hok e _ he)
 exact W.kia_one (yO F) I.kIn ⟨o,o1,o2⟩ k (fun z=>nomatch z) fun tk=>⟨.bl b,H,I.tok _,rfl,q⟩
end
theorem qa {X:Cx} {c n:Str} {Ck:Fe} {i:Nat} {b₀:Hc} {suite:List Hc} {ts:TS} {cp hp:Pos} {rest:List ExceptHandler} {pins:List (Fe × Obj)} {σ:St} {H:Hp} {s:Do} {ea T:Fe} {cls:AC} {od:Option Fe} {D:Ends}
  (hx:X.ex=[]) (hN:X.N.Nodup) (hi:X.N[i]? = some n) (hl:X.env.scope.names.lookup n=some .local) (hg:Gl X c) (hm:X.mg c=some (.ref Ck)) (hs:∀ e,fz (X.inExc e) (b₀::suite) ts)
  (I:Inv X pins σ H s) (u1:jS X pins H ea) (u2:jS X pins H T) (tr:Tr s.heap ea T cls od) (hmt:W.exmOne X.K cls (.ref Ck)=some true)
  (hsu:ts { nx:=fun σ' H'=>D.nx (σ'.set i none) H',rt:=D.rt,bk:=fun σ' H'=>D.bk (σ'.set i none) H',ct:=fun σ' H'=>D.ct (σ'.set i none) H' } (σ.set i (some (.ref ea))) (upd H ea (fI ea cls od))) (hd:(c == ("__debug__" : Str))=false) :
  wpAny (model X.prog X.w) X.A (handleBy (.ref ea) X.env (.ExceptHandler (some (.Name c cp)) (some n) (b₀::suite) hp::rest)) (SP X pins D) X.xe s:=by
 have LT:W.Looks (model X.prog X.w) s.heap (typeOf (.ref ea)) cls:=by
  obtain ⟨oe,vs,oT,ts,he,hc,_⟩:=tr
  subst hc
  exact (W.Looks.ld he).andThen .now
 refine wpAny_handleBy_cons (codeAny_handlers_test (du (I.inExc ea) hg hm ?_ hd)) (by intro q; cases q)
 refine (W.exm_one (M:=model X.prog X.w) I.kIn LT hmt) _ _ _ _ (fun _ _ q=>q) ?_
 show codeAny _ _ (.handlers (.ref ea) [.ExceptHandler none (some n) (b₀::suite) hp] X.env) _ _
 refine codeAny_handlers_suite_as (yA (base:=X.base) (l:=X.stack) I.stack tr fun h5 T5 tr5 hT5 k5=>?_)
 have I5:Inv X pins σ H { s with heap:=h5 }:=I.exc hx (ch:=[ea,T]) (fun b hb=>by
  rcases FB.mp hb with z | z
  ·rw [z]; exact u1
  ·rw [show b=T by simpa using z]; exact u2) k5
 refine kj (X:=X.inExc ea) (I5.inExc ea) hN hi (.inl hl) (v:=.ref ea) (u:=.ref ea) rfl (fun s6 J6 ⟨ad,sb,had⟩=>?_) (.inr hl)
 have hne:ea≠ad:=by
  rcases had with z | z
  ·rw [z]; exact u1.loc
  ·exact fun y=>u1.cell n ad z y.symm
 have new:aJ X.prog X.w (upd H ea (fI ea cls od)) s6.heap ea (fI ea cls od):=by
  obtain ⟨oe,vs,oT,ts,he,hc,hd,_,_,_,_,_,hod⟩:=tr5
  have he6:s6.heap.get? ea=some oe:=(sb.2 ea hne).trans he
  exact ⟨⟨oe,he6,⟨hc,vs,hd⟩,hod⟩,⟨oe,he6⟩,fun h1 h2 ⟨o,q,r⟩ k=>⟨o,k o q,r⟩⟩
 have J7:Inv (X.inExc ea) pins (σ.set i (some (.ref ea))) (upd H ea (fI ea cls od)) s6:=J6.track ⟨u1.new,u1.free,u1.loc,u1.cell,u1.pin⟩ new
 refine Gu (hs ea pins s6 _ _ _ J7 hsu) (fun f s7 q=>?_) (fun _ _ z=>z.elim)
 have go:∀ {σ':St} {H':Hp},Inv (X.inExc ea) pins σ' H' s7->∀ (R:Do->Prop),(∀ s8,Inv X pins (σ'.set i none) H' s8->R s8)->wpAny (model X.prog X.w) X.A (do bindName X.env n .none; unbindBehindTheSuite X.env n hp) (fun _ s8=>R s8) X.xe s7:=fun {σ' H'} J R hR=>by
  have J0:Inv X pins σ' H' s7:=J.outExc I.ok
  obtain ⟨m,hn,hlk⟩:=J0.loc
  exact wpAny_nameGoes_keeps hl hn (by rw [I.ok.kind]; rfl) fun h' v hn' hs'=>hR _ (J0.unbind hN hi hlk hn' hs')
 cases f with
 | next =>
  obtain ⟨σ',H',J,q⟩:=q
  exact go J _ fun s8 J8=>⟨_,H',J8,q⟩
 | brk =>
  obtain ⟨σ',H',J,q⟩:=q
  exact go J _ fun s8 J8=>⟨_,H',J8,q⟩
 | cont =>
  obtain ⟨σ',H',J,q⟩:=q
  exact go J _ fun s8 J8=>⟨_,H',J8,q⟩
 | ret u =>
  obtain ⟨v,σ',H',J,r,q⟩:=q
  exact go J _ fun s8 J8=>⟨v,_,H',J8,r,q⟩
noncomputable def zg (K:FD) (C B:Fe) (i:Nat) (tb:XK->TE) (ts tu:TS):TS:=fun D σ H =>
 tb (fun cls od H1=>(W.exmOne K cls (.ref C)=some true/\∀ e,H1 e=none->ts { nx:=fun σ' H'=>D.nx (σ'.set i none) H',rt:=D.rt,bk:=fun σ' H'=>D.bk (σ'.set i none) H',ct:=fun σ' H'=>D.ct (σ'.set i none) H' } (σ.set i (some (.ref e))) (upd H1 e (fI e cls od))) \/
  (W.exmOne K cls (.ref C)=some false/\W.exmOne K cls (.ref B)=some true/\∀ e,H1 e=none->tu { nx:=fun σ' H'=>D.nx (σ'.set i none) H',rt:=D.rt,bk:=fun σ' H'=>D.bk (σ'.set i none) H',ct:=fun σ' H'=>D.ct (σ'.set i none) H' } (σ.set i (some (.ref e))) (upd H1 e (fI e cls od)))) σ H fun _ H1=>D.nx σ H1
theorem zu {X:Cx} {call:Gv} {tb:XK->TE} {c b n:Str} {C B:Fe} {i:Nat} {b₀ b₁:Hc} {s₀ s₁:List Hc} {ts tu:TS} {ep cp hp cp2 hp2 pos:Pos}
  (hx:X.ex=[]) (hst:X.stack=X.env::X.outer) (hf:X.env.frame=some X.env.locals) (hN:X.N.Nodup) (hi:X.N[i]? = some n) (hl:X.env.scope.names.lookup n=some .local) (hg:Gl X c) (hm:X.mg c=some (.ref C)) (hg2:Gl X b) (hm2:X.mg b=some (.ref B))
  (hb:DN X call tb) (hs:∀ e,fz (X.inExc e) (b₀::s₀) ts) (hu:∀ e,fz (X.inExc e) (b₁::s₁) tu) (hsw:swapsWith call none ep.line X.env=pure false:=by rfl) (hd:(c == ("__debug__" : Str))=false:=by decide) (hd2:(b == ("__debug__" : Str))=false:=by decide) :
  PS X (.Try [.Expr call ep] [.ExceptHandler (some (.Name c cp)) (some n) (b₀::s₀) hp,.ExceptHandler (some (.Name b cp2)) (some n) (b₁::s₁) hp2] [] [] pos) (zg X.K C B i tb ts tu):=by
 intro pins s σ H D I h
 refine wpAny_Try_except ?_
 unfold zg at h
 generalize hE:(fun (cls:AC) (od:Option Fe) (H1:Hp)=>_\/_)=E at h
 have ok':∀ xe',({ X with pn:=X.pn++pins,xe:=xe' }:Cx).Ok:=fun xe' =>
  ⟨I.ok.mod,I.ok.kind,I.ok.glob,I.ok.blt,I.ok.above,I.ok.inj,I.ok.has,I.ok.cab,I.ok.hd,I.ok.frames,I.ok.stk,I.ok.exf,I.ok.bs,I.ok.bsz,I.ok.noex,I.ok.exfs,I.ok.funs,I.ok.frf⟩
 have toX:∀ {xe' pins' σ' H' s'},Inv ({ X with pn:=X.pn++pins,xe:=xe' }:Cx) pins' σ' H' s'->Inv X pins σ' H' s':=fun J =>
  ⟨I.ok,J.os,J.bare,J.base,J.loc,J.cell,J.free,J.freeC,fun p hp=>J.pin p (Hi _ hp),J.hok,J.len⟩
 have I':Inv ({ X with pn:=X.pn++pins,xe:=fun v s'=>∃ H1 s1,Inv X pins σ H1 s1/\fC X.prog X.w X.stack H1 s1 E v s' }:Cx) [] σ H s :=
  ⟨ok' _,I.os,I.bare,I.base,I.loc,I.cell,I.free,I.freeC,fun p hp=>I.pin p (by simpa using hp),I.hok,I.len⟩
 have body:=hb E σ (X.pn++pins) (fun v s'=>∃ H1 s1,Inv X pins σ H1 s1/\fC X.prog X.w X.stack H1 s1 E v s') (fun pins' H1 s1 v s' J q=>⟨H1,s1,toX J,q⟩) [] s H _ I' h
 refine Gu (Iu (wpAny_Expr_any (aB body fun v s1 q=>?_) I.quiet hsw):wpAny (model X.prog X.w) X.A (execs [.Expr call ep] X.env) (fun f s1=>f = .next/\∃ H1,Inv X pins σ H1 s1/\D.nx σ H1) _ s) (fun f s1 q=>?_) ?_
 ·obtain ⟨x,H1,J,r,q⟩:=q
  exact HQ ⟨rfl,H1,toX J,q⟩
 ·obtain ⟨rfl,H1,J,q⟩:=q
  exact HQ ⟨σ,H1,J,q⟩
 ·rintro v s' ⟨H1,s1,I1,ea,T,cls,od,H2,rfl,n1,n2,f1,f2,tr,os,bare,un,hok,hE'⟩
  rw [<- hE] at hE'
  have I2:Inv X pins σ H2 s':=I1.call' os un hok bare fun b z=>absurd z (by simp)
  have o1:=I1.ours hx n1
  have o2:=I1.ours hx n2
  have u1:jS X pins H2 ea:=⟨o1.1,f1,o1.2.1,o1.2.2.1,o1.2.2.2⟩
  have u2:jS X pins H2 T:=⟨o2.1,f2,o2.2.1,o2.2.2.1,o2.2.2.2⟩
  have fr:X.A.frames=some (X.env::X.outer):=by rw [<- hst]; exact I.ok.frames
  have fn:s'.heap.FunFrames X.base (X.env::X.outer):=by rw [<- hst]; exact I2.stack
  refine zC fr fn hf tr fun h3 T3 tr3 hT3 k3=>?_
  have I3:Inv X pins σ H2 { s' with heap:=h3 }:=I2.exc hx (ch:=[ea,T]) (fun b hb=>by
   rcases FB.mp hb with z | z
   ·rw [z]; exact u1
   ·rw [show b=T by simpa using z]; exact u2) (by rw [hst]; exact k3)
  have u3:jS X pins H2 T3:=by
   rcases hT3 with z | z
   ·rw [z]; exact u2
   ·have o3:=I2.ours hx z
    exact ⟨o3.1,I2.hok.none z,o3.2.1,o3.2.2.1,o3.2.2.2⟩
  rcases hE' with ⟨hmt,hsu⟩ | ⟨hm0,hmt,hsu⟩
  ·exact qa hx hN hi hl hg hm hs I3 u1 u3 tr3 hmt (hsu ea f1) hd
  ·have LT:W.Looks (model X.prog X.w) h3 (typeOf (.ref ea)) cls:=by
    obtain ⟨oe,vs,oT,ts,he,hc,_⟩:=tr3
    subst hc
    exact (W.Looks.ld he).andThen .now
   refine wpAny_handleBy_cons (codeAny_handlers_test (du (I3.inExc ea) hg hm ?_ hd)) (by intro q; cases q)
   refine (W.exm_one (M:=model X.prog X.w) I3.kIn LT hm0) _ _ _ _ (fun _ _ q=>q) ?_
   exact qa hx hN hi hl hg2 hm2 hu I3 u1 u3 tr3 hmt (hsu ea f1) hd2
end L2
namespace L2
open PySem PySem.Spec PyProof.Rows PySem.W
noncomputable def Ds (t:TE):TE:=fun σ H Q=>t σ H fun u H'=>∃ n:Int,u = .int n/\0<=n/\n < 10 ^ 10/\∀ y:Str,y.length<=10->Q (.str y) H'
theorem Aa {X:Cx} {e:Gv} {t:TE} {pos:Pos} (h:PE X e t):PE X (.FormattedValue e (-1) none pos) (Ds t):=by
 intro pins s σ H Q I hq
 refine IK (aB (h pins s σ H _ I hq) fun v s1 ⟨x,H1,I1,r,n,e,h0,h1,q⟩=>?_)
 subst e
 obtain ⟨t,rfl⟩:=r
 refine wpAny_formatField_int ?_ ⟨.str (tz (toString n)),H1,I1.tok _,⟨_,rfl⟩,q _ (toString_length_le h0 (by decide) h1)⟩
 have z:n.natAbs < 2 ^ 34:=by
  have:(10:Int) ^ 10=10000000000:=by decide
  have:(2:Nat) ^ 34=17179869184:=by decide
  omega
 by_cases c:n.natAbs=0
 ·rw [c]; decide
 ·exact FA ((Nat.log2_lt c).mpr z) (by decide)
structure hV where
 kin:Fe
 way:Fe
 broken:Fe
 init:Fe
noncomputable def pA (K:JY) (er:hV):Bool :=
 excIn K er.way kI "ValueError.__new__"&&(wq K er.way&&(wq K er.broken&&(exmOne K (.ref er.way) (.ref er.kin) == some true&&(exmOne K (.ref er.way) (.ref er.broken) == some false&&(exmOne K (.ref er.broken) (.ref er.broken) == some true &&
 (kitOne K (.ref er.way) (.type "ValueError") == some true&&(kitOne K (.ref er.way) (.ref er.kin) == some true&&(kitOne K (.ref er.way) (.ref er.way) == some true&&(kitOne K (.ref er.way) (.ref er.broken) == some false &&
 (kitOne K (.ref er.broken) (.type "ValueError") == some true&&(kitOne K (.ref er.broken) (.ref er.kin) == some true&&(kitOne K (.ref er.broken) (.ref er.way) == some false&&(kitOne K (.ref er.broken) (.ref er.broken) == some true &&
 (sy K er.broken er.init&&(findIn K (.ref er.broken) "__getattribute__" == some (some (.builtin "BaseException.__getattribute__"))&&(findIn K (.ref er.broken) "__getattr__" == some none&&(nU K er.broken&&(hasDictIn K er.broken&&(findIn K (.ref er.broken) "__setattr__" == some (some (.builtin "object.__setattr__"))&&(isFn K (.ref er.init) &&
 (findIn K (.ref er.broken) "place" == some none&&(specialIn K (.ref er.kin) "__getattribute__" == some (some (.builtin "type.__getattribute__"))&&readsIn K er.kin (.type "type")))))))))))))))))))))))
structure vX (K:JY) (mg:Str->Option AC) (er:hV):Prop where
 m_kin:mg "KinError" = some (.ref er.kin)
 m_way:mg "NoWay" = some (.ref er.way)
 m_broken:mg "Broken" = some (.ref er.broken)
 x_way:vL K er.way
 k_way:gP K er.way
 k_broken:gP K er.broken
 c_way:exmOne K (.ref er.way) (.ref er.kin)=some true
 b_way:exmOne K (.ref er.way) (.ref er.broken)=some false
 b_broken:exmOne K (.ref er.broken) (.ref er.broken)=some true
 way_value:kitOne K (.ref er.way) (.type "ValueError")=some true
 way_kin:kitOne K (.ref er.way) (.ref er.kin)=some true
 way_way:kitOne K (.ref er.way) (.ref er.way)=some true
 way_broken:kitOne K (.ref er.way) (.ref er.broken)=some false
 broken_value:kitOne K (.ref er.broken) (.type "ValueError")=some true
 broken_kin:kitOne K (.ref er.broken) (.ref er.kin)=some true
 broken_way:kitOne K (.ref er.broken) (.ref er.way)=some false
 broken_broken:kitOne K (.ref er.broken) (.ref er.broken)=some true
 ex:zo K er.broken er.init
 na:aM K er.broken "place"
 cb:B4 K er.kin
theorem A0 {K:JY} {mg:Str->Option AC} {er:hV} (h:pA K er=true) (hf:findCls K (.ref er.kin) (.type "type") "__init__" = some (.val (.builtin "ValueError.__init__"))) (h1:mg "KinError" = some (.ref er.kin)) (h2:mg "NoWay" = some (.ref er.way)) (h3:mg "Broken" = some (.ref er.broken)):vX K mg er:=by
 unfold pA at h
 simp only [FY,beq_iff_eq] at h
 obtain ⟨q0,q1,q2,q3,q4,q5,q6,q7,q8,q9,q10,q11,q12,q13,q14,q15,q16,q17,q18,q19,q20,q21,q22,q23⟩:=h
 exact ⟨h1,h2,h3,q0,uc q1,uc q2,q3,q4,q5,q6,q7,q8,q9,q10,q11,q12,q13,⟨q14,q15,q16,q17,q18,q19,q20⟩,q21,⟨q22,q23,hf⟩⟩
theorem bg.okCE {P:FG} {w:FU} {K:FD} {mg:Str->Option AC} {base:GG} {x qual:Str} {st:Hc} {f c:Fe} {fd:Fh} {N ps:List Str} {k:Nat} {sp:Sp} (F:bg K x qual st f fd) (S:ay N ps (ag st)) (hc:fd.code = .ref c) (len:∀ vs H Q E,sp vs H Q E->vs.length=ps.length)
  (body:∀ (A:Gd) (outer:List Env) (s:Do) (H:Hp) (vs:List V) (Q:VK) (E:XK),bh k (A.deeper (envOfC qual (ag st) s.heap.objs.size f (.ref c)))->sp vs H Q E ->
   ∃ t,fz (gz (fC P w) P w K mg base N qual (ag st) f (.ref c) A outer s H E) (au st) t/\t { nx:=fun _ H'=>Q .non H',rt:=Q } (start N vs) H):aF P w K mg base (fC P w) (k+1) f fd ps sp:=by
 obtain ⟨oc,od,kV,doc,pm,an,cdv,ct,osl,rfl,lk,hcd⟩:=F.ex
 obtain rfl:cdv = .ref c:=hc
 exact qP lk hcd S len fun A outer s H vs Q E hr hsp=>body A outer s H vs Q E hr hsp
end L2
namespace L2
open PySem PySem.Spec PyProof.Rows
noncomputable def Bv (K:FD) (l:Fe) (xs:List V):It:=⟨fun i H=>av K H l xs/\i < xs.length,fun i H v H'=>H'=H/\xs[xs.length - 1 - i]? = some v,fun i H=>av K H l xs/\i=xs.length⟩
theorem Ap {xs:List V} {us:List AC} (r:Vals xs us):∀ {i:Nat} {x:V},xs[i]? = some x->∃ u,us[i]? = some u/\RelV x u:=by
 induction r with
 | nil=>intro i x h; cases h
 | cons h _ ih =>
  intro i x e
  cases i with
  | zero=>cases e; exact ⟨_,rfl,h⟩
  | succ i=>rw [FZ] at e; obtain ⟨u,e1,e2⟩:=ih e; exact ⟨u,by rw [FZ]; exact e1,e2⟩
theorem yx {P:FG} {w:FU} {K:FD} {tg:Gv} (it l:Fe) (xs:List V) :
  Turn P w K tg (Bv K l xs) [it] it (fun i h=>h.IsRevIter it l ((xs.length:Int) - 1 - (i:Int))) where
 mem:=by simp
 obj:=fun i h st b hb=>by
  have e:b=it:=by simpa using hb
  subst e
  obtain ⟨o,e,c,d⟩:=st
  exact ⟨o,e,fun v z=>by rw [d] at z; cases z⟩
 keep:=fun i h h' st k=>by
  obtain ⟨o,e,c,d⟩:=st
  exact ⟨o,k it (by simp) o e,c,d⟩
 item:=by
  intro X hP hw hK hc i pins s σ H E I hf st hg
  subst hP hw hK
  obtain ⟨f0,f1,f2,f3,f4,f5⟩:=hf it (by simp)
  obtain ⟨hl,hg'⟩:=hg
  obtain ⟨its,r,pl,hz⟩:=I.list hl
  have el:=r.length
  have e1:(xs.length:Int) - 1 - (i:Int)=((xs.length - 1 - i:Nat):Int):=by lia
  rw [e1] at st
  have hx:xs[xs.length - 1 - i]? = some (xs[xs.length - 1 - i]'(by lia)):=Fk _
  obtain ⟨u,hu,ru⟩:=Ap r hx
  refine wpAny_pyNext_rev_item st pl.isList (by rw [List.getElem?_toArray]; exact hu) fun h' st' kk=>?_
  have I1:Inv X pins σ H { s with heap:=h',toks:=s.toks }:=I.turned (fun b o hb e=>(kk.2 b hb).trans e) f0 f1 f3 f4 f5
  have st2:h'.IsRevIter it l ((xs.length:Int) - 1 - ((i+1:Nat):Int)):=by
   rw [show (xs.length:Int) - 1 - ((i+1:Nat):Int)=((xs.length - 1 - i:Nat):Int) - 1 by lia]
   exact st'
  obtain ⟨o,e,cl,d⟩:=id st'
  exact ⟨_,rfl,rf (s:={ s with heap:=h' }) e cl d (by decide) ⟨_,H,I1,ru,⟨rfl,hx⟩,st2,fun b hb=>(hf b hb).1⟩⟩
 done:=by
  intro X hP hw hK hc i pins s σ H E I hf st hg
  subst hP hw hK
  obtain ⟨f0,f1,f2,f3,f4,f5⟩:=hf it (by simp)
  obtain ⟨hl,hi⟩:=hg
  subst hi
  rw [show (xs.length:Int) - 1 - (xs.length:Int) = -1 by lia] at st
  exact wpAny_pyNext_rev_end (I.ok.hd hc) st fun h' kk=>⟨rfl,I.turned (t':=s.toks) (fun b o hb e=>kk b o hb e) f0 f1 f3 f4 f5⟩
 self:=fun _ _ _ _ _ st h=>wpAny_pyIter_revIter st h
noncomputable def CW (K:FD) (ta:TA):TI:=fun σ H R=>ta σ H fun vs H1=>∃ l xs,vs=[.ref l]/\av K H1 l xs/\R (Bv K l xs) H1
theorem ud {X:Cx} {tg a:Gv} {ta:TA} {p pos:Pos} (hg:Gl X "reversed") (hm:X.mg "reversed" = none) (ha:PA X [a] ta) (hs:starEach [a] X.env=[(false,eval a X.env)]:=by rfl) :
  PI X tg (.Call (.Name "reversed" p) [a] [] pos) (CW X.K ta):=by
 intro pins s σ H R I h
 refine Call_ (jt I hg hm boot_reversed (GX (aB (ha pos pins s σ H _ I h) fun us s1 ⟨vs,H1,I1,r1,q1⟩=>?_) hs rfl))
 obtain ⟨l,xs,rfl,hl,q⟩:=q1
 obtain ⟨u,rfl,ru⟩:=vals1 r1
 cases ru
 obtain ⟨its,r,pl,hz⟩:=I1.list hl
 have el:=r.length
 refine call_reversed_list pl.isList ?_
 have I2:Inv X pins σ H1 { s1 with heap:=s1.heap.push (revObj l ((its.toArray.size:Int) - 1)),toks:=s1.toks }:=I1.kept fun b o e=>Fd _ e
 have st:(s1.heap.push (revObj l ((its.toArray.size:Int) - 1))).IsRevIter s1.heap.objs.size l ((xs.length:Int) - 1 - ((0:Nat):Int)):=⟨_,FH _ rfl,rfl,by
  rw [show (xs.length:Int) - 1 - ((0:Nat):Int)=(its.toArray.size:Int) - 1 by rw [Fz,<- el]; lia]; rfl⟩
 refine wpAny_pyIter_revIter st ⟨_,[s1.heap.objs.size],_,_,H1,rfl,I2,yx _ l xs,st,fun b hb=>?_,q⟩
 rw [show b=s1.heap.objs.size by simpa using hb]
 exact I1.fpOk (Fg _) (I1.hok.fresh (Fg _))
theorem qt {K:FD} {l:Fe} {xs:List V} {g:TG} {tt:TT} {te:TE} {σ0:St} {H:Hp} {D:Fe} {Q:VK} (Pv:Nat->List V->Hp->Prop) (hz:xs.length<=sizeLine)
  (h0:Pv 0 [] (upd H D (.lst []))) (hl:∀ i ys H',i<=xs.length->Pv i ys H'->av K H' l xs/\ys.length<=i)
  (hs:∀ (i:Nat) (x:V) (ys:List V) (H':Hp) (R:VK) (R0:Hp->Prop),i < xs.length->xs[xs.length - 1 - i]? = some x->Pv i ys H'->(∀ v H3,H3 D=some (.lst ys)->Pv (i+1) (ys++[v]) (upd H3 D (.lst (ys++[v])))->R v H3)->(∀ H3,Pv (i+1) ys H3->R0 H3) ->
   g x σ0 H' fun σ2 H2=>Ext σ0 σ2/\tt σ2 H2 fun b H3=>if b=true then te σ2 H3 R else R0 H3)
  (hq:∀ ys H',Pv xs.length ys H'->Q (.ref D) H') :
  ot (Bv K l xs) g tt te σ0 D Q H:=by
 refine ⟨fun i m ys H'=>m=xs.length - i/\i<=xs.length/\Pv i ys H',⟨xs.length,by simp,Fy _,h0⟩,?_⟩
 rintro i m ys H' ⟨rfl,hi,p⟩
 obtain ⟨sq,ly⟩:=hl i ys H' hi p
 by_cases hlt:i < xs.length
 ·refine .inr ⟨⟨sq,hlt⟩,fun v H'' y=>?_⟩
  obtain ⟨e,y⟩:=y
  subst e
  refine hs i v ys _ _ _ hlt y p (fun v H3 hD p'=>⟨hD,by lia,xs.length - (i+1),by lia,rfl,hlt,p'⟩) fun H3 p'=>⟨xs.length - (i+1),by lia,rfl,hlt,p'⟩
 ·have e:i=xs.length:=by lia
  subst e
  exact .inl ⟨⟨sq,rfl⟩,hq ys H' p⟩
end L2
namespace L2
open PySem PySem.Spec PyProof.Rows
noncomputable def uw (sc:Ib) (y:Str):Bool:=sc.names.all fun z=>z.2 != .cell || z.1 == y
noncomputable def cO (y:Str) (X:Cx) (scope:Ib) (N:List Str) (cl:List (Str × Fe)) (C:Fe) (s:Do) (H:Hp) (fp:List Fe) (xe:AC->Do->Prop):Cx :=
 { cH X scope N cl C s H fp xe with fn:=fun x=>x == y }
theorem yu {M:Model} {A:Gd} {E:AC->Do->Prop} {s:Do} {scope:Ib} {globals:Fe} {cl:List (Str × Fe)} {qual:Str} {func:Option Fe} {code:AC} {outer:Env} {builtins:Fe} {y:Str} {Q:Env->Do->Prop}
  (hc1:∀ n acc,cellsFrom n scope.names acc=(y,n)::acc) (hc2:∀ h,pushCells h scope.names=h.push { cls:=.type "cell",data:=.cell none })
  (hQ:∀ h',h'.Ns s.heap.objs.size (fun _=>none)->h'.get? (s.heap.objs.size+1)=some { cls:=.type "cell",data:=.cell none }->(∀ b o,s.heap.get? b=some o->h'.get? b=some o) ->
   Q (newEnv scope s.heap.objs.size globals ((y,s.heap.objs.size+1)::cl) qual func code (some outer) builtins) { s with heap:=h' }) :
  wpAny M A (newFunctionEnv scope globals cl [] qual func code (some outer) builtins) Q E s:=by
 simp only [newFunctionEnv,Option.isSome_some,if_true]
 refine Da (wpAny_alloc ?_)
 refine Da (wpAny_layCells _ (fun name kind cells=>by cases hkc:kind == JV<;>simp [hkc]) _ _ _ _ ?_)
 rw [hc1,show ({ s with heap:=s.heap.push { cls:=.type "dict",data:=.dict #[] } }:Do).heap.objs.size=s.heap.objs.size+1 from HH ..]
 have hc3:=hc2 (s.heap.push { cls:=.type "dict",data:=.dict #[] })
 simp only [hc3]
 refine Da (Ft (Ft (hQ _ ((Heap.Ns.new s.heap (.type "dict")).keeps fun b o e=>Fd _ e) ?_ fun b o e=>Fd _ (Fd _ e))))
 exact Heap.get?_push_at (HH ..).symm rfl
theorem B3 {N:List Str} {ix:List (Option Nat)} {y:Str} (hy:((N.zip ix).all fun p=>p.1 != y || p.2 == none)=true) {σ:St} {i:Nat} {x:Str} {v:V} (h1:N[i]? = some x) (h2:(dm ix σ)[i]? = some (some v)):x≠y:=by
 intro e
 unfold dm at h2
 rw [FN] at h2
 cases q:ix[i]? with
 | none=>rw [q] at h2; cases h2
 | some o =>
  have m:(x,o)∈N.zip ix:=FJ (i:=i) (by rw [List.getElem?_zip_eq_some]; exact ⟨h1,q⟩)
  have z:=Fu.mp hy _ m
  rw [e] at z
  have z':o=none:=by simpa using z
  rw [q,z'] at h2
  cases h2
section
variable {X:Cx}
theorem uI {y:Str} {elt tg iter:Gv} {ifs:List Gv} {scope:Ib} {pos pos':Pos} {N:List Str} {ix:List (Option Nat)} {wi:TI} {g:TG} {tt:TT} {te:TE} {use:Option (AC->Sem Unit)} {Qv:AC->Do->Prop}
  (hc:X.calm=true) (hi:PI X tg iter wi) (hk:scope.kind = .function) (hcell0:uw scope y=true) (hc1:∀ n acc,cellsFrom n scope.names acc=(y,n)::acc) (hc2:∀ h,pushCells h scope.names=h.push { cls:=.type "cell",data:=.cell none }) (hy:((N.zip ix).all fun p=>p.1 != y || p.2 == none)=true) (hfree0:freeOk scope X.env=true) (hnames0:namesOk scope=true) (caps:gG X scope N ix)
  (hg:∀ cl C s H fp xe,PG (cO y X scope N cl C s H fp xe) tg g) (ht:∀ cl C s H fp xe,sW (cO y X scope N cl C s H fp xe) ifs tt) (he:∀ cl C s H fp xe,PE (cO y X scope N cl C s H fp xe) elt te)
  (hs:∀ x,foldedSetIterable iter X.env x=pure x)
  {pins:List (Fe × Obj)} {s:Do} {σ:St} {H:Hp} {Q:VK} (I:Inv X pins σ H s) (h:oi wi g tt te ix σ H Q)
  (fin:∀ (C D:Fe) (H6:Hp) (s6:Do),iF X pins σ H6 C s6->Q (.ref D) H6->compPost (model X.prog X.w) X.A X.xe use Qv (.ref D) C (.ok .next) s6) :
  wpAny (model X.prog X.w) X.A (comprehension (.ListComp elt [⟨tg,iter,ifs,0⟩] scope pos) scope X.env pos' (newList []) false (eval iter X.env) use) Qv X.xe s:=by
 have hcell:∀ z∈scope.names,z.2 = .cell->z.1=y:=fun z hz e=>by
  have:=Fu.mp hcell0 z hz
  rw [e] at this
  exact beq_iff_eq.mp (by simpa using this)
 have hfree:∀ y∈scope.names,y.2 = .free->X.env.kindOf y.1=some .cell:=fun y hy e=>by
  have:=Fu.mp hfree0 y hy
  rw [e] at this; simpa using this
 have hnames:∀ y∈scope.names,y.2 = .local->scope.names.lookup y.1=some .local:=fun y hy e=>by
  have:=Fu.mp hnames0 y hy
  rw [e] at this; simpa using this
 have hcl:∀ y∈scope.names,y.2 = .free->∃ c,X.env.cells.lookup y.1=some c:=fun y hy e=>I.ok.has y.1 (.inl (hfree y hy e))
 refine wpAny_comprehension_free (use:=use) rfl hs (jD hcl) hk hnames ?_
 generalize ecl:oB X.env.cells scope.names []=cl
 -- the cells of the block are the def's
 have cl1:∀ x c,cl.lookup x=some c->X.env.cells.lookup x=some c:=fun x c e=>by
  have m:=lookup_mem e
  rw [<- ecl] at m
  rcases iy.mp m with z | ⟨z,z'⟩
  ·cases z
  ·obtain ⟨a,ea⟩:=hcl _ z rfl
   have ea':X.env.cells.lookup x=some a:=ea
   have z2:c=(X.env.cells.lookup x).getD 0:=z'
   rw [ea',Iy] at z2
   rw [ea',z2]
 have cl2:∀ x,(x,HA)∈scope.names->∃ c,cl.lookup x=some c:=fun x hx=>by
  have m:(x,(X.env.cells.lookup x).getD 0)∈cl:=by rw [<- ecl]; exact iy.mpr (.inr ⟨hx,rfl⟩)
  exact mem_lookup m
 refine aB (hi pins s σ H _ I h) fun v s1 h1=>aB h1 fun itv s2 h2=>?_
 obtain ⟨it,fp,tn,J,H2,e,I2,T,st2,f2,body⟩:=h2
 subst e
 refine Jb (yu hc1 hc2 (fun h₁ hns₁ hcy₁ kp₁=>?_))
 dsimp only at hns₁ hcy₁ kp₁ |-
 have hD:H2 s2.heap.objs.size=none:=I2.hok.fresh (Fg _)
 obtain ⟨W,⟨m0,w0⟩,turn⟩:=body _ hD
 have I3:Inv X pins σ (upd H2 s2.heap.objs.size (.lst [])) { s2 with heap:=s2.heap.push { cls:=.type "list",dict:=none,data:=.seq ([]:List AC).toArray } } :=
  I2.laid (t':=s2.toks) (fun b o e=>Fd _ e) (Fg _) ⟨Fy _,[],0,.nil,FH _ rfl⟩
 generalize hs3:({ s2 with heap:=s2.heap.push { cls:=.type "list",dict:=none,data:=.seq ([]:List AC).toArray } }:Do)=s3 at I3
 have es3:s2.heap.push { cls:=.type "list",dict:=none,data:=.seq ([]:List AC).toArray }=s3.heap:=by rw [<- hs3]
 rw [es3] at hns₁ hcy₁ kp₁ |-
 generalize hD':s2.heap.objs.size=D at *
 generalize hH3:upd H2 D (.lst [])=H3 at *
 have szC:s3.heap.objs.size=D+1:=by rw [<- es3,HH,hD']
 -- what was,is
 have old:∀ b o,s3.heap.get? b=some o->h₁.get? b=some o:=kp₁
 obtain ⟨cl',ecl'⟩:∃ z,(y,s3.heap.objs.size+1)::cl=z:=⟨_,rfl⟩
 rw [ecl']
 have cl3:∀ x c,cl'.lookup x=some c->(x=y/\c=s3.heap.objs.size+1)\/(x≠y/\X.env.cells.lookup x=some c):=fun x c e=>by
  rw [<- ecl',Gh] at e
  by_cases z:x=y
  ·rw [beq_iff_eq.mpr z] at e
   exact .inl ⟨z,(Fw e).symm⟩
  ·rw [beq_eq_false_iff_ne.mpr z] at e
   exact .inr ⟨z,cl1 x c e⟩
 have oldc:∀ x c,X.env.cells.lookup x=some c->c < s3.heap.objs.size:=fun x c e=>by
  obtain ⟨v,o,ho,_⟩:=I3.cell x c e
  exact Fi ho
 have fpl:∀ b∈fp,b < D:=fun b hb=>by
  obtain ⟨o,e,_⟩:=T.obj 0 _ st2 b hb
  rw [<- hD']; exact Fi e
 have fpD:∀ b∈fp,H3 b=none:=fun b hb=>by
  rw [<- hH3,aq (FV (fpl b hb))]; exact (f2 b hb).1
 have fstk:∀ b∈fp,b∉bW X.stack:=fun b hb z=>by
  obtain ⟨_,f1,f3,_⟩:=f2 b hb
  rcases FB.mp (I2.stkSub b z) with e | e
  ·exact f1 e
  ·exact f3 e
 let E':AC->Do->Prop:=notedBy (model X.prog X.w) X.A (compEnvC scope cl' s3.heap.objs.size X.env) fun e s'=>compPost (model X.prog X.w) X.A X.xe use Qv (.ref D) s3.heap.objs.size (.error e) s'
 have ok':(cO y X scope N cl' s3.heap.objs.size s3 H3 fp E').Ok:=by
  refine { mod:=I.ok.mod,kind:=?_,glob:=I.ok.glob,blt:=I.ok.blt,above:=Fg _,inj:=?_,has:=?_,cab:=?_,hd:=I.ok.hd,frames:=I.ok.frames,stk:=.inl rfl,exf:=?_,bs:=I3.bs,bsz:=?_,noex:=?_,exfs:=fstk,funs:=I3.stack,frf:=I3.stkFree }
  ·show (relabel scope X.env).kind = .function
   exact hk
  ·intro x x2 c e1 e2
   rcases cl3 x c e1 with ⟨z1,z2⟩ | ⟨z1,z2⟩<;>rcases cl3 x2 c e2 with ⟨w1,w2⟩ | ⟨w1,w2⟩
   ·rw [z1,w1]
   ·exact absurd (oldc x2 c w2) (by rw [z2]; exact HL.mpr (GB _))
   ·exact absurd (oldc x c z2) (by rw [w2]; exact HL.mpr (GB _))
   ·exact I.ok.inj x x2 c z2 w2
  ·intro x hx
   have hx':(relabel scope X.env).names.lookup x=some .cell\/(relabel scope X.env).names.lookup x=some .free:=hx
   by_cases xy:x=y
   ·exact ⟨s3.heap.objs.size+1,by show cl'.lookup x=_; rw [<- ecl',xy,Gh,beq_self_eq_true]⟩
   have:(x,HA)∈scope.names:=by
    rcases hx' with e | e
    ·obtain ⟨k',hm,z | ⟨z,_⟩⟩:=fG e
     ·subst z; exact absurd (hcell _ hm rfl) xy
     ·subst z; exact hm
    ·obtain ⟨k',hm,z | ⟨z,z'⟩⟩:=fG e
     ·subst z; exact hm
     ·cases z'
   obtain ⟨c,ec⟩:=cl2 x this
   exact ⟨c,by show cl'.lookup x=_; rw [<- ecl',Gh,beq_eq_false_iff_ne.mpr xy]; exact ec⟩
  ·intro x c z e
   have z':x=y:=beq_iff_eq.mp z
   rcases cl3 x c e with ⟨_,w2⟩ | ⟨w1,_⟩
   ·show s3.heap.objs.size<=c
    omega
   ·exact absurd z' w1
  ·intro b hb
   refine ⟨fun z=>?_,fun x c e=>?_⟩
   rotate_left
   ·rcases cl3 x c e with ⟨_,w2⟩ | ⟨_,w2⟩
    ·have lt:=fpl b hb
     intro z
     rw [w2] at z
     rw [<- z,szC] at lt
     exact absurd lt (HL.mpr (FW (GB _) (GB _)))
    ·exact (f2 b hb).2.2.2.2.1 x c w2
   have lt:=fpl b hb
   have z':b=s3.heap.objs.size:=z
   rw [z',szC] at lt
   exact absurd lt (HL.mpr (GB D))
  ·exact FW I3.ok.bsz I3.sz
  ·intro b o e hb
   rcases (f2 b hb).2.2.2.1 with z | z
   ·exact I.ok.noex b o e z
   ·exact absurd (FA (Fi e) (FW I.ok.bsz z)) (Gb _)
 have I4:∀ tk,Inv (cO y X scope N cl' s3.heap.objs.size s3 H3 fp E') [] (dm ix σ) H3 { s3 with heap:=h₁,toks:=tk }:=fun tk=>by
  refine ⟨ok',rfl,I3.bare,Un.kept old,⟨_,hns₁,fun i x v e1 e2 e3=>?_⟩,fun x c e=>?_,?_,fun x c e=>?_,fun p hp=>(by cases hp),I3.hok.kept old,?_⟩
  ·have xy:x≠y:=B3 hy e1 e2
   obtain ⟨j,j1,j2,j3,j4⟩:=caps.get i x v e1 e2
   obtain ⟨m,hn,hl⟩:=I3.loc
   obtain ⟨u,r,l⟩:=hl j x v j1 j2 (.inr (.inl j3))
   refine ⟨u,r,.inr ⟨.inl j4,?_⟩⟩
   rcases l with ⟨l,_⟩ | ⟨_,c,ec,hcell⟩
   ·have l':X.env.kindOf x=some .local:=l
    rw [j3] at l'; cases l'
   ·obtain ⟨k',hm,z | ⟨z,_⟩⟩:=fG j4
    ·subst z; exact absurd (‹∀ z∈scope.names,z.2=JV->z.1=y› _ hm rfl) xy
    ·subst z
     obtain ⟨c',ec'⟩:=cl2 x hm
     have:=cl1 x c' ec'
     rw [ec] at this; cases this
     obtain ⟨o,ho,hd⟩:=hcell
     exact ⟨c,by show cl'.lookup x=_; rw [<- ecl',Gh,beq_eq_false_iff_ne.mpr xy]; exact ec',o,old _ _ ho,hd⟩
  ·rcases cl3 x c e with ⟨_,w2⟩ | ⟨_,w2⟩
   ·rw [w2]
    exact ⟨none,_,hcy₁,rfl⟩
   ·obtain ⟨v,o,ho,hd⟩:=I3.cell x c w2
    exact ⟨v,o,old _ _ ho,hd⟩
  ·exact I3.hok.fresh (Fg _)
  ·rcases cl3 x c e with ⟨_,w2⟩ | ⟨_,w2⟩
   ·rw [w2]
    exact I3.hok.fresh (GB _)
   ·exact I3.freeC x c w2
  ·show (dm ix σ).length=N.length
   rw [<- caps.length]; simp [dm]
 have st4:tn 0 h₁:=T.keep 0 _ _ st2 fun b hb o e=>old b o (by rw [<- es3]; exact Fd _ e)
 -- the block's end
 have fin6:∀ (s6:Do) (H6:Hp),Inv (cO y X scope N cl' s3.heap.objs.size s3 H3 fp E') [] (dm ix σ) H6 s6->Q (.ref D) H6 ->
   compPost (model X.prog X.w) X.A X.xe use Qv (.ref D) s3.heap.objs.size (.ok .next) s6:=fun s6 H6 I6 q=>by
  obtain ⟨m,hn,_⟩:=I6.loc
  refine fin s3.heap.objs.size D H6 s6 ⟨I3.call' (s':=s6) (ch:=fp) I6.os I6.base I6.hok I6.bare ?_,⟨m,hn⟩,I6.free,?_,I3.sz,?_,?_⟩ q
  ·intro b hb
   obtain ⟨_,f1,_,f3,f4,f5⟩:=f2 b hb
   exact ⟨f3,f1,f4,f5⟩
  ·exact Im I3.lt
  ·intro x c e z
   obtain ⟨v,o,ho,_⟩:=I3.cell x c e
   exact absurd (Fi ho) (by rw [z]; exact Gb _)
  ·intro p hp z
   exact absurd (Fi (I3.pin p hp).1) (by rw [z]; exact Gb _)
 -- the loop
 have loop:∀ s4:Do,s4={ s3 with heap:=h₁,toks:=s2.toks } ->
   codeAny (model X.prog X.w) X.A (.compLoop (.ListComp elt [⟨tg,iter,ifs,0⟩] scope pos) 0 (.ref it) (.ref D) (compEnvC scope cl' s3.heap.objs.size X.env)) (compPost (model X.prog X.w) X.A X.xe use Qv (.ref D) s3.heap.objs.size) s4:=by
  rintro s4 rfl
  refine qb (fun n s'=>∃ i ys H',Inv (cO y X scope N cl' s3.heap.objs.size s3 H3 fp E') [] (dm ix σ) H' s'/\tn i s'.heap/\(∀ b∈fp,H' b=none)/\W i n ys H') ?_ m0 ⟨0,[],H3,I4 _,st4,fpD,w0⟩
  rintro n s5 ⟨i,ys,H5,I5,st5,fr5,w5⟩
  have stat:∀ {H':Hp},(∀ b∈fp,H' b=none)->∀ b∈fp,iz (cO y X scope N cl' s3.heap.objs.size s3 H3 fp E') [] H' b:=fun hn b hb=>by
   refine ⟨hn b hb,fun z=>?_,fstk b hb,.inl hb,fun x c e=>?_,fun p hp=>(by cases hp)⟩
   rotate_left
   ·rcases cl3 x c e with ⟨_,w2⟩ | ⟨_,w2⟩
    ·have lt:=fpl b hb
     intro z
     rw [w2] at z
     rw [<- z,szC] at lt
     exact absurd lt (HL.mpr (FW (GB _) (GB _)))
    ·exact (f2 b hb).2.2.2.2.1 x c w2
   have lt:=fpl b hb
   have z':b=s3.heap.objs.size:=z
   rw [z',szC] at lt
   exact absurd lt (HL.mpr (GB D))
  rcases turn i n ys H5 w5 with ⟨stop,q⟩ | ⟨go,step⟩
  ·refine aB (T.done (cO y X scope N cl' s3.heap.objs.size s3 H3 fp E') rfl rfl rfl hc i [] s5 _ H5 E' I5 (stat fr5) st5 stop) fun r s6 ⟨hr,I6⟩=>?_
   subst hr
   exact fin6 s6 H5 I6 q
  ·refine aB (T.item (cO y X scope N cl' s3.heap.objs.size s3 H3 fp E') rfl rfl rfl hc i [] s5 _ H5 E' I5 (stat fr5) st5 go) fun r s6 ⟨u,hr,h6⟩=>?_
   subst hr
   refine aB h6 fun _ s7 ⟨x,H7,I7,r7,y7,st7,fr7⟩=>?_
   have I7':=I7.pinned (stat fr7) (T.obj _ _ st7)
   refine aB (hg cl' s3.heap.objs.size s3 H3 fp E' _ s7 _ H7 x u _ I7' r7 (step x H7 y7)) fun _ s8 ⟨σ8,H8,I8,ext,q8⟩=>?_
   have again:∀ {σ9:St} {H9:Hp} {s9:Do} {m':Nat} {zs:List V},Ext (dm ix σ) σ9->Inv (cO y X scope N cl' s3.heap.objs.size s3 H3 fp E') ([]++jl fp s7.heap) σ9 H9 s9->m' < n->W (i+1) m' zs H9 ->
     ∃ m,m < n/\∃ i ys H',Inv (cO y X scope N cl' s3.heap.objs.size s3 H3 fp E') [] (dm ix σ) H' s9/\tn i s9.heap/\(∀ b∈fp,H' b=none)/\W i m ys H':=fun {σ9 H9 s9 m' zs} ex I9 hm w9=>by
    refine ⟨m',hm,i+1,zs,H9,(I9.unpinned).weak ex.1.symm ex.2,T.keep _ _ _ st7 fun b hb o e=>(I9.pin (b,o) (FK _ (FK _ (fZ hb e)))).1,fun b hb=>?_,w9⟩
    obtain ⟨o,e,d⟩:=T.obj _ _ st7 b hb
    exact (I9.pin (b,o) (FK _ (FK _ (fZ hb e)))).2.1
   refine aB (ht cl' s3.heap.objs.size s3 H3 fp E' _ s8 σ8 H8 _ I8 q8) fun ok s9 ⟨H9,I9,q9⟩=>?_
   cases ok with
   | false =>
    obtain ⟨m',hm,w9⟩:=q9
    exact again ext I9 hm w9
   | true =>
    refine aB (he cl' s3.heap.objs.size s3 H3 fp E' _ s9 σ8 H9 _ I9 q9) fun u10 s10 ⟨v10,H10,I10,r10,hDl,hlt,m',hm,w10⟩=>?_
    refine aB (g7 (X:=cO y X scope N cl' s3.heap.objs.size s3 H3 fp E') _ s10 σ8 H10 (.ref D) [v10] (.ref D) [u10] (fun _ H'=>H'=upd H10 D (.lst (ys++[v10]))) I10 rfl (.cons r10 .nil) ⟨D,ys,v10,rfl,rfl,hDl,hlt,rfl⟩) fun _ s11 ⟨_,H11,I11,_,e11⟩=>?_
    subst e11
    exact again ext I11 hm w10
 exact codeAny_compStart_list (loop _ (by rw [<- hs3])) (T.self _ 0 _ _ _ st4 (loop _ (by rw [<- hs3])))
theorem yi {y:Str} {elt tg iter:Gv} {ifs:List Gv} {scope:Ib} {pos:Pos} {N:List Str} {ix:List (Option Nat)} {wi:TI} {g:TG} {tt:TT} {te:TE}
  (hc:X.calm=true) (hi:PI X tg iter wi) (hk:scope.kind = .function) (hcell0:uw scope y=true) (hc1:∀ n acc,cellsFrom n scope.names acc=(y,n)::acc) (hc2:∀ h,pushCells h scope.names=h.push { cls:=.type "cell",data:=.cell none }) (hy:((N.zip ix).all fun p=>p.1 != y || p.2 == none)=true) (hfree0:freeOk scope X.env=true) (hnames0:namesOk scope=true) (caps:gG X scope N ix)
  (hg:∀ cl C s H fp xe,PG (cO y X scope N cl C s H fp xe) tg g) (ht:∀ cl C s H fp xe,sW (cO y X scope N cl C s H fp xe) ifs tt) (he:∀ cl C s H fp xe,PE (cO y X scope N cl C s H fp xe) elt te)
  (hs:∀ x,foldedSetIterable iter X.env x=pure x:=by intro _; rfl) :
  PE X (.ListComp elt [⟨tg,iter,ifs,0⟩] scope pos) (oi wi g tt te ix):=by
 intro pins s σ H Q I h
 rw [eval_ListComp]
 refine uI (use:=none) hc hi hk hcell0 hc1 hc2 hy hfree0 hnames0 caps hg ht he hs I h fun C D H6 s6 B q=>?_
 obtain ⟨m,hn⟩:=B.ns
 exact ⟨m,hn,fun h' hsb=>⟨.ref D,H6,B.gone hsb,rfl,q⟩⟩
end
end L2
namespace Ck
open PySem L2
inductive Due where
 | ok
 | way
 | brk (k:Nat)
def Rw (r:Way):Prop:=r∈bH\/(r.1∉names/\r.2.2.2 = "")
noncomputable def fR:Option Str->Nat->List Way->Due
 | _,_,[]=>.ok
 | p,k,r::rs=>if r.2.2.2 = "" then .way else if p≠none/\p≠some r.2.1 then .brk k else fR (some r.2.2.1) (k+1) rs
noncomputable def bz (rs:List Way):Due:=if rs=[] then .brk 0 else fR none 0 rs
noncomputable def wG (rs:List Way):List Str:=([("peaks" : Str),"returns","height","leaves","rootage"]).filter fun x=>rs.all fun r=>decide (x∈dA r)
theorem yP:(bH.all fun r=>decide (r.2.2.2≠""))=true:=by decide +kernel
theorem zx {r:Way} (h:r∈bH):r.2.2.2≠"":=of_decide_eq_true (Fu.mp yP r h)
theorem Rw.way {r:Way} (h:Rw r) (n:r.2.2.2≠""):r∈bH:=h.elim id fun z=>absurd z.2 n
noncomputable def mH:List Str:=["s",":"," ",":mirrors"]
theorem wW:(bH.all fun r=>mH.all fun s=>decide (r.1++s∉names))=true:=by decide +kernel
theorem yC {r:Way} (h:r∈bH) {s:Str} (hs:s∈mH):r.1++s∉names:=of_decide_eq_true (Fu.mp (Fu.mp wW r h) s hs)
theorem wm:(bH.all fun r=>bH.any fun u=>decide (u.2.1=r.2.2.1))=true:=by decide +kernel
theorem wB {r:Way} (h:r∈bH):∃ u∈bH,u.2.1=r.2.2.1:=by
 obtain ⟨u,m,e⟩:=List.any_eq_true.mp (Fu.mp wm r h)
 exact ⟨u,m,of_decide_eq_true e⟩
theorem Ab {rs:List Way}:∀ {p:Option Str} {k:Nat},fR p k rs = .ok->∀ r∈rs,r.2.2.2≠"":=by
 induction rs with
 | nil=>intro p k _ r m; cases m
 | cons a rs ih =>
  intro p k h r m
  unfold fR at h
  by_cases c:a.2.2.2 = ""
  ·rw [if_pos c] at h; cases h
  ·rw [if_neg c] at h
   by_cases c2:p≠none/\p≠some a.2.1
   ·rw [if_pos c2] at h; cases h
   ·rw [if_neg c2] at h
    rcases FB.mp m with z | z
    ·rw [z]; exact c
    ·exact ih h r z
theorem kE {rs:List Way} (h:bz rs = .ok) (hr:∀ r∈rs,Rw r):rs≠[]/\∀ r∈rs,r∈bH:=by
 unfold bz at h
 by_cases c:rs=[]
 ·rw [if_pos c] at h; cases h
 ·rw [if_neg c] at h
  exact ⟨c,fun r m=>(hr r m).way (Ab h r m)⟩
theorem uf {rs:List Way} {i:Nat} {r:Way} (h:rs[i]? = some r):rs.drop i=r::rs.drop (i+1):=by
 obtain ⟨hi,e⟩:=Fj.mp h
 rw [Hh hi,e]
theorem tD {p:Option Str} {k:Nat} {r:Way} {rs:List Way} (h:r.2.2.2 = ""):fR p k (r::rs) = .way:=by
 unfold fR
 rw [if_pos h]
theorem rG {p:Option Str} {k:Nat} {r:Way} {rs:List Way} (h:r.2.2.2≠"") (n:p≠none) (m:p≠some r.2.1):fR p k (r::rs) = .brk k:=by
 unfold fR
 rw [if_neg h,if_pos ⟨n,m⟩]
theorem uv {p:Option Str} {k:Nat} {r:Way} {rs:List Way} (h:r.2.2.2≠"") (n:p=none\/p=some r.2.1):fR p k (r::rs)=fR (some r.2.2.1) (k+1) rs:=by
 show (if r.2.2.2 = "" then Due.way else if p≠none/\p≠some r.2.1 then .brk k else fR (some r.2.2.1) (k+1) rs)=_
 rw [if_neg h,if_neg (fun z=>n.elim z.1 z.2)]
noncomputable def kg:Due->List V
 | .ok=>[]
 | .way=>[.str "way"]
 | .brk k=>[.str "broken",.int k]
theorem yk {rs:List Way} {A B:Prop} {C:Nat->Prop} (h:bz rs = .way) (q:(bz rs = .way/\A)\/(∃ k,bz rs = .brk k/\C k)\/(bz rs = .ok/\B)):A:=by
 rw [h] at q
 rcases q with ⟨_,a⟩ | ⟨k,e,_⟩ | ⟨e,_⟩
 ·exact a
 ·cases e
 ·cases e
theorem rS {rs:List Way} {A B:Prop} {C:Nat->Prop} {n:Nat} (h:bz rs = .brk n) (q:(bz rs = .way/\A)\/(∃ k,bz rs = .brk k/\C k)\/(bz rs = .ok/\B)):C n:=by
 rw [h] at q
 rcases q with ⟨e,_⟩ | ⟨k,e,c⟩ | ⟨e,_⟩
 ·cases e
 ·cases e; exact c
 ·cases e
theorem zN {rs:List Way} {A B:Prop} {C:Nat->Prop} (h:bz rs = .ok) (q:(bz rs = .way/\A)\/(∃ k,bz rs = .brk k/\C k)\/(bz rs = .ok/\B)):B:=by
 rw [h] at q
 rcases q with ⟨e,_⟩ | ⟨k,e,_⟩ | ⟨_,b⟩
 ·cases e
 ·cases e
 ·exact b
theorem ue {H H1:Hp} {e d:Fe} {x x' y:HO} (s:af H H1) (he:H1 e=none) (hd:upd H1 e x d=none) :
  af H (fun b=>if b=e then none else upd (upd (upd H1 e x) d y) e x' b)/\H d=none/\(if d=e then none else upd (upd (upd H1 e x) d y) e x' d)=some y:=by
 have de:d≠e:=fun z=>by rw [z,ae] at hd; cases hd
 have hd1:H1 d=none:=by rw [aq de] at hd; exact hd
 refine ⟨fun a o h=>?_,s.free hd1,by rw [if_neg de,aq de,ae]⟩
 have h1:=s _ _ h
 have n1:a≠e:=aO h1 he
 have n2:a≠d:=aO h1 hd1
 show (if a=e then none else upd (upd (upd H1 e x) d y) e x' a)=_
 rw [if_neg n1,aq n1,aq n2,aq n1]
 exact h1
theorem wC (rs:List Way):(rs.map fun r=>V.str r.1)=(rs.map (·.1)).map V.str:=by
 rw [GI]
 rfl
theorem jB (rs:List Way):(rs.map fun r=>V.str r.1).all dw=true:=by
 rw [wC]
 exact fU _
theorem nS (rs:List Way):iC (rs.map fun r=>V.str r.1) []=decide (rs=[]):=by
 cases rs with
 | nil=>rfl
 | cons r rs=>simp [iC]
theorem jw {rs:List Way} {i:Nat} {v:V} (h:(rs.map fun r=>V.str r.1)[i]? = some v):∃ r,rs[i]? = some r/\v = .str r.1:=by
 rw [FN] at h
 cases e:rs[i]? with
 | none=>rw [e] at h; cases h
 | some d=>rw [e] at h; exact ⟨d,rfl,(Fw h).symm⟩
end Ck
namespace L2
open PySem PySem.Spec PyProof.Rows
theorem xu {X:Cx} {K:FD} (hK:X.K=K) (hc:X.calm=true):ij X (.builtin "all") (fun xs H Q=>∃ (p:Fe) (bs:List Bool),xs=[.ref p]/\av K H p (bs.map V.bl)/\Q (.bl (bs.all id)) H):=by
 subst hK
 exact yT hc
theorem vm {K:FD} {a:Fe} {xs:List V} {g:TG} {tt:TT} {te:TE} {σ0:St} {H:Hp} {D:Fe} {Q:VK} (Pv:Nat->List V->Hp->Prop) (hz:xs.length<=sizeLine)
  (h0:Pv 0 [] (upd H D (.lst []))) (hl:∀ i ys H',i<=xs.length->Pv i ys H'->bJ K H' a xs/\ys.length<=i)
  (hs:∀ (i:Nat) (x:V) (ys:List V) (H':Hp) (R:VK) (R0:Hp->Prop),xs[i]? = some x->Pv i ys H'->(∀ v H3,H3 D=some (.lst ys)->Pv (i+1) (ys++[v]) (upd H3 D (.lst (ys++[v])))->R v H3)->(∀ H3,Pv (i+1) ys H3->R0 H3) ->
   g x σ0 H' fun σ2 H2=>Ext σ0 σ2/\tt σ2 H2 fun b H3=>if b=true then te σ2 H3 R else R0 H3)
  (hq:∀ ys H',Pv xs.length ys H'->Q (.ref D) H') :
  ot (CL K a) g tt te σ0 D Q H:=by
 refine ⟨fun i m ys H'=>m=xs.length - i/\i<=xs.length/\Pv i ys H',⟨xs.length,by simp,Fy _,h0⟩,?_⟩
 rintro i m ys H' ⟨rfl,hi,p⟩
 obtain ⟨sq,ly⟩:=hl i ys H' hi p
 by_cases hlt:i < xs.length
 ·refine .inr ⟨⟨xs,xs[i],sq,by simp [hlt]⟩,fun x H'' y=>?_⟩
  obtain ⟨e,y⟩:=y
  subst e
  have ex:=y xs sq
  refine hs i x ys _ _ _ ex p (fun v H3 hD p'=>⟨hD,by lia,xs.length - (i+1),by lia,rfl,hlt,p'⟩) fun H3 p'=>⟨xs.length - (i+1),by lia,rfl,hlt,p'⟩
 ·have e:i=xs.length:=by lia
  subst e
  exact .inl ⟨⟨xs,sq,Fg _⟩,hq ys H' p⟩
end L2
namespace Ck
open PySem L2
noncomputable def gJ:List Str:=["peaks","returns","height","leaves","rootage"]
def sX (H:Hp) (v:V) (ys:List Str):Prop:=∃ a,v = .ref a/\H a=some (.lst (ys.map V.str))
theorem zH {H H':Hp} {xs:List V} {yss:List (List Str)} (h:FQ (sX H) xs yss) (s:af H H'):FQ (sX H') xs yss:=Paired.mapP h fun _ _ ⟨a,e,k⟩=>⟨a,e,s _ _ k⟩
theorem AX {H:Hp} {xs:List V} {rs:List (List Str)} (h:FQ (sX H) xs rs) {i:Nat} {x:V} (hx:xs[i]? = some x):∃ f,rs[i]? = some f/\sX H x f:=by
 induction h generalizing i with
 | nil=>cases hx
 | @cons y f ys fs h _ ih =>
  cases i with
  | zero=>simp only [GS,HC] at hx; subst hx; exact ⟨f,rfl,h⟩
  | succ i=>rw [FZ] at hx; obtain ⟨g,g1,g2⟩:=ih hx; exact ⟨g,by rw [FZ]; exact g1,g2⟩
def yZ (D:Fe) (H:Hp) (v:V) (ys:List Str):Prop:=∃ a,v = .ref a/\a≠D/\H a=some (.lst (ys.map V.str))
theorem yv {D:Fe} {H H':Hp} {o:HO} {xs:List V} {yss:List (List Str)} (h:FQ (yZ D H) xs yss) (s:af H H'):FQ (yZ D (upd H' D o)) xs yss:=Paired.mapP h fun _ _ ⟨a,e,n,k⟩=>⟨a,e,n,(aq n).trans (s _ _ k)⟩
theorem BJ {D:Fe} {H:Hp} {xs:List V} {yss:List (List Str)} (h:FQ (yZ D H) xs yss):FQ (sX H) xs yss:=Paired.mapP h fun _ _ ⟨a,e,_,k⟩=>⟨a,e,k⟩
theorem xi {α β:Type} {P:α->β->Prop} {xs:List α} {rs:List β} {v:α} {y:β} (h:FQ P xs rs) (k:P v y):FQ P (xs++[v]) (rs++[y]):=by
 induction h with
 | nil=>exact .cons k .nil
 | cons r _ ih=>exact .cons r ih
theorem Cn (x:Str) (rs:List Way):(rs.map fun r=>decide (x∈dA r)).all id=rs.all fun r=>decide (x∈dA r):=by
 rw [Ke]
 rfl
noncomputable def prev (rs:List Way) (k:Nat):Option Str:=if k=0 then none else (rs[k - 1]?).map (·.2.2.1)
theorem xv {rs:List Way} {k:Nat} {r:Way} (h:rs[k]? = some r):prev rs (k+1)=some r.2.2.1:=by
 unfold prev
 rw [if_neg (Jo k),Nat.add_sub_cancel,h]
 rfl
theorem wA {rs:List Way} {k:Nat} {r:Way} (h:rs[k]? = some r):(gJ.filter fun x=>(rs.take (k+1)).all fun r=>decide (x∈dA r))=(gJ.filter fun x=>(rs.take k).all fun r=>decide (x∈dA r)).filter fun x=>decide (x∈dA r):=by
 rw [List.filter_filter,FS,h]
 refine List.filter_congr fun x _=>?_
 show ((rs.take k++[r]).all fun r=>decide (x∈dA r))=_
 rw [List.all_append,Bool.and_comm]
 simp
theorem m4 (d:Due):(kg d).all dw=true:=by cases d<;>rfl
theorem yV (d:Due):iC (kg d) (kg d)=true:=by cases d<;>simp [kg,iC,dB]
theorem ni (d:Due):iC (kg d) []=(match d with | .ok=>true | _=>false):=by cases d<;>simp [kg,iC]
theorem vZ (rs:List Way):iC (rs.map fun r=>V.str r.1) (rs.map fun r=>V.str r.1)=true:=by
 induction rs with
 | nil=>rfl
 | cons r rs ih =>
  simp only [FO,iC,FY]
  exact ⟨by simp [dB],ih⟩
theorem xc (rs:List Way):(rs.map fun r=>V.str r.2.2.2)=(rs.map (·.2.2.2)).map V.str:=by
 rw [GI]
 rfl
theorem zK (rs:List Way):(wG rs).length<=5:=GN _ _
end Ck
namespace Ck
open PySem PySem.W PySem.Calls PyProof.Rows
noncomputable def uH {α:Type} (p q:FG) (loose:List Str) (Xt:Do->Bool) (Yf:Do->α) (h0:GG) (s:Do) :=
 ((staticsOk (importedModules p.main.body) h0 s.heap&&namesBound p s.heap&&gensDone s&&laidKept h0 s.heap),
  openSeen q loose (importedModules p.main.body) Xt true s,Yf s)
theorem vS {p q:FG} {loose:List Str} {Xt:Do->Bool} {α:Type} {Yf:Do->α} {Ya:FU->α} {N M m:Nat} {H:Gc->GG} {gs:Array JR} {dr:Drawn} {tk:Nat} {an:Option AC}
  (o:∀ w:FU,(fencedOpening treeTable p w N).map (fun s=>(s.heap,s.gens,s.drawn,s.toks))=some (H w.params,gs,dr,tk))
  (z:∀ w:FU,((H w.params).isNs mainGlobals&&gs.size == 0,(H w.params).objs.size,(H w.params).nsMap mainGlobals "__annotations__")=(true,m,an))
  (r:∀ (w:FU) (os:HG),∃ e,topRun treeTable p w m an M ⟨H w.params,gs,dr,tk,os⟩ (topStub p)=some e/\uH p q loose Xt Yf (H w.params) e=(true,openGood q loose,Ya w))
  (le:M<=N):LeftO p q loose Xt Yf Ya N:=by
 intro w
 have ow:=o w
 cases hf:fencedOpening treeTable p w N with
 | none=>rw [hf] at ow; cases ow
 | some s =>
  rw [hf] at ow
  have os:=Fw ow
  have e1:s.heap=H w.params:=congrArg JU os
  have e2:s.gens=gs:=congrArg (fun x=>x.2.1) os
  have e3:s.drawn=dr:=congrArg (fun x=>x.2.2.1) os
  have e4:s.toks=tk:=congrArg (fun x=>x.2.2.2) os
  obtain ⟨e,run,look⟩:=r w s.os
  have hs:s=⟨H w.params,gs,dr,tk,s.os⟩:=by rw [<- e1,<- e2,<- e3,<- e4]
  have run':=topRun_mono (N - M) _ _ _ _ run
  rw [Nat.add_sub_cancel' le] at run'
  have zw:=z w
  have z1:=congrArg JU zw
  have z2:=congrArg (fun x=>x.2.1) zw
  have z3:=congrArg (fun x=>x.2.2) zw
  dsimp only at z1 z2 z3
  have l1:=congrArg JU look
  have l2:=congrArg Prod.snd look
  have tf:topFrom treeTable p w N s=some e:=by
   rw [hs]
   unfold topFrom
   dsimp only
   rw [z1,z2,z3,run']
   unfold uH at l1
   dsimp only at l1
   dsimp only [Option.bind]
   rw [l1]
  unfold openEnds
  rw [hf,Jn,tf]
  exact congrArg some l2
noncomputable def alive (o:Obj):Option Obj:=match o with
 | ⟨_,_,.freed,_⟩=>none
 | o=>some o
noncomputable def gS:List Obj->List Bool->List (Option Obj)
 | _,[]=>[]
 | [],true::m=>none::gS [] m
 | [],false::m=>gS [] m
 | o::os,true::m=>alive o::gS os m
 | _::os,false::m=>gS os m
noncomputable def j9:List Bool->Nat->List Nat
 | [],_=>[]
 | true::m,i=>i::j9 m (i+1)
 | false::m,i=>j9 m (i+1)
theorem oO:∀ (m:List Bool) (os:List Obj) (pre:List Obj),gS os m=(j9 m pre.length).map fun a=>(pre++os)[a]?.bind alive
 | [],os,pre=>by cases os<;>rfl
 | b::m,[],pre=>by
  have k:=oO m [] (pre++[default])
  rw [Fo,Io] at k
  have e:∀ i,pre.length < i->((pre++[(default:Obj)])++[])[i]?.bind alive=(pre++[])[i]?.bind alive:=fun i hi=>by
   rw [Iq (by simp; lia),Iq (by simp; lia)]
  have lt:∀ (m:List Bool) (n i:Nat),i∈j9 m n->n<=i:=by
   intro m
   induction m with
   | nil=>intro n i h; cases h
   | cons b m ih=>intro n i h; cases b with
    | true =>
     rcases FB.1 h with h | h
     ·lia
     ·have:=ih _ _ h; lia
    | false=>have:=ih _ _ h; lia
  have k':gS [] m=(j9 m (pre.length+1)).map fun a=>(pre++[])[a]?.bind alive:=by
   rw [k]; exact List.map_congr_left fun i hi=>e i (lt _ _ _ hi)
  cases b with
  | true=>show none::gS [] m=_::_; rw [k']; congr 1; simp
  | false=>exact k'
 | b::m,o::os,pre=>by
  have k:=oO m os (pre++[o])
  rw [Fo,Io,FF,List.singleton_append] at k
  cases b with
  | true=>show alive o::gS os m=_::_; rw [k]; congr 1; simp
  | false=>exact k
theorem wK (h:GG) (a:Fe):h.get? a=h.objs.toList[a]?.bind alive:=by
 unfold Heap.get?
 rw [Array.getElem?_toList]
 cases h.objs[a]? with
 | none=>rfl
 | some o=>obtain ⟨c,d,x,s⟩:=o; cases x<;>rfl
theorem z5 {m:List Bool} {as:List Fe} (e:as=j9 m 0) (h:GG):as.map h.get? = gS h.objs.toList m:=by
 rw [oO m h.objs.toList [],e]
 exact List.map_congr_left fun a _=>wK h a
section
variable {tb:String->Option Builtin} {p:FG} {w:FU} {m:Nat} {an:Option AC} {env:Env} {q:Pos}
noncomputable def oQ {β:Type} (tb:String->Option Builtin) (p:FG) (w:FU) (m:Nat) (an:Option AC) (q:Pos) (c:Code) (n4:Nat) (L:Do->β) (r:Flow × SharedT × Code × Pos):Flow × Code × Option β :=
 (r.1,r.2.2.1,(topRun tb p w m an n4 r.2.1.abs ⟨doneF .next,c,r.2.2.2,[topFrame q]⟩).map L)
theorem Ah {β:Type} {L:Do->β} {b:List Hc} {c:Code} {k n1 n2 n3 n4 n5:Nat} {S0 Sa:Do} {Sb Sc:SharedT} {pos0 pos1 pos2:Pos} {z:β} (hc:c = .body b env)
  (h1:topGo tb p w m an n1 S0 (topStub p)=some (Sa,⟨denote tb c,c,pos0,[topFrame q]⟩))
  (h2:segRun tb p w m an 1 n2 Sa (blockOf b env c pos0 [topFrame q])=some (.next,Sb.abs,c,pos1))
  (h3:segRunT tb p w m an 1 n3 Sb (piecesOf (b.take k) env c pos1 [topFrame q])=some (.next,Sc,c,pos2))
  (h4:(segRunT tb p w m an 1 n5 Sc (piecesOf (b.drop k) env c pos2 [topFrame q])).map (oQ tb p w m an q c n4 L)=some (.next,c,some z)) :
  ∃ e,topRun tb p w m an (n1+(n2+(n3+(n5+n4)))) S0 (topStub p)=some e/\L e=z:=by
 cases hr:segRunT tb p w m an 1 n5 Sc (piecesOf (b.drop k) env c pos2 [topFrame q]) with
 | none=>rw [hr] at h4; cases h4
 | some x =>
  obtain ⟨f,s,d,ps⟩:=x
  rw [hr] at h4
  have h4:=Fw h4
  unfold oQ at h4
  have a1:f = .next:=congrArg JU h4
  have a2:d=c:=congrArg (fun x=>x.2.1) h4
  have a3:=congrArg (fun x=>x.2.2) h4
  dsimp only at a3
  subst a1 a2 hc
  cases ht:topRun tb p w m an n4 s.abs ⟨doneF .next,.body b env,ps,[topFrame q]⟩ with
  | none=>rw [ht] at a3; cases a3
  | some e =>
   rw [ht] at a3
   have k2:=piece_app (rest:=[]) (segRun_of hr) (piece_nil ht)
   rw [FR] at k2
   have k1:=piece_app (segRun_of h3) k2
   rw [GM] at k1
   exact ⟨e,go_top h1 (piece_block h2 k1),Fw a3⟩
end
end Ck
namespace Ck
open PySem L2
noncomputable def top (i:Nat):Hc:=PySem.Challenge.pw_countkin_k54_chains_looked_at.main.body.getD i (.Pass ⟨0,0,0,0⟩)
set_option genInjectivity false in
structure aR where
 aG:Fe
 aP:Fe
 a7:Fe
 bw:Fe
 bp:Fe
 aZ:Fe
 bu:Fe
 cf:Fe
 fW:Fe
 bo:Fe
 br:Fe
 bI:Fe
 cE:Fe
 sd:Fe
 iZ:Fe
 vD:Fe
 uX:Fe
 vM:Fe
 qO:Fe
 qM:Fe
 wo:Fe
 qY:Fe
 pE:Fe
 qW:Fe
 qX:Fe
 ra:Fe
 eC:Fe
 eD:Fe
 eG:Fe
 eJ:Fe
 eo:Fe
 eS:Fe
 da:Fe
 cZ:Fe
 cw:Fe
 cy:Fe
 cq:Fe
 cn:Fe
 cF:Fe
 cG:Fe
 cA:Fe
 cu:Fe
 bX:Fe
 bV:Fe
 gB:Fe
 kA:Fe
 dO:Fe
 dG:Fe
 cV:Fe
 fN:Fe
 dF:Fe
 gu:Fe
 eF:Fe
 eO:Fe
 eL:Fe
 fA:Fe
 cQ:Fe
 eA:Fe
 ft:Fe
 dE:Fe
 eE:Fe
 dH:Fe
 eI:Fe
 eN:Fe
 dM:Fe
 fq:Fe
 dv:Fe
 fu:Fe
 dN:Fe
 fw:Fe
 fB:Fe
 dY:Fe
 fO:Fe
 d6:Fe
 dz:Fe
 fF:Fe
 dC:Fe
 dj:Fe
 dZ:Fe
 cM:Fe
 cD:Fe
 cW:Fe
 cc:Fe
 T:Fe
 cc2:Fe
 T2:Fe
 D:Fe
 M_MARKS_ORDER:Fe
structure AB (K:FD) (mg:Str->Option AC) (ca:aR):Prop where
 vB:mg "Brackets" = some (.ref ca.aG)
 yY:mg "Stairs" = some (.ref ca.aP)
 zY:mg "Twins" = some (.ref ca.a7)
 Bn:mg "Bows" = some (.ref ca.bw)
 zZ:mg "Rooms" = some (.ref ca.bp)
 yQ:mg "Floors" = some (.ref ca.aZ)
 z8:mg "Turns" = some (.ref ca.bu)
 cJ:mg "SplitFamily" = some (.ref ca.cf)
 se:mg "Family" = some (.ref ca.fW)
 Ac:mg "Codes" = some (.ref ca.bo)
 zJ:mg "Trees" = some (.ref ca.br)
 Az:mg "Cars" = some (.ref ca.bI)
 iM:mg "RingFamily" = some (.ref ca.cE)
 iq:eW K ca.aG
 jG:eW K ca.aP
 ml:eW K ca.a7
 nK:eW K ca.bw
 kZ:eW K ca.bp
 jQ:eW K ca.aZ
 lM:eW K ca.bu
 oZ:eW K ca.bo
 o8:eW K ca.br
 sU:eW K ca.bI
 mk_Brackets:Mk K ca.aG ca.vD
 mk_Stairs:Mk K ca.aP ca.uX
 mk_Twins:Mk K ca.a7 ca.vM
 mk_Bows:Mk K ca.bw ca.qO
 mk_Rooms:Mk K ca.bp ca.qM
 mk_Floors:Mk K ca.aZ ca.wo
 mk_Turns:Mk K ca.bu ca.qY
 mk_Codes:Mk K ca.bo ca.qW
 mk_Trees:Mk K ca.br ca.qX
 mk_Cars:Mk K ca.bI ca.ra
 cm_SplitFamily___init___Z:vR K ca.cf "__init__" ca.iZ
 cm_Family___init___Z:vR K ca.fW "__init__" ca.sd
 cm_RingFamily___init___Z:vR K ca.cE "__init__" ca.pE
 bG:aM K ca.aG "word"
 bQ:aM K ca.aP "word"
 cm:aM K ca.a7 "word"
 cC:aM K ca.bw "word"
 cg:aM K ca.bp "word"
 bR:aM K ca.aZ "word"
 bZ:aM K ca.bu "word"
 cP:aM K ca.aG "least"
 dJ:aM K ca.aP "least"
 eK:aM K ca.a7 "least"
 fo:aM K ca.bw "least"
 dX:aM K ca.bp "least"
 dI:aM K ca.aZ "least"
 eM:aM K ca.bu "least"
 cL:aM K ca.bo "word"
 cK:aM K ca.br "word"
 dk:aM K ca.bI "word"
 eR:aM K ca.bo "least"
 d9:aM K ca.br "least"
 fE:aM K ca.bI "least"
 oF:mg "code_to_cars" = some (.ref ca.eC)
 oU:mg "cars_to_code" = some (.ref ca.eD)
 oJ:mg "cars_to_tree" = some (.ref ca.eG)
 oK:mg "tree_to_cars" = some (.ref ca.eJ)
 pV:mg "code_to_tree" = some (.ref ca.eo)
 ph:mg "tree_to_code" = some (.ref ca.eS)
 mL:mg "floor_to_twins" = some (.ref ca.da)
 m6:mg "twins_to_floor" = some (.ref ca.cZ)
 j0:mg "turns_to_brackets" = some (.ref ca.cw)
 jZ:mg "brackets_to_turns" = some (.ref ca.cy)
 j6:mg "rooms_to_brackets" = some (.ref ca.cq)
 j5:mg "brackets_to_rooms" = some (.ref ca.cn)
 kz:mg "bows_to_brackets" = some (.ref ca.cF)
 kK:mg "brackets_to_bows" = some (.ref ca.cG)
 jX:mg "twins_to_brackets" = some (.ref ca.cA)
 jY:mg "brackets_to_twins" = some (.ref ca.cu)
 jN:mg "stairs_to_brackets" = some (.ref ca.bX)
 jA:mg "brackets_to_stairs" = some (.ref ca.bV)
 vW:mg "gapsback" = some (.ref ca.gB)
 CS:mg "gaps" = some (.ref ca.kA)
 nR:mg "feet_to_rooms" = some (.ref ca.dO)
 nt:mg "rooms_to_feet" = some (.ref ca.dG)
 mV:mg "floor_turnback" = some (.ref ca.cV)
 rh:mg "floor_turn" = some (.ref ca.fN)
 ou:mg "bows_turnback" = some (.ref ca.dF)
 tV:mg "bows_turn" = some (.ref ca.gu)
 pj:mg "turns_mirror" = some (.ref ca.eF)
 pb:mg "floor_mirror" = some (.ref ca.eO)
 pN:mg "twins_mirror" = some (.ref ca.eL)
 qz:mg "bows_mirror" = some (.ref ca.fA)
 mG:mg "brackets_mirror" = some (.ref ca.cQ)
 oA:mg "cars_rootage" = some (.ref ca.eA)
 qy:mg "cars_leaves" = some (.ref ca.ft)
 nM:mg "trees_rootage" = some (.ref ca.dE)
 oM:mg "trees_leaves" = some (.ref ca.eE)
 n9:mg "codes_rootage" = some (.ref ca.dH)
 oR:mg "codes_leaves" = some (.ref ca.eI)
 oY:mg "turns_height" = some (.ref ca.eN)
 nV:mg "turns_returns" = some (.ref ca.dM)
 qD:mg "turns_peaks" = some (.ref ca.fq)
 nq:mg "floor_returns" = some (.ref ca.dv)
 qH:mg "floor_peaks" = some (.ref ca.fu)
 nG:mg "rooms_returns" = some (.ref ca.dN)
 qA:mg "rooms_peaks" = some (.ref ca.fw)
 qB:mg "bows_height" = some (.ref ca.fB)
 pI:mg "bows_returns" = some (.ref ca.dY)
 sJ:mg "bows_peaks" = some (.ref ca.fO)
 oV:mg "twins_height" = some (.ref ca.d6)
 nO:mg "twins_returns" = some (.ref ca.dz)
 qG:mg "twins_peaks" = some (.ref ca.fF)
 oj:mg "stairs_height" = some (.ref ca.dC)
 m3:mg "stairs_returns" = some (.ref ca.dj)
 pq:mg "stairs_peaks" = some (.ref ca.dZ)
 mF:mg "brackets_height" = some (.ref ca.cM)
 ku:mg "brackets_returns" = some (.ref ca.cD)
 mP:mg "brackets_peaks" = some (.ref ca.cW)
 tb:∀ h,K.In h->W.CodeHd h ca.cc ca.T
 tb2:∀ h,K.In h->W.CodeHd h ca.cc2 ca.T2
 gD:mg "OTHER_MANNERS" = some (.ref ca.D)
 qI:mg "MARKS_ORDER" = some (.ref ca.M_MARKS_ORDER)
 t_MARKS_ORDER:∀ H,bJ K H ca.M_MARKS_ORDER [.str "peaks",.str "returns",.str "height",.str "leaves",.str "rootage"]
noncomputable abbrev pY:Hc:=top 158
theorem vY:ay ["_law_first","_law_last","_law_how","_law_back","_law_one","_law_other"] ["_law_first","_law_last","_law_how","_law_back"] (ag pY):=⟨rfl,rfl,rfl,by decide +kernel,rfl,by decide +kernel,by decide +kernel⟩
noncomputable abbrev lX:Hc:=top 159
theorem cN:ay ["_law_found","_law_words","_law_word","_law_k","_law_j"] [] (ag lX):=⟨rfl,rfl,rfl,by decide +kernel,rfl,by decide +kernel,by decide +kernel⟩
noncomputable abbrev lC:Hc:=top 157
theorem xO:ay ["_law_cell","_law_turn","_law_number"] ["_law_cell","_law_turn"] (ag lC):=⟨rfl,rfl,rfl,by decide +kernel,rfl,by decide +kernel,by decide +kernel⟩
noncomputable abbrev lO:Hc:=top 163
theorem g4:ay ["_law_script","_law_turn","_law_many","_law_cells","_law_found","_law_lefts","_law_k","_law_at","_law_number"] ["_law_script","_law_turn","_law_many"] (ag lO):=⟨rfl,rfl,rfl,by decide +kernel,rfl,by decide +kernel,by decide +kernel⟩
noncomputable abbrev lA:Hc:=top 164
theorem gp:ay ["_law_script","_law_rows","_law_found","_law_here","_law_draws_here","_law_number","_law_options","_law_row"] ["_law_script"] (ag lA):=⟨rfl,rfl,rfl,by decide +kernel,rfl,by decide +kernel,by decide +kernel⟩
noncomputable abbrev lU:Hc:=top 165
theorem wH:ay ["_law_rows","_law_k"] ["_law_rows"] (ag lU):=⟨rfl,rfl,rfl,by decide +kernel,rfl,by decide +kernel,by decide +kernel⟩
noncomputable abbrev pX:Hc:=inClass (top 11) 0
theorem Du:ay ["self","place"] ["self","place"] (ag pX):=⟨rfl,rfl,rfl,by decide +kernel,rfl,by decide +kernel,by decide +kernel⟩
noncomputable abbrev iV:Hc:=top 138
theorem Bi:ay [] [] (ag iV):=⟨rfl,rfl,rfl,by decide +kernel,rfl,by decide +kernel,by decide +kernel⟩
noncomputable abbrev oG:Hc:=inClass (top 13) 0
theorem DB:ay ["self","word","least"] ["self","word","least"] (ag oG):=⟨rfl,rfl,rfl,by decide +kernel,rfl,by decide +kernel,by decide +kernel⟩
noncomputable abbrev oN:Hc:=inClass (top 14) 0
theorem C8:ay ["self","word"] ["self","word"] (ag oN):=⟨rfl,rfl,rfl,by decide +kernel,rfl,by decide +kernel,by decide +kernel⟩
noncomputable abbrev oP:Hc:=inClass (top 38) 0
theorem C9:ay ["self"] ["self"] (ag oP):=⟨rfl,rfl,rfl,by decide +kernel,rfl,by decide +kernel,by decide +kernel⟩
noncomputable abbrev pk:Hc:=inClass (top 40) 0
theorem C6:ay ["self"] ["self"] (ag pk):=⟨rfl,rfl,rfl,by decide +kernel,rfl,by decide +kernel,by decide +kernel⟩
noncomputable abbrev pM:Hc:=inClass (top 43) 0
theorem DH:ay ["self"] ["self"] (ag pM):=⟨rfl,rfl,rfl,by decide +kernel,rfl,by decide +kernel,by decide +kernel⟩
noncomputable abbrev lJ:Hc:=inClass (top 56) 0
theorem A9:ay ["self"] ["self"] (ag lJ):=⟨rfl,rfl,rfl,by decide +kernel,rfl,by decide +kernel,by decide +kernel⟩
noncomputable abbrev lY:Hc:=inClass (top 57) 0
theorem B6:ay ["self"] ["self"] (ag lY):=⟨rfl,rfl,rfl,by decide +kernel,rfl,by decide +kernel,by decide +kernel⟩
noncomputable abbrev oH:Hc:=inClass (top 32) 0
theorem C7:ay ["self"] ["self"] (ag oH):=⟨rfl,rfl,rfl,by decide +kernel,rfl,by decide +kernel,by decide +kernel⟩
noncomputable abbrev md:Hc:=inClass (top 60) 0
theorem BL:ay ["self"] ["self"] (ag md):=⟨rfl,rfl,rfl,by decide +kernel,rfl,by decide +kernel,by decide +kernel⟩
noncomputable abbrev lT:Hc:=top 63
theorem CM:ay [] [] (ag lT):=⟨rfl,rfl,rfl,by decide +kernel,rfl,by decide +kernel,by decide +kernel⟩
noncomputable abbrev kS:Hc:=top 140
theorem AI:ay ["one","other"] ["one","other"] (ag kS):=⟨rfl,rfl,rfl,by decide +kernel,rfl,by decide +kernel,by decide +kernel⟩
noncomputable abbrev jI:Hc:=top 141
theorem Bd:ay ["one","other"] ["one","other"] (ag jI):=⟨rfl,rfl,rfl,by decide +kernel,rfl,by decide +kernel,by decide +kernel⟩
noncomputable abbrev mj:Hc:=top 142
theorem nH:ay ["found","one","other"] [] (ag mj):=⟨rfl,rfl,rfl,by decide +kernel,rfl,by decide +kernel,by decide +kernel⟩
noncomputable abbrev iQ:Hc:=top 139
theorem A6:ay [] [] (ag iQ):=⟨rfl,rfl,rfl,by decide +kernel,rfl,by decide +kernel,by decide +kernel⟩
noncomputable abbrev kY:Hc:=top 143
theorem xj:ay ["found"] [] (ag kY):=⟨rfl,rfl,rfl,by decide +kernel,rfl,by decide +kernel,by decide +kernel⟩
noncomputable abbrev lH:Hc:=top 144
theorem xK:ay ["name","found"] ["name"] (ag lH):=⟨rfl,rfl,rfl,by decide +kernel,rfl,by decide +kernel,by decide +kernel⟩
noncomputable abbrev lQ:Hc:=top 146
theorem xD:ay ["name","words"] ["name"] (ag lQ):=⟨rfl,rfl,rfl,by decide +kernel,rfl,by decide +kernel,by decide +kernel⟩
noncomputable abbrev kT:Hc:=top 150
theorem jm:ay ["names","reached","place","name","words"] ["names"] (ag kT):=⟨rfl,rfl,rfl,by decide +kernel,rfl,by decide +kernel,by decide +kernel⟩
noncomputable abbrev jO:Hc:=top 151
theorem xY:ay ["names","ways"] ["names"] (ag jO):=⟨rfl,rfl,rfl,by decide +kernel,rfl,by decide +kernel,by decide +kernel⟩
noncomputable abbrev lG:Hc:=top 145
theorem BZ:ay ["name"] ["name"] (ag lG):=⟨rfl,rfl,rfl,by decide +kernel,rfl,by decide +kernel,by decide +kernel⟩
noncomputable abbrev lI:Hc:=top 147
theorem jo:ay ["name","words","one","other","manner","back"] ["name"] (ag lI):=⟨rfl,rfl,rfl,by decide +kernel,rfl,by decide +kernel,by decide +kernel⟩
noncomputable abbrev mm:Hc:=top 153
theorem BX:ay ["names"] ["names"] (ag mm):=⟨rfl,rfl,rfl,by decide +kernel,rfl,by decide +kernel,by decide +kernel⟩
noncomputable abbrev me:Hc:=top 149
theorem Cr:ay ["words","manner"] ["words","manner"] (ag me):=⟨rfl,rfl,rfl,by decide +kernel,rfl,by decide +kernel,by decide +kernel⟩
noncomputable abbrev pC:Hc:=inClass (top 18) 0
theorem Dz:ay ["self","word"] ["self","word"] (ag pC):=⟨rfl,rfl,rfl,by decide +kernel,rfl,by decide +kernel,by decide +kernel⟩
noncomputable abbrev lW:Hc:=inClass (top 19) 0
theorem CK:ay ["self"] ["self"] (ag lW):=⟨rfl,rfl,rfl,by decide +kernel,rfl,by decide +kernel,by decide +kernel⟩
noncomputable abbrev lN:Hc:=inClass (top 51) 0
theorem AR:ay ["self"] ["self"] (ag lN):=⟨rfl,rfl,rfl,by decide +kernel,rfl,by decide +kernel,by decide +kernel⟩
noncomputable abbrev kQ:Hc:=inClass (top 21) 0
theorem Cp:ay ["self"] ["self"] (ag kQ):=⟨rfl,rfl,rfl,by decide +kernel,rfl,by decide +kernel,by decide +kernel⟩
noncomputable abbrev lV:Hc:=top 64
theorem Cy:ay [] [] (ag lV):=⟨rfl,rfl,rfl,by decide +kernel,rfl,by decide +kernel,by decide +kernel⟩
noncomputable abbrev mi:Hc:=top 65
theorem wQ:ay ["word","family"] ["word"] (ag mi):=⟨rfl,rfl,rfl,by decide +kernel,rfl,by decide +kernel,by decide +kernel⟩
noncomputable abbrev iO:Hc:=top 101
theorem A8:ay [] [] (ag iO):=⟨rfl,rfl,rfl,by decide +kernel,rfl,by decide +kernel,by decide +kernel⟩
noncomputable abbrev lF:Hc:=top 102
theorem wO:ay ["word","family"] ["word"] (ag lF):=⟨rfl,rfl,rfl,by decide +kernel,rfl,by decide +kernel,by decide +kernel⟩
noncomputable abbrev my:Hc:=top 148
theorem rO:ay ["name","words","others"] ["name"] (ag my):=⟨rfl,rfl,rfl,by decide +kernel,rfl,by decide +kernel,by decide +kernel⟩
noncomputable abbrev lS:Hc:=top 154
theorem xl:ay ["names","lists"] ["names"] (ag lS):=⟨rfl,rfl,rfl,by decide +kernel,rfl,by decide +kernel,by decide +kernel⟩
noncomputable abbrev mn:Hc:=top 166
theorem B0:ay ["_law_kind","_law_names"] ["_law_kind","_law_names"] (ag mn):=⟨rfl,rfl,rfl,by decide +kernel,rfl,by decide +kernel,by decide +kernel⟩
noncomputable abbrev mr:Hc:=top 156
theorem Cz:ay ["_law_found"] ["_law_found"] (ag mr):=⟨rfl,rfl,rfl,by decide +kernel,rfl,by decide +kernel,by decide +kernel⟩
noncomputable abbrev lg:Hc:=top 167
theorem iA:ay ["_law_kind","_law_names","_law_kept","_law_place","e"] ["_law_kind","_law_names"] (ag lg):=⟨rfl,rfl,rfl,by decide +kernel,rfl,by decide +kernel,by decide +kernel⟩
noncomputable abbrev kX:Hc:=top 162
theorem xJ:ay ["_law_found","_law_due_here","_law_k"] ["_law_found","_law_due_here"] (ag kX):=⟨rfl,rfl,rfl,by decide +kernel,rfl,by decide +kernel,by decide +kernel⟩
noncomputable abbrev ma:Hc:=top 160
theorem BK:ay ["_law_word"] ["_law_word"] (ag ma):=⟨rfl,rfl,rfl,by decide +kernel,rfl,by decide +kernel,by decide +kernel⟩
noncomputable abbrev lj:Hc:=top 161
theorem kH:ay ["_law_row","_law_name","_law_first","_law_last","_law_back"] ["_law_row"] (ag lj):=⟨rfl,rfl,rfl,by decide +kernel,rfl,by decide +kernel,by decide +kernel⟩
noncomputable abbrev oE:Hc:=top 168
theorem qN:ay ["_law_rows","_law_found","_law_row"] ["_law_rows"] (ag oE):=⟨rfl,rfl,rfl,by decide +kernel,rfl,by decide +kernel,by decide +kernel⟩
noncomputable abbrev il:Hc:=top 169
theorem iI:ay ["_law_script","_law_rows","_law_names","_law_due_here","_law_kind","_law_handed","_law_backs"] ["_law_script"] (ag il):=⟨rfl,rfl,rfl,by decide +kernel,rfl,by decide +kernel,by decide +kernel⟩
noncomputable def pU (r:Way):List V:=[.str r.1,.str r.2.1,.str r.2.2.1,.str r.2.2.2]
def et (H:Hp) (v:V) (r:Way):Prop:=∃ a,v = .ref a/\H a=some (.tup (pU r))
def xH (H:Hp) (p:Fe) (rs:List Way):Prop:=∃ xs,H p=some (.lst xs)/\FQ (et H) xs rs
theorem aK {H H':Hp} {xs:List V} {rs:List Way} (h:FQ (et H) xs rs) (s:af H H'):FQ (et H') xs rs:=Paired.mapP h fun _ _ ⟨a,e,k⟩=>⟨a,e,s _ _ k⟩
theorem eQ {H:Hp} {xs ys:List V} {rs ss:List Way} (h:FQ (et H) xs rs) (k:FQ (et H) ys ss):FQ (et H) (xs++ys) (rs++ss):=by
 induction h with
 | nil=>exact k
 | cons r _ ih=>exact .cons r ih
noncomputable def vx (K:FD) (_:aR):Sp:=fun vs H Q _=>∃ (f l h b:Str),vs=[.str f,.str l,.str h,.str b]/\f.length<=100/\l.length<=100/\h.length<=100/\b.length<=100/\∀ (p:Fe) (H':Hp),af H H'->H p=none->xH H' p (two f l h b)->Q (.ref p) H'
noncomputable def rX (K:FD) (_:aR):Sp:=fun vs H Q _=>vs=[]/\∀ (p:Fe) (H':Hp),af H H'->H p=none->xH H' p bH->Q (.ref p) H'
noncomputable def su (_:FD) (_:aR):Sp:=fun vs H Q _=>∃ c t:Int,vs=[.int c,.int t]/\0<=t/\t<=100000/\∀ m:Int,0<=m->m < 2147483629->Q (.int m) H
noncomputable def r6 (K:FD) (_:aR):Sp:=fun vs H Q _=>∃ (a:Fe) (ns:List Int) (t m:Int),vs=[.ref a,.int t,.int m]/\av K H a (ns.map V.int)/\ns.length<=63/\0<=t/\t<=1000/\0<=m/\m<=1000 /\
 ∀ (p:Fe) (xs:List Int) (H':Hp),af H H'->H p=none->H' p=some (.lst (xs.map V.int))->xs.length=m.toNat->(∀ x∈xs,0<=x/\x < 2147483587)->Q (.ref p) H'
theorem o9 {H:Hp} {xs:List V} {rs:List Way} (h:FQ (et H) xs rs) {i:Nat} {x:V} (hx:xs[i]? = some x):∃ f,rs[i]? = some f/\et H x f:=by
 induction h generalizing i with
 | nil=>cases hx
 | @cons y f ys fs h _ ih =>
  cases i with
  | zero=>simp only [GS,HC] at hx; subst hx; exact ⟨f,rfl,h⟩
  | succ i=>rw [FZ] at hx; obtain ⟨g,g1,g2⟩:=ih hx; exact ⟨g,by rw [FZ]; exact g1,g2⟩
theorem B5 (i:Int):∃ y:Str,gI (mH.map V.str) (i % 4)=some (.str y)/\y∈mH/\y.length<=50:=by
 have a0:=G0 i (show (4:Int)≠0 by decide)
 have a1:=GD i (show (0:Int) < 4 by decide)
 generalize i % 4=k at a0 a1 |-
 obtain ⟨j,rfl⟩:∃ j:Nat,k=(j:Int):=⟨_,(IG a0).symm⟩
 have ls:mH.length=4:=rfl
 have hk:j < mH.length:=by lia
 have hb:∀ y∈mH,y.length<=50:=by decide +kernel
 refine ⟨mH[j],gb ?_,HI hk,hb _ (HI hk)⟩
 rw [FN,Fk hk]
 rfl
theorem Bc {x y a b:Nat} (hx:x<=a) (hy:y<=b) (h:a+b<=1000):x+y<=sizeLine:=FW (Nat.add_le_add hx hy) (FW h (by decide))
theorem wR:(bH.all fun r=>decide (r.1.length<=100))=true:=by decide +kernel
noncomputable def sE (K:FD) (_:aR):Sp:=fun vs H Q _=>∃ (a:Fe) (ns:List Int),vs=[.ref a]/\av K H a (ns.map V.int)/\ns.length<=63/\∀ (p:Fe) (rs:List Way) (H':Hp),af H H'->H p=none->xH H' p rs->(∀ r∈rs,Rw r)->rs.length<=12->Q (.ref p) H'
theorem px {H:Hp} {xs:List V} {rs:List Way} (h:FQ (et H) xs rs) {i:Nat} {r:Way} (hx:rs[i]? = some r):∃ a,xs[i]? = some (.ref a)/\H a=some (.tup (pU r)):=by
 induction h generalizing i with
 | nil=>cases hx
 | @cons y f ys fs h _ ih =>
  cases i with
  | zero=>simp only [GS,HC] at hx; subst hx; obtain ⟨a,rfl,k⟩:=h; exact ⟨a,rfl,k⟩
  | succ i=>rw [FZ] at hx; obtain ⟨g,g1,g2⟩:=ih hx; exact ⟨g,by rw [FZ]; exact g1,g2⟩
noncomputable def sO (K:FD) (_:aR):Sp:=fun vs H Q _=>∃ (p:Fe) (rs:List Way),vs=[.ref p]/\xH H p rs/\rs.length<=12/\∀ (u:Fe) (H':Hp),af H H'->H u=none->H' u=some (.lst (kg (bz rs)))->Q (.ref u) H'
noncomputable def uY (K:FD) (_:aR) (er:hV):Sp:=fun vs H Q _=>∃ (e:Fe) (k:Int),vs=[.ref e,.int k]/\0<=k/\k<=1000/\H e=some (gf e (.ref er.broken) none)/\∀ d,H d=none->Q .non (upd (upd H d (.xd [("place",.int k)])) e (gf e (.ref er.broken) (some d)))
noncomputable def pQ:List (Key × V):=va.map fun p=>(.inr p.1,.str p.2)
theorem Ar (m:Str):(bM pQ (.inr m)).getD (.str m) = .str (qe m):=by
 unfold qe
 have key:∀ l:List (Str × Str),bM (l.map fun p=>((.inr p.1:Key),V.str p.2)) (.inr m)=(l.lookup m).map V.str:=by
  intro l
  induction l with
  | nil=>rfl
  | cons p l ih =>
   by_cases e:p.1=m
   ·obtain ⟨a,b⟩:=p
    have e:a=m:=e
    subst e
    unfold bM
    simp [Hg]
   ·have e2:(m == p.1)=false:=beq_eq_false_iff_ne.mpr (Gk e)
    rw [FO,Gh,e2]
    show bM ((Hw p.1,V.str p.2)::l.map fun p=>((.inr p.1:Key),V.str p.2)) (.inr m)=_
    rw [<- ih]
    unfold bM
    simp [e]
 show (bM (va.map fun p=>((.inr p.1:Key),V.str p.2)) (.inr m)).getD (.str m)=_
 rw [key]
 cases va.lookup m<;>rfl
def Gr (ca:aR) (H:Hp):Prop:=∃ oD,tw ca.T ca.T2 ca.D #[] #[] oD pQ H
theorem Gr.same {ca:aR} {H H':Hp} (h:Gr ca H) (s:af H H'):Gr ca H':=let ⟨o,g⟩:=h; ⟨o,s _ _ g.tab,s _ _ g.tab2,s _ _ g.dic⟩
noncomputable def je:List (Str × Str):=[("brackets>stairs","brackets_to_stairs"),("stairs>brackets","stairs_to_brackets"),("brackets>twins","brackets_to_twins"),("twins>brackets","twins_to_brackets"),("brackets>bows","brackets_to_bows"),("bows>brackets","bows_to_brackets"),("brackets>rooms","brackets_to_rooms"),("rooms>brackets","rooms_to_brackets"),("brackets>turns","brackets_to_turns"),("turns>brackets","turns_to_brackets"),("twins>floor","twins_to_floor"),("floor>twins","floor_to_twins"),("trees>codes","tree_to_code"),("codes>trees","code_to_tree"),("trees>cars","tree_to_cars"),("cars>trees","cars_to_tree"),("cars>codes","cars_to_code"),("codes>cars","code_to_cars")]
noncomputable def fY (ca:aR):List (Str × Fe):=[("brackets>stairs",ca.bV),("stairs>brackets",ca.bX),("brackets>twins",ca.cu),("twins>brackets",ca.cA),("brackets>bows",ca.cG),("bows>brackets",ca.cF),("brackets>rooms",ca.cn),("rooms>brackets",ca.cq),("brackets>turns",ca.cy),("turns>brackets",ca.cw),("twins>floor",ca.cZ),("floor>twins",ca.da),("trees>codes",ca.eS),("codes>trees",ca.eo),("trees>cars",ca.eJ),("cars>trees",ca.eG),("cars>codes",ca.eD),("codes>cars",ca.eC)]
theorem mD (ca:aR):(fY ca).map (·.1)=ib:=rfl
theorem mE (ca:aR):((fY ca).map (·.1)).Nodup:=by
 rw [mD]
 decide +kernel
noncomputable def rU (K:FD) (ca:aR):Sp:=fun vs H Q _=>vs=[]/\∀ (p:Fe) (kvs:List (Key × V)) (H':Hp),af H H'->H p=none->H' p=some (.dK kvs)->gi kvs ib->Q (.ref p) H'
noncomputable def qV (K:FD) (_:aR):Sp:=fun vs H Q _=>∃ (C x dx:Fe) (w:Str) (l:Int),vs=[.ref x,.str w,.int l]/\eW K C/\aM K C "word"/\aM K C "least"/\H x=some (.ins C dx [])/\∀ (fs:List (Str × V)) (H':Hp),H'=upd H x (.ins C dx fs)->gd fs w l->Q .non H'
noncomputable def ie (K:FD) (_:aR):Sp:=fun vs H Q _=>∃ (C x dx:Fe) (w:Str),vs=[.ref x,.str w]/\eW K C/\aM K C "word"/\aM K C "least"/\H x=some (.ins C dx [])/\∀ (fs:List (Str × V)) (H':Hp),H'=upd H x (.ins C dx fs)->gd fs w 0->Q .non H'
noncomputable def vn (_:FD) (ca:aR):Sp:=fun vs H Q _=>∃ x dx,vs=[.ref x]/\H x=some (.ins ca.aG dx [])/\∀ (fs:List (Str × V)) (H':Hp),H'=upd H x (.ins ca.aG dx fs)->gd fs "brackets" 0->Q .non H'
noncomputable def vQ (_:FD) (ca:aR):Sp:=fun vs H Q _=>∃ x dx,vs=[.ref x]/\H x=some (.ins ca.aP dx [])/\∀ (fs:List (Str × V)) (H':Hp),H'=upd H x (.ins ca.aP dx fs)->gd fs "stairs" 0->Q .non H'
noncomputable def vI (_:FD) (ca:aR):Sp:=fun vs H Q _=>∃ x dx,vs=[.ref x]/\H x=some (.ins ca.a7 dx [])/\∀ (fs:List (Str × V)) (H':Hp),H'=upd H x (.ins ca.a7 dx fs)->gd fs "twins" 0->Q .non H'
noncomputable def sV (_:FD) (ca:aR):Sp:=fun vs H Q _=>∃ x dx,vs=[.ref x]/\H x=some (.ins ca.bw dx [])/\∀ (fs:List (Str × V)) (H':Hp),H'=upd H x (.ins ca.bw dx fs)->gd fs "bows" 0->Q .non H'
noncomputable def tL (_:FD) (ca:aR):Sp:=fun vs H Q _=>∃ x dx,vs=[.ref x]/\H x=some (.ins ca.bp dx [])/\∀ (fs:List (Str × V)) (H':Hp),H'=upd H x (.ins ca.bp dx fs)->gd fs "rooms" 0->Q .non H'
noncomputable def uP (_:FD) (ca:aR):Sp:=fun vs H Q _=>∃ x dx,vs=[.ref x]/\H x=some (.ins ca.aZ dx [])/\∀ (fs:List (Str × V)) (H':Hp),H'=upd H x (.ins ca.aZ dx fs)->gd fs "floor" 0->Q .non H'
noncomputable def rR (_:FD) (ca:aR):Sp:=fun vs H Q _=>∃ x dx,vs=[.ref x]/\H x=some (.ins ca.bu dx [])/\∀ (fs:List (Str × V)) (H':Hp),H'=upd H x (.ins ca.bu dx fs)->gd fs "turns" 0->Q .non H'
noncomputable def kx (ca:aR):List (Str × Fe × Int):=[("brackets",ca.aG,0),("stairs",ca.aP,0),("twins",ca.a7,0),("bows",ca.bw,0),("rooms",ca.bp,0),("floor",ca.aZ,0),("turns",ca.bu,0)]
noncomputable def nX (K:FD) (ca:aR):Sp:=fun vs H Q _=>vs=[]/\∀ (p:Fe) (xs:List V) (H':Hp),af H H'->H p=none->H' p=some (.lst xs)->FQ (bD H') xs (kx ca)->Q (.ref p) H'
noncomputable def tq (K:FD) (_:aR):Sp:=fun vs H Q _=>∃ (a b:Str),vs=[.str a,.str b]/\a.length<=100/\b.length<=100/\Q (.str (a++">"++b++":parts")) H
noncomputable def rQ (K:FD) (ca:aR):Sp:=fun vs H Q _=>∃ (x y:Fe),vs=[.ref x,.ref y]/\Gr ca H/\∀ f,Q (.ref f) H
theorem wk (ca:aR):(kx ca).map (·.1)=jW:=rfl
theorem rl {H:Hp} {pd:Fe} {kvs:List (Key × V)} {o:HO} {xs:List V} {fm:List (Str × Fe × Int)} (hd:H pd=some (.dK kvs)) (h:FQ (bD H) xs fm):FQ (bD (upd H pd o)) xs fm :=
 Paired.mapP h fun v f ⟨a,dx,fs,e,ha,fl⟩=>⟨a,dx,fs,e,(aq (fun z=>by rw [z,hd] at ha; cases ha)).trans ha,fl⟩
noncomputable def rC (K:FD) (ca:aR):Sp:=fun vs H Q _=>vs=[]/\Gr ca H/\∀ (p:Fe) (kvs:List (Key × V)) (H':Hp),af H H'->H p=none->H' p=some (.dK kvs)->gi kvs (dW 7)->Q (.ref p) H'
noncomputable def iW:List (Str × Str):=[("brackets>brackets:mirror","brackets_mirror"),("bows>bows:mirror","bows_mirror"),("twins>twins:mirror","twins_mirror"),("floor>floor:mirror","floor_mirror"),("turns>turns:mirror","turns_mirror"),("bows>bows:turn","bows_turn"),("bows>bows:turnback","bows_turnback"),("floor>floor:turn","floor_turn"),("floor>floor:turnback","floor_turnback"),("rooms>bows:feet","rooms_to_feet"),("bows>rooms:feet","feet_to_rooms"),("rooms>rooms:gaps","gaps"),("rooms>rooms:gapsback","gapsback")]
noncomputable def fK (ca:aR):List (Str × Fe):=[("brackets>brackets:mirror",ca.cQ),("bows>bows:mirror",ca.fA),("twins>twins:mirror",ca.eL),("floor>floor:mirror",ca.eO),("turns>turns:mirror",ca.eF),("bows>bows:turn",ca.gu),("bows>bows:turnback",ca.dF),("floor>floor:turn",ca.fN),("floor>floor:turnback",ca.cV),("rooms>bows:feet",ca.dG),("bows>rooms:feet",ca.dO),("rooms>rooms:gaps",ca.kA),("rooms>rooms:gapsback",ca.gB)]
theorem kh (ca:aR):(fK ca).map (·.1)=iP:=rfl
theorem ky (ca:aR):((fK ca).map (·.1)).Nodup:=by
 rw [kh]
 decide +kernel
noncomputable def sP (K:FD) (ca:aR):Sp:=fun vs H Q _=>vs=[]/\∀ (p:Fe) (kvs:List (Key × V)) (H':Hp),af H H'->H p=none->H' p=some (.dK kvs)->gi kvs iP->Q (.ref p) H'
noncomputable def sZ (K:FD) (ca:aR):Sp:=fun vs H Q _=>vs=[]/\Gr ca H/\∀ (p:Fe) (kvs:List (Key × V)) (H':Hp),af H H'->H p=none->H' p=some (.dK kvs)->gi kvs ((ib++dW 7)++iP)->Q (.ref p) H'
noncomputable def om (K:FD) (ca:aR) (er:hV):Sp:=fun vs H Q E=>∃ x:Str,vs=[.str x]/\Gr ca H/\((x∈names/\∀ f H',af H H'->Q (.ref f) H')\/(x∉names/\∀ H',af H H'->E (.ref er.way) none H'))
noncomputable def km (K:FD) (ca:aR) (er:hV):Sp:=fun vs H Q E=>∃ x:Str,vs=[.str x]/\Gr ca H/\((∃ r∈bH,r.1=x/\∀ (p:Fe) (H':Hp),af H H'->H p=none->H' p=some (.tup [.str r.2.1,.str r.2.2.1])->Q (.ref p) H')\/(x∉names/\∀ H',af H H'->E (.ref er.way) none H'))
noncomputable def kL (K:FD) (ca:aR) (er:hV):Sp:=fun vs H Q E=>∃ (p:Fe) (rs:List Way),vs=[.ref p]/\H p=some (.lst (rs.map fun r=>V.str r.1))/\(∀ r∈rs,Rw r)/\rs.length<=12/\Gr ca H/\((bz rs = .way/\∀ H',af H H'->E (.ref er.way) none H')\/(∃ k:Nat,bz rs = .brk k/\∀ d H',af H H'->H d=none->H' d=some (.xd [("place",.int k)])->E (.ref er.broken) (some d) H')\/(bz rs = .ok/\∀ p2 H',af H H'->Q (.ref p2) H'))
noncomputable def rW (K:FD) (ca:aR) (er:hV):Sp:=fun vs H Q E=>∃ (p:Fe) (rs:List Way),vs=[.ref p]/\H p=some (.lst (rs.map fun r=>V.str r.1))/\(∀ r∈rs,Rw r)/\rs.length<=12/\Gr ca H/\((bz rs = .way/\∀ H',af H H'->E (.ref er.way) none H')\/(∃ k:Nat,bz rs = .brk k/\∀ d H',af H H'->H d=none->H' d=some (.xd [("place",.int k)])->E (.ref er.broken) (some d) H')\/(bz rs = .ok/\∀ f H',af H H'->Q (.ref f) H'))
noncomputable def nF (K:FD) (_:aR):Sp:=fun vs H Q _=>∃ x:Str,vs=[.str x]/\x.length<=1000/\∀ H',af H H'->Q (.str (jk x)) H'
noncomputable def rE (K:FD) (ca:aR) (er:hV):Sp:=fun vs H Q E=>∃ x:Str,vs=[.str x]/\Gr ca H/\((∃ r∈bH,r.1=x/\∀ H',af H H'->Q (.str r.2.2.2) H')\/(x∉names/\∀ H',af H H'->E (.ref er.way) none H'))
noncomputable def nL (K:FD) (ca:aR) (er:hV):Sp:=fun vs H Q E=>∃ (p:Fe) (rs:List Way),vs=[.ref p]/\H p=some (.lst (rs.map fun r=>V.str r.1))/\(∀ r∈rs,Rw r)/\rs.length<=12/\Gr ca H/\((bz rs = .way/\∀ H',af H H'->E (.ref er.way) none H')\/(∃ k:Nat,bz rs = .brk k/\∀ d H',af H H'->H d=none->H' d=some (.xd [("place",.int k)])->E (.ref er.broken) (some d) H')\/(bz rs = .ok/\∀ u H',af H H'->H u=none->H' u=some (.lst (rs.reverse.map fun r=>V.str r.2.2.2))->Q (.ref u) H'))
theorem eV.strs {K:FD} {H:Hp} {n:Nat} {p u:Fe} {a b c d:Str} (ne:p≠u) (hp:H p=some (.tup [.str a,.str b])) (hu:H u=some (.tup [.str c,.str d])):eV K H (n+1) (.ref p) (.ref u) (decide (a=c)&&decide (b=d)):=by
 have h:=eV.tup (K:=K) (n:=n) (e:=fun j=>if j=0 then dB (.str a) (.str c) else dB (.str b) (.str d)) ne (bJ.of hp) (bJ.of hu) fun j x y e1 e2=>by
  match j,e1,e2 with
  | 0,e1,e2=>cases e1; cases e2; exact eV.flat rfl rfl
  | 1,e1,e2=>cases e1; cases e2; exact eV.flat rfl rfl
  | j+2,e1,_=>cases e1
 have es:∀ x y:Str,dB (.str x) (.str y)=decide (x=y):=fun x y=>by
  by_cases z:x=y
  ·subst z; simp [dB]
  ·rw [decide_eq_false z]; simp [dB]; exact z
 have e:((Gp (min [V.str a,V.str b].length [V.str c,V.str d].length)).all (fun j=>if j=0 then dB (.str a) (.str c) else dB (.str b) (.str d))&&[V.str a,V.str b].length == [V.str c,V.str d].length)=(decide (a=c)&&decide (b=d)):=by
  show ((dB (.str a) (.str c)&&(dB (.str b) (.str d)&&true))&&true)=_
  rw [es,es,Bool.and_true,Bool.and_true]
 rw [e] at h
 exact h
noncomputable def rp (K:FD) (_:aR):Sp:=fun vs H Q _=>∃ (p:Fe) (a b m:Str),vs=[.ref p,.str m]/\H p=some (.tup [.str a,.str b])/\∀ H',af H H'->Q (.bl (zf a b m)) H'
noncomputable def nJ (K:FD) (_:aR):Sp:=fun vs H Q _=>∃ (C x dx:Fe) (w:Str),vs=[.ref x,.str w]/\eW K C/\aM K C "word"/\aM K C "least"/\H x=some (.ins C dx [])/\∀ (fs:List (Str × V)) (H':Hp),H'=upd H x (.ins C dx fs)->gd fs w 1->Q .non H'
noncomputable def rT (_:FD) (ca:aR):Sp:=fun vs H Q _=>∃ x dx,vs=[.ref x]/\H x=some (.ins ca.bo dx [])/\∀ (fs:List (Str × V)) (H':Hp),H'=upd H x (.ins ca.bo dx fs)->gd fs "codes" 1->Q .non H'
noncomputable def tK (_:FD) (ca:aR):Sp:=fun vs H Q _=>∃ x dx,vs=[.ref x]/\H x=some (.ins ca.br dx [])/\∀ (fs:List (Str × V)) (H':Hp),H'=upd H x (.ins ca.br dx fs)->gd fs "trees" 1->Q .non H'
noncomputable def rg (_:FD) (ca:aR):Sp:=fun vs H Q _=>∃ x dx,vs=[.ref x]/\H x=some (.ins ca.bI dx [])/\∀ (fs:List (Str × V)) (H':Hp),H'=upd H x (.ins ca.bI dx fs)->gd fs "cars" 1->Q .non H'
noncomputable def Ce (ca:aR):List (Str × Fe × Int):=[("codes",ca.bo,1),("trees",ca.br,1),("cars",ca.bI,1)]
noncomputable def si (K:FD) (ca:aR):Sp:=fun vs H Q _=>vs=[]/\∀ (p:Fe) (xs:List V) (H':Hp),af H H'->H p=none->H' p=some (.lst xs)->FQ (bD H') xs (Ce ca)->Q (.ref p) H'
noncomputable def iX (ca:aR):List (Str × Fe × Int):=kx ca++Ce ca
theorem uR (ca:aR):((iX ca).map (·.1)).Nodup:=by
 show [("brackets" : Str),("stairs" : Str),("twins" : Str),("bows" : Str),("rooms" : Str),("floor" : Str),("turns" : Str),("codes" : Str),("trees" : Str),("cars" : Str)].Nodup
 decide +kernel
theorem yf {ca:aR} {f g:Str × Fe × Int} (hf:f∈iX ca) (hg:g∈iX ca) (e:f.1=g.1):f=g:=by
 have key:∀ {l:List (Str × Fe × Int)},(l.map (·.1)).Nodup->f∈l->g∈l->f=g:=by
  intro l
  induction l with
  | nil=>intro _ h; cases h
  | cons a l ih =>
   intro nd h1 h2
   rw [FO,GY] at nd
   rcases FB.mp h1 with h3 | h3
   ·rcases FB.mp h2 with h4 | h4
    ·rw [h3,h4]
    ·exact absurd (GH.mpr ⟨g,h4,by rw [<- e,h3]⟩) nd.1
   ·rcases FB.mp h2 with h4 | h4
    ·exact absurd (GH.mpr ⟨f,h3,by rw [e,h4]⟩) nd.1
    ·exact ih nd.2 h3 h4
 exact key (uR ca) hf hg
noncomputable def sf (K:FD) (ca:aR):Sp:=fun vs H Q _=>∃ (f:Str × Fe × Int),vs=[.str f.1]/\f∈iX ca/\∀ (x dx:Fe) (fs:List (Str × V)) (H':Hp),af H H'->H' x=some (.ins f.2.1 dx fs)->gd fs f.1 f.2.2->Q (.ref x) H'
noncomputable def ia (ca:aR):List (Str × List (Str × Fe)):=[("brackets",[("peaks",ca.cW),("returns",ca.cD),("height",ca.cM)]),("stairs",[("peaks",ca.dZ),("returns",ca.dj),("height",ca.dC)]),("twins",[("peaks",ca.fF),("returns",ca.dz),("height",ca.d6)]),("bows",[("peaks",ca.fO),("returns",ca.dY),("height",ca.fB)]),("rooms",[("peaks",ca.fw),("returns",ca.dN)]),("floor",[("peaks",ca.fu),("returns",ca.dv)]),("turns",[("peaks",ca.fq),("returns",ca.dM),("height",ca.eN)]),("codes",[("leaves",ca.eI),("rootage",ca.dH)]),("trees",[("leaves",ca.eE),("rootage",ca.dE)]),("cars",[("leaves",ca.ft),("rootage",ca.eA)])]
noncomputable def rb:List (Str × List Str):=[("brackets",["peaks","returns","height"]),("stairs",["peaks","returns","height"]),("twins",["peaks","returns","height"]),("bows",["peaks","returns","height"]),("rooms",["peaks","returns"]),("floor",["peaks","returns"]),("turns",["peaks","returns","height"]),("codes",["leaves","rootage"]),("trees",["leaves","rootage"]),("cars",["leaves","rootage"])]
noncomputable def zq:List (Str × List (Str × Str)):=[("brackets",[("peaks","brackets_peaks"),("returns","brackets_returns"),("height","brackets_height")]),("stairs",[("peaks","stairs_peaks"),("returns","stairs_returns"),("height","stairs_height")]),("twins",[("peaks","twins_peaks"),("returns","twins_returns"),("height","twins_height")]),("bows",[("peaks","bows_peaks"),("returns","bows_returns"),("height","bows_height")]),("rooms",[("peaks","rooms_peaks"),("returns","rooms_returns")]),("floor",[("peaks","floor_peaks"),("returns","floor_returns")]),("turns",[("peaks","turns_peaks"),("returns","turns_returns"),("height","turns_height")]),("codes",[("leaves","codes_leaves"),("rootage","codes_rootage")]),("trees",[("leaves","trees_leaves"),("rootage","trees_rootage")]),("cars",[("leaves","cars_leaves"),("rootage","cars_rootage")])]
theorem jb (ca:aR):(ia ca).map (fun r=>(r.1,r.2.map (·.1)))=rb:=rfl
theorem rH:(∀ r∈rb,r.2.Nodup/\r.2.length<=15)/\(rb.map (·.1)).Nodup:=by decide +kernel
theorem rD (ca:aR):(∀ r∈ia ca,(r.2.map (·.1)).Nodup/\r.2.length<=15)/\((ia ca).map (·.1)).Nodup:=by
 refine ⟨fun r hr=>?_,?_⟩
 ·have:=rH.1 (r.1,r.2.map (·.1)) (by rw [<- jb ca]; exact GH.mpr ⟨r,hr,rfl⟩)
  rw [Ff] at this
  exact this
 ·have:=rH.2
  rw [<- jb ca,GI] at this
  exact this
noncomputable def so (K:FD) (ca:aR):Sp:=fun vs H Q _=>vs=[]/\∀ (p:Fe) (H':Hp),af H H'->H p=none->uS H' p (ia ca)->Q (.ref p) H'
noncomputable def tJ (K:FD) (ca:aR):Sp:=fun vs H Q _=>∃ (f:Str × Fe × Int) (items:List (Str × Fe)),vs=[.str f.1]/\f∈iX ca/\(ia ca).lookup f.1=some items/\∀ (p:Fe) (H':Hp),af H H'->H p=none->H' p=some (.lst ((items.map (·.1)).map V.str))->Q (.ref p) H'
theorem tH (ca:aR) {w:Str} (h:w∈w4):∃ (f:Str × Fe × Int) (items:List (Str × Fe)),f∈iX ca/\f.1=w/\(ia ca).lookup w=some items/\items.map (·.1)=bB w:=by
 have key:(w4.all fun w=>decide ((rb.lookup w)=some (bB w)))=true:=by decide +kernel
 have k:=of_decide_eq_true (Fu.mp key w h)
 have look:∀ l:List (Str × List (Str × Fe)),(l.map fun r=>(r.1,r.2.map (·.1))).lookup w=(l.lookup w).map fun i=>i.map (·.1):=by
  intro l
  induction l with
  | nil=>rfl
  | cons r l ih =>
   rw [FO,Gh,Gh]
   cases w == r.1 with
   | true=>rfl
   | false=>exact ih
 rw [<- jb ca,look] at k
 have ew:(iX ca).map (·.1)=w4:=rfl
 rw [<- ew] at h
 obtain ⟨f,hf,e⟩:=GH.mp h
 cases hl:(ia ca).lookup w with
 | none=>rw [hl] at k; cases k
 | some items =>
  rw [hl] at k
  exact ⟨f,items,hf,e,rfl,Fw k⟩
noncomputable def sC (K:FD) (ca:aR) (er:hV):Sp:=fun vs H Q E=>∃ x:Str,vs=[.str x]/\Gr ca H/\((∃ r∈bH,r.1=x/\∀ (p:Fe) (H':Hp),af H H'->H p=none->H' p=some (.lst ((dA r).map V.str))->Q (.ref p) H')\/(x∉names/\∀ H',af H H'->E (.ref er.way) none H'))
noncomputable def nN (K:FD) (ca:aR) (er:hV):Sp:=fun vs H Q E=>∃ (p:Fe) (rs:List Way),vs=[.ref p]/\H p=some (.lst (rs.map fun r=>V.str r.1))/\(∀ r∈rs,Rw r)/\rs.length<=12/\Gr ca H/\((bz rs = .way/\∀ H',af H H'->E (.ref er.way) none H')\/(∃ k:Nat,bz rs = .brk k/\∀ d H',af H H'->H d=none->H' d=some (.xd [("place",.int k)])->E (.ref er.broken) (some d) H')\/(bz rs = .ok/\∀ u H',af H H'->H u=none->H' u=some (.lst ((wG rs).map V.str))->Q (.ref u) H'))
noncomputable def sD (K:FD) (ca:aR) (er:hV):Sp:=fun vs H Q E=>∃ (k:Int) (p:Fe) (rs:List Way),vs=[.int k,.ref p]/\H p=some (.lst (rs.map fun r=>V.str r.1))/\(∀ r∈rs,Rw r)/\rs.length<=12/\Gr ca H/\((bz rs = .way/\∀ H',af H H'->E (.ref er.way) none H')\/(∃ k:Nat,bz rs = .brk k/\∀ d H',af H H'->H d=none->H' d=some (.xd [("place",.int k)])->E (.ref er.broken) (some d) H')\/(bz rs = .ok/\∀ v H',af H H'->Q v H'))
noncomputable def tE (K:FD) (_:aR):Sp:=fun vs H Q _=>∃ k:Int,vs=[.int k]/\Q (.bl true) H
noncomputable def sT (K:FD) (ca:aR) (er:hV):Sp:=fun vs H Q E=>∃ (k:Int) (p:Fe) (rs:List Way),vs=[.int k,.ref p]/\H p=some (.lst (rs.map fun r=>V.str r.1))/\(∀ r∈rs,Rw r)/\rs.length<=12/\Gr ca H/\∀ (u:Fe) (H':Hp),af H H'->H u=none->H' u=some (.lst (kg (bz rs)))->Q (.ref u) H'
noncomputable def rq (K:FD) (_:aR):Sp:=fun vs H Q _=>∃ (p r:Fe) (ns:List Str),vs=[.ref p,.ref r]/\H p=some (.lst (ns.map V.str))/\H r=some (.lst (ns.map V.str))/\ns.length<=1000/\Q (.bl true) H
noncomputable def rP (K:FD) (_:aR):Sp:=fun vs H Q _=>∃ w:Str,vs=[.str w]/\∀ (p:Fe) (H':Hp),af H H'->H p=none->H' p=some (.lst ((bB w).map V.str))->Q (.ref p) H'
noncomputable def tF (K:FD) (_:aR):Sp:=fun vs H Q _=>∃ (p:Fe) (r:Way),vs=[.ref p]/\H p=some (.tup (pU r))/\∀ (u:Fe) (H':Hp),af H H'->H u=none->H' u=some (.lst ((pO r).map V.str))->Q (.ref u) H'
noncomputable def uZ (K:FD) (_:aR):Sp:=fun vs H Q _=>∃ (p:Fe) (rs:List Way),vs=[.ref p]/\xH H p rs/\(∀ r∈rs,r∈bH)/\rs.length<=12/\∀ (u:Fe) (H':Hp),af H H'->H u=none->H' u=some (.lst ((wG rs).map V.str))->Q (.ref u) H'
noncomputable def Ba (K:FD) (ca:aR) (er:hV):Sp:=fun vs H Q _=>∃ (a:Fe) (ns:List Int),vs=[.ref a]/\av K H a (ns.map V.int)/\ns.length<=63/\Gr ca H/\∀ H',af H H'->Q (.bl true) H'
section
variable {P:FG} {w:FU} {K:FD} {mg:Str->Option AC} {base:GG} {er:hV} (EO:vX K mg er) {ca:aR} (CA:AB K mg ca) {f:Fe} {fd:Fh}
include EO CA
theorem DD (F:bg K "_law_there_and_back" "_law_there_and_back" pY f fd):aF P w K mg base bC 1 f fd ["_law_first","_law_last","_law_how","_law_back"] (vx K ca):=by
 refine F.ok vY (fun vs H Q E h=>?_) (fun cdv A outer s H vs Q E hr h=>?_)
 ·obtain ⟨f,l,h,b,rfl,lf,ll,lh,lb,q⟩:=h
  rfl
 obtain ⟨f,l,h,b,rfl,lf,ll,lh,lb,q⟩:=h
 refine ⟨_,ao (aC (i:=4) vY.nd rfl (FP rfl) (aI fg (aI fg (aI fg (pv 0) ai) (pv 1)) (pv 2)))
  (ao (aC (i:=5) vY.nd rfl (FP rfl) (aI fg (aI fg (aI fg (pv 1) ai) (pv 0)) (pv 3)))
  (ar (aA (bb (aa (gX (aa (pv 4) (aa (pv 0) (aa (pv 1) (aa (pv 5) ah))))) (aa (gX (aa (pv 5) (aa (pv 1) (aa (pv 0) (aa (pv 4) ah))))) ah)))))),?_⟩
 have z:1000<=sizeLine:=by decide
 have l1:(tz ">").length=1:=by decide +kernel
 refine ⟨_,rfl,_,_,rfl,rfl,by rw [l1]; lia,_,rfl,_,_,rfl,rfl,by rw [len_app,l1]; lia,_,rfl,_,_,rfl,rfl,by rw [len_app,len_app,l1]; lia,?_⟩
 refine ⟨_,rfl,_,_,rfl,rfl,by rw [l1]; lia,_,rfl,_,_,rfl,rfl,by rw [len_app,l1]; lia,_,rfl,_,_,rfl,rfl,by rw [len_app,len_app,l1]; lia,?_⟩
 refine ⟨_,rfl,_,rfl,_,rfl,_,rfl,(by show 4<=sizeLine; decide),fun t1 ht1=>⟨_,rfl,_,rfl,_,rfl,_,rfl,(by show 4<=sizeLine; decide),fun t2 ht2=>⟨(by show 2<=sizeLine; decide),fun p hp=>?_⟩⟩⟩
 have k1:=af.new (af.refl H) ht1 (.tup (pU (f++">"++l++h,f,l,l++">"++f++b)))
 have k2:=af.new (af.refl _) ht2 (.tup (pU (l++">"++f++b,l,f,f++">"++l++h)))
 have k3:=af.new (af.refl _) hp (.lst [.ref t1,.ref t2])
 exact q p _ ((k1.trans k2).trans k3) ((k1.trans k2).free hp) ⟨_,ae,.cons ⟨t1,rfl,k3 _ _ (k2 _ _ ae)⟩ (.cons ⟨t2,rfl,k3 _ _ ae⟩ .nil)⟩
theorem Ax (F:bg K "_law_ways" "_law_ways" lX f fd) {f0:Fe} {fd0:Fh} (gM:Def P w K mg base "_law_there_and_back" ["_law_first","_law_last","_law_how","_law_back"] 1 (vx K ca) f0 fd0) (bP:mg "range" = none):aF P w K mg base bC 2 f fd [] (rX K ca):=by
 refine F.ok cN (fun vs H Q E h=>?_) (fun cdv A outer s H vs Q E hr h=>?_)
 ·obtain ⟨rfl,q⟩:=h
  rfl
 obtain ⟨rfl,q⟩:=h
 refine ⟨_,ao (aC (i:=0) cN.nd rfl (FP rfl) (bb ah))
  (ao (aC (i:=1) cN.nd rfl (FP rfl) (bb (aa ai (aa ai (aa ai (aa ai (aa ai (aa ai (aa ai ah)))))))))
  (ao (cX Gj rfl (bY (iJ jd (pv 1) ji (ju az))) (aN (i:=2) cN.nd rfl (FP rfl)) (ar (aC (i:=0) cN.nd rfl (FP rfl) (aI d8 (pv 0) (bc gM hr (aa ai (aa (pv 2) (aa ai (aa ai ah)))))))))
  (ao (aC (i:=0) cN.nd rfl (FP rfl) (aI d8 (pv 0) (bc gM hr (aa ai (aa ai (aa ai (aa ai ah)))))))
  (ao (aC (i:=0) cN.nd rfl (FP rfl) (aI d8 (aI d8 (pv 0) (bc gM hr (aa ai (aa ai (aa ai (aa ai ah)))))) (bc gM hr (aa ai (aa ai (aa ai (aa ai ah)))))))
  (ao (aC (i:=0) cN.nd rfl (FP rfl) (aI d8 (pv 0) (bc gM hr (aa ai (aa ai (aa ai (aa ai ah)))))))
  (ao (cX Gj rfl (fM rfl bP (aa az ah)) (aN (i:=3) cN.nd rfl (FP rfl)) (ar (cX Gj rfl (fM rfl bP (aa (pv 3) ah)) (aN (i:=4) cN.nd rfl (FP rfl)) (ar (aC (i:=0) cN.nd rfl (FP rfl) (aI d8 (pv 0) (bc gM hr (aa (aX bK (pv 1) (pv 3) (fun _ _=>rfl)) (aa (aX bK (pv 1) (pv 4) (fun _ _=>rfl)) (aa ai (aa ai ah)))))))))))
  (ao (cX Gj rfl (bY (bb (aa ai (aa ai (aa ai (aa ai (aa ai ah))))))) (aN (i:=2) cN.nd rfl (FP rfl)) (ar (aC (i:=0) cN.nd rfl (FP rfl) (aI d8 (pv 0) (iJ jd (bc gM hr (aa (pv 2) (aa (pv 2) (aa ai (aa ai ah))))) ji (ju az))))))
  (ao (aC (i:=0) cN.nd rfl (FP rfl) (aI d8 (pv 0) (bc gM hr (aa ai (aa ai (aa ai (aa ai ah)))))))
  (ao (aC (i:=0) cN.nd rfl (FP rfl) (aI d8 (pv 0) (bc gM hr (aa ai (aa ai (aa ai (aa ai ah)))))))
  (ao (aC (i:=0) cN.nd rfl (FP rfl) (aI d8 (pv 0) (bc gM hr (aa ai (aa ai (aa ai (aa ai ah)))))))
  (ar (aA (aI d8 (pv 0) (bc gM hr (aa ai (aa ai (aa ai (aa ai ah)))))))))))))))))),?_⟩
 have z:1000<=sizeLine:=by decide
 have lw:∀ x∈w7++w5,x.length<=100:=by decide +kernel
 refine ⟨Fy _,fun pf0 hpf0=>⟨(by show 7<=sizeLine; decide),fun pw hpw=>?_⟩⟩
 have k0:=af.new (af.refl H) hpf0 (.lst [])
 have k1:=af.new (af.refl _) hpw (.lst [V.str (tz "stairs"),V.str (tz "twins"),V.str (tz "bows"),V.str (tz "rooms"),V.str (tz "turns"),V.str (tz "brackets"),V.str (tz "floor")])
 have s0:=k0.trans k1
 have ef0:=k1 _ _ (ae (H:=H) (a:=pf0) (o:=.lst []))
 have hw0:upd (upd H pf0 (.lst [])) pw (.lst [V.str (tz "stairs"),V.str (tz "twins"),V.str (tz "bows"),V.str (tz "rooms"),V.str (tz "turns"),V.str (tz "brackets"),V.str (tz "floor")]) pw=some (.lst (w7.map V.str)):=ae
 generalize upd (upd H pf0 (.lst [])) pw (.lst [V.str (tz "stairs"),V.str (tz "twins"),V.str (tz "bows"),V.str (tz "rooms"),V.str (tz "turns"),V.str (tz "brackets"),V.str (tz "floor")])=H0 at k1 s0 ef0 hw0 |-
 refine ⟨_,rfl,_,rfl,pw,_,rfl,av.of hw0,fun ps hps=>?_⟩
 have k2:=af.new (af.refl H0) hps (.lst (dS (w7.map V.str) none (some 5)))
 have hps1:upd H0 ps (.lst (dS (w7.map V.str) none (some 5))) ps=some (.lst ((w7.take 5).map V.str)):=by rw [ae]; rfl
 have ef1:=k2 _ _ ef0
 have hw1:=k2 _ _ hw0
 have s1:=s0.trans k2
 generalize upd H0 ps (.lst (dS (w7.map V.str) none (some 5)))=H1 at k2 hps1 ef1 hw1 s1 |-
 refine ⟨ps,rfl,⟨_,av.of hps1⟩,gx (xs:=(w7.take 5).map V.str) (fun i σ H'=>∃ (o:Option V) (pf:Fe) (xs:List V),σ=[some (.ref pf),some (.ref pw),o,none,none]/\af H1 H'/\H' pf=some (.lst xs)/\FQ (et H') xs (iH i)/\xs.length<=2*i) ⟨_,pf0,[],rfl,af.refl H1,ef1,.nil,Fg _⟩ (fun i σ H' _ h=>by obtain ⟨_,_,_,_,sm,_⟩:=h; exact av.of (sm _ _ hps1)) ?_ ?_⟩
 ·rintro i v σ H2 hv ⟨o,pf,xs,rfl,s2,ex,wx,lx⟩
  obtain ⟨u,hu,rfl⟩:∃ u,(w7.take 5)[i]? = some u/\v=V.str u:=by
   rw [FN] at hv
   cases e:(w7.take 5)[i]? with
   | none=>rw [e] at hv; cases hv
   | some d=>rw [e] at hv; exact ⟨d,rfl,(Fw hv).symm⟩
  have i5:i < 5:=(Fj.mp hu).1
  have hu7:w7[i]? = some u:=by rw [List.getElem?_take] at hu; rw [if_pos i5] at hu; exact hu
  have lu:u.length<=100:=lw u (Hi _ (FJ hu7))
  refine ⟨_,rfl,_,rfl,(tz "brackets"),u,(tz ""),(tz ""),rfl,by first | decide +kernel | assumption,by first | decide +kernel | assumption,by first | decide +kernel | assumption,by first | decide +kernel | assumption,fun a1 G1 r1 _ ⟨y1,ey1,wy1⟩=>?_⟩
  have ly1:y1.length=2:=Ge wy1
  refine ⟨pf,a1,_,_,rfl,rfl,r1 _ _ ex,ey1,by lia,fun p1 hp1=>?_⟩
  have K1:=r1.trans (af.new (af.refl G1) hp1 (.lst (xs++y1)))
  have E1:upd G1 p1 (.lst (xs++y1)) p1=some (.lst (xs++y1)):=ae
  have W1:=aK (eQ (aK wx r1) wy1) (af.new (af.refl G1) hp1 (.lst (xs++y1)))
  have L1:(xs++y1).length=xs.length+2:=by rw [Fo,ly1]
  generalize upd G1 p1 (.lst (xs++y1))=N1 at K1 E1 W1 |-
  generalize xs++y1=x1 at E1 W1 L1 |-
  refine ⟨_,p1,x1,rfl,s2.trans K1,E1,?_,by lia⟩
  have e:iH (i+1)=iH i++two "brackets" u "" "":=by
   unfold iH
   rw [FS,hu7,Hr]
   simp
  rw [e]
  exact W1
 rintro σ H2 ⟨o,pf,xs,rfl,s2,ex,wx,lx⟩
 have lx:xs.length<=10:=lx
 have wx:FQ (et H2) xs (iH 5):=wx
 have hw2:=s2 _ _ hw1
 refine ⟨_,rfl,(tz "twins"),(tz "floor"),(tz ""),(tz ""),rfl,by first | decide +kernel | assumption,by first | decide +kernel | assumption,by first | decide +kernel | assumption,by first | decide +kernel | assumption,fun a2 G2 r2 _ ⟨y2,ey2,wy2⟩=>?_⟩
 have ly2:y2.length=2:=Ge wy2
 refine ⟨pf,a2,_,_,rfl,rfl,r2 _ _ ex,ey2,by lia,fun p2 hp2=>?_⟩
 have K2:=r2.trans (af.new (af.refl G2) hp2 (.lst (xs++y2)))
 have E2:upd G2 p2 (.lst (xs++y2)) p2=some (.lst (xs++y2)):=ae
 have W2:=aK (eQ (aK wx r2) wy2) (af.new (af.refl G2) hp2 (.lst (xs++y2)))
 have L2:(xs++y2).length=xs.length+2:=by rw [Fo,ly2]
 have f2:=r2.free hp2
 generalize upd G2 p2 (.lst (xs++y2))=N2 at K2 E2 W2 |-
 generalize xs++y2=x2 at E2 W2 L2 |-
 refine ⟨_,rfl,(tz "trees"),(tz "codes"),(tz ""),(tz ""),rfl,by first | decide +kernel | assumption,by first | decide +kernel | assumption,by first | decide +kernel | assumption,by first | decide +kernel | assumption,fun a3 G3 r3 _ ⟨y3,ey3,wy3⟩=>?_⟩
 have ly3:y3.length=2:=Ge wy3
 refine ⟨p2,a3,_,_,rfl,rfl,r3 _ _ E2,ey3,by lia,fun p3 hp3=>?_⟩
 have K3:=r3.trans (af.new (af.refl G3) hp3 (.lst (x2++y3)))
 have E3:upd G3 p3 (.lst (x2++y3)) p3=some (.lst (x2++y3)):=ae
 have W3:=aK (eQ (aK W2 r3) wy3) (af.new (af.refl G3) hp3 (.lst (x2++y3)))
 have L3:(x2++y3).length=x2.length+2:=by rw [Fo,ly3]
 have f3:=r3.free hp3
 generalize upd G3 p3 (.lst (x2++y3))=N3 at K3 E3 W3 |-
 generalize x2++y3=x3 at E3 W3 L3 |-
 refine ⟨(tz "trees"),(tz "cars"),(tz ""),(tz ""),rfl,by first | decide +kernel | assumption,by first | decide +kernel | assumption,by first | decide +kernel | assumption,by first | decide +kernel | assumption,fun a4 G4 r4 _ ⟨y4,ey4,wy4⟩=>?_⟩
 have ly4:y4.length=2:=Ge wy4
 refine ⟨p3,a4,_,_,rfl,rfl,r4 _ _ E3,ey4,by lia,fun p4 hp4=>?_⟩
 have K4:=r4.trans (af.new (af.refl G4) hp4 (.lst (x3++y4)))
 have E4:upd G4 p4 (.lst (x3++y4)) p4=some (.lst (x3++y4)):=ae
 have W4:=aK (eQ (aK W3 r4) wy4) (af.new (af.refl G4) hp4 (.lst (x3++y4)))
 have L4:(x3++y4).length=x3.length+2:=by rw [Fo,ly4]
 have f4:=r4.free hp4
 generalize upd G4 p4 (.lst (x3++y4))=N4 at K4 E4 W4 |-
 generalize x3++y4=x4 at E4 W4 L4 |-
 refine ⟨_,rfl,(tz "cars"),(tz "codes"),(tz ""),(tz ""),rfl,by first | decide +kernel | assumption,by first | decide +kernel | assumption,by first | decide +kernel | assumption,by first | decide +kernel | assumption,fun a5 G5 r5 _ ⟨y5,ey5,wy5⟩=>?_⟩
 have ly5:y5.length=2:=Ge wy5
 refine ⟨p4,a5,_,_,rfl,rfl,r5 _ _ E4,ey5,by lia,fun p5 hp5=>?_⟩
 have K5:=r5.trans (af.new (af.refl G5) hp5 (.lst (x4++y5)))
 have E5:upd G5 p5 (.lst (x4++y5)) p5=some (.lst (x4++y5)):=ae
 have W5:=aK (eQ (aK W4 r5) wy5) (af.new (af.refl G5) hp5 (.lst (x4++y5)))
 have L5:(x4++y5).length=x4.length+2:=by rw [Fo,ly5]
 have f5:=r5.free hp5
 generalize upd G5 p5 (.lst (x4++y5))=N5 at K5 E5 W5 |-
 generalize x4++y5=x5 at E5 W5 L5 |-
 have T5:af H N5:=s1.trans (s2.trans (K2.trans (K3.trans (K4.trans K5))))
 have hw5:N5 pw=some (.lst (w7.map V.str)):=K5 _ _ (K4 _ _ (K3 _ _ (K2 _ _ hw2)))
 have at7:∀ k:Nat,k < 7->(w7.map V.str)[k]? = some (.str (w7.getD k ""))/\w7[k]? = some (w7.getD k "")/\(w7.getD k "").length<=100:=fun k hk=>by
  have e:w7[k]? = some (w7.getD k ""):=by
   rw [Gw,Fk (show k < w7.length from hk)]
   rfl
  exact ⟨by rw [FN,e]; rfl,e,lw _ (Hi _ (FJ e))⟩
 have W5:FQ (et N5) x5 (iH 5++two "twins" "floor" "" ""++two "trees" "codes" "" ""++two "trees" "cars" "" ""++two "cars" "codes" "" ""):=W5
 refine ⟨_,rfl,by decide,by decide,fP (lo:=0) (n:=7) (fun k σ H'=>∃ (o1 o2:Option V) (pf:Fe) (xs:List V),σ=[some (.ref pf),some (.ref pw),o,o1,o2]/\af N5 H'/\H' pf=some (.lst xs)/\FQ (et H') xs (iH 5++two "twins" "floor" "" ""++two "trees" "codes" "" ""++two "trees" "cars" "" ""++two "cars" "codes" "" ""++jP k)/\xs.length<=30+14*k) ⟨_,_,p5,x5,rfl,af.refl N5,E5,by rw [show jP 0=[] from rfl,FR]; exact W5,by lia⟩ ?_ ?_⟩
 ·rintro k σ H6 hk ⟨o1,o2,pf6,xs6,rfl,s6,e6,w6,l6⟩
  obtain ⟨ak,bk,ck⟩:=at7 k hk
  refine ⟨_,rfl,_,rfl,by lia,by lia,fP (lo:=0) (n:=((0:Int)+(k:Int)).toNat) (fun j σ H'=>∃ (o2:Option V) (pf:Fe) (xs:List V),σ=[some (.ref pf),some (.ref pw),o,some (.int ((0:Int)+(k:Int))),o2]/\af N5 H'/\H' pf=some (.lst xs)/\FQ (et H') xs (iH 5++two "twins" "floor" "" ""++two "trees" "codes" "" ""++two "trees" "cars" "" ""++two "cars" "codes" "" ""++jP k++sF k j)/\xs.length<=30+14*k+2*j) ⟨_,pf6,xs6,rfl,s6,e6,by rw [show sF k 0=[] from rfl,FR]; exact w6,by lia⟩ ?_ ?_⟩
  ·rintro j σ H7 hj ⟨o2,pf7,xs7,rfl,s7,e7,w7',l7⟩
   have hj7:j < 7:=by lia
   obtain ⟨aj,bj,cj⟩:=at7 j hj7
   have hw7:=s7 _ _ hw5
   have at0:gI (w7.map V.str) ((0:Int)+(k:Int))=some (.str (w7.getD k "")):=by rw [IU]; exact gb ak
   have at1:gI (w7.map V.str) ((0:Int)+(j:Int))=some (.str (w7.getD j "")):=by rw [IU]; exact gb aj
   refine ⟨_,rfl,_,rfl,_,rfl,pw,_,_,_,rfl,rfl,av.of hw7,at0,_,rfl,_,rfl,pw,_,_,_,rfl,rfl,av.of hw7,at1,w7.getD k "",w7.getD j "",(tz ":parts"),(tz ":parts"),rfl,by first | decide +kernel | assumption,by first | decide +kernel | assumption,by first | decide +kernel | assumption,by first | decide +kernel | assumption,fun a8 G8 r8 _ ⟨y8,ey8,wy8⟩=>?_⟩
   have ly8:y8.length=2:=Ge wy8
   refine ⟨pf7,a8,_,_,rfl,rfl,r8 _ _ e7,ey8,by lia,fun p8 hp8=>?_⟩
   have K8:=r8.trans (af.new (af.refl G8) hp8 (.lst (xs7++y8)))
   have E8:upd G8 p8 (.lst (xs7++y8)) p8=some (.lst (xs7++y8)):=ae
   have W8:=aK (eQ (aK w7' r8) wy8) (af.new (af.refl G8) hp8 (.lst (xs7++y8)))
   have L8:(xs7++y8).length=xs7.length+2:=by rw [Fo,ly8]
   have f8:=r8.free hp8
   generalize upd G8 p8 (.lst (xs7++y8))=N8 at K8 E8 W8 |-
   generalize xs7++y8=x8 at E8 W8 L8 |-
   refine ⟨_,p8,x8,rfl,s7.trans K8,E8,?_,by lia⟩
   have e:sF k (j+1)=sF k j++two (w7.getD k "") (w7.getD j "") ":parts" ":parts":=by
    unfold sF
    rw [FS,bj,Hr]
    simp
   rw [e,<- FF]
   exact W8
  ·rintro σ H7 ⟨o2,pf7,xs7,rfl,s7,e7,w7',l7⟩
   rw [show ((0:Int)+(k:Int)).toNat=k by lia] at w7' l7
   refine ⟨_,_,pf7,xs7,rfl,s7,e7,?_,by lia⟩
   have e:jP (k+1)=jP k++sF k k:=by
    unfold jP
    rw [List.range_succ,Hr]
    simp
   rw [e,<- FF]
   exact w7'
 rintro σ H6 ⟨o1,o2,pf6,xs6,rfl,s6,e6,w6,l6⟩
 have l6:xs6.length<=128:=l6
 refine ⟨(by show 5<=sizeLine; decide),fun pl hpl=>?_⟩
 have k6:=af.new (af.refl H6) hpl (.lst [V.str (tz "brackets"),V.str (tz "bows"),V.str (tz "twins"),V.str (tz "floor"),V.str (tz "turns")])
 have qc:upd H6 pl (.lst [V.str (tz "brackets"),V.str (tz "bows"),V.str (tz "twins"),V.str (tz "floor"),V.str (tz "turns")]) pl=some (.lst (w5.map V.str)):=ae
 generalize upd H6 pl (.lst [V.str (tz "brackets"),V.str (tz "bows"),V.str (tz "twins"),V.str (tz "floor"),V.str (tz "turns")])=H7 at k6 qc |-
 refine ⟨pl,rfl,⟨_,av.of qc⟩,gx (xs:=w5.map V.str) (fun i σ H'=>∃ (o':Option V) (pf:Fe) (xs:List V),σ=[some (.ref pf),some (.ref pw),o',o1,o2]/\af H7 H'/\H' pf=some (.lst xs)/\FQ (et H') xs (iH 5++two "twins" "floor" "" ""++two "trees" "codes" "" ""++two "trees" "cars" "" ""++two "cars" "codes" "" ""++jP 7++tI i)/\xs.length<=128+i) ⟨_,pf6,xs6,rfl,af.refl H7,k6 _ _ e6,by rw [show tI 0=[] from rfl,FR]; exact aK w6 k6,by lia⟩ (fun i σ H' _ h=>by obtain ⟨_,_,_,_,sm,_⟩:=h; exact av.of (sm _ _ qc)) ?_ ?_⟩
 ·rintro i v σ H8 hv ⟨o',pf8,xs8,rfl,s8,e8,w8,l8⟩
  obtain ⟨u,hu,rfl⟩:∃ u,w5[i]? = some u/\v=V.str u:=by
   rw [FN] at hv
   cases e:w5[i]? with
   | none=>rw [e] at hv; cases hv
   | some d=>rw [e] at hv; exact ⟨d,rfl,(Fw hv).symm⟩
  have i5:i < 5:=(Fj.mp hu).1
  have lu:u.length<=100:=lw u (FK _ (FJ hu))
  refine ⟨_,rfl,_,rfl,_,rfl,u,u,(tz ":mirror"),(tz ":mirror"),rfl,lu,lu,by decide +kernel,by decide +kernel,fun a9 G9 r9 _ ⟨y9,ey9,wy9⟩=>⟨_,rfl,a9,_,rfl,av.of ey9,fun ps9 hps9=>?_⟩⟩
  obtain ⟨v1,v2,rfl,wv⟩:∃ v1 v2,y9=[v1,v2]/\et G9 v1 (u++">"++u++":mirror",u,u,u++">"++u++":mirror"):=by
   cases wy9 with
   | cons h1 t1=>cases t1 with
    | cons h2 t2=>cases t2; exact ⟨_,_,rfl,h1⟩
  have k9:=af.new (af.refl G9) hps9 (.lst (dS [v1,v2] none (some 1)))
  have hs9:upd G9 ps9 (.lst (dS [v1,v2] none (some 1))) ps9=some (.lst [v1]):=by rw [ae]; rfl
  generalize upd G9 ps9 (.lst (dS [v1,v2] none (some 1)))=M9 at k9 hs9 |-
  refine ⟨pf8,ps9,_,_,rfl,rfl,k9 _ _ (r9 _ _ e8),hs9,by show xs8.length+1<=sizeLine; lia,fun p9 hp9=>?_⟩
  have t9:=af.new (r9.trans k9) hp9 (.lst (xs8++[v1]))
  refine ⟨_,p9,xs8++[v1],rfl,s8.trans t9,ae,?_,by rw [Fo]; show xs8.length+1<=_; lia⟩
  have e:tI (i+1)=tI i++(two u u ":mirror" ":mirror").take 1:=by
   unfold tI
   rw [FS,hu,Hr]
   simp
  rw [e,<- FF]
  have wv1:FQ (et M9) [v1] ((two u u ":mirror" ":mirror").take 1):=.cons (let ⟨a,e1,e2⟩:=wv; ⟨a,e1,k9 _ _ e2⟩) .nil
  exact aK (eQ (aK w8 (r9.trans k9)) wv1) (af.new (af.refl M9) hp9 _)
 rintro σ H8 ⟨o',pf8,xs8,rfl,s8,e8,w8,l8⟩
 have l8:xs8.length<=133:=l8
 have w8:FQ (et H8) xs8 (iH 5++two "twins" "floor" "" ""++two "trees" "codes" "" ""++two "trees" "cars" "" ""++two "cars" "codes" "" ""++jP 7++tI 5):=w8
 refine ⟨_,rfl,(tz "bows"),(tz "bows"),(tz ":turn"),(tz ":turnback"),rfl,by first | decide +kernel | assumption,by first | decide +kernel | assumption,by first | decide +kernel | assumption,by first | decide +kernel | assumption,fun a10 G10 r10 _ ⟨y10,ey10,wy10⟩=>?_⟩
 have ly10:y10.length=2:=Ge wy10
 refine ⟨pf8,a10,_,_,rfl,rfl,r10 _ _ e8,ey10,by lia,fun p10 hp10=>?_⟩
 have K10:=r10.trans (af.new (af.refl G10) hp10 (.lst (xs8++y10)))
 have E10:upd G10 p10 (.lst (xs8++y10)) p10=some (.lst (xs8++y10)):=ae
 have W10:=aK (eQ (aK w8 r10) wy10) (af.new (af.refl G10) hp10 (.lst (xs8++y10)))
 have L10:(xs8++y10).length=xs8.length+2:=by rw [Fo,ly10]
 have f10:=r10.free hp10
 generalize upd G10 p10 (.lst (xs8++y10))=N10 at K10 E10 W10 |-
 generalize xs8++y10=x10 at E10 W10 L10 |-
 refine ⟨_,rfl,(tz "floor"),(tz "floor"),(tz ":turn"),(tz ":turnback"),rfl,by first | decide +kernel | assumption,by first | decide +kernel | assumption,by first | decide +kernel | assumption,by first | decide +kernel | assumption,fun a11 G11 r11 _ ⟨y11,ey11,wy11⟩=>?_⟩
 have ly11:y11.length=2:=Ge wy11
 refine ⟨p10,a11,_,_,rfl,rfl,r11 _ _ E10,ey11,by lia,fun p11 hp11=>?_⟩
 have K11:=r11.trans (af.new (af.refl G11) hp11 (.lst (x10++y11)))
 have E11:upd G11 p11 (.lst (x10++y11)) p11=some (.lst (x10++y11)):=ae
 have W11:=aK (eQ (aK W10 r11) wy11) (af.new (af.refl G11) hp11 (.lst (x10++y11)))
 have L11:(x10++y11).length=x10.length+2:=by rw [Fo,ly11]
 have f11:=r11.free hp11
 generalize upd G11 p11 (.lst (x10++y11))=N11 at K11 E11 W11 |-
 generalize x10++y11=x11 at E11 W11 L11 |-
 refine ⟨_,rfl,(tz "rooms"),(tz "rooms"),(tz ":gaps"),(tz ":gapsback"),rfl,by first | decide +kernel | assumption,by first | decide +kernel | assumption,by first | decide +kernel | assumption,by first | decide +kernel | assumption,fun a12 G12 r12 _ ⟨y12,ey12,wy12⟩=>?_⟩
 have ly12:y12.length=2:=Ge wy12
 refine ⟨p11,a12,_,_,rfl,rfl,r12 _ _ E11,ey12,by lia,fun p12 hp12=>?_⟩
 have K12:=r12.trans (af.new (af.refl G12) hp12 (.lst (x11++y12)))
 have E12:upd G12 p12 (.lst (x11++y12)) p12=some (.lst (x11++y12)):=ae
 have W12:=aK (eQ (aK W11 r12) wy12) (af.new (af.refl G12) hp12 (.lst (x11++y12)))
 have L12:(x11++y12).length=x11.length+2:=by rw [Fo,ly12]
 have f12:=r12.free hp12
 generalize upd G12 p12 (.lst (x11++y12))=N12 at K12 E12 W12 |-
 generalize x11++y12=x12 at E12 W12 L12 |-
 refine ⟨_,rfl,(tz "rooms"),(tz "bows"),(tz ":feet"),(tz ":feet"),rfl,by first | decide +kernel | assumption,by first | decide +kernel | assumption,by first | decide +kernel | assumption,by first | decide +kernel | assumption,fun a13 G13 r13 _ ⟨y13,ey13,wy13⟩=>?_⟩
 have ly13:y13.length=2:=Ge wy13
 refine ⟨p12,a13,_,_,rfl,rfl,r13 _ _ E12,ey13,by lia,fun p13 hp13=>?_⟩
 have K13:=r13.trans (af.new (af.refl G13) hp13 (.lst (x12++y13)))
 have E13:upd G13 p13 (.lst (x12++y13)) p13=some (.lst (x12++y13)):=ae
 have W13:=aK (eQ (aK W12 r13) wy13) (af.new (af.refl G13) hp13 (.lst (x12++y13)))
 have L13:(x12++y13).length=x12.length+2:=by rw [Fo,ly13]
 have f13:=r13.free hp13
 generalize upd G13 p13 (.lst (x12++y13))=N13 at K13 E13 W13 |-
 generalize x12++y13=x13 at E13 W13 L13 |-
 have T8:af H H8:=T5.trans (s6.trans (k6.trans s8))
 have T12:af H N12:=T8.trans (K10.trans (K11.trans K12))
 exact q p13 N13 (T12.trans K13) (T12.free f13) ⟨x13,E13,W13⟩
theorem AU (F:bg K "_law_mix" "_law_mix" lC f fd):aF P w K mg base bC 1 f fd ["_law_cell","_law_turn"] (su K ca):=by
 refine F.ok xO (fun vs H Q E h=>?_) (fun cdv A outer s H vs Q E hr h=>?_)
 ·obtain ⟨c,t,rfl,h0,h1,q⟩:=h
  rfl
 obtain ⟨c,t,rfl,h0,h1,q⟩:=h
 refine ⟨_,ao (aC (i:=2) xO.nd rfl (FP rfl) (aI d5 (aI iN (aI jh (aI jh (aI d5 (pv 0) az) (aI iN (aI iN (pv 1) (pv 1)) az)) az) az) az))
  (ar (aA (aI d5 (aI jh (aI iN (pv 2) (pv 2)) (aI iN az (pv 1))) az))),?_⟩
 refine ⟨_,rfl,_,_,rfl,rfl,pm (by decide),_,rfl,_,rfl,_,_,rfl,rfl,.inl ⟨by lia,by lia⟩,_,_,rfl,rfl,.inr ⟨by decide,by decide⟩,_,_,rfl,rfl,_,_,rfl,rfl,_,_,rfl,rfl,.inr ⟨by decide,by decide⟩,_,_,rfl,rfl,pm (by decide),?_⟩
 have b0:=G0 ((c % 2147483647+t*t*7919+104729)*48271) (show (2147483647:Int)≠0 by decide)
 have b1:=GD ((c % 2147483647+t*t*7919+104729)*48271) (show (0:Int) < 2147483647 by decide)
 try dsimp only
 generalize (c % 2147483647+t*t*7919+104729)*48271 % 2147483647=n at *
 exact ⟨_,rfl,_,rfl,_,_,rfl,rfl,.inl ⟨by lia,by lia⟩,_,rfl,_,_,rfl,rfl,.inl ⟨by decide,by decide⟩,_,_,rfl,rfl,_,_,rfl,rfl,pm (by decide),q _ (G0 _ (by decide)) (GD _ (by decide))⟩
theorem BE (F:bg K "_law_draws" "_law_draws" lO f fd) {f0:Fe} {fd0:Fh} (vq:Def P w K mg base "_law_mix" ["_law_cell","_law_turn"] 1 (su K ca) f0 fd0) (bP:mg "range" = none) (fh:mg "len" = none):aF P w K mg base bC 2 f fd ["_law_script","_law_turn","_law_many"] (r6 K ca):=by
 refine F.ok g4 (fun vs H Q E h=>?_) (fun cdv A outer s H vs Q E hr h=>?_)
 ·obtain ⟨a,ns,t,m,rfl,hS,h63,t0,t1,m0,m1,q⟩:=h
  rfl
 obtain ⟨a,ns,t,m,rfl,hS,h63,t0,t1,m0,m1,q⟩:=h
 refine ⟨_,ao (aC (i:=3) g4.nd rfl (FP rfl) (aI d8 (iJ jd (pv 0) ji (ju az)) (bb (aa (pv 1) ah))))
  (ao (aC (i:=4) g4.nd rfl (FP rfl) (bb ah))
  (ao (bA (aH cB (aI d5 (aI iG (aX bK (pv 3) az (fun _ _=>rfl)) az) az) az (aL _)) (ao (gF (i:=5) g4.nd rfl (FP rfl) rfl rfl (bY (pv 3)) rfl rfl rfl rfl (N:=["_law_cell"]) (.own .nil) (fun _ _ _ _ _ _=>(aN (i:=0) (by show Hm (["_law_cell"]:List Str); decide +kernel) rfl (FP rfl))) (fun _ _ _ _ _ _=>gN) (fun _ _ _ _ _ _=>(aI iG (pv 0) az)))
  (ao (cX Gj rfl (fM rfl bP (aa (aI jh (pv 1) (pv 2)) ah)) (aN (i:=6) g4.nd rfl (FP rfl)) (ao (aC (i:=7) g4.nd rfl (FP rfl) (aI d5 (pv 6) (bE di rfl fh iL (aa (pv 5) ah))))
  (ao (bt (iT HZ HN HP g7 (pv 4) (aa (aI d5 (aX bK (pv 5) (pv 7) (fun _ _=>rfl)) az) ah)))
  (ar (xm (aI iG (aX bK (pv 5) (pv 7) (fun _ _=>rfl)) az) (Cq (pv 5) (pv 7) set_list))))))
  (ar (aA (iJ jd (pv 4) (ju (pv 1)) ji))))) aQ)
  (ao (cX Gj rfl (fM rfl bP (aa (pv 2) ah)) (aN (i:=6) g4.nd rfl (FP rfl)) (ao (aC (i:=8) g4.nd rfl (FP rfl) (bc vq hr (aa (aX bK (pv 3) (aI d5 (pv 6) (bE di rfl fh iL (aa (pv 3) ah))) (fun _ _=>rfl)) (aa (aI jh (pv 6) (pv 1)) ah))))
  (ar (bt (iT HZ HN HP g7 (pv 4) (aa (aI d5 (aI jh (aI iN (pv 8) (pv 8)) (aI iN az (pv 6))) az) ah))))))
  (ar (aA (pv 4)))))),?_⟩
 have M:∀ x:Int,0<=x % 2147483587/\x % 2147483587 < 2147483587:=fun x=>⟨G0 x (by decide),GD x (by decide)⟩
 refine ⟨_,rfl,_,rfl,a,_,rfl,hS,fun p1 hp1=>⟨_,rfl,(by show 1<=sizeLine; decide),fun p2 hp2=>?_⟩⟩
 have n12:p1≠p2:=aO ae hp2
 have s1:=af.new (af.refl H) hp1 (.lst (dS (ns.map V.int) none (some 63)))
 have s2:=af.new s1 hp2 (.lst [.int t])
 have lc:(gQ ns none (some 63)).length<=63:=FW (tS _ _ _) h63
 refine ⟨p1,p2,_,_,rfl,rfl,(aq n12).trans ae,ae,?_,fun pc hpc=>?_⟩
 ·rw [mU,Ff]; exact sz (by simp; lia)
 have s3:=af.new s2 hpc (.lst (dS (ns.map V.int) none (some 63)++[.int t]))
 have ecs:dS (ns.map V.int) none (some 63)++[.int t]=(gQ ns none (some 63)++[t]).map V.int:=by rw [mU,Fx]; rfl
 have lcs:1<=(gQ ns none (some 63)++[t]).length/\(gQ ns none (some 63)++[t]).length<=64:=by rw [Fo]; constructor<;>simp<;>lia
 rw [ecs] at s3 |-
 generalize hH3:upd (upd (upd H p1 (.lst (dS (ns.map V.int) none (some 63)))) p2 (.lst [.int t])) pc (.lst ((gQ ns none (some 63)++[t]).map V.int))=H3 at s3 |-
 have hc3:H3 pc=some (.lst ((gQ ns none (some 63)++[t]).map V.int)):=by rw [<- hH3]; exact ae
 generalize gQ ns none (some 63)++[t]=cs at hc3 lcs |-
 refine ⟨Fy _,fun pf hpf=>?_⟩
 have s4:=af.new s3 hpf (.lst [])
 have fpf:H pf=none:=s3.free hpf
 have ncf:pc≠pf:=aO hc3 hpf
 have hc4:upd H3 pf (.lst []) pc=some (.lst (cs.map V.int)):=(aq ncf).trans hc3
 have hf4:upd H3 pf (.lst []) pf=some (.lst (([]:List Int).map V.int)):=ae
 generalize upd H3 pf (.lst [])=H4 at s4 hc4 hf4 |-
 have at0:=mh (ns:=cs) (i:=0) (by decide) (by lia)
 have lm:(cs.map V.int).length=cs.length:=Ff _
 refine ⟨_,rfl,pc,_,_,_,rfl,rfl,av.of hc4,at0,_,_,rfl,rfl,⟨by decide,by decide +kernel⟩,_,_,rfl,rfl,pm (by decide),rfl,_,rfl,rm (fun _=>?_) (fun _=>?_)⟩
 ·refine ⟨_,rfl,pc,rfl,⟨_,av.of hc4⟩,fun D hD=>wJ (fun v=>match v with | .int c=>.int (c / 100000) | v=>v) (by rw [lm]; exact sz (by lia)) (av.of hc4) hD (fun i x H' R R0 hx hb hR=>?_) ?_⟩
  ·obtain ⟨c,rfl⟩:=z9 hx
   exact ⟨Ext.set rfl,EB (d7 ⟨_,rfl,_,_,rfl,rfl,⟨by decide,by decide +kernel⟩,hR⟩)⟩
  ·have fD:H D=none:=s4.free hD
   have nfD:pf≠D:=aO hf4 hD
   have el:(cs.map V.int).map (fun v=>match v with | .int c=>V.int (c / 100000) | v=>v)=(cs.map (· / 100000)).map V.int:=by rw [GI,GI]; rfl
   rw [el]
   refine ⟨_,rfl,_,rfl,_,_,rfl,rfl,_,rfl,by lia,by lia,fP (lo:=0) (n:=(t+m).toNat) (fun i σ H'=>∃ (o1 o2 o3:Option V) (ls fs:List Int),σ=[some (.ref a),some (.int t),some (.int m),some (.ref pc),some (.ref pf),some (.ref D),o1,o2,o3]/\af H H'/\H' D=some (.lst (ls.map V.int))/\ls.length=cs.length/\H' pf=some (.lst (fs.map V.int))/\fs.length=i/\∀ x∈fs,0<=x/\x < 2147483587)
    ⟨_,_,_,_,[],rfl,af.new s4 hD _,ae,by simp,(aq nfD).trans hf4,rfl,by simp⟩ ?_ ?_⟩
   ·rintro i σ H5 hi ⟨o1,o2,o3,ls,fs,rfl,sm,hl,ll,hf,lf,bf⟩
    have lml:(ls.map V.int).length=ls.length:=Ff _
    have pos:(0:Int) < (((ls.map V.int).length:Nat):Int):=by rw [lml]; lia
    have k0:=G0 ((0:Int)+(i:Int)) (show (((ls.map V.int).length:Nat):Int)≠0 by lia)
    have k1:=GD ((0:Int)+(i:Int)) pos
    refine ⟨_,rfl,_,rfl,D,_,rfl,.inl (av.of hl),_,_,rfl,rfl,pos,?_⟩
    try dsimp only
    generalize ((0:Int)+(i:Int)) % (((ls.map V.int).length:Nat):Int)=k at k0 k1 |-
    rw [lml] at k1
    have atk:=mh (ns:=ls) (i:=k) k0 k1
    refine ⟨_,rfl,.inl ⟨rfl,_,av.of hf⟩,_,rfl,_,rfl,D,_,_,_,rfl,rfl,av.of hl,atk,_,_,rfl,rfl,pm (by decide),pf,_,_,rfl,rfl,hf,by rw [Ff]; exact BV (by lia),?_⟩
    have qc:upd H5 pf (.lst (fs.map V.int++[.int (ls.getD k.toNat 0 % 2147483587)])) D=some (.lst (ls.map V.int)):=(aq (Gk nfD)).trans hl
    refine ⟨_,rfl,_,rfl,D,_,_,_,rfl,rfl,av.of qc,atk,_,_,rfl,rfl,⟨by decide,by decide +kernel⟩,_,rfl,_,rfl,D,_,_,_,rfl,rfl,qc,zE k0 (by rw [lml]; exact k1),?_⟩
    refine ⟨_,_,_,ls.set k.toNat (ls.getD k.toNat 0 / 2147483587),fs++[ls.getD k.toNat 0 % 2147483587],rfl,(sm.upd fpf _).upd fD _,?_,by simpa using ll,?_,by simp [lf],?_⟩
    ·rw [ae,List.map_set]
    ·rw [aq nfD,ae,Fx]; rfl
    ·intro x hx
     rcases Hk.mp hx with z | z
     ·exact bf x z
     ·have:x=ls.getD k.toNat 0 % 2147483587:=by simpa using z
      rw [this]; exact M _
   ·rintro σ H5 ⟨o1,o2,o3,ls,fs,rfl,sm,hl,ll,hf,lf,bf⟩
    refine ⟨_,rfl,_,rfl,_,rfl,pf,_,rfl,av.of hf,fun pr hpr=>?_⟩
    rw [mU,xq fs t0]
    refine q pr (fs.drop t.toNat) _ (af.new sm hpr _) (sm.free hpr) ae ?_ fun x hx=>bf x (List.mem_of_mem_drop hx)
    rw [Iw,lf]; lia
 ·refine ⟨_,rfl,_,rfl,by lia,by lia,fP (lo:=0) (n:=m.toNat) (fun i σ H'=>∃ (o1 o2 o3 o4:Option V) (fs:List Int),σ=[some (.ref a),some (.int t),some (.int m),some (.ref pc),some (.ref pf),o1,o2,o3,o4]/\af H H'/\H' pc=some (.lst (cs.map V.int))/\H' pf=some (.lst (fs.map V.int))/\fs.length=i/\∀ x∈fs,0<=x/\x < 2147483587)
   ⟨_,_,_,_,[],rfl,s4,hc4,hf4,rfl,by simp⟩ ?_ ?_⟩
  ·rintro i σ H5 hi ⟨o1,o2,o3,o4,fs,rfl,sm,hc,hf,lf,bf⟩
   have pos:(0:Int) < (((cs.map V.int).length:Nat):Int):=by rw [lm]; lia
   have k0:=G0 ((0:Int)+(i:Int)) (show (((cs.map V.int).length:Nat):Int)≠0 by lia)
   have k1:=GD ((0:Int)+(i:Int)) pos
   have atk:=mh (ns:=cs) (i:=((0:Int)+(i:Int)) % (((cs.map V.int).length:Nat):Int)) k0 (by rw [<- lm]; exact k1)
   refine ⟨_,rfl,_,rfl,_,rfl,pc,_,rfl,.inl (av.of hc),_,_,rfl,rfl,pos,pc,_,_,_,rfl,rfl,av.of hc,atk,_,rfl,_,rfl,_,_,rfl,rfl,_,_,rfl,by lia,by lia,fun x x0 x1=>?_⟩
   refine ⟨_,rfl,.inl ⟨rfl,_,av.of hf⟩,_,rfl,_,rfl,_,_,rfl,rfl,.inl ⟨by lia,by lia⟩,_,rfl,_,_,rfl,rfl,.inl ⟨by decide,by decide⟩,_,_,rfl,rfl,_,_,rfl,rfl,pm (by decide),pf,_,_,rfl,rfl,hf,by rw [Ff]; exact BV (by lia),?_⟩
   refine ⟨_,_,_,_,fs++[(x*x+7*((0:Int)+(i:Int))) % 2147483587],rfl,sm.upd fpf _,(aq ncf).trans hc,?_,by simp [lf],?_⟩
   ·rw [ae,Fx]; rfl
   ·intro y hy
    rcases Hk.mp hy with z | z
    ·exact bf y z
    ·have:y=(x*x+7*((0:Int)+(i:Int))) % 2147483587:=by simpa using z
     rw [this]; exact M _
  ·rintro σ H5 ⟨o1,o2,o3,o4,fs,rfl,sm,hc,hf,lf,bf⟩
   exact ⟨_,rfl,q pf fs H5 sm fpf hf lf bf⟩
theorem Bx (F:bg K "_law_drawn" "_law_drawn" lA f fd) {f0:Fe} {fd0:Fh} (v5:Def P w K mg base "_law_ways" [] 2 (rX K ca) f0 fd0) {f1:Fe} {fd1:Fh} (vA:Def P w K mg base "_law_draws" ["_law_script","_law_turn","_law_many"] 2 (r6 K ca) f1 fd1) (fh:mg "len" = none):aF P w K mg base bC 3 f fd ["_law_script"] (sE K ca):=by
 refine F.ok gp (fun vs H Q E h=>?_) (fun cdv A outer s H vs Q E hr h=>?_)
 ·obtain ⟨a,ns,rfl,hS,h63,q⟩:=h
  rfl
 obtain ⟨a,ns,rfl,hS,h63,q⟩:=h
 refine ⟨_,ao (aC (i:=1) gp.nd rfl (FP rfl) (gn v5 hr))
  (ao (aC (i:=2) gp.nd rfl (FP rfl) (bb ah))
  (ao (aC (i:=3) gp.nd rfl (Jx rfl) ai)
  (ao (aC (i:=4) gp.nd rfl (FP rfl) (bc vA hr (aa (pv 0) (aa az (aa az ah)))))
  (ao (cX Gj rfl (bY (iJ jd (pv 4) ji (ju (aI d5 (aX bK (pv 4) az (fun _ _=>rfl)) az)))) (aN (i:=5) gp.nd rfl (Jx rfl)) (ao (gF (i:=6) gp.nd rfl (FP rfl) rfl rfl (bY (pv 1)) rfl rfl rfl rfl (N:=["_law_row","_law_here","_law_number"]) (.own (.cap (j:=3) rfl rfl rfl (.cap (j:=5) rfl rfl rfl .nil))) (fun _ _ _ _ _ _=>(aN (i:=0) (by show Hm (["_law_row","_law_here","_law_number"]:List Str); decide +kernel) rfl (FP rfl))) (fun _ _ _ _ _ _=>(jc (PW.pt (gA (aH cB (pv 1) ai (aL _)) (gA (aH cB (aX (pR (K:=K) rfl) (pv 0) az (fun _ _=>rfl)) (pv 1) (aL _)) (gY (aH cB (aI d5 (aI iG (pv 2) az) az) az (aL _)))))))) (fun _ _ _ _ _ _=>(pv 0)))
  (ao (aC (i:=7) gp.nd rfl (FP rfl) (aX bK (pv 6) (aI d5 (pv 5) (bE di rfl fh iL (aa (pv 6) ah))) (fun _ _=>rfl)))
  (pB (bA (aH cB (aI d5 (aI iG (pv 5) az) az) az (aL _)) (ar (aC (i:=7) gp.nd rfl (FP rfl) (gX (aa (aI fg (aX cz (pv 7) az (fun _ _=>rfl)) (aX bK (bb (aa ai (aa ai (aa ai (aa ai ah))))) (aI d5 (pv 5) az) (fun _ _=>rfl))) (aa (aX cz (pv 7) az (fun _ _=>rfl)) (aa (aX cz (pv 7) az (fun _ _=>rfl)) (aa ai ah))))))) aQ)
  (ao (bt (iT HZ HN HP g7 (pv 2) (aa (pv 7) ah)))
  (ar (aC (i:=3) gp.nd rfl (Jx rfl) (aX cz (pv 7) az (fun _ _=>rfl)))))))))
  (ar (aA (pv 2))))))),?_⟩
 have z:1000<=sizeLine:=by decide
 refine ⟨rfl,fun pw H1 s1 f1 w1=>?_⟩
 obtain ⟨xw,ew,ww⟩:=w1
 have lw:xw.length=73:=(Ge ww).trans rY
 refine ⟨Fy _,fun pf hpf=>?_⟩
 have k1:=af.new s1 hpf (.lst [])
 have kw:=af.new (af.refl H1) hpf (.lst [])
 have ef:upd H1 pf (.lst []) pf=some (.lst []):=ae
 have ew2:=kw _ _ ew
 have ww2:=aK ww kw
 have fpf:=s1.free hpf
 generalize upd H1 pf (.lst [])=H2 at k1 kw ef ew2 ww2 |-
 refine ⟨_,rfl,a,ns,0,13,rfl,k1.seq hS,h63,by decide,by decide,by decide,by decide,fun pd xs H3 s3 f3 h3 lx bx=>?_⟩
 have lx:xs.length=13:=lx
 have at12:=mh (ns:=xs) (i:=12) (by lia) (by lia)
 generalize xs.getD (12:Int).toNat 0=m at at12
 have m0:=G0 m (show (13:Int)≠0 by decide)
 have m1:=GD m (show (0:Int) < 13 by decide)
 obtain ⟨c,ec⟩:∃ c:Nat,m % 13=(c:Int):=⟨_,(IG m0).symm⟩
 refine ⟨_,rfl,_,rfl,pd,_,_,_,rfl,rfl,av.of h3,at12,_,_,rfl,rfl,pm (by decide),_,rfl,pd,_,rfl,av.of h3,fun ps hps=>?_⟩
 have ecut:dS (xs.map V.int) none (some (m % 13))=(xs.take c).map V.int:=by rw [ec,z4,List.map_take]
 rw [ecut]
 have lks:((xs.take c).map V.int).length<=12:=by rw [Ff,Ga]; lia
 generalize xs.take c=ks at lks |-
 have npf:pf≠ps:=aO (s3 _ _ ef) hps
 have k4:=af.new s3 hps (.lst (ks.map V.int))
 have eps:upd H3 ps (.lst (ks.map V.int)) ps=some (.lst (ks.map V.int)):=ae
 have kw4:=kw.trans k4
 have k14:=k1.trans k4
 have ef4:=k4 _ _ ef
 generalize upd H3 ps (.lst (ks.map V.int))=H4 at k4 eps kw4 k14 ef4 |-
 refine ⟨ps,rfl,⟨_,av.of eps⟩,gx (xs:=ks.map V.int) (fun i σ H'=>∃ (w:Str) (o5 o6 o7:Option V) (ys:List V) (rs:List Way),σ=[some (.ref a),some (.ref pw),some (.ref pf),some (.str w),some (.ref pd),o5,o6,o7]/\af H1 H'/\H' ps=some (.lst (ks.map V.int))/\H' pf=some (.lst ys)/\FQ (et H') ys rs/\(∀ r∈rs,Rw r)/\rs.length=i/\(w = ""\/∃ r∈bH,w=r.2.2.1)) ⟨_,_,_,_,[],[],rfl,kw4,eps,ef4,.nil,fun r h=>absurd h (List.not_mem_nil),rfl,.inl rfl⟩ (fun i σ H' _ h=>by obtain ⟨_,_,_,_,_,_,_,_,e,_⟩:=h; exact av.of e) ?_ ?_⟩
 ·rintro i v σ H5 hv ⟨w',o5,o6,o7,ys,rs,rfl,s5,e5,f5,p5,rw5,l5,hw5⟩
  obtain ⟨n,hn,rfl⟩:∃ n,ks[i]? = some n/\v=V.int n:=by
   rw [FN] at hv
   cases e:ks[i]? with
   | none=>rw [e] at hv; cases hv
   | some d=>rw [e] at hv; exact ⟨d,rfl,(Fw hv).symm⟩
  have i12:i < 12:=by
   have:=(Fj.mp hn).1
   rw [Ff] at lks
   lia
  have ew5:=s5 _ _ ew
  have ww5:=aK ww s5
  refine ⟨_,rfl,pw,rfl,⟨_,av.of ew5⟩,fun D hD=>eX (xs:=xw) (fun j zs H'=>af H5 H'/\H' D=some (.lst zs)/\j<=73/\zs.length<=j/\(∀ v∈zs,∃ r∈bH,et H5 v r)/\(zs=[]->∀ (i:Nat) (r:Way),i < j->bH[i]? = some r->w'≠""/\r.2.1≠w')) (sz (by lia)) ⟨af.new (af.refl H5) hD _,ae,Fy _,Fy _,fun v hv=>absurd hv (List.not_mem_nil),fun _ i r hi=>absurd hi (Nat.not_lt_zero _)⟩ (fun j zs H' hj h=>⟨av.of (h.1 _ _ ew5),h.2.2.2.1⟩) (fun j v zs H' R R0 hx h r' r0=>?_) (fun zs H6 h=>?_)⟩
  ·obtain ⟨sk,hz,hj,lz,allz,noz⟩:=h
   obtain ⟨rk,hrk,vk,rfl,hvk⟩:=o9 ww5 hx
   have hj1:j < 73:=by have:=(Fj.mp hx).1; lia
   have put:∀ H7,af H5 H7->H7 D=some (.lst zs)->R (.ref vk) H7:=fun H7 s7 hz7=>r' _ _ hz7 ⟨s7.upd hD _,ae,hj1,by simp; lia,fun v hv=>by
    rcases Hk.mp hv with m | m
    ·exact allz v m
    ·rw [Gx.mp m]
     exact ⟨rk,FJ hrk,vk,rfl,hvk⟩,fun z=>by simp at z⟩
   refine ⟨Ext.set rfl,_,rfl,rfl,_,rfl,?_⟩
   by_cases c1:w' = ""
   ·exact gc (congrArg V.str c1) (d7 ⟨_,rfl,put _ sk hz⟩)
   refine dU (fun z=>c1 (V.str.inj z)) ⟨_,rfl,vk,_,_,_,rfl,rfl,bJ.of (sk _ _ hvk),rfl,_,rfl,rfl,_,rfl,?_⟩
   by_cases c2:rk.2.1=w'
   ·exact gc (congrArg V.str c2) (d7 ⟨_,rfl,put _ sk hz⟩)
   refine dU (fun z=>c2 (V.str.inj z)) ⟨_,rfl,_,_,rfl,rfl,⟨by decide,by decide +kernel⟩,_,_,rfl,rfl,pm (by decide),rfl,_,rfl,rm (fun _=>⟨_,rfl,put _ sk hz⟩) (fun _=>r0 _ ⟨sk,hz,hj1,by lia,allz,fun z i r hi hr'=>?_⟩)⟩
   by_cases c:i=j
   ·subst c
    rw [hrk] at hr'
    cases hr'
    exact ⟨c1,c2⟩
   ·exact noz z i r (by lia) hr'
  obtain ⟨sk,hz,-,lz,allz,noz⟩:=h
  have lz:zs.length<=73:=by rw [lw] at lz; exact lz
  have zne:zs≠[]:=fun e=>by
   have nz:=noz e
   rcases hw5 with h | ⟨r,m1,m2⟩
   ·exact (nz 0 _ (by lia) (by decide +kernel:bH[0]? = some (bH.getD 0 ("","","","")))).1 h
   ·obtain ⟨u,mu,eu⟩:=wB m1
    obtain ⟨i,hi,e⟩:=List.getElem_of_mem mu
    have hi':i < xw.length:=by rw [rY] at hi; lia
    exact (nz i u hi' (by rw [Fk hi,e])).2 (by rw [eu,m2])
  have pos:(0:Int) < ((zs.length:Nat):Int):=by
   have:0 < zs.length:=List.length_pos_iff.mpr zne
   lia
  have b0:=G0 n (show ((zs.length:Nat):Int)≠0 by lia)
  have b1:=GD n pos
  obtain ⟨j,ej⟩:∃ j:Nat,n % ((zs.length:Nat):Int)=(j:Int):=⟨_,(IG b0).symm⟩
  have jx:j < zs.length:=by lia
  obtain ⟨r,rin,v0,ev,hv0⟩:=allz _ (HI jx)
  have eat:gI zs (n % ((zs.length:Nat):Int))=some (.ref v0):=by
   rw [ej]
   exact gb (by rw [Fk jx,ev])
  refine ⟨_,rfl,_,rfl,_,rfl,D,_,rfl,.inl (av.of hz),_,_,rfl,rfl,pm pos,D,_,_,_,rfl,rfl,av.of hz,eat,?_⟩
  refine ⟨fun σ H'=>∃ (v:Fe) (r r2:Way) (o6:Option V),σ=[some (.ref a),some (.ref pw),some (.ref pf),some (.str w'),some (.ref pd),some (.int n),o6,some (.ref v)]/\af H5 H'/\H' v=some (.tup (pU r))/\Rw r/\r2∈bH/\r.2.2.1=r2.2.2.1,?_,?_⟩
  ·refine ⟨_,rfl,_,_,rfl,rfl,⟨by decide,by decide +kernel⟩,_,_,rfl,rfl,pm (by decide),rfl,_,rfl,rm (fun _=>?_) (fun _=>⟨v0,r,r,_,rfl,sk,sk _ _ hv0,.inl rin,rin,rfl⟩)⟩
   have lr:r.1.length<=100:=of_decide_eq_true (Fu.mp wR _ rin)
   obtain ⟨y,ey,ymem,ly⟩:=B5 n
   have hv6:=sk _ _ hv0
   refine ⟨_,rfl,v0,_,_,_,rfl,rfl,bJ.of hv6,rfl,(by show 4<=sizeLine; decide),fun d hd=>?_⟩
   have kd:=af.new sk hd (.lst (mH.map V.str))
   have hvd:=af.new (af.refl H6) hd (.lst (mH.map V.str)) _ _ hv6
   refine ⟨_,rfl,_,_,rfl,rfl,pm (by decide),d,_,_,_,rfl,rfl,av.of ae,ey,_,_,rfl,rfl,Bc lr ly (by decide),?_⟩
   refine ⟨_,rfl,v0,_,_,_,rfl,rfl,bJ.of hvd,rfl,_,rfl,v0,_,_,_,rfl,rfl,bJ.of hvd,rfl,(by show 4<=sizeLine; decide),fun t ht=>?_⟩
   exact ⟨t,(r.1++y,r.2.1,r.2.2.1,""),r,_,rfl,af.new kd ht _,ae,.inr ⟨yC rin ymem,rfl⟩,rin,rfl⟩
  ·rintro σ H7 ⟨v7,r7,r8,o6,rfl,s7,hv7,hrw7,hin8,e78⟩
   have f7:=s7 _ _ f5
   have lys:ys.length=rs.length:=p5.length
   have nvp:v7≠pf:=wj hv7 f7 (by intro z; cases z)
   refine ⟨_,rfl,.inl ⟨rfl,_,av.of f7⟩,_,rfl,pf,_,_,rfl,rfl,f7,by lia,?_⟩
   have hv8:=(aq (o:=.lst (ys++[.ref v7])) nvp).trans hv7
   refine ⟨_,rfl,v7,_,_,_,rfl,rfl,bJ.of hv8,rfl,r7.2.2.1,_,_,_,ys++[.ref v7],rs++[r7],rfl,(s5.trans s7).upd hpf _,(aq (Gk npf)).trans (s7 _ _ e5),ae,?_,fun r hr=>?_,by rw [Fo,l5]; rfl,.inr ⟨r8,hin8,e78⟩⟩
   ·refine xi (Paired.mapP p5 fun v r ⟨b,e1,e2⟩=>⟨b,e1,?_⟩) ⟨v7,rfl,hv8⟩
    have e3:=s7 _ _ e2
    exact (aq (wj e3 f7 (by intro z; cases z))).trans e3
   ·rcases Hk.mp hr with m | m
    ·exact rw5 r m
    ·rw [Gx.mp m]
     exact hrw7
 ·rintro σ H5 ⟨w',o5,o6,o7,ys,rs,rfl,s5,e5,f5,p5,rw5,l5,hw5⟩
  exact ⟨_,rfl,q pf rs H5 (s1.trans s5) fpf ⟨ys,f5,p5⟩ rw5 (by lia)⟩
theorem BS (F:bg K "_law_due" "_law_due" lU f fd) (bP:mg "range" = none) (fh:mg "len" = none):aF P w K mg base bC 1 f fd ["_law_rows"] (sO K ca):=by
 refine F.ok wH (fun vs H Q E h=>?_) (fun cdv A outer s H vs Q E hr h=>?_)
 ·obtain ⟨p,rs,rfl,⟨xs,hp,hw⟩,h12,q⟩:=h
  rfl
 obtain ⟨p,rs,rfl,⟨xs,hp,hw⟩,h12,q⟩:=h
 refine ⟨_,ao (bA (aH (Bh (uJ hr)) (pv 0) (bb ah) (aL _)) (ar (aA (bb (aa ai (aa az ah))))) aQ)
  (ao (cX Gj rfl (fM rfl bP (aa (bE di rfl fh iL (aa (pv 0) ah)) ah)) (aN (i:=1) wH.nd rfl (FP rfl)) (ao (bA (aH cB (aX cz (aX bK (pv 0) (pv 1) (fun _ _=>rfl)) az (fun _ _=>rfl)) ai (aL _)) (ar (aA (bb (aa ai ah)))) aQ)
  (ar (bA (PW.pt (kr (aH zl (pv 1) az (aL _)) (mx (aH jC (aX cz (aX bK (pv 0) (pv 1) (fun _ _=>rfl)) az (fun _ _=>rfl)) (aX cz (aX bK (pv 0) (aI Bb (pv 1) az) (fun _ _=>rfl)) az (fun _ _=>rfl)) (aL _))))) (ar (aA (bb (aa ai (aa (pv 1) ah))))) aQ))))
  (ar (aA (bb ah)))),?_⟩
 have z:1000<=sizeLine:=by decide
 have lx:xs.length=rs.length:=hw.length
 refine ⟨_,rfl,Fy _,fun pe hpe=>?_⟩
 have k1:=af.new (af.refl H) hpe (.lst [])
 have ne1:p≠pe:=aO hp hpe
 refine ⟨1,_,by decide,eV.void ne1 (av.of (k1 _ _ hp)) (av.of ae),⟨p,pe,rfl,rfl,ne1⟩,_,rfl,?_⟩
 by_cases c0:rs=[]
 ·have cx:xs=[]:=Gz (by rw [lx,c0]; rfl)
  have hdu:bz rs = .brk 0:=by unfold bz; rw [if_pos c0]
  rw [hdu] at q
  exact eqT (decide_eq_true cx) ⟨(by show 2<=sizeLine; decide),fun u hu=>q u _ (af.new k1 hu _) (k1.free hu) ae⟩
 have cx:xs≠[]:=fun e=>c0 (Gz (by rw [<- lx,e]; rfl))
 have hdu:bz rs=fR none 0 rs:=by unfold bz; rw [if_neg c0]
 refine kP (decide_eq_false cx) ?_
 have hp1:=k1 _ _ hp
 have hw1:=aK hw k1
 generalize upd H pe (.lst [])=H1 at k1 hp1 hw1 |-
 refine ⟨_,rfl,p,_,rfl,.inl (av.of hp1),_,rfl,by lia,by lia,fP (lo:=0) (n:=xs.length) (fun k σ H'=>∃ o,σ=[some (.ref p),o]/\af H1 H'/\bz rs=fR (prev rs k) k (rs.drop k)) ⟨_,rfl,af.refl H1,hdu⟩ ?_ ?_⟩
 ·rintro k σ H2 hk ⟨o,rfl,s2,hd2⟩
  have hk':k < rs.length:=by lia
  have hr':rs[k]? = some rs[k]:=Fk hk'
  generalize rs[k]=r at hr'
  rw [uf hr'] at hd2
  obtain ⟨a,ea,ha⟩:=px hw1 hr'
  have ha2:=s2 _ _ ha
  have hp2:=s2 _ _ hp1
  have at0:gI xs ((0:Int)+(k:Int))=some (.ref a):=by rw [IU]; exact gb ea
  have t2:=k1.trans s2
  refine ⟨_,rfl,_,rfl,p,_,_,_,rfl,rfl,av.of hp2,at0,a,_,_,_,rfl,rfl,bJ.of ha2,rfl,rfl,_,rfl,?_⟩
  by_cases c:r.2.2.2 = ""
  ·rw [hd2.trans (tD c)] at q
   exact gc (congrArg V.str c) ⟨(by show 1<=sizeLine; decide),fun u hu=>q u _ (af.new t2 hu _) (t2.free hu) ae⟩
  refine dU (fun w=>c (V.str.inj w)) ⟨_,rfl,_,_,rfl,rfl,_,rfl,?_⟩
  have go:(k=0\/prev rs k=some r.2.1)->bz rs=fR (prev rs (k+1)) (k+1) (rs.drop (k+1)):=fun h=>by
   rw [hd2,xv hr']
   refine uv c (h.imp (fun e=>?_) id)
   rw [e]
   rfl
  by_cases i0:k=0
  ·exact kP (decide_eq_false (by lia)) (dq ⟨_,rfl,s2,go (.inl i0)⟩)
  ·have hW:k - 1 < rs.length:=by lia
   have hr1:rs[k - 1]? = some rs[k - 1]:=Fk hW
   generalize rs[k - 1]=r1 at hr1
   have hpv:prev rs k=some r1.2.2.1:=by unfold prev; rw [if_neg i0,hr1]; rfl
   obtain ⟨a1,ea1,ha1⟩:=px hw1 hr1
   have at1:gI xs ((0:Int)+(k:Int) - 1)=some (.ref a1):=by
    rw [show (0:Int)+(k:Int) - 1=((k - 1:Nat):Int) by lia]
    exact gb ea1
   refine eqT (decide_eq_true (by lia)) ⟨_,rfl,_,rfl,p,_,_,_,rfl,rfl,av.of hp2,at0,a,_,_,_,rfl,rfl,bJ.of ha2,rfl,_,rfl,_,rfl,_,_,rfl,rfl,p,_,_,_,rfl,rfl,av.of hp2,at1,a1,_,_,_,rfl,rfl,bJ.of (s2 _ _ ha1),rfl,rfl,_,rfl,?_⟩
   by_cases e:r.2.1=r1.2.2.1
   ·exact jz (congrArg V.str e) ⟨_,rfl,s2,go (.inr (by rw [hpv,e]))⟩
   ·have hdu2:bz rs = .brk k:=hd2.trans (rG c (by rw [hpv]; exact fun z=>by cases z) (by rw [hpv]; exact fun z=>e (Fw z).symm))
    rw [hdu2] at q
    refine nQ (fun w=>e (V.str.inj w)) ⟨_,rfl,(by show 2<=sizeLine; decide),fun u hu=>q u _ (af.new t2 hu _) (t2.free hu) ?_⟩
    rw [ae]
    show some (HO.lst [V.str (tz "broken"),V.int ((0:Int)+(k:Int))])=_
    rw [IU]
    rfl
 ·rintro σ H2 ⟨o,rfl,s2,hd2⟩
  rw [lx,List.drop_length] at hd2
  have hok:bz rs = .ok:=hd2
  rw [hok] at q
  have t2:=k1.trans s2
  exact ⟨Fy _,fun u hu=>q u _ (af.new t2 hu _) (t2.free hu) ae⟩
theorem CZ (F:bg K "__init__" "Broken.__init__" pX er.init fd):aF P w K mg base bC 1 er.init fd ["self","place"] (uY K ca er):=by
 refine F.ok Du (fun vs H Q E h=>?_) (fun cdv A outer s H vs Q E hr h=>?_)
 ·obtain ⟨e,k,rfl,k0,k1,he,q⟩:=h
  rfl
 obtain ⟨e,k,rfl,k0,k1,he,q⟩:=h
 refine ⟨_,ao (bt (yq EO.m_kin EO.cb (aa (pv 0) (aa (lL ai (Aa (pv 1)) .nil) ah))))
  (ar (zL (pv 0) (pv 1) rfl)),?_⟩
 have z:1000<=sizeLine:=by decide
 have l1:(tz "the chain breaks at place ").length=26:=by decide +kernel
 refine ⟨_,rfl,_,rfl,by rw [bN,l1]; lia,_,rfl,k,rfl,k0,by have:(10:Int) ^ 10=10000000000:=(by decide); lia,fun y ly=>⟨y,rfl,by rw [bN,len_app,l1]; lia,e,er.broken,er.init,_,rfl,he,EO.ex.j,?_⟩⟩
 exact ⟨_,rfl,_,rfl,e,er.broken,er.init,rfl,he,EO.ex,EO.na,fun d hd=>q d hd⟩
theorem Av (F:bg K "direct_ways" "direct_ways" iV f fd):aF P w K mg base bC 1 f fd [] (rU K ca):=by
 refine F.ok Bi (fun vs H Q E h=>?_) (fun cdv A outer s H vs Q E hr h=>?_)
 ·obtain ⟨rfl,q⟩:=h
  rfl
 obtain ⟨rfl,q⟩:=h
 have hb:iu (au iV) je=true:=by decide +kernel
 generalize au iV=b at hb |-
 refine ⟨_,xg (ns:=je) (items:=fY ca) hb (.cons ⟨rfl,rfl,CA.jA⟩ (.cons ⟨rfl,rfl,CA.jN⟩ (.cons ⟨rfl,rfl,CA.jY⟩ (.cons ⟨rfl,rfl,CA.jX⟩ (.cons ⟨rfl,rfl,CA.kK⟩ (.cons ⟨rfl,rfl,CA.kz⟩ (.cons ⟨rfl,rfl,CA.j5⟩ (.cons ⟨rfl,rfl,CA.j6⟩ (.cons ⟨rfl,rfl,CA.jZ⟩ (.cons ⟨rfl,rfl,CA.j0⟩ (.cons ⟨rfl,rfl,CA.m6⟩ (.cons ⟨rfl,rfl,CA.mL⟩ (.cons ⟨rfl,rfl,CA.ph⟩ (.cons ⟨rfl,rfl,CA.pV⟩ (.cons ⟨rfl,rfl,CA.oK⟩ (.cons ⟨rfl,rfl,CA.oJ⟩ (.cons ⟨rfl,rfl,CA.oU⟩ (.cons ⟨rfl,rfl,CA.oF⟩ .nil)))))))))))))))))) (by decide) (by decide) (mE ca),?_⟩
 exact fun p hp=>q p _ _ (af.new (af.refl H) hp _) hp ae (ui (fY ca))
theorem DG (F:bg K "__init__" "Family.__init__" oG ca.sd fd):aF P w K mg base bC 1 ca.sd fd ["self","word","least"] (qV K ca):=by
 refine F.ok DB (fun vs H Q E h=>?_) (fun cdv A outer s H vs Q E hr h=>?_)
 ·obtain ⟨C,x,dx,w,l,rfl,c,nw,nl,hx,q⟩:=h
  rfl
 obtain ⟨C,x,dx,w,l,rfl,c,nw,nl,hx,q⟩:=h
 refine ⟨_,ao (wV (pv 0) (pv 1) rfl)
  (ar (wV (pv 0) (pv 2) rfl)),?_⟩
 refine ⟨_,rfl,_,rfl,x,C,dx,_,rfl,hx,c,nw,(by show 0 < 1000; decide),?_⟩
 refine ⟨_,rfl,_,rfl,x,C,dx,_,rfl,ae,c,nl,(by show 1 < 1000; decide),?_⟩
 exact q _ _ mC (zy w l)
theorem DC (F:bg K "__init__" "SplitFamily.__init__" oN ca.iZ fd) {fd0:Fh} (pL:bq P w K mg base ["self","word","least"] 1 (qV K ca) ca.sd fd0):aF P w K mg base bC 3 ca.iZ fd ["self","word"] (ie K ca):=by
 refine F.ok C8 (fun vs H Q E h=>?_) (fun cdv A outer s H vs Q E hr h=>?_)
 ·obtain ⟨C,x,dx,w,rfl,c,nw,nl,hx,q⟩:=h
  rfl
 obtain ⟨C,x,dx,w,rfl,c,nw,nl,hx,q⟩:=h
 refine ⟨_,ar (bt (g9 CA.se CA.cm_Family___init___Z pL hr (aa (pv 0) (aa (pv 1) (aa az ah))))),?_⟩
 exact ⟨_,rfl,_,rfl,C,x,dx,w,0,rfl,c,nw,nl,hx,q⟩
theorem DF (F:bg K "__init__" "Brackets.__init__" oP ca.vD fd) {fd0:Fh} (dQ:bq P w K mg base ["self","word"] 3 (ie K ca) ca.iZ fd0):aF P w K mg base bC 5 ca.vD fd ["self"] (vn K ca):=by
 refine F.ok C9 (fun vs H Q E h=>?_) (fun cdv A outer s H vs Q E hr h=>?_)
 ·obtain ⟨x,dx,rfl,hx,q⟩:=h
  rfl
 obtain ⟨x,dx,rfl,hx,q⟩:=h
 refine ⟨_,ar (bt (g9 CA.cJ CA.cm_SplitFamily___init___Z dQ hr (aa (pv 0) (aa ai ah)))),?_⟩
 exact ⟨_,rfl,_,x,dx,_,rfl,CA.iq,CA.bG,CA.cP,hx,fun fs H' e f=>q fs H' e f⟩
theorem Dt (F:bg K "__init__" "Stairs.__init__" pk ca.uX fd) {fd0:Fh} (dQ:bq P w K mg base ["self","word"] 3 (ie K ca) ca.iZ fd0):aF P w K mg base bC 5 ca.uX fd ["self"] (vQ K ca):=by
 refine F.ok C6 (fun vs H Q E h=>?_) (fun cdv A outer s H vs Q E hr h=>?_)
 ·obtain ⟨x,dx,rfl,hx,q⟩:=h
  rfl
 obtain ⟨x,dx,rfl,hx,q⟩:=h
 refine ⟨_,ar (bt (g9 CA.cJ CA.cm_SplitFamily___init___Z dQ hr (aa (pv 0) (aa ai ah)))),?_⟩
 exact ⟨_,rfl,_,x,dx,_,rfl,CA.jG,CA.bQ,CA.dJ,hx,fun fs H' e f=>q fs H' e f⟩
theorem Dy (F:bg K "__init__" "Twins.__init__" pM ca.vM fd) {fd0:Fh} (dQ:bq P w K mg base ["self","word"] 3 (ie K ca) ca.iZ fd0):aF P w K mg base bC 5 ca.vM fd ["self"] (vI K ca):=by
 refine F.ok DH (fun vs H Q E h=>?_) (fun cdv A outer s H vs Q E hr h=>?_)
 ·obtain ⟨x,dx,rfl,hx,q⟩:=h
  rfl
 obtain ⟨x,dx,rfl,hx,q⟩:=h
 refine ⟨_,ar (bt (g9 CA.cJ CA.cm_SplitFamily___init___Z dQ hr (aa (pv 0) (aa ai ah)))),?_⟩
 exact ⟨_,rfl,_,x,dx,_,rfl,CA.ml,CA.cm,CA.eK,hx,fun fs H' e f=>q fs H' e f⟩
theorem BF (F:bg K "__init__" "Bows.__init__" lJ ca.qO fd) {fd0:Fh} (dQ:bq P w K mg base ["self","word"] 3 (ie K ca) ca.iZ fd0):aF P w K mg base bC 5 ca.qO fd ["self"] (sV K ca):=by
 refine F.ok A9 (fun vs H Q E h=>?_) (fun cdv A outer s H vs Q E hr h=>?_)
 ·obtain ⟨x,dx,rfl,hx,q⟩:=h
  rfl
 obtain ⟨x,dx,rfl,hx,q⟩:=h
 refine ⟨_,ar (bt (g9 CA.cJ CA.cm_SplitFamily___init___Z dQ hr (aa (pv 0) (aa ai ah)))),?_⟩
 exact ⟨_,rfl,_,x,dx,_,rfl,CA.nK,CA.cC,CA.fo,hx,fun fs H' e f=>q fs H' e f⟩
theorem Co (F:bg K "__init__" "Rooms.__init__" lY ca.qM fd) {fd0:Fh} (dQ:bq P w K mg base ["self","word"] 3 (ie K ca) ca.iZ fd0):aF P w K mg base bC 5 ca.qM fd ["self"] (tL K ca):=by
 refine F.ok B6 (fun vs H Q E h=>?_) (fun cdv A outer s H vs Q E hr h=>?_)
 ·obtain ⟨x,dx,rfl,hx,q⟩:=h
  rfl
 obtain ⟨x,dx,rfl,hx,q⟩:=h
 refine ⟨_,ar (bt (g9 CA.cJ CA.cm_SplitFamily___init___Z dQ hr (aa (pv 0) (aa ai ah)))),?_⟩
 exact ⟨_,rfl,_,x,dx,_,rfl,CA.kZ,CA.cg,CA.dX,hx,fun fs H' e f=>q fs H' e f⟩
theorem DA (F:bg K "__init__" "Floors.__init__" oH ca.wo fd) {fd0:Fh} (dQ:bq P w K mg base ["self","word"] 3 (ie K ca) ca.iZ fd0):aF P w K mg base bC 5 ca.wo fd ["self"] (uP K ca):=by
 refine F.ok C7 (fun vs H Q E h=>?_) (fun cdv A outer s H vs Q E hr h=>?_)
 ·obtain ⟨x,dx,rfl,hx,q⟩:=h
  rfl
 obtain ⟨x,dx,rfl,hx,q⟩:=h
 refine ⟨_,ar (bt (g9 CA.cJ CA.cm_SplitFamily___init___Z dQ hr (aa (pv 0) (aa ai ah)))),?_⟩
 exact ⟨_,rfl,_,x,dx,_,rfl,CA.jQ,CA.bR,CA.dI,hx,fun fs H' e f=>q fs H' e f⟩
theorem A4 (F:bg K "__init__" "Turns.__init__" md ca.qY fd) {fd0:Fh} (dQ:bq P w K mg base ["self","word"] 3 (ie K ca) ca.iZ fd0):aF P w K mg base bC 5 ca.qY fd ["self"] (rR K ca):=by
 refine F.ok BL (fun vs H Q E h=>?_) (fun cdv A outer s H vs Q E hr h=>?_)
 ·obtain ⟨x,dx,rfl,hx,q⟩:=h
  rfl
 obtain ⟨x,dx,rfl,hx,q⟩:=h
 refine ⟨_,ar (bt (g9 CA.cJ CA.cm_SplitFamily___init___Z dQ hr (aa (pv 0) (aa ai ah)))),?_⟩
 exact ⟨_,rfl,_,x,dx,_,rfl,CA.lM,CA.bZ,CA.eM,hx,fun fs H' e f=>q fs H' e f⟩
theorem AY (F:bg K "split_families" "split_families" lT f fd) {fd0:Fh} (yU:bq P w K mg base ["self"] 5 (vn K ca) ca.vD fd0) {fd1:Fh} (yB:bq P w K mg base ["self"] 5 (vQ K ca) ca.uX fd1) {fd2:Fh} (x9:bq P w K mg base ["self"] 5 (vI K ca) ca.vM fd2) {fd3:Fh} (vj:bq P w K mg base ["self"] 5 (sV K ca) ca.qO fd3) {fd4:Fh} (vP:bq P w K mg base ["self"] 5 (tL K ca) ca.qM fd4) {fd5:Fh} (yN:bq P w K mg base ["self"] 5 (uP K ca) ca.wo fd5) {fd6:Fh} (vc:bq P w K mg base ["self"] 5 (rR K ca) ca.qY fd6):aF P w K mg base bC 7 f fd [] (nX K ca):=by
 refine F.ok CM (fun vs H Q E h=>?_) (fun cdv A outer s H vs Q E hr h=>?_)
 ·obtain ⟨rfl,q⟩:=h
  rfl
 obtain ⟨rfl,q⟩:=h
 refine ⟨_,ar (aA (bb (aa (gq CA.mk_Brackets CA.vB yU hr) (aa (gq CA.mk_Stairs CA.yY yB hr) (aa (gq CA.mk_Twins CA.zY x9 hr) (aa (gq CA.mk_Bows CA.Bn vj hr) (aa (gq CA.mk_Rooms CA.zZ vP hr) (aa (gq CA.mk_Floors CA.yQ yN hr) (aa (gq CA.mk_Turns CA.z8 vc hr) ah))))))))),?_⟩
 intro x0 dx0 nx0 ndx0 nex0
 refine ⟨x0,dx0,rfl,ae,fun fs0 H1 e0 fl0=>⟨rfl,?_⟩⟩
 have s0:af H H1:=by rw [e0]; exact ((af.new (af.refl H) ndx0 _).upd nx0 _).upd nx0 _
 have hx0:H1 x0=some (.ins ca.aG dx0 fs0):=by rw [e0]; exact ae
 clear e0
 have t0:=s0
 have pr0:FQ (bD H1) [.ref x0] [("brackets",ca.aG,0)]:=.cons ⟨x0,dx0,fs0,rfl,hx0,fl0⟩ .nil
 clear s0 hx0
 intro x1 dx1 nx1 ndx1 nex1
 refine ⟨x1,dx1,rfl,ae,fun fs1 H2 e1 fl1=>⟨rfl,?_⟩⟩
 have s1:af H1 H2:=by rw [e1]; exact ((af.new (af.refl H1) ndx1 _).upd nx1 _).upd nx1 _
 have hx1:H2 x1=some (.ins ca.aP dx1 fs1):=by rw [e1]; exact ae
 clear e1
 have t1:=t0.trans s1
 have pr1:FQ (bD H2) [.ref x0,.ref x1] [("brackets",ca.aG,0),("stairs",ca.aP,0)]:=e9 (bO pr0 s1) (.cons ⟨x1,dx1,fs1,rfl,hx1,fl1⟩ .nil)
 clear pr0 s1 hx1
 intro x2 dx2 nx2 ndx2 nex2
 refine ⟨x2,dx2,rfl,ae,fun fs2 H3 e2 fl2=>⟨rfl,?_⟩⟩
 have s2:af H2 H3:=by rw [e2]; exact ((af.new (af.refl H2) ndx2 _).upd nx2 _).upd nx2 _
 have hx2:H3 x2=some (.ins ca.a7 dx2 fs2):=by rw [e2]; exact ae
 clear e2
 have t2:=t1.trans s2
 have pr2:FQ (bD H3) [.ref x0,.ref x1,.ref x2] [("brackets",ca.aG,0),("stairs",ca.aP,0),("twins",ca.a7,0)]:=e9 (bO pr1 s2) (.cons ⟨x2,dx2,fs2,rfl,hx2,fl2⟩ .nil)
 clear pr1 s2 hx2
 intro x3 dx3 nx3 ndx3 nex3
 refine ⟨x3,dx3,rfl,ae,fun fs3 H4 e3 fl3=>⟨rfl,?_⟩⟩
 have s3:af H3 H4:=by rw [e3]; exact ((af.new (af.refl H3) ndx3 _).upd nx3 _).upd nx3 _
 have hx3:H4 x3=some (.ins ca.bw dx3 fs3):=by rw [e3]; exact ae
 clear e3
 have t3:=t2.trans s3
 have pr3:FQ (bD H4) [.ref x0,.ref x1,.ref x2,.ref x3] [("brackets",ca.aG,0),("stairs",ca.aP,0),("twins",ca.a7,0),("bows",ca.bw,0)]:=e9 (bO pr2 s3) (.cons ⟨x3,dx3,fs3,rfl,hx3,fl3⟩ .nil)
 clear pr2 s3 hx3
 intro x4 dx4 nx4 ndx4 nex4
 refine ⟨x4,dx4,rfl,ae,fun fs4 H5 e4 fl4=>⟨rfl,?_⟩⟩
 have s4:af H4 H5:=by rw [e4]; exact ((af.new (af.refl H4) ndx4 _).upd nx4 _).upd nx4 _
 have hx4:H5 x4=some (.ins ca.bp dx4 fs4):=by rw [e4]; exact ae
 clear e4
 have t4:=t3.trans s4
 have pr4:FQ (bD H5) [.ref x0,.ref x1,.ref x2,.ref x3,.ref x4] [("brackets",ca.aG,0),("stairs",ca.aP,0),("twins",ca.a7,0),("bows",ca.bw,0),("rooms",ca.bp,0)]:=e9 (bO pr3 s4) (.cons ⟨x4,dx4,fs4,rfl,hx4,fl4⟩ .nil)
 clear pr3 s4 hx4
 intro x5 dx5 nx5 ndx5 nex5
 refine ⟨x5,dx5,rfl,ae,fun fs5 H6 e5 fl5=>⟨rfl,?_⟩⟩
 have s5:af H5 H6:=by rw [e5]; exact ((af.new (af.refl H5) ndx5 _).upd nx5 _).upd nx5 _
 have hx5:H6 x5=some (.ins ca.aZ dx5 fs5):=by rw [e5]; exact ae
 clear e5
 have t5:=t4.trans s5
 have pr5:FQ (bD H6) [.ref x0,.ref x1,.ref x2,.ref x3,.ref x4,.ref x5] [("brackets",ca.aG,0),("stairs",ca.aP,0),("twins",ca.a7,0),("bows",ca.bw,0),("rooms",ca.bp,0),("floor",ca.aZ,0)]:=e9 (bO pr4 s5) (.cons ⟨x5,dx5,fs5,rfl,hx5,fl5⟩ .nil)
 clear pr4 s5 hx5
 intro x6 dx6 nx6 ndx6 nex6
 refine ⟨x6,dx6,rfl,ae,fun fs6 H7 e6 fl6=>⟨rfl,?_⟩⟩
 have s6:af H6 H7:=by rw [e6]; exact ((af.new (af.refl H6) ndx6 _).upd nx6 _).upd nx6 _
 have hx6:H7 x6=some (.ins ca.bu dx6 fs6):=by rw [e6]; exact ae
 clear e6
 have t6:=t5.trans s6
 have pr6:FQ (bD H7) [.ref x0,.ref x1,.ref x2,.ref x3,.ref x4,.ref x5,.ref x6] [("brackets",ca.aG,0),("stairs",ca.aP,0),("twins",ca.a7,0),("bows",ca.bw,0),("rooms",ca.bp,0),("floor",ca.aZ,0),("turns",ca.bu,0)]:=e9 (bO pr5 s6) (.cons ⟨x6,dx6,fs6,rfl,hx6,fl6⟩ .nil)
 clear pr5 s6 hx6
 refine ⟨(by show 7<=sizeLine; decide),fun p hp=>?_⟩
 exact q p _ _ (af.new t6 hp _) (t6.free hp) ae (bO pr6 (af.new (af.refl _) hp _))
theorem B8 (F:bg K "parts_name" "parts_name" kS f fd):aF P w K mg base bC 1 f fd ["one","other"] (tq K ca):=by
 refine F.ok AI (fun vs H Q E h=>?_) (fun cdv A outer s H vs Q E hr h=>?_)
 ·obtain ⟨a,b,rfl,ha,hb,q⟩:=h
  rfl
 obtain ⟨a,b,rfl,ha,hb,q⟩:=h
 refine ⟨_,ar (aA (lL (iB (pv 0)) ai (.cons (iB (pv 1)) (.cons ai .nil)))),?_⟩
 have z:1000<=sizeLine:=by decide
 have l1:(tz ">").length=1:=by decide +kernel
 have l2:(tz ":parts").length=6:=by decide +kernel
 have e:GQ++a++">"++b++":parts" = a++">"++b++":parts":=by rw [bN]
 refine ⟨_,rfl,a,rfl,by lia,a,rfl,by rw [bN]; lia,_,rfl,?_,_,rfl,b,rfl,by lia,b,rfl,?_,_,rfl,?_,?_⟩
 ·rw [bN,len_app,l1]; lia
 ·rw [bN,len_app,len_app,l1]; lia
 ·rw [bN,len_app,len_app,len_app,l1,l2]; lia
 ·show Q (.str (GQ++a++">"++b++":parts")) H
  rw [e]
  exact q
theorem Bf (F:bg K "parts_way" "parts_way" jI f fd) (hc:fd.code = .ref ca.cc) (HB:BM mg base):aF P w K mg base bC 1 f fd ["one","other"] (rQ K ca):=by
 refine F.okC Bd hc (fun vs H Q E h=>?_) (fun A outer s H vs Q E hr h=>?_)
 ·obtain ⟨x,y,rfl,⟨oD,g⟩,q⟩:=h
  rfl
 obtain ⟨x,y,rfl,⟨oD,g⟩,q⟩:=h
 refine ⟨_,ar (aA (wL (c:=ca.cc) (P:=ca.T) rfl CA.tb rfl (xE (sc:=ag jI) rfl (by decide +kernel)) HB)),?_⟩
 exact ⟨#[],g.tab,q⟩
theorem BU (F:bg K "parts_ways" "parts_ways" mj f fd) {f0:Fe} {fd0:Fh} (jR:Def P w K mg base "split_families" [] 7 (nX K ca) f0 fd0) {f1:Fe} {fd1:Fh} (u4:Def P w K mg base "parts_name" ["one","other"] 1 (tq K ca) f1 fd1) {f2:Fe} {fd2:Fh} (vK:Def P w K mg base "parts_way" ["one","other"] 1 (rQ K ca) f2 fd2):aF P w K mg base bC 8 f fd [] (rC K ca):=by
 refine F.ok nH (fun vs H Q E h=>?_) (fun cdv A outer s H vs Q E hr h=>?_)
 ·obtain ⟨rfl,gr,q⟩:=h
  rfl
 obtain ⟨rfl,gr,q⟩:=h
 refine ⟨_,ao (aC (i:=0) nH.nd rfl (FP rfl) ya)
  (ao (cX Gj rfl (bY (gn jR hr)) (aN (i:=1) nH.nd rfl (FP rfl)) (ar (cX Gj rfl (bY (gn jR hr)) (aN (i:=2) nH.nd rfl (FP rfl)) (ar (bA (aH jC (jg (pv 1) rfl) (jg (pv 2) rfl) (aL _)) (ar (Aq (xM hr) (pv 0) (bc u4 hr (aa (jg (pv 1) rfl) (aa (jg (pv 2) rfl) ah))) (bc vK hr (aa (pv 1) (aa (pv 2) ah))) rfl)) aQ)))))
  (ar (aA (pv 0)))),?_⟩
 have okA:∀ g∈kx ca,eW K g.2.1/\aM K g.2.1 "word":=Fm.mpr ⟨⟨CA.iq,CA.bG⟩,Fm.mpr ⟨⟨CA.jG,CA.bQ⟩,Fm.mpr ⟨⟨CA.ml,CA.cm⟩,Fm.mpr ⟨⟨CA.nK,CA.cC⟩,Fm.mpr ⟨⟨CA.kZ,CA.cg⟩,Fm.mpr ⟨⟨CA.jQ,CA.bR⟩,Fm.mpr ⟨⟨CA.lM,CA.bZ⟩,IH _⟩⟩⟩⟩⟩⟩⟩
 have lw:∀ {x:Str},x∈jW->x.length<=100:=fun h=>of_decide_eq_true (Fu.mp zv _ h)
 have at7:∀ {i:Nat} {f:Str × Fe × Int},(kx ca)[i]? = some f->jW[i]? = some f.1:=fun {i f} h=>by
  rw [<- wk ca,FN,h]
  rfl
 intro pd hpd
 have s0:=af.new (af.refl H) hpd (.dK [])
 refine ⟨rfl,fun p1 xs1 H1 s1 f1 h1 pr1=>⟨p1,rfl,⟨_,av.of h1⟩,gx (xs:=xs1) (fun i σ H'=>∃ (o1 o2:Option V) (kvs:List (Key × V)),σ=[some (.ref pd),o1,o2]/\af H H'/\H' p1=some (.lst xs1)/\FQ (bD H') xs1 (kx ca)/\H' pd=some (.dK kvs)/\gi kvs (dW i)) ⟨_,_,[],rfl,s0.trans s1,h1,pr1,s1 _ _ ae,zO⟩ (fun i σ H' _ h=>by obtain ⟨_,_,_,_,_,e,_⟩:=h; exact av.of e) ?_ ?_⟩⟩
 ·rintro i v σ H2 hv ⟨o1,o2,kvs,rfl,s2,e1,fa1,hd2,df⟩
  obtain ⟨f,hf,_⟩:=jj fa1 hv
  have hi7:=at7 hf
  have ilt:i < 7:=by
   have:=(Fj.mp hi7).1
   exact this
  have egd:jW.getD i "" = f.1:=by rw [Gw,hi7]; rfl
  obtain ⟨x,_,_,rfl,_⟩:=(jj fa1 hv).choose_spec.2
  refine ⟨rfl,fun p2 xs2 H3 s3 f3 h3 pr2=>⟨p2,rfl,⟨_,av.of h3⟩,gx (xs:=xs2) (fun j σ H'=>∃ (o2:Option V) (kvs:List (Key × V)),σ=[some (.ref pd),some (.ref x),o2]/\af H H'/\H' p1=some (.lst xs1)/\FQ (bD H') xs1 (kx ca)/\H' p2=some (.lst xs2)/\FQ (bD H') xs2 (kx ca)/\H' pd=some (.dK kvs)/\gi kvs (dW i++i8 f.1 j)) ⟨_,kvs,rfl,s2.trans s3,s3 _ _ e1,bO fa1 s3,h3,pr2,s3 _ _ hd2,by rw [show i8 f.1 0=[] from rfl,FR]; exact df⟩ (fun i σ H' _ h=>by obtain ⟨_,_,_,_,_,_,e,_⟩:=h; exact av.of e) ?_ ?_⟩⟩
  ·rintro j v2 σ H4 hv2 ⟨o2,kvs,rfl,s4,e1',fa1',e2,fa2,hd4,df4⟩
   obtain ⟨g,hg,y,dy,gs,rfl,hy,gl⟩:=jj fa2 hv2
   obtain ⟨f',hf',x',dx,fs,ex,hx,fl⟩:=jj fa1' hv
   rw [hf] at hf'
   cases hf'
   cases ex
   have hj7:=at7 hg
   have jlt:j < 7:=(Fj.mp hj7).1
   have fm:=FJ hf
   have gm:=FJ hg
   have ps:=xG f.1 hj7
   refine ⟨_,rfl,x,_,dx,fs,_,rfl,hx,(okA f fm).1,(okA f fm).2,fl.word,_,rfl,y,_,dy,gs,_,rfl,hy,(okA g gm).1,(okA g gm).2,gl.word,rfl,_,rfl,?_⟩
   by_cases e:f.1=g.1
   ·rw [if_neg (fun z=>z e),FR] at ps
    exact jz (congrArg V.str e) ⟨_,kvs,rfl,s4,e1',fa1',e2,fa2,hd4,by rw [ps]; exact df4⟩
   ·rw [if_pos e] at ps
    have nd:(dW i++i8 f.1 j++[f.1++">"++g.1++":parts"]).Nodup:=by
     have:=of_decide_eq_true (Fu.mp (Fu.mp Dp i (Ik.mpr ilt)) (j+1) (Ik.mpr (by lia)))
     rw [egd,ps,<- FF] at this
     exact this
    have lk:=df4.len
    have l49:=of_decide_eq_true (Fu.mp (Fu.mp BH i (Ik.mpr ilt)) j (Ik.mpr (by lia)))
    rw [egd] at l49
    have np:p1≠pd:=fun z=>by rw [z,hd4] at e1'; cases e1'
    have np2:p2≠pd:=fun z=>by rw [z,hd4] at e2; cases e2
    refine nQ (fun z=>e (V.str.inj z)) ⟨_,rfl,_,rfl,x,y,rfl,gr.same s4,fun ff=>⟨_,rfl,_,rfl,x,_,dx,fs,_,rfl,hx,(okA f fm).1,(okA f fm).2,fl.word,_,rfl,y,_,dy,gs,_,rfl,hy,(okA g gm).1,(okA g gm).2,gl.word,f.1,g.1,rfl,lw (FJ hi7),lw (FJ hj7),pd,_,rfl,rB.k (k:=.inr (f.1++">"++g.1++":parts")) hd4 (BV (by lia)),?_⟩⟩
    refine ⟨_,_,rfl,s4.upd hpd _,(aq np).trans e1',rl hd4 fa1',(aq np2).trans e2,rl hd4 fa2,ae,?_⟩
    rw [ps,<- FF]
    exact df4.put nd
  ·rintro σ H4 ⟨o2,kvs,rfl,s4,e1',fa1',_,_,hd4,df4⟩
   have l2:=pr2.length
   rw [show xs2.length=7 from l2,<- vG hi7] at df4
   exact ⟨_,_,kvs,rfl,s4,e1',fa1',hd4,df4⟩
 ·rintro σ H2 ⟨o1,o2,kvs,rfl,s2,_,_,hd2,df⟩
  have l1:=pr1.length
  rw [show xs1.length=7 from l1] at df
  exact ⟨_,rfl,q pd kvs H2 s2 hpd hd2 df⟩
theorem CI (F:bg K "turning_ways" "turning_ways" iQ f fd):aF P w K mg base bC 1 f fd [] (sP K ca):=by
 refine F.ok A6 (fun vs H Q E h=>?_) (fun cdv A outer s H vs Q E hr h=>?_)
 ·obtain ⟨rfl,q⟩:=h
  rfl
 obtain ⟨rfl,q⟩:=h
 have hb:iu (au iQ) iW=true:=by decide +kernel
 generalize au iQ=b at hb |-
 refine ⟨_,vF (ns:=iW) (items:=fK ca) hb (.cons ⟨rfl,rfl,CA.mG⟩ (.cons ⟨rfl,rfl,CA.qz⟩ (.cons ⟨rfl,rfl,CA.pN⟩ (.cons ⟨rfl,rfl,CA.pb⟩ (.cons ⟨rfl,rfl,CA.pj⟩ (.cons ⟨rfl,rfl,CA.tV⟩ (.cons ⟨rfl,rfl,CA.ou⟩ (.cons ⟨rfl,rfl,CA.rh⟩ (.cons ⟨rfl,rfl,CA.mV⟩ (.cons ⟨rfl,rfl,CA.nt⟩ (.cons ⟨rfl,rfl,CA.nR⟩ (.cons ⟨rfl,rfl,CA.CS⟩ (.cons ⟨rfl,rfl,CA.vW⟩ .nil))))))))))))) (List.cons_ne_nil _ _) (by decide) (ky ca),?_⟩
 exact fun p hp=>q p _ _ (af.new (af.refl H) hp _) hp ae (ui (fK ca))
theorem BI (F:bg K "all_ways" "all_ways" kY f fd) {f0:Fe} {fd0:Fh} (vV:Def P w K mg base "direct_ways" [] 1 (rU K ca) f0 fd0) {f1:Fe} {fd1:Fh} (vt:Def P w K mg base "parts_ways" [] 8 (rC K ca) f1 fd1) {f2:Fe} {fd2:Fh} (vg:Def P w K mg base "turning_ways" [] 1 (sP K ca) f2 fd2):aF P w K mg base bC 9 f fd [] (sZ K ca):=by
 refine F.ok xj (fun vs H Q E h=>?_) (fun cdv A outer s H vs Q E hr h=>?_)
 ·obtain ⟨rfl,gr,q⟩:=h
  rfl
 obtain ⟨rfl,gr,q⟩:=h
 refine ⟨_,ao (aC (i:=0) xj.nd rfl (FP rfl) (gn vV hr))
  (ao (bt (uk (pv 0) (gn vt hr) ⟨rfl,rfl,rfl,rfl⟩))
  (ao (bt (uk (pv 0) (gn vg hr) ⟨rfl,rfl,rfl,rfl⟩))
  (ar (aA (pv 0))))),?_⟩
 have nd:=zX
 have nd1:(ib++dW 7).Nodup:=(GU.mp nd).1
 have z:1000<=sizeLine:=by decide
 refine ⟨rfl,fun p k1 H1 s1 f1 h1 d1=>?_⟩
 have l1:=d1.len
 refine ⟨_,rfl,p,rfl,.inl ⟨_,.inl h1⟩,rfl,gr.same s1,fun p2 k2 H2 s2 f2 h2 d2=>?_⟩
 have l2:=d2.len
 have np:p≠p2:=aO h1 f2
 have h1':=s2 _ _ h1
 have l12:=gw k2 k1
 refine ⟨p,p2,k1,k2,rfl,rfl,np,h1',h2,by rw [l1,l2,DO,DK]; lia,?_⟩
 have t2:=(s1.trans s2).upd f1 (.dK (dD k1 k2))
 have d12:=d1.app d2 nd1
 have h3:upd H2 p (.dK (dD k1 k2)) p=some (.dK (dD k1 k2)):=ae
 generalize upd H2 p (.dK (dD k1 k2))=H3 at t2 h3 |-
 have l3:=d12.len
 refine ⟨_,rfl,p,rfl,.inl ⟨_,.inl h3⟩,rfl,fun p4 k4 H4 s4 f4 h4 d4=>?_⟩
 have l4:=d4.len
 have np4:p≠p4:=aO h3 f4
 refine ⟨p,p4,_,k4,rfl,rfl,np4,s4 _ _ h3,h4,by rw [l3,l4,Fo,DO,DK,EC]; lia,?_⟩
 exact ⟨_,rfl,q p _ _ ((t2.trans s4).upd f1 _) f1 ae (d12.app d4 nd)⟩
theorem CD (F:bg K "way_of" "way_of" lH f fd) {f0:Fe} {fd0:Fh} (ve:Def P w K mg base "all_ways" [] 9 (sZ K ca) f0 fd0):aF P w K mg base (fC P w) 10 f fd ["name"] (om K ca er):=by
 refine F.okE xK (fun vs H Q E h=>?_) (fun cdv A outer s H vs Q E hr h=>?_)
 ·obtain ⟨x,rfl,gr,q⟩:=h
  rfl
 obtain ⟨x,rfl,gr,q⟩:=h
 refine ⟨_,ao (aC (i:=1) xK.nd rfl (FP rfl) (gn ve hr))
  (ao (bA (Ay (xN (xM hr) (pv 0) (pv 1)) (by rfl)) (ar (yg cI EO.x_way rfl EO.m_way (aa ai ah))) aQ)
  (ar (aA (tZ (xM hr) (pv 1) (pv 0) (fun _ _=>rfl))))),?_⟩
 refine ⟨rfl,gr,fun p kvs H1 s1 f1 h1 d1=>?_⟩
 refine ⟨_,rfl,_,rfl,p,_,rfl,gE.k (k:=.inr x) h1,_,rfl,?_⟩
 rcases q with ⟨hx,q⟩ | ⟨hx,q⟩
 ·obtain ⟨f,hf⟩:=d1.has ((sM x).mpr hx)
  have dg:gE H1 p (.str x) (some (.ref f)):=by rw [<- hf]; exact gE.k (k:=.inr x) h1
  rw [hf]
  exact dq ⟨_,rfl,_,rfl,p,_,rfl,dg,q f H1 s1⟩
 ·have hf:=d1.no (fun z=>hx ((sM x).mp z))
  rw [hf]
  exact d7 ⟨sz (n:=1) (by decide),q _ s1⟩
theorem Cs (F:bg K "ends" "ends" lQ f fd) {f0:Fe} {fd0:Fh} (lR:Def P w K mg base "way_of" ["name"] 10 (om K ca er) f0 fd0):aF P w K mg base (fC P w) 11 f fd ["name"] (km K ca er):=by
 refine F.okE xD (fun vs H Q E h=>?_) (fun cdv A outer s H vs Q E hr h=>?_)
 ·obtain ⟨x,rfl,gr,q⟩:=h
  rfl
 obtain ⟨x,rfl,gr,q⟩:=h
 refine ⟨_,ao (bt (fQ cI lR hr (aa (pv 0) ah)))
  (ao (aC (i:=1) xD.nd rfl (FP rfl) (iT G7 PySem.F.slot_str_split PySem.F.type_str_split yF (aX cz (iT G7 IL IM sj (pv 0) (aa ai ah)) az (fun _ _=>rfl)) (aa ai ah)))
  (ar (aA (gX (aa (aX bK (pv 1) az (fun _ _=>rfl)) (aa (aX bK (pv 1) az (fun _ _=>rfl)) ah)))))),?_⟩
 have z:1000<=sizeLine:=by decide
 rcases q with ⟨r,hr,rfl,q⟩ | ⟨hx,q⟩
 ·obtain ⟨e1,e2,e3,e4,e5,e6⟩:=rF hr
  refine ⟨_,rfl,r.1,rfl,gr,.inl ⟨qi.mpr ⟨r,hr,rfl⟩,fun f H1 s1=>?_⟩⟩
  refine ⟨_,rfl,rfl,r.1,_,rfl,rfl,by decide +kernel,by lia,fun p hp=>⟨p,_,_,_,rfl,rfl,bJ.of ae,rfl,rfl,gZ r.1,_,rfl,rfl,by decide +kernel,e4,e5,by lia,?_,fun p2 hp2=>?_⟩⟩
  ·show (wM r.1).length<=sizeLine
   rw [e1]
   show 2<=sizeLine
   decide
  have h2:upd (upd H1 p (.tup [.str (GC r.1 ":").1,.str (GC r.1 ":").2.1,.str (GC r.1 ":").2.2])) p2 (.lst ((wM r.1).map V.str)) p2=some (.lst [.str r.2.1,.str r.2.2.1]):=by
   rw [ae,e1]
   rfl
  have k2:=af.new (af.new s1 hp (.tup [.str (GC r.1 ":").1,.str (GC r.1 ":").2.1,.str (GC r.1 ":").2.2])) hp2 (.lst ((wM r.1).map V.str))
  exact ⟨_,rfl,p2,_,_,_,rfl,rfl,av.of h2,(rfl:gI [V.str r.2.1,V.str r.2.2.1] 0=some _),_,rfl,p2,_,_,_,rfl,rfl,av.of h2,(rfl:gI [V.str r.2.1,V.str r.2.2.1] 1=some _),(by show 2<=sizeLine; decide),fun u hu=>q u _ (af.new k2 hu _) (k2.free hu) ae⟩
 ·exact ⟨_,rfl,x,rfl,gr,.inr ⟨hx,q⟩⟩
theorem BQ (F:bg K "chain_ends" "chain_ends" kT f fd) {fd0:Fh} (vy:bq P w K mg base ["self","place"] 1 (uY K ca er) er.init fd0) {f1:Fe} {fd1:Fh} (gU:Def P w K mg base "ends" ["name"] 11 (km K ca er) f1 fd1) (i4:mg "enumerate" = none):aF P w K mg base (fC P w) 12 f fd ["names"] (kL K ca er):=by
 refine F.okE jm (fun vs H Q E h=>?_) (fun cdv A outer s H vs Q E hr h=>?_)
 ·obtain ⟨p,rs,rfl,hp,hrw,h12,gr,q⟩:=h
  rfl
 obtain ⟨p,rs,rfl,hp,hrw,h12,gr,q⟩:=h
 refine ⟨_,ao (bA (aH (uN (sr hr)) (pv 0) (bb ah) (aL _)) (ar (qh cI EO.ex vy hr EO.m_broken (aa az ah))) aQ)
  (ao (aC (i:=1) jm.nd rfl (FP rfl) ai)
  (ao (cX PassesOwn.leaving rfl (As rfl i4 (aa (pv 0) ah)) (wU rfl (gO (aN (i:=2) jm.nd rfl (FP rfl)) (gO (aN (i:=3) jm.nd rfl (FP rfl)) uj))) (ao (aC (i:=4) jm.nd rfl (FP rfl) (fQ cI gU hr (aa (pv 3) ah)))
  (ao (bA (PW.pt (kr (aH zl (pv 2) az (aL _)) (mx (aH jC (aX cz (pv 4) az (fun _ _=>rfl)) (pv 1) (aL _))))) (ar (qh cI EO.ex vy hr EO.m_broken (aa (pv 2) ah))) aQ)
  (ar (aC (i:=1) jm.nd rfl (FP rfl) (aX cz (pv 4) az (fun _ _=>rfl)))))))
  (ar (aA (gX (aa (aX cz (fQ cI gU hr (aa (aX bK (pv 0) az (fun _ _=>rfl)) ah)) az (fun _ _=>rfl)) (aa (pv 1) ah))))))),?_⟩
 have z:1000<=sizeLine:=by decide
 refine ⟨_,rfl,Fy _,fun pe hpe=>?_⟩
 have k1:=af.new (af.refl H) hpe (.lst [])
 have ne1:p≠pe:=aO hp hpe
 refine ⟨p,pe,_,_,rfl,rfl,av.of (k1 _ _ hp),av.of ae,jB rs,rfl,_,rfl,?_⟩
 by_cases c0:rs=[]
 ·refine eqT (by rw [nS]; exact decide_eq_true c0) ⟨sz (n:=1) (by decide),fun e he=>⟨e,0,rfl,by decide,by decide,ae,fun d hd=>⟨rfl,d,ae,?_⟩⟩⟩
  obtain ⟨b1,b2,b3⟩:=ue (y:=.xd [("place",.int 0)]) (x':=gf e (.ref er.broken) (some d)) k1 he hd
  have hdu:bz rs = .brk 0:=by unfold bz; rw [if_pos c0]
  exact (rS hdu q) d _ b1 b2 b3
 have hdu:bz rs=fR none 0 rs:=by unfold bz; rw [if_neg c0]
 refine kP (by rw [nS]; exact decide_eq_false c0) ?_
 have hp1:=k1 _ _ hp
 have gr1:=gr.same k1
 generalize upd H pe (.lst [])=H1 at k1 hp1 gr1 |-
 refine ⟨_,rfl,p,rfl,⟨_,av.of hp1⟩,yE (xs:=rs.map fun r=>V.str r.1) (fun i σ H'=>∃ (w:Str) (o1 o2 o3:Option V),σ=[some (.ref p),some (.str w),o1,o2,o3]/\af H1 H'/\bz rs=fR (if i=0 then none else some w) i (rs.drop i)) ⟨_,_,_,_,rfl,af.refl H1,hdu⟩ (fun i σ H' _ h=>by obtain ⟨_,_,_,_,_,s,_⟩:=h; exact av.of (s _ _ hp1)) ?_ ?_⟩
 ·rintro i v σ H2 T hv ⟨w',o1,o2,o3,rfl,s2,hd2⟩ hT
  obtain ⟨r,hr',rfl⟩:=jw hv
  have rin:=FJ hr'
  rw [uf hr'] at hd2
  have k3:=af.new s2 hT (.tup [.int i,.str r.1])
  refine ⟨T,_,rfl,bJ.of ae,rfl,_,_,rfl,_,_,rfl,rfl,?_⟩
  generalize upd H2 T (.tup [.int i,.str r.1])=H3 at k3 |-
  refine ⟨_,rfl,r.1,rfl,gr1.same k3,?_⟩
  rcases hrw r rin with hw | ⟨hw,hb⟩
  ·refine .inl ⟨r,hw,rfl,fun u H4 s4 f4 h4=>?_⟩
   have bn:=zx hw
   have i12:i < 12:=by have:=(Fj.mp hr').1; lia
   have t4:=k3.trans s4
   refine ⟨_,rfl,_,_,rfl,rfl,_,rfl,?_⟩
   have go:(i=0\/r.2.1=w')->bz rs=fR (some r.2.2.1) (i+1) (rs.drop (i+1)):=fun h=>by
    rw [hd2]
    refine uv bn ?_
    by_cases c:i=0
    ·exact .inl (if_pos c)
    ·rw [if_neg c,h.resolve_left c]
     exact .inr rfl
   by_cases i0:i=0
   ·refine kP (decide_eq_false (by lia)) (dq ⟨_,rfl,u,_,_,_,rfl,rfl,bJ.of h4,rfl,r.2.2.1,_,_,_,rfl,t4,?_⟩)
    rw [if_neg (Jo i)]
    exact go (.inl i0)
   ·refine eqT (decide_eq_true (by lia)) ⟨_,rfl,u,_,_,_,rfl,rfl,bJ.of h4,rfl,_,rfl,rfl,_,rfl,?_⟩
    by_cases c:r.2.1=w'
    ·refine jz (congrArg V.str c) ⟨_,rfl,u,_,_,_,rfl,rfl,bJ.of h4,rfl,r.2.2.1,_,_,_,rfl,t4,?_⟩
     rw [if_neg (Jo i)]
     exact go (.inr c)
    ·refine nQ (fun w=>c (V.str.inj w)) ⟨_,rfl,sz (n:=1) (by decide),fun e he=>⟨e,i,rfl,by lia,by lia,ae,fun d hd=>⟨rfl,d,ae,?_⟩⟩⟩
     obtain ⟨b1,b2,b3⟩:=ue (y:=.xd [("place",.int i)]) (x':=gf e (.ref er.broken) (some d)) (k1.trans t4) he hd
     have hdu2:bz rs = .brk i:=hd2.trans (rG bn (by rw [if_neg i0]; exact fun z=>by cases z) (by rw [if_neg i0]; exact fun z=>c (Fw z).symm))
     exact (rS hdu2 q) d _ b1 b2 b3
  ·exact .inr ⟨hw,fun H4 s4=>(yk (hd2.trans (tD hb)) q) H4 (k1.trans (k3.trans s4))⟩
 ·rintro σ H2 ⟨w',o1,o2,o3,rfl,s2,hd2⟩
  have hok:bz rs = .ok:=by
   rw [hd2,Ff,List.drop_length]
   rfl
  obtain ⟨_,allw⟩:=kE hok hrw
  cases rs with
  | nil=>exact absurd rfl c0
  | cons r0 rs0 =>
   have at0:gI ((r0::rs0).map fun r=>V.str r.1) ((0:Nat):Int)=some (.str r0.1):=gb rfl
   refine ⟨_,rfl,p,_,_,_,rfl,rfl,av.of (s2 _ _ hp1),at0,r0.1,rfl,gr1.same s2,.inl ⟨r0,allw r0 (Gq ..),rfl,fun u3 H3 s3 f3 h3=>?_⟩⟩
   exact ⟨u3,_,_,_,rfl,rfl,bJ.of h3,rfl,_,rfl,(by show 2<=sizeLine; decide),fun t ht=>(zN hok q) t _ (k1.trans (s2.trans (af.new s3 ht _)))⟩
theorem Bl (F:bg K "chain" "chain" jO f fd) {f0:Fe} {fd0:Fh} (ip:Def P w K mg base "chain_ends" ["names"] 12 (kL K ca er) f0 fd0) {f1:Fe} {fd1:Fh} (lR:Def P w K mg base "way_of" ["name"] 10 (om K ca er) f1 fd1) (hc:fd.code = .ref ca.cc2) (HB:BM mg base):aF P w K mg base (fC P w) 13 f fd ["names"] (rW K ca er):=by
 refine F.okCE xY hc (fun vs H Q E h=>?_) (fun A outer s H vs Q E hr h=>?_)
 ·obtain ⟨p,rs,rfl,hp,hrw,h12,gr,q⟩:=h
  rfl
 obtain ⟨p,rs,rfl,hp,hrw,h12,gr,q⟩:=h
 refine ⟨_,ao (bt (fQ cI ip hr (aa (pv 0) ah)))
  (ao (aC (i:=1) xY.nd rfl (Jx rfl) (ir rfl (bY (pv 0)) rfl rfl rfl rfl (N:=["name"]) (.own .nil) (fun _ _ _ _ _ _=>(aN (i:=0) (by show Hm (["name"]:List Str); decide +kernel) rfl (FP rfl))) (fun _ _ _ _ _ _=>gN) (fun _ _ _ _ _ _=>(bc lR hr (aa (pv 0) ah)))))
  (ar (aA (wL (c:=ca.cc2) (P:=ca.T2) rfl CA.tb2 rfl (xE (sc:=ag jO) rfl (by decide +kernel)) HB)))),?_⟩
 refine ⟨_,rfl,p,rs,rfl,hp,hrw,h12,gr,?_⟩
 rcases q with q | q | ⟨hok,q⟩
 ·exact .inl q
 ·exact .inr (.inl q)
 refine .inr (.inr ⟨hok,fun p2 H1 s1=>?_⟩)
 obtain ⟨_,allw⟩:=kE hok hrw
 have hp1:=s1 _ _ hp
 have lz:(rs.map fun r=>V.str r.1).length=rs.length:=Ff _
 refine ⟨_,rfl,p,rfl,⟨_,av.of hp1⟩,fun D hD=>eX (xs:=rs.map fun r=>V.str r.1) (fun k ys H'=>af H1 H'/\H' D=some (.lst ys)/\ys.length<=k) (sz (by lia)) ⟨af.new (af.refl H1) hD _,ae,Fy _⟩ (fun k ys H' hk h=>⟨av.of (h.1 _ _ hp1),h.2.2⟩) (fun k v ys H' R R0 hx h r' r0=>?_) (fun ys H' h=>?_)⟩
 ·obtain ⟨r,hr',rfl⟩:=jw hx
  obtain ⟨sk,hy,ly⟩:=h
  refine ⟨Ext.set rfl,_,rfl,r.1,rfl,gr.same (s1.trans sk),.inl ⟨qi.mpr ⟨r,allw r (FJ hr'),rfl⟩,fun f2 H3 s3=>r' _ _ (s3 _ _ hy) ⟨(sk.trans s3).upd hD _,ae,by simp; lia⟩⟩⟩
 ·obtain ⟨sk,hy,_⟩:=h
  obtain ⟨oD,g⟩:=gr.same (s1.trans sk)
  exact ⟨#[],g.tab2,fun f3=>q f3 _ (s1.trans sk)⟩
theorem BC (F:bg K "manner_of" "manner_of" lG f fd):aF P w K mg base bC 1 f fd ["name"] (nF K ca):=by
 refine F.ok BZ (fun vs H Q E h=>?_) (fun cdv A outer s H vs Q E hr h=>?_)
 ·obtain ⟨x,rfl,hx,q⟩:=h
  rfl
 obtain ⟨x,rfl,hx,q⟩:=h
 refine ⟨_,ar (aA (aX cz (iT G7 IL IM sj (pv 0) (aa ai ah)) az (fun _ _=>rfl))),?_⟩
 have z:1000<=sizeLine:=by decide
 exact ⟨_,rfl,rfl,x,_,rfl,rfl,by decide +kernel,by lia,fun p hp=>⟨p,_,_,_,rfl,rfl,bJ.of ae,rfl,q _ (af.new (af.refl H) hp _)⟩⟩
theorem BO (F:bg K "back_of" "back_of" lI f fd) {f0:Fe} {fd0:Fh} (gU:Def P w K mg base "ends" ["name"] 11 (km K ca er) f0 fd0) {f1:Fe} {fd1:Fh} (lZ:Def P w K mg base "manner_of" ["name"] 1 (nF K ca) f1 fd1):aF P w K mg base (fC P w) 12 f fd ["name"] (rE K ca er):=by
 refine F.okE jo (fun vs H Q E h=>?_) (fun cdv A outer s H vs Q E hr h=>?_)
 ·obtain ⟨x,rfl,gr,q⟩:=h
  rfl
 obtain ⟨x,rfl,gr,q⟩:=h
 refine ⟨_,ao (aC (i:=1) jo.nd rfl (FP rfl) (fQ cI gU hr (aa (pv 0) ah)))
  (ao (aC (i:=2) jo.nd rfl (FP rfl) (aX cz (pv 1) az (fun _ _=>rfl)))
  (ao (aC (i:=3) jo.nd rfl (FP rfl) (aX cz (pv 1) az (fun _ _=>rfl)))
  (ao (aC (i:=4) jo.nd rfl (FP rfl) (bc lZ hr (aa (pv 0) ah)))
  (ao (bA (aH cB (pv 4) ai (aL _)) (ar (aA (lL (iB (pv 2)) ai (.cons (iB (pv 3)) .nil)))) aQ)
  (ao (aC (i:=5) jo.nd rfl (FP rfl) (yI (xM hr) (gL (v:=.ref ca.D) rfl CA.gD rfl) (pv 4) (pv 4) ⟨rfl,rfl,rfl,rfl⟩))
  (ar (aA (lL (iB (pv 2)) ai (.cons (iB (pv 3)) (.cons ai (.cons (iB (pv 5)) .nil))))))))))),?_⟩
 have z:1000<=sizeLine:=by decide
 rcases q with ⟨r,hr,rfl,q⟩ | ⟨hx,q⟩
 ·obtain ⟨e1,e2,e3,e4,e5,e6⟩:=rF hr
  obtain ⟨la,lb,lc⟩:=yH hr
  have l1:(tz ">").length=1:=by decide +kernel
  have l2:(tz ":").length=1:=by decide +kernel
  refine ⟨_,rfl,r.1,rfl,gr,.inl ⟨r,hr,rfl,fun p H1 s1 f1 h1=>?_⟩⟩
  refine ⟨_,rfl,p,_,_,_,rfl,rfl,bJ.of h1,rfl,_,rfl,p,_,_,_,rfl,rfl,bJ.of h1,rfl,_,rfl,r.1,rfl,by lia,fun H2 s2=>?_⟩
  have t2:=s1.trans s2
  refine ⟨_,rfl,rfl,_,rfl,?_⟩
  unfold wc at e2
  by_cases c:jk r.1 = ""
  ·rw [if_pos c] at e2
   refine gc (congrArg V.str c) ⟨_,rfl,r.2.2.1,rfl,by lia,r.2.2.1,rfl,by rw [bN]; lia,_,rfl,by rw [bN,len_app,l1]; lia,_,rfl,r.2.1,rfl,by lia,r.2.1,rfl,by rw [bN,len_app,len_app,l1]; lia,?_⟩
   show Q (.str (GQ++r.2.2.1++">"++r.2.1)) H2
   rw [bN,e2]
   exact q H2 t2
  ·rw [if_neg c] at e2
   obtain ⟨oD,g⟩:=gr.same t2
   refine dU (fun w=>c (V.str.inj w)) ⟨ca.D,rfl,.inl ⟨pQ,.inr ⟨oD,g.dic⟩⟩,_,rfl,_,rfl,_,.inl ⟨pQ,.inr (jk r.1),.inr ⟨oD,g.dic⟩,rfl,rfl⟩,?_⟩
   rw [Ar]
   refine ⟨_,rfl,r.2.2.1,rfl,by lia,r.2.2.1,rfl,by rw [bN]; lia,_,rfl,by rw [bN,len_app,l1]; lia,_,rfl,r.2.1,rfl,by lia,r.2.1,rfl,by rw [bN,len_app,len_app,l1]; lia,_,rfl,by rw [bN,len_app,len_app,len_app,l1,l2]; lia,_,rfl,qe (jk r.1),rfl,by lia,qe (jk r.1),rfl,by rw [bN,len_app,len_app,len_app,len_app,l1,l2]; lia,?_⟩
   show Q (.str (GQ++r.2.2.1++">"++r.2.1++":"++qe (jk r.1))) H2
   rw [bN,e2]
   exact q H2 t2
 ·exact ⟨_,rfl,x,rfl,gr,.inr ⟨hx,q⟩⟩
theorem AD (F:bg K "chain_back" "chain_back" mm f fd) {f0:Fe} {fd0:Fh} (ip:Def P w K mg base "chain_ends" ["names"] 12 (kL K ca er) f0 fd0) {f1:Fe} {fd1:Fh} (wu:Def P w K mg base "back_of" ["name"] 12 (rE K ca er) f1 fd1) (fX:mg "reversed" = none):aF P w K mg base (fC P w) 13 f fd ["names"] (nL K ca er):=by
 refine F.okE BX (fun vs H Q E h=>?_) (fun cdv A outer s H vs Q E hr h=>?_)
 ·obtain ⟨p,rs,rfl,hp,hrw,h12,gr,q⟩:=h
  rfl
 obtain ⟨p,rs,rfl,hp,hrw,h12,gr,q⟩:=h
 refine ⟨_,ao (bt (fQ cI ip hr (aa (pv 0) ah)))
  (ar (aA (ir rfl (ud rfl fX (aa (pv 0) ah)) rfl rfl rfl rfl (N:=["name"]) (.own .nil) (fun _ _ _ _ _ _=>(aN (i:=0) (by show Hm (["name"]:List Str); decide +kernel) rfl (FP rfl))) (fun _ _ _ _ _ _=>gN) (fun _ _ _ _ _ _=>(bc wu hr (aa (pv 0) ah)))))),?_⟩
 refine ⟨_,rfl,p,rs,rfl,hp,hrw,h12,gr,?_⟩
 rcases q with q | q | ⟨hok,q⟩
 ·exact .inl q
 ·exact .inr (.inl q)
 refine .inr (.inr ⟨hok,fun p2 H1 s1=>?_⟩)
 obtain ⟨_,allw⟩:=kE hok hrw
 have hp1:=s1 _ _ hp
 have lz:(rs.map fun r=>V.str r.1).length=rs.length:=Ff _
 refine ⟨_,rfl,p,_,rfl,av.of hp1,fun D hD=>qt (xs:=rs.map fun r=>V.str r.1) (fun k ys H'=>af H1 H'/\H' D=some (.lst ys)/\ys=(rs.reverse.take k).map fun r=>V.str r.2.2.2) (sz (by lia)) ⟨af.new (af.refl H1) hD _,ae,rfl⟩ (fun k ys H' hk h=>⟨av.of (h.1 _ _ hp1),by rw [h.2.2,Ff,Ga]; lia⟩) (fun k v ys H' R R0 hk hx h r' r0=>?_) (fun ys H' h=>?_)⟩
 ·obtain ⟨r,hr',rfl⟩:=jw hx
  obtain ⟨sk,hy,ey⟩:=h
  rw [lz] at hr' hk
  have hrev:rs.reverse[k]? = some r:=by rw [JE (by lia)]; exact hr'
  refine ⟨Ext.set rfl,_,rfl,r.1,rfl,gr.same (s1.trans sk),.inl ⟨r,allw r (FJ hr'),rfl,fun H3 s3=>r' _ _ (s3 _ _ hy) ⟨(sk.trans s3).upd hD _,ae,?_⟩⟩⟩
  rw [FS,hrev,Fx,<- ey]
  rfl
 ·obtain ⟨sk,hy,ey⟩:=h
  rw [lz,FL (by simp)] at ey
  rw [ey] at hy
  exact q D _ (s1.trans sk) (s1.free hD) hy
theorem Bk (F:bg K "carries" "carries" me f fd):aF P w K mg base bC 1 f fd ["words","manner"] (rp K ca):=by
 refine F.ok Cr (fun vs H Q E h=>?_) (fun cdv A outer s H vs Q E hr h=>?_)
 ·obtain ⟨p,a,b,m,rfl,hp,q⟩:=h
  rfl
 obtain ⟨p,a,b,m,rfl,hp,q⟩:=h
 refine ⟨_,ao (bA (aH cB (pv 1) ai (aL _)) (ar (aA (sA (jn (xQ (uJ hr)) (pv 0) (gX (aa ai (aa ai ah))) (aL _)) (sI (jn (xQ (uJ hr)) (pv 0) (gX (aa ai (aa ai ah))) (aL _)))))) aQ)
  (ao (bA (aH cB (pv 1) ai (aL _)) (ar (aA (jn qg (aX cz (pv 0) az (fun _ _=>rfl)) (gX (aa ai (aa ai (aa ai ah)))) (by rfl)))) aQ)
  (ar (aA (jn cB (pv 1) ai (aL _))))),?_⟩
 unfold zf at q
 refine ⟨_,rfl,rfl,_,rfl,?_⟩
 by_cases c:m = ""
 ·rw [if_pos c] at q
  refine gc (congrArg V.str c) ⟨_,rfl,(by show 2<=sizeLine; decide),fun u hu=>?_⟩
  have ne:p≠u:=aO hp hu
  have s1:=af.new (af.refl H) hu (.tup [.str "cars",.str "codes"])
  refine ⟨1,_,by decide,eV.strs ne (s1 _ _ hp) ae,⟨p,u,rfl,rfl,ne⟩,_,rfl,?_⟩
  cases h1:(decide (a=tz "cars")&&decide (b=tz "codes")) with
  | true =>
   rw [h1] at q
   exact EE rfl (q _ s1)
  | false =>
   rw [h1] at q
   refine Ez rfl ⟨_,rfl,(by show 2<=sizeLine; decide),fun u2 hu2=>?_⟩
   have hp1:=s1 _ _ hp
   have ne2:p≠u2:=aO hp1 hu2
   have s2:=af.new s1 hu2 (.tup [.str "codes",.str "cars"])
   refine ⟨1,_,by decide,eV.strs ne2 (s2 _ _ hp) ae,⟨p,u2,rfl,rfl,ne2⟩,?_⟩
   exact q _ s2
 ·rw [if_neg c] at q
  refine dU (fun w=>c (V.str.inj w)) ⟨_,rfl,rfl,_,rfl,?_⟩
  by_cases c2:m = "mirror"
  ·rw [if_pos c2] at q
   refine gc (congrArg V.str c2) ⟨_,rfl,p,_,_,_,rfl,rfl,bJ.of hp,rfl,(by show 3<=sizeLine; decide),fun u hu=>?_⟩
   refine ⟨u,([tz "brackets",tz "bows",tz "turns"]:List Str).map V.str,rfl,.inr (bJ.of ae),rfl,fU _,?_⟩
   show Q (.bl (uA (V.str a) (([tz "brackets",tz "bows",tz "turns"]:List Str).map V.str))) _
   rw [eZ,show decide (a∈([tz "brackets",tz "bows",tz "turns"]:List Str))=(decide (a = "brackets") || (decide (a = "bows") || decide (a = "turns"))) by simp [FB]]
   exact q _ (af.new (af.refl H) hu _)
  ·rw [if_neg c2] at q
   refine dU (fun w=>c2 (V.str.inj w)) ⟨_,rfl,rfl,?_⟩
   rw [show decide (V.str m=V.str (tz "parts"))=decide (m=tz "parts") from decide_eq_decide.mpr ⟨fun h=>V.str.inj h,congrArg V.str⟩]
   exact q H (af.refl H)
theorem C0 (F:bg K "__init__" "RingFamily.__init__" pC ca.pE fd) {fd0:Fh} (pL:bq P w K mg base ["self","word","least"] 1 (qV K ca) ca.sd fd0):aF P w K mg base bC 3 ca.pE fd ["self","word"] (nJ K ca):=by
 refine F.ok Dz (fun vs H Q E h=>?_) (fun cdv A outer s H vs Q E hr h=>?_)
 ·obtain ⟨C,x,dx,w,rfl,c,nw,nl,hx,q⟩:=h
  rfl
 obtain ⟨C,x,dx,w,rfl,c,nw,nl,hx,q⟩:=h
 refine ⟨_,ar (bt (g9 CA.se CA.cm_Family___init___Z pL hr (aa (pv 0) (aa (pv 1) (aa az ah))))),?_⟩
 exact ⟨_,rfl,_,rfl,C,x,dx,w,1,rfl,c,nw,nl,hx,q⟩
theorem Cc (F:bg K "__init__" "Codes.__init__" lW ca.qW fd) {fd0:Fh} (jK:bq P w K mg base ["self","word"] 3 (nJ K ca) ca.pE fd0):aF P w K mg base bC 5 ca.qW fd ["self"] (rT K ca):=by
 refine F.ok CK (fun vs H Q E h=>?_) (fun cdv A outer s H vs Q E hr h=>?_)
 ·obtain ⟨x,dx,rfl,hx,q⟩:=h
  rfl
 obtain ⟨x,dx,rfl,hx,q⟩:=h
 refine ⟨_,ar (bt (g9 CA.iM CA.cm_RingFamily___init___Z jK hr (aa (pv 0) (aa ai ah)))),?_⟩
 exact ⟨_,rfl,_,x,dx,_,rfl,CA.oZ,CA.cL,CA.eR,hx,fun fs H' e f=>q fs H' e f⟩
theorem CB (F:bg K "__init__" "Trees.__init__" lN ca.qX fd) {fd0:Fh} (jK:bq P w K mg base ["self","word"] 3 (nJ K ca) ca.pE fd0):aF P w K mg base bC 5 ca.qX fd ["self"] (tK K ca):=by
 refine F.ok AR (fun vs H Q E h=>?_) (fun cdv A outer s H vs Q E hr h=>?_)
 ·obtain ⟨x,dx,rfl,hx,q⟩:=h
  rfl
 obtain ⟨x,dx,rfl,hx,q⟩:=h
 refine ⟨_,ar (bt (g9 CA.iM CA.cm_RingFamily___init___Z jK hr (aa (pv 0) (aa ai ah)))),?_⟩
 exact ⟨_,rfl,_,x,dx,_,rfl,CA.o8,CA.cK,CA.d9,hx,fun fs H' e f=>q fs H' e f⟩
theorem Au (F:bg K "__init__" "Cars.__init__" kQ ca.ra fd) {fd0:Fh} (jK:bq P w K mg base ["self","word"] 3 (nJ K ca) ca.pE fd0):aF P w K mg base bC 5 ca.ra fd ["self"] (rg K ca):=by
 refine F.ok Cp (fun vs H Q E h=>?_) (fun cdv A outer s H vs Q E hr h=>?_)
 ·obtain ⟨x,dx,rfl,hx,q⟩:=h
  rfl
 obtain ⟨x,dx,rfl,hx,q⟩:=h
 refine ⟨_,ar (bt (g9 CA.iM CA.cm_RingFamily___init___Z jK hr (aa (pv 0) (aa ai ah)))),?_⟩
 exact ⟨_,rfl,_,x,dx,_,rfl,CA.sU,CA.dk,CA.fE,hx,fun fs H' e f=>q fs H' e f⟩
theorem CG (F:bg K "ring_families" "ring_families" lV f fd) {fd0:Fh} (v3:bq P w K mg base ["self"] 5 (rT K ca) ca.qW fd0) {fd1:Fh} (uK:bq P w K mg base ["self"] 5 (tK K ca) ca.qX fd1) {fd2:Fh} (wa:bq P w K mg base ["self"] 5 (rg K ca) ca.ra fd2):aF P w K mg base bC 7 f fd [] (si K ca):=by
 refine F.ok Cy (fun vs H Q E h=>?_) (fun cdv A outer s H vs Q E hr h=>?_)
 ·obtain ⟨rfl,q⟩:=h
  rfl
 obtain ⟨rfl,q⟩:=h
 refine ⟨_,ar (aA (bb (aa (gq CA.mk_Codes CA.Ac v3 hr) (aa (gq CA.mk_Trees CA.zJ uK hr) (aa (gq CA.mk_Cars CA.Az wa hr) ah))))),?_⟩
 intro x0 dx0 nx0 ndx0 nex0
 refine ⟨x0,dx0,rfl,ae,fun fs0 H1 e0 fl0=>⟨rfl,?_⟩⟩
 have s0:af H H1:=by rw [e0]; exact ((af.new (af.refl H) ndx0 _).upd nx0 _).upd nx0 _
 have hx0:H1 x0=some (.ins ca.bo dx0 fs0):=by rw [e0]; exact ae
 clear e0
 have t0:=s0
 have pr0:FQ (bD H1) [.ref x0] [("codes",ca.bo,1)]:=.cons ⟨x0,dx0,fs0,rfl,hx0,fl0⟩ .nil
 clear s0 hx0
 intro x1 dx1 nx1 ndx1 nex1
 refine ⟨x1,dx1,rfl,ae,fun fs1 H2 e1 fl1=>⟨rfl,?_⟩⟩
 have s1:af H1 H2:=by rw [e1]; exact ((af.new (af.refl H1) ndx1 _).upd nx1 _).upd nx1 _
 have hx1:H2 x1=some (.ins ca.br dx1 fs1):=by rw [e1]; exact ae
 clear e1
 have t1:=t0.trans s1
 have pr1:FQ (bD H2) [.ref x0,.ref x1] [("codes",ca.bo,1),("trees",ca.br,1)]:=e9 (bO pr0 s1) (.cons ⟨x1,dx1,fs1,rfl,hx1,fl1⟩ .nil)
 clear pr0 s1 hx1
 intro x2 dx2 nx2 ndx2 nex2
 refine ⟨x2,dx2,rfl,ae,fun fs2 H3 e2 fl2=>⟨rfl,?_⟩⟩
 have s2:af H2 H3:=by rw [e2]; exact ((af.new (af.refl H2) ndx2 _).upd nx2 _).upd nx2 _
 have hx2:H3 x2=some (.ins ca.bI dx2 fs2):=by rw [e2]; exact ae
 clear e2
 have t2:=t1.trans s2
 have pr2:FQ (bD H3) [.ref x0,.ref x1,.ref x2] [("codes",ca.bo,1),("trees",ca.br,1),("cars",ca.bI,1)]:=e9 (bO pr1 s2) (.cons ⟨x2,dx2,fs2,rfl,hx2,fl2⟩ .nil)
 clear pr1 s2 hx2
 refine ⟨(by show 3<=sizeLine; decide),fun p hp=>?_⟩
 exact q p _ _ (af.new t2 hp _) (t2.free hp) ae (bO pr2 (af.new (af.refl _) hp _))
theorem AW (F:bg K "family_of" "family_of" mi f fd) {f0:Fe} {fd0:Fh} (jR:Def P w K mg base "split_families" [] 7 (nX K ca) f0 fd0) {f1:Fe} {fd1:Fh} (uW:Def P w K mg base "ring_families" [] 7 (si K ca) f1 fd1):aF P w K mg base bC 8 f fd ["word"] (sf K ca):=by
 refine F.ok wQ (fun vs H Q E h=>?_) (fun cdv A outer s H vs Q E hr h=>?_)
 ·obtain ⟨f,rfl,hf,q⟩:=h
  rfl
 obtain ⟨f,rfl,hf,q⟩:=h
 refine ⟨_,ao (cX Gj rfl (bY (aI d8 (gn jR hr) (gn uW hr))) (aN (i:=1) wQ.nd rfl (FP rfl)) (ar (bA (aH cB (jg (pv 1) rfl) (pv 0) (aL _)) (ar (aA (pv 1))) aQ)))
  xt,?_⟩
 have ok:∀ g∈iX ca,eW K g.2.1/\aM K g.2.1 "word":=Fm.mpr ⟨⟨CA.iq,CA.bG⟩,Fm.mpr ⟨⟨CA.jG,CA.bQ⟩,Fm.mpr ⟨⟨CA.ml,CA.cm⟩,Fm.mpr ⟨⟨CA.nK,CA.cC⟩,Fm.mpr ⟨⟨CA.kZ,CA.cg⟩,Fm.mpr ⟨⟨CA.jQ,CA.bR⟩,Fm.mpr ⟨⟨CA.lM,CA.bZ⟩,Fm.mpr ⟨⟨CA.oZ,CA.cL⟩,Fm.mpr ⟨⟨CA.o8,CA.cK⟩,Fm.mpr ⟨⟨CA.sU,CA.dk⟩,IH _⟩⟩⟩⟩⟩⟩⟩⟩⟩⟩
 refine ⟨rfl,fun p1 xs1 H1 s1 f1 h1 pr1=>⟨rfl,fun p2 xs2 H2 s2 f2 h2 pr2=>?_⟩⟩
 have e2:=pr2.length
 have e1:=pr1.length
 refine ⟨p1,p2,xs1,xs2,rfl,rfl,s2 _ _ h1,h2,(by rw [e1,e2]; show 10<=sizeLine; decide),fun pc hpc=>?_⟩
 have s3:=af.new (af.refl H2) hpc (.lst (xs1++xs2))
 have pr:FQ (bD (upd H2 pc (.lst (xs1++xs2)))) (xs1++xs2) (iX ca):=e9 (bO pr1 (s2.trans s3)) (bO pr2 s3)
 have hc:upd H2 pc (.lst (xs1++xs2)) pc=some (.lst (xs1++xs2)):=ae
 have s4:=(s1.trans s2).trans s3
 generalize upd H2 pc (.lst (xs1++xs2))=H3 at s4 pr hc |-
 obtain ⟨jf,hjf⟩:=List.getElem?_of_mem hf
 refine ⟨pc,rfl,⟨_,av.of hc⟩,gx (xs:=xs1++xs2) (fun i σ H'=>∃ (o1:Option V),σ=[some (.str f.1),o1]/\H3=H'/\i<=jf) ⟨_,rfl,rfl,Fy _⟩ (fun i σ H' _ h=>by obtain ⟨_,_,e,_⟩:=h; rw [<- e]; exact av.of hc) ?_ ?_⟩
 ·rintro i v σ H' hv ⟨o1,rfl,rfl,hij⟩
  obtain ⟨g,hg,x,dx,fs,rfl,hx,fl⟩:=jj pr hv
  have gm:=FJ hg
  refine ⟨_,rfl,x,_,dx,fs,_,rfl,hx,(ok g gm).1,(ok g gm).2,fl.word,_,rfl,rfl,_,rfl,?_⟩
  by_cases e:g.1=f.1
  ·have eg:=yf gm hf e
   subst eg
   refine gc rfl ⟨_,rfl,q x dx fs H3 s4 hx fl⟩
  ·refine dU (fun z=>e (by injection z)) ⟨_,rfl,rfl,?_⟩
   by_cases e2:i=jf
   ·subst e2
    rw [hg] at hjf
    injection hjf with hjf
    exact absurd (by rw [hjf]) e
   ·lia
 ·rintro σ H' ⟨o1,rfl,rfl,hij⟩
  have l:=pr.length
  have:=(Fj.mp hjf).1
  lia
theorem B2 (F:bg K "all_measures" "all_measures" iO f fd):aF P w K mg base bC 1 f fd [] (so K ca):=by
 refine F.ok A8 (fun vs H Q E h=>?_) (fun cdv A outer s H vs Q E hr h=>?_)
 ·obtain ⟨rfl,q⟩:=h
  rfl
 obtain ⟨rfl,q⟩:=h
 have hb:sx (au iO) zq=true:=by decide +kernel
 generalize au iO=b at hb |-
 refine ⟨_,xa (ns:=zq) (rows:=ia ca) hb (List.cons_ne_nil _ _) (by decide) (.cons ⟨rfl,(.cons ⟨rfl,rfl,CA.mP⟩ (.cons ⟨rfl,rfl,CA.ku⟩ (.cons ⟨rfl,rfl,CA.mF⟩ .nil)))⟩ (.cons ⟨rfl,(.cons ⟨rfl,rfl,CA.pq⟩ (.cons ⟨rfl,rfl,CA.m3⟩ (.cons ⟨rfl,rfl,CA.oj⟩ .nil)))⟩ (.cons ⟨rfl,(.cons ⟨rfl,rfl,CA.qG⟩ (.cons ⟨rfl,rfl,CA.nO⟩ (.cons ⟨rfl,rfl,CA.oV⟩ .nil)))⟩ (.cons ⟨rfl,(.cons ⟨rfl,rfl,CA.sJ⟩ (.cons ⟨rfl,rfl,CA.pI⟩ (.cons ⟨rfl,rfl,CA.qB⟩ .nil)))⟩ (.cons ⟨rfl,(.cons ⟨rfl,rfl,CA.qA⟩ (.cons ⟨rfl,rfl,CA.nG⟩ .nil))⟩ (.cons ⟨rfl,(.cons ⟨rfl,rfl,CA.qH⟩ (.cons ⟨rfl,rfl,CA.nq⟩ .nil))⟩ (.cons ⟨rfl,(.cons ⟨rfl,rfl,CA.qD⟩ (.cons ⟨rfl,rfl,CA.nV⟩ (.cons ⟨rfl,rfl,CA.oY⟩ .nil)))⟩ (.cons ⟨rfl,(.cons ⟨rfl,rfl,CA.oR⟩ (.cons ⟨rfl,rfl,CA.n9⟩ .nil))⟩ (.cons ⟨rfl,(.cons ⟨rfl,rfl,CA.oM⟩ (.cons ⟨rfl,rfl,CA.nM⟩ .nil))⟩ (.cons ⟨rfl,(.cons ⟨rfl,rfl,CA.qy⟩ (.cons ⟨rfl,rfl,CA.oA⟩ .nil))⟩ .nil)))))))))),?_⟩
 exact wI (rows:=ia ca) (rD ca).1 (rD ca).2 (by show 10<=15; decide) fun p H' s f m=>q p H' s f m
theorem BN (F:bg K "marks_of" "marks_of" lF f fd) {f0:Fe} {fd0:Fh} (uU:Def P w K mg base "family_of" ["word"] 8 (sf K ca) f0 fd0) {f1:Fe} {fd1:Fh} (wz:Def P w K mg base "all_measures" [] 1 (so K ca) f1 fd1) (gH:mg "list" = none):aF P w K mg base bC 9 f fd ["word"] (tJ K ca):=by
 refine F.ok wO (fun vs H Q E h=>?_) (fun cdv A outer s H vs Q E hr h=>?_)
 ·obtain ⟨f,items,rfl,hf,hi,q⟩:=h
  rfl
 obtain ⟨f,items,rfl,hf,hi,q⟩:=h
 refine ⟨_,ao (aC (i:=1) wO.nd rfl (FP rfl) (bc uU hr (aa (pv 0) ah)))
  (ar (aA (qk (vz rfl) rfl gH oX (aa (tZ (xM hr) (gn wz hr) (jg (pv 1) rfl) (fun _ _=>rfl)) ah)))),?_⟩
 have ok:∀ g∈iX ca,eW K g.2.1/\aM K g.2.1 "word":=Fm.mpr ⟨⟨CA.iq,CA.bG⟩,Fm.mpr ⟨⟨CA.jG,CA.bQ⟩,Fm.mpr ⟨⟨CA.ml,CA.cm⟩,Fm.mpr ⟨⟨CA.nK,CA.cC⟩,Fm.mpr ⟨⟨CA.kZ,CA.cg⟩,Fm.mpr ⟨⟨CA.jQ,CA.bR⟩,Fm.mpr ⟨⟨CA.lM,CA.bZ⟩,Fm.mpr ⟨⟨CA.oZ,CA.cL⟩,Fm.mpr ⟨⟨CA.o8,CA.cK⟩,Fm.mpr ⟨⟨CA.sU,CA.dk⟩,IH _⟩⟩⟩⟩⟩⟩⟩⟩⟩⟩
 refine ⟨_,rfl,f,rfl,hf,fun x dx fs H1 s1 hx fl=>⟨rfl,fun p H2 s2 f2 m=>⟨_,rfl,x,_,dx,fs,_,rfl,s2 _ _ hx,(ok f hf).1,(ok f hf).2,fl.word,?_⟩⟩⟩
 obtain ⟨d,g1,g2⟩:=m.get hi
 refine ⟨p,_,rfl,g1,d,_,rfl,g2,fun r hr=>?_⟩
 rw [wg]
 exact q r _ (af.new (s1.trans s2) hr _) ((s1.trans s2).free hr) ae
theorem BG (F:bg K "carried_by" "carried_by" my f fd) {f0:Fe} {fd0:Fh} (gU:Def P w K mg base "ends" ["name"] 11 (km K ca er) f0 fd0) {f1:Fe} {fd1:Fh} (uO:Def P w K mg base "carries" ["words","manner"] 1 (rp K ca) f1 fd1) {f2:Fe} {fd2:Fh} (lZ:Def P w K mg base "manner_of" ["name"] 1 (nF K ca) f2 fd2) {f3:Fe} {fd3:Fh} (qZ:Def P w K mg base "marks_of" ["word"] 9 (tJ K ca) f3 fd3):aF P w K mg base (fC P w) 12 f fd ["name"] (sC K ca er):=by
 refine F.okE rO (fun vs H Q E h=>?_) (fun cdv A outer s H vs Q E hr h=>?_)
 ·obtain ⟨x,rfl,gr,q⟩:=h
  rfl
 obtain ⟨x,rfl,gr,q⟩:=h
 refine ⟨_,ao (aC (i:=1) rO.nd rfl (FP rfl) (fQ cI gU hr (aa (pv 0) ah)))
  (ao (bA (iD (gv (bc uO hr (aa (pv 1) (aa (bc lZ hr (aa (pv 0) ah)) ah))))) (ar (aA (bb ah))) aQ)
  (ao (aC (i:=2) rO.nd rfl (Jx rfl) (bc qZ hr (aa (aX cz (pv 1) az (fun _ _=>rfl)) ah)))
  (ar (aA (ir rfl (bY (bc qZ hr (aa (aX cz (pv 1) az (fun _ _=>rfl)) ah))) rfl rfl rfl rfl (N:=["one","others"]) (.own (.cap (j:=2) rfl rfl rfl .nil)) (fun _ _ _ _ _ _=>(aN (i:=0) (by show Hm (["one","others"]:List Str); decide +kernel) rfl (FP rfl))) (fun _ _ _ _ _ _=>(jc (aH (ig (K:=K) rfl) (pv 0) (pv 1) (by rfl)))) (fun _ _ _ _ _ _=>(pv 0))))))),?_⟩
 rcases q with ⟨r,hr,rfl,q⟩ | ⟨hx,q⟩
 ·obtain ⟨e1,e2,e3,e4,e5,e6⟩:=rF hr
  have e10:=Fu.mp yb r hr
  rw [FY] at e10
  have t1:=of_decide_eq_true e10.1
  have t2:=of_decide_eq_true e10.2
  refine ⟨_,rfl,r.1,rfl,gr,.inl ⟨r,hr,rfl,fun p H1 s1 f1 h1=>?_⟩⟩
  refine ⟨_,rfl,_,rfl,r.1,rfl,by lia,fun H2 s2=>⟨p,r.2.1,r.2.2.1,jk r.1,rfl,s2 _ _ h1,fun H3 s3=>⟨_,rfl,?_⟩⟩⟩
  have s13:=(s1.trans s2).trans s3
  have h3:=s3 _ _ (s2 _ _ h1)
  unfold dA at q
  cases c:zf r.2.1 r.2.2.1 (jk r.1) with
  | false =>
   rw [c] at q
   exact d7 ⟨Fy _,fun u hu=>q u _ (af.new s13 hu _) (s13.free hu) ae⟩
  | true =>
   rw [c,if_pos rfl] at q
   obtain ⟨f2,it2,hf2,ef2,wX,em2⟩:=tH ca t2
   obtain ⟨f1',it1,hf1,ef1,AS,em1⟩:=tH ca t1
   refine dq ⟨_,rfl,p,_,_,_,rfl,rfl,bJ.of h3,rfl,f2,it2,by rw [ef2]; rfl,hf2,by rw [ef2]; exact wX,fun po H4 s4 f4 h4=>?_⟩
   rw [em2] at h4
   refine ⟨_,rfl,p,_,_,_,rfl,rfl,bJ.of (s4 _ _ h3),rfl,f1',it1,by rw [ef1]; rfl,hf1,by rw [ef1]; exact AS,fun pm5 H5 s5 f5 h5=>?_⟩
   rw [em1] at h5
   have lm:∀ w,(bB w).length<=3:=fun w=>by unfold bB; split; decide; split<;>decide
   have lm1:=lm r.2.1
   have lml:((bB r.2.1).map V.str).length=(bB r.2.1).length:=Ff _
   have s15:=(s13.trans s4).trans s5
   refine ⟨pm5,rfl,⟨_,av.of h5⟩,fun D hD=>eX (xs:=(bB r.2.1).map V.str) (fun k ys H'=>af H5 H'/\H' D=some (.lst ys)/\ys=(((bB r.2.1).take k).filter fun x=>decide (x∈bB r.2.2.1)).map V.str/\k<=(bB r.2.1).length) (sz (by lia)) ⟨af.new (af.refl H5) hD _,ae,rfl,Fy _⟩ (fun k ys H' hk h=>⟨av.of (h.1 _ _ h5),?_⟩) (fun k v ys H' R R0 hx h r' r0=>?_) (fun ys H' h=>?_)⟩
   ·rw [h.2.2.1,Ff]
    exact FW (GN _ _) (by rw [Ga]; lia)
   ·obtain ⟨sk,hy,ey,hk⟩:=h
    obtain ⟨c',hc,rfl⟩:∃ c',(bB r.2.1)[k]? = some c'/\v=V.str c':=by
     rw [FN] at hx
     cases e:(bB r.2.1)[k]? with
     | none=>rw [e] at hx; cases hx
     | some d=>rw [e] at hx; exact ⟨d,rfl,(Fw hx).symm⟩
    have hW:k < (bB r.2.1).length:=(Fj.mp hc).1
    have hpo:=sk _ _ (s5 _ _ h4)
    have etk:((bB r.2.1).take (k+1)).filter (fun x=>decide (x∈bB r.2.2.1))=((bB r.2.1).take k).filter (fun x=>decide (x∈bB r.2.2.1))++if c'∈bB r.2.2.1 then [c'] else []:=by
     rw [FS,hc,Hv]
     refine congrArg _ ?_
     show Jm _ [c']=_
     rw [Ht]
     by_cases z:c'∈bB r.2.2.1
     ·rw [if_pos z,if_pos (decide_eq_true z)]; rfl
     ·rw [if_neg z,if_neg (by rw [decide_eq_false z]; decide)]; rfl
    refine ⟨Ext.set rfl,_,rfl,_,rfl,po,_,rfl,.inl (av.of hpo),rfl,fU _,_,rfl,?_⟩
    by_cases z:c'∈bB r.2.2.1
    ·rw [if_pos z] at etk
     refine eqT (by rw [eZ]; exact decide_eq_true z) ⟨_,rfl,r' _ _ hy ⟨sk.upd hD _,ae,?_,hW⟩⟩
     rw [etk,Fx,<- ey]
     rfl
    ·rw [if_neg z,FR] at etk
     exact kP (by rw [eZ]; exact decide_eq_false z) (r0 _ ⟨sk,hy,by rw [etk,ey],hW⟩)
   ·obtain ⟨sk,hy,ey,_⟩:=h
    rw [FL (by lia)] at ey
    rw [ey] at hy
    exact q D _ (s15.trans sk) (s15.free hD) hy
 ·exact ⟨_,rfl,x,rfl,gr,.inr ⟨hx,q⟩⟩
theorem Ca (F:bg K "carried" "carried" lS f fd) {f0:Fe} {fd0:Fh} (ip:Def P w K mg base "chain_ends" ["names"] 12 (kL K ca er) f0 fd0) {f1:Fe} {fd1:Fh} (vh:Def P w K mg base "carried_by" ["name"] 12 (sC K ca er) f1 fd1) (vC:mg "all" = none):aF P w K mg base (fC P w) 13 f fd ["names"] (nN K ca er):=by
 refine F.okE xl (fun vs H Q E h=>?_) (fun cdv A outer s H vs Q E hr h=>?_)
 ·obtain ⟨p,rs,rfl,hp,hrw,h12,gr,q⟩:=h
  rfl
 obtain ⟨p,rs,rfl,hp,hrw,h12,gr,q⟩:=h
 refine ⟨_,ao (bt (fQ cI ip hr (aa (pv 0) ah)))
  (ao (aC (i:=1) xl.nd rfl (Jx rfl) (ir rfl (bY (pv 0)) rfl rfl rfl rfl (N:=["name"]) (.own .nil) (fun _ _ _ _ _ _=>(aN (i:=0) (by show Hm (["name"]:List Str); decide +kernel) rfl (FP rfl))) (fun _ _ _ _ _ _=>gN) (fun _ _ _ _ _ _=>(bc vh hr (aa (pv 0) ah)))))
  (ar (aA (yi (y:="one") rfl (CJ (gL (v:=.ref ca.M_MARKS_ORDER) rfl CA.qI rfl)) rfl rfl (fun _ _=>rfl) (fun _=>rfl) (by rfl) rfl rfl (N:=["one","lists"]) (.own (.cap (j:=1) rfl rfl rfl .nil)) (fun _ _ _ _ _ _=>(aN (i:=0) (by show Hm (["one","lists"]:List Str); decide +kernel) rfl (Jx rfl))) (fun _ _ _ _ _ _=>(jc (gv (bE (xu (K:=K) rfl rfl) rfl vC Bg (aa (ir rfl (bY (pv 1)) rfl rfl rfl rfl (wi:=y6 K (sL 1)) (g:=uV 0) (tt:=vb) (te:=xI (Cb K false) (sL 1) (sL 0)) (ix:=[none,some 0]) (N:=["marks","one"]) (.own (.cap (j:=0) rfl rfl rfl .nil)) (fun _ _ _ _ _ _=>(aN (i:=0) (by show Hm (["marks","one"]:List Str); decide +kernel) rfl (FP rfl))) (fun _ _ _ _ _ _=>gN) (fun _ _ _ _ _ _=>(jn (ig (K:=K) rfl) (pv 1) (pv 0) (by rfl)))) ah))))) (fun _ _ _ _ _ _=>(pv 0)))))),?_⟩
 refine ⟨_,rfl,p,rs,rfl,hp,hrw,h12,gr,?_⟩
 rcases q with q | q | ⟨hok,q⟩
 ·exact .inl q
 ·exact .inr (.inl q)
 refine .inr (.inr ⟨hok,fun p2 H1 s1=>?_⟩)
 obtain ⟨_,allw⟩:=kE hok hrw
 have hp1:=s1 _ _ hp
 have lz:(rs.map fun r=>V.str r.1).length=rs.length:=Ff _
 refine ⟨_,rfl,p,rfl,⟨_,av.of hp1⟩,fun D hD=>eX (xs:=rs.map fun r=>V.str r.1) (fun k ys H'=>af H1 H'/\H' D=some (.lst ys)/\FQ (yZ D H') ys ((rs.take k).map dA)/\k<=rs.length) (sz (by lia)) ⟨af.new (af.refl H1) hD _,ae,.nil,Fy _⟩ (fun k ys H' hk h=>⟨av.of (h.1 _ _ hp1),by rw [h.2.2.1.length,Ff,Ga]; lia⟩) (fun k v ys H' R R0 hx h r' r0=>?_) (fun ys H' h=>?_)⟩
 ·obtain ⟨r,hr',rfl⟩:=jw hx
  obtain ⟨sk,hy,py,hk⟩:=h
  have hW:=(Fj.mp hr').1
  refine ⟨Ext.set rfl,_,rfl,r.1,rfl,gr.same (s1.trans sk),.inl ⟨r,allw r (FJ hr'),rfl,fun u H3 s3 f3 h3=>r' _ _ (s3 _ _ hy) ⟨(sk.trans s3).upd hD _,ae,?_,hW⟩⟩⟩
  rw [FS,hr',Fx]
  have nu:u≠D:=fun z=>by rw [z,hy] at f3; cases f3
  exact xi (yv py s3) ⟨u,rfl,nu,(aq nu).trans h3⟩
 ·obtain ⟨sk,hy,py,_⟩:=h
  rw [lz,FL (Fg _)] at py
  have py:=BJ py
  have t1:af H H':=s1.trans sk
  have tM:=CA.t_MARKS_ORDER
  have lys:ys.length=rs.length:=by rw [py.length,Ff]
  refine ⟨_,rfl,⟨_,tM _⟩,fun D2 hD2=>vm (xs:=gJ.map V.str) (fun k zs H2=>af H' H2/\H2 D2=some (.lst zs)/\zs=((gJ.take k).filter fun x=>rs.all fun r=>decide (x∈dA r)).map V.str/\k<=5) (by show 5<=sizeLine; decide) ⟨af.new (af.refl H') hD2 _,ae,rfl,Fy _⟩ (fun k zs H2 hk h=>⟨tM _,?_⟩) (fun k v zs H2 R R0 hx h r' r0=>?_) (fun zs H2 h=>?_)⟩
  ·rw [h.2.2.1,Ff]
   exact FW (GN _ _) (by rw [Ga]; lia)
  ·obtain ⟨sz2,hz,ez,DR⟩:=h
   obtain ⟨x,hxx,rfl⟩:∃ x,gJ[k]? = some x/\v=V.str x:=by
    rw [FN] at hx
    cases e:gJ[k]? with
    | none=>rw [e] at hx; cases hx
    | some d=>rw [e] at hx; exact ⟨d,rfl,(Fw hx).symm⟩
   have hW:k < 5:=(Fj.mp hxx).1
   have hyl:=sz2 _ _ hy
   have py2:=zH py sz2
   have etk:((gJ.take (k+1)).filter fun x=>rs.all fun r=>decide (x∈dA r))=((gJ.take k).filter fun x=>rs.all fun r=>decide (x∈dA r))++if (rs.all fun r=>decide (x∈dA r))=true then [x] else []:=by
    rw [FS,hxx,Hv]
    refine congrArg _ ?_
    show Jm _ [x]=_
    rw [Ht]
    rfl
   refine ⟨Ext.set rfl,_,rfl,D,rfl,⟨_,av.of hyl⟩,fun D3 hD3=>eX (xs:=ys) (fun j ws H3=>af H2 H3/\H3 D3=some (.lst ws)/\ws=((rs.take j).map fun r=>decide (x∈dA r)).map V.bl/\j<=rs.length) (sz (by lia)) ⟨af.new (af.refl H2) hD3 _,ae,rfl,Fy _⟩ (fun j ws H3 hj h=>⟨av.of (h.1 _ _ hyl),by rw [h.2.2.1,Ff,Ff,Ga]; lia⟩) (fun j v ws H3 R2 R3 hx2 h r2 r3=>?_) (fun ws H3 h=>?_)⟩
   ·obtain ⟨s3,hw,ew,hj⟩:=h
    obtain ⟨yr,hyr,a,rfl,ha⟩:=AX py2 hx2
    rw [FN] at hyr
    obtain ⟨r,hr',rfl⟩:∃ r,rs[j]? = some r/\dA r=yr:=by
     cases e:rs[j]? with
     | none=>rw [e] at hyr; cases hyr
     | some d=>rw [e] at hyr; exact ⟨d,rfl,Fw hyr⟩
    have hj1:=(Fj.mp hr').1
    refine ⟨Ext.set rfl,_,rfl,_,rfl,a,_,rfl,.inl (av.of (s3 _ _ ha)),rfl,fU _,r2 _ _ hw ⟨s3.upd hD3 _,ae,?_,hj1⟩⟩
    rw [FS,hr',Fx,Fx,<- ew]
    show ws++[V.bl (uA (V.str x) ((dA r).map V.str))]=_
    rw [eZ]
    rfl
   ·obtain ⟨s3,hw,ew,_⟩:=h
    rw [lys,FL (Fg _)] at ew
    rw [ew] at hw
    refine ⟨D3,_,rfl,av.of hw,_,rfl,?_⟩
    rw [Cn]
    by_cases c:(rs.all fun r=>decide (x∈dA r))=true
    ·rw [if_pos c] at etk
     refine eqT c ⟨_,rfl,r' _ _ (s3 _ _ hz) ⟨(sz2.trans s3).upd hD2 _,ae,?_,hW⟩⟩
     rw [etk,Fx,<- ez]
     rfl
    ·rw [if_neg c,FR] at etk
     exact kP (Bool.eq_false_iff.mpr c) (r0 _ ⟨sz2.trans s3,s3 _ _ hz,by rw [etk,ez],hW⟩)
  ·obtain ⟨sz2,hz,ez,_⟩:=h
   have ez2:zs=(wG rs).map V.str:=ez
   rw [ez2] at hz
   exact q D2 _ (t1.trans sz2) (t1.free hD2) hz
theorem Cj (F:bg K "_law_asked" "_law_asked" mn f fd) {f0:Fe} {fd0:Fh} (vT:Def P w K mg base "chain" ["names"] 13 (rW K ca er) f0 fd0) {f1:Fe} {fd1:Fh} (mB:Def P w K mg base "chain_back" ["names"] 13 (nL K ca er) f1 fd1) {f2:Fe} {fd2:Fh} (mf:Def P w K mg base "carried" ["names"] 13 (nN K ca er) f2 fd2):aF P w K mg base (fC P w) 14 f fd ["_law_kind","_law_names"] (sD K ca er):=by
 refine F.okE B0 (fun vs H Q E h=>?_) (fun cdv A outer s H vs Q E hr h=>?_)
 ·obtain ⟨k,p,rs,rfl,hp,hrw,h12,gr,q⟩:=h
  rfl
 obtain ⟨k,p,rs,rfl,hp,hrw,h12,gr,q⟩:=h
 refine ⟨_,ao (bA (aH cB (pv 0) az (aL _)) (ar (aA (fQ cI vT hr (aa (pv 1) ah)))) aQ)
  (ao (bA (aH cB (pv 0) az (aL _)) (ar (aA (fQ cI mB hr (aa (pv 1) ah)))) aQ)
  (ar (aA (fQ cI mf hr (aa (pv 1) ah))))),?_⟩
 have rest:∀ {P Q:Prop},(P->Q)->P->Q:=fun h=>h
 refine ⟨_,rfl,rfl,_,rfl,rm (fun _=>⟨_,rfl,p,rs,rfl,hp,hrw,h12,gr,?_⟩) (fun _=>?_)⟩
 ·rcases q with q | q | ⟨hok,q⟩
  ·exact .inl q
  ·exact .inr (.inl q)
  ·exact .inr (.inr ⟨hok,fun f H' s'=>q _ H' s'⟩)
 refine ⟨_,rfl,rfl,_,rfl,rm (fun _=>⟨_,rfl,p,rs,rfl,hp,hrw,h12,gr,?_⟩) (fun _=>⟨_,rfl,p,rs,rfl,hp,hrw,h12,gr,?_⟩)⟩
 ·rcases q with q | q | ⟨hok,q⟩
  ·exact .inl q
  ·exact .inr (.inl q)
  ·exact .inr (.inr ⟨hok,fun u H' s' _ _=>q _ H' s'⟩)
 ·rcases q with q | q | ⟨hok,q⟩
  ·exact .inl q
  ·exact .inr (.inl q)
  ·exact .inr (.inr ⟨hok,fun u H' s' _ _=>q _ H' s'⟩)
theorem AF (F:bg K "_law_whole" "_law_whole" mr f fd) (aY:mg "isinstance" = none) (wd:mg "int" = none) (tm:mg "bool" = none):aF P w K mg base bC 1 f fd ["_law_found"] (tE K ca):=by
 refine F.ok Cz (fun vs H Q E h=>?_) (fun cdv A outer s H vs Q E hr h=>?_)
 ·obtain ⟨k,rfl,q⟩:=h
  rfl
 obtain ⟨k,rfl,q⟩:=h
 refine ⟨_,ar (aA (sA (bE gT rfl aY bL (aa (pv 0) (aa (jr (v:=.ty "int") rfl wd A3 rfl) ah))) (sI (By (bE gT rfl aY bL (aa (pv 0) (aa (jr (v:=.ty "bool") rfl tm Ad rfl) ah))))))),?_⟩
 refine ⟨_,rfl,_,_,_,_,_,rfl,kR,.int _,tU,_,rfl,d7 ⟨_,rfl,_,_,_,_,_,rfl,kR,.int _,sH,_,rfl,q⟩⟩
theorem BW (F:bg K "_law_refusal" "_law_refusal" lg f fd) {f0:Fe} {fd0:Fh} (we:Def P w K mg base "_law_asked" ["_law_kind","_law_names"] 14 (sD K ca er) f0 fd0) {f1:Fe} {fd1:Fh} (v9:Def P w K mg base "_law_whole" ["_law_found"] 1 (tE K ca) f1 fd1) (aY:mg "isinstance" = none) (iE:mg "ValueError" = none):aF P w K mg base bC 15 f fd ["_law_kind","_law_names"] (sT K ca er):=by
 refine F.ok iA (fun vs H Q E h=>?_) (fun cdv A outer s H vs Q E hr h=>?_)
 ·obtain ⟨k,p,rs,rfl,hp,hrw,h12,gr,q⟩:=h
  rfl
 obtain ⟨k,p,rs,rfl,hp,hrw,h12,gr,q⟩:=h
 refine ⟨_,ao (aC (i:=2) iA.nd rfl (FP rfl) sv)
  (ao (aC (i:=3) iA.nd rfl (FP rfl) sv)
  (ao (zu (i:=4) rfl rfl rfl iA.nd rfl rfl rfl EO.m_broken rfl EO.m_kin (z7 we hr (fun _ _=>(aa (pv 0) (aa (pv 1) ah)))) (fun _=>(ao (aC (i:=3) iA.nd rfl (FP rfl) (yo (K:=K) rfl (pv 4) rfl))
  (ar (aC (i:=2) iA.nd rfl (FP rfl) (pv 4))))) (fun _=>(ar (aC (i:=2) iA.nd rfl (FP rfl) (pv 4)))))
  (ao (bA (aH CO (pv 2) sv (aL _)) (ar (aA (bb ah))) aQ)
  (ao (bA (PW.pt (gA (iD (gv (bE (fS) rfl aY bL (aa (pv 2) (aa (jr (v:=.ty "ValueError") rfl iE qx rfl) ah))))) (gY (iD (gv (bE (fS) rfl aY bL (aa (pv 2) (aa (gL (v:=.ref er.kin) rfl EO.m_kin rfl) ah)))))))) (ar (aA (bb (aa ai ah)))) aQ)
  (ao (bA (aH cB (bE (fS) rfl aY bL (aa (pv 2) (aa (gL (v:=.ref er.way) rfl EO.m_way rfl) ah))) (bE (fS) rfl aY bL (aa (pv 2) (aa (gL (v:=.ref er.broken) rfl EO.m_broken rfl) ah))) (aL _)) (ar (aA (bb (aa ai ah)))) aQ)
  (ao (bA (gv (bE (fS) rfl aY bL (aa (pv 2) (aa (gL (v:=.ref er.way) rfl EO.m_way rfl) ah)))) (ar (aA (bb (aa ai ah)))) aQ)
  (ao (bA (iD (gv (bc v9 hr (aa (pv 3) ah)))) (ar (aA (bb (aa ai ah)))) aQ)
  (ar (aA (bb (aa ai (aa (pv 3) ah)))))))))))),?_⟩
 cases hd:bz rs with
 | ok =>
  rw [hd] at q
  refine ⟨_,rfl,_,rfl,k,p,rs,rfl,hp,hrw,h12,gr,.inr (.inr ⟨hd,fun v H1 s1=>?_⟩)⟩
  exact ⟨_,rfl,rfl,_,rfl,d7 ⟨Fy _,fun u hu=>q u _ (af.new s1 hu _) (s1.free hu) ae⟩⟩
 | way =>
  rw [hd] at q
  refine ⟨_,rfl,_,rfl,k,p,rs,rfl,hp,hrw,h12,gr,.inl ⟨hd,fun H1 s1=>.inr ⟨EO.b_way,EO.c_way,fun e he=>⟨_,rfl,?_⟩⟩⟩⟩
  have hx:upd H1 e (fI e (.ref er.way) none) e=some (fI e (.ref er.way) none):=ae
  have t1:=af.new s1 he (fI e (.ref er.way) none)
  generalize upd H1 e (fI e (.ref er.way) none)=H2 at hx t1 |-
  refine ⟨_,rfl,rfl,_,rfl,dq ?_⟩
  refine ⟨_,rfl,e,_,_,er.way,_,rfl,kR,⟨_,hx⟩,EO.k_way,EO.way_value,_,rfl,dq ⟨_,rfl,e,_,_,er.way,_,rfl,g5,⟨_,hx⟩,EO.k_way,EO.way_kin,_,rfl,dq ?_⟩⟩
  refine ⟨_,rfl,e,_,_,er.way,_,rfl,g5,⟨_,hx⟩,EO.k_way,EO.way_way,_,rfl,e,_,_,er.way,_,rfl,g5,⟨_,hx⟩,EO.k_way,EO.way_broken,rfl,_,rfl,dU (by intro z; cases z) ?_⟩
  exact ⟨_,rfl,e,_,_,er.way,_,rfl,g5,⟨_,hx⟩,EO.k_way,EO.way_way,_,rfl,d7 ⟨(by show 1<=sizeLine; decide),fun u hu=>q u _ (af.new t1 hu _) (t1.free hu) ae⟩⟩
 | brk n =>
  rw [hd] at q
  refine ⟨_,rfl,_,rfl,k,p,rs,rfl,hp,hrw,h12,gr,.inr (.inl ⟨n,hd,fun d H1 s1 hd0 hd1=>.inl ⟨EO.b_broken,fun e he=>?_⟩⟩)⟩
  have nde:d≠e:=aO hd1 he
  refine ⟨_,rfl,e,er.broken,er.init,d,_,_,rfl,ae,(aq nde).trans hd1,EO.ex,EO.na,rfl,_,rfl,?_⟩
  have hx:upd H1 e (fI e (.ref er.broken) (some d)) e=some (fI e (.ref er.broken) (some d)):=ae
  have t1:=af.new s1 he (fI e (.ref er.broken) (some d))
  generalize upd H1 e (fI e (.ref er.broken) (some d))=H2 at hx t1 |-
  refine ⟨_,rfl,rfl,_,rfl,dq ?_⟩
  refine ⟨_,rfl,e,_,_,er.broken,_,rfl,kR,⟨_,hx⟩,EO.k_broken,EO.broken_value,_,rfl,dq ⟨_,rfl,e,_,_,er.broken,_,rfl,g5,⟨_,hx⟩,EO.k_broken,EO.broken_kin,_,rfl,dq ?_⟩⟩
  refine ⟨_,rfl,e,_,_,er.broken,_,rfl,g5,⟨_,hx⟩,EO.k_broken,EO.broken_way,_,rfl,e,_,_,er.broken,_,rfl,g5,⟨_,hx⟩,EO.k_broken,EO.broken_broken,rfl,_,rfl,dU (by intro z; cases z) ?_⟩
  exact ⟨_,rfl,e,_,_,er.broken,_,rfl,g5,⟨_,hx⟩,EO.k_broken,EO.broken_way,_,rfl,dq ⟨_,rfl,n,rfl,_,rfl,dq ⟨_,rfl,(by show 2<=sizeLine; decide),fun u hu=>q u _ (af.new t1 hu _) (t1.free hu) ae⟩⟩⟩
theorem AG (F:bg K "_law_texts" "_law_texts" kX f fd) (aY:mg "isinstance" = none) (gH:mg "list" = none) (fh:mg "len" = none) (bP:mg "range" = none) (wb:mg "str" = none):aF P w K mg base bC 1 f fd ["_law_found","_law_due_here"] (rq K ca):=by
 refine F.ok xJ (fun vs H Q E h=>?_) (fun cdv A outer s H vs Q E hr h=>?_)
 ·obtain ⟨p,r,ns,rfl,hp,hr2,hz,q⟩:=h
  rfl
 obtain ⟨p,r,ns,rfl,hp,hr2,hz,q⟩:=h
 refine ⟨_,ao (bA (PW.pt (gA (iD (gv (bE gT rfl aY bL (aa (pv 0) (aa (jr (v:=.ty "list") rfl gH oX rfl) ah))))) (gY (aH jC (bE di rfl fh iL (aa (pv 0) ah)) (bE di rfl fh iL (aa (pv 1) ah)) (aL _))))) (ar (aA oq)) aQ)
  (ao (cX Gj rfl (fM rfl bP (aa (bE di rfl fh iL (aa (pv 1) ah)) ah)) (aN (i:=2) xJ.nd rfl (FP rfl)) (ar (bA (PW.pt (gA (iD (gv (bE gT rfl aY bL (aa (aX bK (pv 0) (pv 2) (fun _ _=>rfl)) (aa (jr (v:=.ty "str") rfl wb Bj rfl) ah))))) (gY (aH jC (aX bK (pv 0) (pv 2) (fun _ _=>rfl)) (aX bK (pv 1) (pv 2) (fun _ _=>rfl)) (aL _))))) (ar (aA oq)) aQ)))
  (ar (aA oq))),?_⟩
 have lm:(ns.map V.str).length=ns.length:=Ff _
 refine ⟨_,rfl,_,_,_,_,_,rfl,kR,.lst hp,qC,_,rfl,dq ⟨_,rfl,p,_,rfl,.inl (av.of hp),_,rfl,r,_,rfl,.inl (av.of hr2),rfl,_,rfl,jz rfl ?_⟩⟩
 refine ⟨_,rfl,r,_,rfl,.inl (av.of hr2),_,rfl,by lia,by lia,fP (lo:=0) (n:=(((ns.map V.str).length:Nat):Int).toNat) (fun i σ H'=>H=H'/\∃ o,σ=[some (.ref p),some (.ref r),o]) ⟨rfl,_,rfl⟩ ?_ ?_⟩
 ·rintro i σ H' hi ⟨rfl,o,rfl⟩
  have hik:i < ns.length:=by lia
  have ei:(ns.map V.str)[i]? = some (.str ns[i]):=by rw [FN,Fk hik]; rfl
  have at1:gI (ns.map V.str) ((0:Int)+(i:Int))=some (.str ns[i]):=by rw [IU]; exact gb ei
  refine ⟨_,rfl,_,rfl,p,_,_,_,rfl,rfl,av.of hp,at1,_,_,_,_,_,rfl,kR,.str _,tW,_,rfl,dq ⟨_,rfl,_,rfl,p,_,_,_,rfl,rfl,av.of hp,at1,_,rfl,_,rfl,r,_,_,_,rfl,rfl,av.of hr2,at1,rfl,_,rfl,jz rfl ⟨rfl,_,rfl⟩⟩⟩
 ·rintro σ H' ⟨rfl,o,rfl⟩
  exact q
theorem Cm (F:bg K "_law_marks" "_law_marks" ma f fd):aF P w K mg base bC 1 f fd ["_law_word"] (rP K ca):=by
 refine F.ok BK (fun vs H Q E h=>?_) (fun cdv A outer s H vs Q E hr h=>?_)
 ·obtain ⟨w,rfl,q⟩:=h
  rfl
 obtain ⟨w,rfl,q⟩:=h
 refine ⟨_,ao (bA (PW.pt (gA (aH cB (pv 0) ai (aL _)) (gA (aH cB (pv 0) ai (aL _)) (gY (aH cB (pv 0) ai (aL _)))))) (ar (aA (bb (aa ai (aa ai ah))))) aQ)
  (ao (bA (PW.pt (gA (aH cB (pv 0) ai (aL _)) (gY (aH cB (pv 0) ai (aL _))))) (ar (aA (bb (aa ai (aa ai ah))))) aQ)
  (ar (aA (bb (aa ai (aa ai (aa ai ah))))))),?_⟩
 by_cases c:w = "trees"\/w = "codes"\/w = "cars"
 ·have e:bB w=([tz "leaves",tz "rootage"]:List Str):=if_pos c
  refine ⟨_,rfl,rfl,_,rfl,?_⟩
  by_cases c1:w = "trees"
  ·exact gc (congrArg V.str c1) (d7 ⟨(by show 2<=sizeLine; decide),fun u hu=>q u _ (af.new (af.refl H) hu _) hu (by rw [ae,e]; rfl)⟩)
  refine dU (fun z=>c1 (V.str.inj z)) ⟨_,rfl,rfl,_,rfl,?_⟩
  by_cases c2:w = "codes"
  ·exact gc (congrArg V.str c2) (d7 ⟨(by show 2<=sizeLine; decide),fun u hu=>q u _ (af.new (af.refl H) hu _) hu (by rw [ae,e]; rfl)⟩)
  refine dU (fun z=>c2 (V.str.inj z)) ⟨_,rfl,rfl,_,rfl,?_⟩
  have c3:w = "cars":=by
   rcases c with c | c | c
   ·exact absurd c c1
   ·exact absurd c c2
   ·exact c
  exact gc (congrArg V.str c3) ⟨(by show 2<=sizeLine; decide),fun u hu=>q u _ (af.new (af.refl H) hu _) hu (by rw [ae,e]; rfl)⟩
 refine ⟨_,rfl,rfl,_,rfl,dU (fun z=>c (.inl (V.str.inj z))) ⟨_,rfl,rfl,_,rfl,dU (fun z=>c (.inr (.inl (V.str.inj z)))) ⟨_,rfl,rfl,_,rfl,dU (fun z=>c (.inr (.inr (V.str.inj z)))) ?_⟩⟩⟩
 by_cases d:w = "rooms"\/w = "floor"
 ·have e:bB w=([tz "peaks",tz "returns"]:List Str):=(if_neg c).trans (if_pos d)
  refine ⟨_,rfl,rfl,_,rfl,?_⟩
  by_cases c1:w = "rooms"
  ·exact gc (congrArg V.str c1) (d7 ⟨(by show 2<=sizeLine; decide),fun u hu=>q u _ (af.new (af.refl H) hu _) hu (by rw [ae,e]; rfl)⟩)
  have c3:w = "floor":=d.resolve_left c1
  exact dU (fun z=>c1 (V.str.inj z)) ⟨_,rfl,rfl,_,rfl,gc (congrArg V.str c3) ⟨(by show 2<=sizeLine; decide),fun u hu=>q u _ (af.new (af.refl H) hu _) hu (by rw [ae,e]; rfl)⟩⟩
 have e:bB w=([tz "peaks",tz "returns",tz "height"]:List Str):=(if_neg c).trans (if_neg d)
 exact ⟨_,rfl,rfl,_,rfl,dU (fun z=>d (.inl (V.str.inj z))) ⟨_,rfl,rfl,_,rfl,dU (fun z=>d (.inr (V.str.inj z))) ⟨(by show 3<=sizeLine; decide),fun u hu=>q u _ (af.new (af.refl H) hu _) hu (by rw [ae,e]; rfl)⟩⟩⟩
theorem Ci (F:bg K "_law_carried" "_law_carried" lj f fd) {f0:Fe} {fd0:Fh} (qR:Def P w K mg base "_law_marks" ["_law_word"] 1 (rP K ca) f0 fd0):aF P w K mg base bC 2 f fd ["_law_row"] (tF K ca):=by
 refine F.ok kH (fun vs H Q E h=>?_) (fun cdv A outer s H vs Q E hr h=>?_)
 ·obtain ⟨p,r,rfl,hp,q⟩:=h
  rfl
 obtain ⟨p,r,rfl,hp,q⟩:=h
 refine ⟨_,ao (xm (pv 0) (wU rfl (gO (aN (i:=1) kH.nd rfl (FP rfl)) (gO (aN (i:=2) kH.nd rfl (FP rfl)) (gO (aN (i:=3) kH.nd rfl (Jx rfl)) (gO (aN (i:=4) kH.nd rfl (FP rfl)) uj))))))
  (pB (bA (PW.pt (kr (gv (iT G7 IX IY uz (pv 1) (aa ai ah))) (kr (aH jC (pv 2) ai (aL _)) (mx (aH jC (pv 2) ai (aL _)))))) (ar (aA (bb (aa ai (aa ai (aa ai ah)))))) aQ)
  (pB (bA (PW.pt (gA (PW.pt (kr (aH xV ai (pv 1) (by rfl)) (mx (iD (gv (iT G7 IX IY uz (pv 1) (aa ai ah))))))) (gA (aH cB (pv 1) ai (aL _)) (gY (aH cB (pv 1) ai (aL _)))))) (ar (aA (bb ah))) aQ)
  (ar (aA (ir rfl (bY (bc qR hr (aa (pv 2) ah))) rfl rfl rfl rfl (N:=["_law_one","_law_last"]) (.own (.cap (j:=3) rfl rfl rfl .nil)) (fun _ _ _ _ _ _=>(aN (i:=0) (by show Hm (["_law_one","_law_last"]:List Str); decide +kernel) rfl (FP rfl))) (fun _ _ _ _ _ _=>(jc (aH (ig (K:=K) rfl) (pv 0) (bc qR hr (aa (pv 1) ah)) (by rfl)))) (fun _ _ _ _ _ _=>(pv 0))))))),?_⟩
 obtain ⟨nm',fi,la,ba⟩:=r
 refine ⟨_,rfl,p,_,rfl,bJ.of hp,rfl,_,_,rfl,_,_,rfl,_,_,rfl,_,_,rfl,rfl,?_⟩
 refine ⟨fun σ H'=>σ=[some (.ref p),some (.str nm'),some (.str fi),some (.str la),some (.str ba)]/\H=H'/\rA (nm',fi,la,ba)=false,?_,?_⟩
 ·refine ⟨_,rfl,rfl,nm',_,rfl,rfl,_,rfl,?_⟩
  cases ha:HM nm' (tz ":mirror") with
  | false=>exact dq (dq ⟨rfl,rfl,by show (HM nm' (tz ":mirror")&&_)=false; rw [ha]; rfl⟩)
  | true =>
   refine d7 ⟨_,rfl,rfl,_,rfl,?_⟩
   by_cases c1:fi = "twins"
   ·exact jz (congrArg V.str c1) (dq ⟨rfl,rfl,by unfold rA; simp [c1]⟩)
   refine nQ (fun z=>c1 (V.str.inj z)) ⟨_,rfl,rfl,_,rfl,?_⟩
   by_cases c2:fi = "floor"
   ·exact jz (congrArg V.str c2) ⟨rfl,rfl,by unfold rA; simp [c2]⟩
   have m:rA (nm',fi,la,ba)=true:=by
    show (HM nm' (tz ":mirror")&&(decide (fi≠"twins")&&decide (fi≠"floor")))=true
    rw [ha,decide_eq_true c1,decide_eq_true c2]
    rfl
   have e:pO (nm',fi,la,ba)=([tz "peaks",tz "returns",tz "height"]:List Str):=if_pos m
   exact nQ (fun z=>c2 (V.str.inj z)) ⟨(by show 3<=sizeLine; decide),fun u hu=>q u _ (af.new (af.refl H) hu _) hu (by rw [ae,e]; rfl)⟩
 rintro σ H' ⟨rfl,rfl,hm⟩
 refine ⟨fun σ H'=>σ=[some (.ref p),some (.str nm'),some (.str fi),some (.str la),some (.str ba)]/\H=H'/\bare (nm',fi,la,ba)=false,?_,?_⟩
 ·have nob:bare (nm',fi,la,ba)=true->pO (nm',fi,la,ba)=[]:=fun h=>(if_neg (by rw [hm]; decide)).trans (if_pos h)
  have eb:bare (nm',fi,la,ba)=((!(Builtin.Str.occurrences nm' ":" 0 nm'.length 1).isEmpty&&!Txt.endswith nm' ":parts") || (decide (nm' = "cars>codes") || decide (nm' = "codes>cars"))):=rfl
  refine ⟨_,rfl,_,nm',rfl,rfl,_,rfl,?_⟩
  cases h0:(Builtin.Str.occurrences nm' (tz ":") 0 nm'.length 1).isEmpty with
  | true =>
   refine dq (dq ⟨_,rfl,rfl,_,rfl,?_⟩)
   by_cases c1:nm' = "cars>codes"
   ·exact gc (congrArg V.str c1) (d7 ⟨Fy _,fun u hu=>q u _ (af.new (af.refl H) hu _) hu (by rw [ae,nob (by rw [eb,decide_eq_true c1]; simp)]; rfl)⟩)
   refine dU (fun z=>c1 (V.str.inj z)) ⟨_,rfl,rfl,_,rfl,?_⟩
   by_cases c2:nm' = "codes>cars"
   ·exact gc (congrArg V.str c2) ⟨Fy _,fun u hu=>q u _ (af.new (af.refl H) hu _) hu (by rw [ae,nob (by rw [eb,decide_eq_true c2]; simp)]; rfl)⟩
   exact dU (fun z=>c2 (V.str.inj z)) ⟨rfl,rfl,by rw [eb,h0,decide_eq_false c1,decide_eq_false c2]; rfl⟩
  | false =>
   refine d7 ⟨_,rfl,rfl,nm',_,rfl,rfl,_,rfl,?_⟩
   cases h1:HM nm' (tz ":parts") with
   | false=>exact d7 (d7 ⟨Fy _,fun u hu=>q u _ (af.new (af.refl H) hu _) hu (by rw [ae,nob (by rw [eb,h0,h1]; rfl)]; rfl)⟩)
   | true =>
    refine dq ⟨_,rfl,rfl,_,rfl,?_⟩
    by_cases c1:nm' = "cars>codes"
    ·exact gc (congrArg V.str c1) (d7 ⟨Fy _,fun u hu=>q u _ (af.new (af.refl H) hu _) hu (by rw [ae,nob (by rw [eb,decide_eq_true c1]; simp)]; rfl)⟩)
    refine dU (fun z=>c1 (V.str.inj z)) ⟨_,rfl,rfl,_,rfl,?_⟩
    by_cases c2:nm' = "codes>cars"
    ·exact gc (congrArg V.str c2) ⟨Fy _,fun u hu=>q u _ (af.new (af.refl H) hu _) hu (by rw [ae,nob (by rw [eb,decide_eq_true c2]; simp)]; rfl)⟩
    exact dU (fun z=>c2 (V.str.inj z)) ⟨rfl,rfl,by rw [eb,h0,h1,decide_eq_false c1,decide_eq_false c2]; rfl⟩
 rintro σ H' ⟨rfl,rfl,hbr⟩
 have e:pO (nm',fi,la,ba)=(bB fi).filter fun x=>decide (x∈bB la):=(if_neg (by rw [hm]; decide)).trans (if_neg (by rw [hbr]; decide))
 rw [e] at q
 have lm:∀ w,(bB w).length<=3:=fun w=>by unfold bB; split; decide; split<;>decide
 have lm1:=lm fi
 have lml:((bB fi).map V.str).length=(bB fi).length:=Ff _
 refine ⟨_,rfl,fi,rfl,fun pm5 H5 s5 f5 h5=>?_⟩
 refine ⟨pm5,rfl,⟨_,av.of h5⟩,fun D hD=>eX (xs:=(bB fi).map V.str) (fun k ys H'=>af H5 H'/\H' D=some (.lst ys)/\ys=(((bB fi).take k).filter fun x=>decide (x∈bB la)).map V.str/\k<=(bB fi).length) (sz (by lia)) ⟨af.new (af.refl H5) hD _,ae,rfl,Fy _⟩ (fun k ys H' hk h=>⟨av.of (h.1 _ _ h5),?_⟩) (fun k v ys H' R R0 hx h r' r0=>?_) (fun ys H' h=>?_)⟩
 ·rw [h.2.2.1,Ff]
  exact FW (GN _ _) (by rw [Ga]; lia)
 ·obtain ⟨sk,hy,ey,hk⟩:=h
  obtain ⟨c',hc,rfl⟩:∃ c',(bB fi)[k]? = some c'/\v=V.str c':=by
   rw [FN] at hx
   cases e:(bB fi)[k]? with
   | none=>rw [e] at hx; cases hx
   | some d=>rw [e] at hx; exact ⟨d,rfl,(Fw hx).symm⟩
  have hW:k < (bB fi).length:=(Fj.mp hc).1
  have etk:((bB fi).take (k+1)).filter (fun x=>decide (x∈bB la))=((bB fi).take k).filter (fun x=>decide (x∈bB la))++if c'∈bB la then [c'] else []:=by
   rw [FS,hc,Hv]
   refine congrArg _ ?_
   show Jm _ [c']=_
   rw [Ht]
   by_cases z:c'∈bB la
   ·rw [if_pos z,if_pos (decide_eq_true z)]; rfl
   ·rw [if_neg z,if_neg (by rw [decide_eq_false z]; decide)]; rfl
  refine ⟨Ext.set rfl,_,rfl,_,rfl,la,rfl,fun po H6 s6 f6 h6=>⟨po,_,rfl,.inl (av.of h6),rfl,fU _,_,rfl,?_⟩⟩
  have hy6:=s6 _ _ hy
  by_cases z:c'∈bB la
  ·rw [if_pos z] at etk
   refine eqT (by rw [eZ]; exact decide_eq_true z) ⟨_,rfl,r' _ _ hy6 ⟨(sk.trans s6).upd hD _,ae,?_,hW⟩⟩
   rw [etk,Fx,<- ey]
   rfl
  ·rw [if_neg z,FR] at etk
   exact kP (by rw [eZ]; exact decide_eq_false z) (r0 _ ⟨sk.trans s6,hy6,by rw [etk,ey],hW⟩)
 ·obtain ⟨sk,hy,ey,_⟩:=h
  rw [FL (by lia)] at ey
  rw [ey] at hy
  exact q D _ (s5.trans sk) (s5.free hD) hy
theorem Dw (F:bg K "_law_marks_of_all" "_law_marks_of_all" oE f fd) {f0:Fe} {fd0:Fh} (vw:Def P w K mg base "_law_carried" ["_law_row"] 2 (tF K ca) f0 fd0):aF P w K mg base bC 3 f fd ["_law_rows"] (uZ K ca):=by
 refine F.ok qN (fun vs H Q E h=>?_) (fun cdv A outer s H vs Q E hr h=>?_)
 ·obtain ⟨p,rs,rfl,⟨xs,hp,hw⟩,hin,h12,q⟩:=h
  rfl
 obtain ⟨p,rs,rfl,⟨xs,hp,hw⟩,hin,h12,q⟩:=h
 refine ⟨_,ao (aC (i:=1) qN.nd rfl (FP rfl) (bb (aa ai (aa ai (aa ai (aa ai (aa ai ah)))))))
  (ao (cX Gj rfl (bY (pv 0)) (aN (i:=2) qN.nd rfl (Jx rfl)) (ar (gF (i:=1) qN.nd rfl (FP rfl) rfl rfl (bY (pv 1)) rfl rfl rfl rfl (N:=["_law_one","_law_row"]) (.own (.cap (j:=2) rfl rfl rfl .nil)) (fun _ _ _ _ _ _=>(aN (i:=0) (by show Hm (["_law_one","_law_row"]:List Str); decide +kernel) rfl (FP rfl))) (fun _ _ _ _ _ _=>(jc (aH (ig (K:=K) rfl) (pv 0) (bc vw hr (aa (pv 1) ah)) (by rfl)))) (fun _ _ _ _ _ _=>(pv 0)))))
  (ar (aA (pv 1)))),?_⟩
 have z:1000<=sizeLine:=by decide
 have lx:xs.length=rs.length:=hw.length
 refine ⟨(by show 5<=sizeLine; decide),fun pf hpf=>?_⟩
 have k1:=af.new (af.refl H) hpf (.lst [V.str (tz "peaks"),V.str (tz "returns"),V.str (tz "height"),V.str (tz "leaves"),V.str (tz "rootage")])
 have e1:upd H pf (.lst [V.str (tz "peaks"),V.str (tz "returns"),V.str (tz "height"),V.str (tz "leaves"),V.str (tz "rootage")]) pf=some (.lst (gJ.map V.str)):=ae
 have hp1:=k1 _ _ hp
 have hw1:=aK hw k1
 have lf:gJ.length=5:=rfl
 generalize upd H pf (.lst [V.str (tz "peaks"),V.str (tz "returns"),V.str (tz "height"),V.str (tz "leaves"),V.str (tz "rootage")])=H1 at k1 e1 hp1 hw1 |-
 refine ⟨_,rfl,p,rfl,⟨_,av.of hp1⟩,gx (xs:=xs) (fun k σ H'=>∃ (u:Fe) (o:Option V),σ=[some (.ref p),some (.ref u),o]/\af H1 H'/\H u=none/\H' u=some (.lst ((gJ.filter fun x=>(rs.take k).all fun r=>decide (x∈dA r)).map V.str))) ⟨pf,_,rfl,af.refl H1,hpf,?_⟩ (fun i σ H' _ h=>by obtain ⟨_,_,_,s,_⟩:=h; exact av.of (s _ _ hp1)) ?_ ?_⟩
 ·rw [e1]
  rfl
 ·rintro k v σ H2 hv ⟨u,o,rfl,s2,sr,hu⟩
  have hk':k < rs.length:=by have:=(Fj.mp hv).1; lia
  have hr':rs[k]? = some rs[k]:=Fk hk'
  generalize rs[k]=r at hr'
  obtain ⟨a,ea,ha⟩:=px hw1 hr'
  rw [hv] at ea
  cases ea
  have rin:=hin r (FJ hr')
  have fm:=wA hr'
  have lm:(gJ.filter fun x=>(rs.take k).all fun r=>decide (x∈dA r)).length<=5:=GN _ _
  generalize (gJ.filter fun x=>(rs.take k).all fun r=>decide (x∈dA r))=ms at hu fm lm
  have lml:(ms.map V.str).length=ms.length:=Ff _
  have ha2:=s2 _ _ ha
  refine ⟨_,rfl,u,rfl,⟨_,av.of hu⟩,fun D hD=>eX (xs:=ms.map V.str) (fun j zs H3=>af H2 H3/\H3 D=some (.lst zs)/\zs=((ms.take j).filter fun x=>decide (x∈dA r)).map V.str/\j<=ms.length) (sz (by lia)) ⟨af.new (af.refl H2) hD _,ae,rfl,Fy _⟩ (fun j zs H3 hj h=>⟨av.of (h.1 _ _ hu),?_⟩) (fun j v zs H3 R R0 hx h r' r0=>?_) (fun zs H3 h=>?_)⟩
  ·rw [h.2.2.1,Ff]
   exact FW (GN _ _) (by rw [Ga]; lia)
  ·obtain ⟨s3,hz,ez,hj⟩:=h
   obtain ⟨x,hxx,rfl⟩:∃ x,ms[j]? = some x/\v=V.str x:=by
    rw [FN] at hx
    cases e:ms[j]? with
    | none=>rw [e] at hx; cases hx
    | some d=>rw [e] at hx; exact ⟨d,rfl,(Fw hx).symm⟩
   have hj1:=(Fj.mp hxx).1
   have etk:((ms.take (j+1)).filter fun x=>decide (x∈dA r))=((ms.take j).filter fun x=>decide (x∈dA r))++if x∈dA r then [x] else []:=by
    rw [FS,hxx,Hv]
    refine congrArg _ ?_
    show Jm _ [x]=_
    rw [Ht]
    by_cases z:x∈dA r
    ·rw [if_pos z,if_pos (decide_eq_true z)]; rfl
    ·rw [if_neg z,if_neg (by rw [decide_eq_false z]; decide)]; rfl
   refine ⟨Ext.set rfl,_,rfl,_,rfl,a,r,rfl,s3 _ _ ha2,fun u5 H5 s5 f5 h5=>?_⟩
   rw [<- A7 rin] at h5
   refine ⟨u5,_,rfl,.inl (av.of h5),rfl,fU _,_,rfl,?_⟩
   by_cases c:x∈dA r
   ·rw [if_pos c] at etk
    refine eqT (by rw [eZ]; exact decide_eq_true c) ⟨_,rfl,r' _ _ (s5 _ _ hz) ⟨(s3.trans s5).upd hD _,ae,?_,hj1⟩⟩
    rw [etk,Fx,<- ez]
    rfl
   ·rw [if_neg c,FR] at etk
    exact kP (by rw [eZ]; exact decide_eq_false c) (r0 _ ⟨s3.trans s5,s5 _ _ hz,by rw [etk,ez],hj1⟩)
  ·obtain ⟨s3,hz,ez,_⟩:=h
   rw [lml,FL (Fg _)] at ez
   rw [ez] at hz
   exact ⟨D,_,rfl,s2.trans s3,(k1.trans s2).free hD,by rw [hz,fm]⟩
 ·rintro σ H2 ⟨u,o,rfl,s2,sr,hu⟩
  rw [lx,FL (Fg _)] at hu
  exact ⟨_,rfl,q u H2 (k1.trans s2) sr hu⟩
theorem AV (F:bg K "law" "law" il f fd) {f0:Fe} {fd0:Fh} (v8:Def P w K mg base "_law_drawn" ["_law_script"] 3 (sE K ca) f0 fd0) {f1:Fe} {fd1:Fh} (uM:Def P w K mg base "_law_due" ["_law_rows"] 1 (sO K ca) f1 fd1) {f2:Fe} {fd2:Fh} (uL:Def P w K mg base "_law_refusal" ["_law_kind","_law_names"] 15 (sT K ca er) f2 fd2) {f3:Fe} {fd3:Fh} (qS:Def P w K mg base "_law_texts" ["_law_found","_law_due_here"] 1 (rq K ca) f3 fd3) {f4:Fe} {fd4:Fh} (mB:Def P w K mg base "chain_back" ["names"] 13 (nL K ca er) f4 fd4) {f5:Fe} {fd5:Fh} (yh:Def P w K mg base "_law_marks_of_all" ["_law_rows"] 3 (uZ K ca) f5 fd5) {f6:Fe} {fd6:Fh} (mf:Def P w K mg base "carried" ["names"] 13 (nN K ca er) f6 fd6) (bP:mg "range" = none) (gH:mg "list" = none) (fX:mg "reversed" = none):aF P w K mg base bC 16 f fd ["_law_script"] (Ba K ca er):=by
 refine F.ok iI (fun vs H Q E h=>?_) (fun cdv A outer s H vs Q E hr h=>?_)
 ·obtain ⟨a,ns,rfl,hS,h63,gr,q⟩:=h
  rfl
 obtain ⟨a,ns,rfl,hS,h63,gr,q⟩:=h
 refine ⟨_,ao (aC (i:=1) iI.nd rfl (FP rfl) (bc v8 hr (aa (pv 0) ah)))
  (ao (gF (i:=2) iI.nd rfl (FP rfl) rfl rfl (bY (pv 1)) rfl rfl rfl rfl (N:=["_law_row"]) (.own .nil) (fun _ _ _ _ _ _=>(aN (i:=0) (by show Hm (["_law_row"]:List Str); decide +kernel) rfl (FP rfl))) (fun _ _ _ _ _ _=>gN) (fun _ _ _ _ _ _=>(aX (pR (K:=K) rfl) (pv 0) az (fun _ _=>rfl))))
  (ao (aC (i:=3) iI.nd rfl (FP rfl) (bc uM hr (aa (pv 1) ah)))
  (ao (cX Gj rfl (fM rfl bP (aa az ah)) (aN (i:=4) iI.nd rfl (FP rfl)) (ao (aC (i:=5) iI.nd rfl (FP rfl) (qk rK rfl gH oX (aa (pv 2) ah)))
  (ar (bA (PW.pt (gA (aH (jV (sr hr)) (bc uL hr (aa (pv 4) (aa (pv 5) ah))) (pv 3) (aL _)) (gY (aH (jV (sr hr)) (pv 5) (pv 2) (aL _))))) (ar (aA oq)) aQ))))
  (ao (bA (aH (jV (sr hr)) (pv 3) (bb ah) (aL _)) (ar (aA oq)) aQ)
  (ao (gF (i:=6) iI.nd rfl (FP rfl) rfl rfl (ud rfl fX (aa (pv 1) ah)) rfl rfl rfl rfl (N:=["_law_row"]) (.own .nil) (fun _ _ _ _ _ _=>(aN (i:=0) (by show Hm (["_law_row"]:List Str); decide +kernel) rfl (FP rfl))) (fun _ _ _ _ _ _=>gN) (fun _ _ _ _ _ _=>(aX (pR (K:=K) rfl) (pv 0) az (fun _ _=>rfl))))
  (ar (aA (sA (bc qS hr (aa (bc mB hr (aa (pv 2) ah)) (aa (pv 6) ah))) (sI (bc qS hr (aa (bc mf hr (aa (pv 2) ah)) (aa (bc yh hr (aa (pv 1) ah)) ah)))))))))))),?_⟩
 have z:1000<=sizeLine:=by decide
 refine ⟨_,rfl,a,ns,rfl,hS,h63,fun pr rs H1 s1 f1 w1 hrw h12=>?_⟩
 obtain ⟨xr,er1,wr⟩:=w1
 have lx:xr.length=rs.length:=wr.length
 refine ⟨_,rfl,pr,rfl,⟨_,av.of er1⟩,fun D hD=>eX (xs:=xr) (fun k ys H'=>af H1 H'/\H' D=some (.lst ys)/\ys=(rs.take k).map (fun r=>V.str r.1)/\k<=rs.length) (sz (by lia)) ⟨af.new (af.refl H1) hD _,ae,rfl,Fy _⟩ (fun k ys H' hk h=>⟨av.of (h.1 _ _ er1),by rw [h.2.2.1,Ff,Ga]; lia⟩) (fun k v ys H' R R0 hx h r' r0=>?_) (fun ys H2 h=>?_)⟩
 ·obtain ⟨sk,hy,ey,hk⟩:=h
  obtain ⟨r,hr',b,rfl,hb⟩:=o9 wr hx
  have hW:=(Fj.mp hr').1
  refine ⟨Ext.set rfl,_,rfl,b,_,_,_,rfl,rfl,bJ.of (sk _ _ hb),rfl,r' _ _ hy ⟨sk.upd hD _,ae,?_,hW⟩⟩
  rw [FS,hr',Fx,<- ey]
  rfl
 obtain ⟨sk,hD2,ey,_⟩:=h
 rw [lx,FL (Fg _)] at ey
 rw [ey] at hD2
 have t2:=s1.trans sk
 have wr2:=aK wr sk
 refine ⟨_,rfl,pr,rs,rfl,⟨xr,sk _ _ er1,wr2⟩,h12,fun pu H3 s3 f3 h3=>?_⟩
 have t3:=t2.trans s3
 have hD3:=s3 _ _ hD2
 refine ⟨_,rfl,by decide,by decide,fP (lo:=0) (n:=3) (fun k σ H'=>∃ (o1 o2:Option V),σ=[some (.ref a),some (.ref pr),some (.ref D),some (.ref pu),o1,o2,none]/\af H3 H') ⟨_,_,rfl,af.refl H3⟩ ?_ ?_⟩
 ·rintro k σ H4 hk ⟨o1,o2,rfl,s4⟩
  have hD4:=s4 _ _ hD3
  refine ⟨_,rfl,D,_,rfl,.inl (av.of hD4),fun c hc=>?_⟩
  have kc:=af.new s4 hc (.lst (rs.map fun r=>V.str r.1))
  have ec:upd H4 c (.lst (rs.map fun r=>V.str r.1)) c=some (.lst (rs.map fun r=>V.str r.1)):=ae
  generalize upd H4 c (.lst (rs.map fun r=>V.str r.1))=H5 at kc ec |-
  refine ⟨_,rfl,_,rfl,_,c,rs,rfl,ec,hrw,h12,gr.same (t3.trans kc),fun u6 H6 s6 f6 h6=>?_⟩
  have k6:=kc.trans s6
  refine ⟨_,rfl,u6,pu,_,_,rfl,rfl,av.of h6,av.of (k6 _ _ h3),m4 _,m4 _,_,rfl,kP (by rw [yV]; rfl) ?_⟩
  refine ⟨_,rfl,_,rfl,c,D,_,_,rfl,rfl,av.of (s6 _ _ ec),av.of (k6 _ _ hD3),jB rs,jB rs,_,rfl,kP (by rw [vZ]; rfl) ?_⟩
  exact ⟨_,_,rfl,k6⟩
 ·rintro σ H4 ⟨o1,o2,rfl,s4⟩
  have h4:=s4 _ _ h3
  refine ⟨_,rfl,Fy _,fun pe hpe=>?_⟩
  have ke:=af.new s4 hpe (.lst [])
  have ke0:=af.new (af.refl H4) hpe (.lst [])
  have ee:upd H4 pe (.lst []) pe=some (.lst []):=ae
  generalize upd H4 pe (.lst [])=H5 at ke ke0 ee |-
  have t5:=t3.trans ke
  refine ⟨pu,pe,_,_,rfl,rfl,av.of (ke0 _ _ h4),av.of ee,m4 _,rfl,_,rfl,?_⟩
  cases hd:bz rs with
  | way=>exact eqT (by rw [ni]; rfl) (q _ t5)
  | brk n=>exact eqT (by rw [ni]; rfl) (q _ t5)
  | ok =>
   refine kP (by rw [ni]; rfl) ?_
   obtain ⟨_,allw⟩:=kE hd hrw
   have k15:=sk.trans (s3.trans ke)
   have er5:=k15 _ _ er1
   have wr5:=aK wr k15
   refine ⟨_,rfl,pr,_,rfl,av.of er5,fun B hB=>qt (xs:=xr) (fun k ys H'=>af H5 H'/\H' B=some (.lst ys)/\ys=(rs.reverse.take k).map (fun r=>V.str r.2.2.2)/\k<=rs.length) (sz (by lia)) ⟨af.new (af.refl H5) hB _,ae,rfl,Fy _⟩ (fun k ys H' hk h=>⟨av.of (h.1 _ _ er5),by rw [h.2.2.1,Ff,Ga]; lia⟩) (fun k v ys H' R R0 hk hx h r' r0=>?_) (fun ys H6 h=>?_)⟩
   ·obtain ⟨s6,hy,ey6,DL⟩:=h
    obtain ⟨r,hr',b,rfl,hb⟩:=o9 wr5 hx
    rw [lx] at hr' hk
    have hrev:rs.reverse[k]? = some r:=by rw [JE (by lia)]; exact hr'
    refine ⟨Ext.set rfl,_,rfl,b,_,_,_,rfl,rfl,bJ.of (s6 _ _ hb),rfl,r' _ _ hy ⟨s6.upd hB _,ae,?_,by lia⟩⟩
    rw [FS,hrev,Fx,<- ey6]
    rfl
   obtain ⟨s6,hB6,ey6,_⟩:=h
   rw [lx,FL (by simp)] at ey6
   rw [ey6] at hB6
   have t6:=t5.trans s6
   have k6:=ke.trans s6
   refine ⟨_,rfl,D,rs,rfl,k6 _ _ hD3,hrw,h12,gr.same t6,.inr (.inr ⟨hd,fun u7 H7 s7 f7 h7=>?_⟩)⟩
   have t7:=t6.trans s7
   have k7:=k6.trans s7
   rw [xc] at h7 hB6
   refine ⟨_,rfl,u7,B,rs.reverse.map (·.2.2.2),rfl,h7,s7 _ _ hB6,by simp; lia,_,rfl,d7 ?_⟩
   refine ⟨_,rfl,D,rs,rfl,k7 _ _ hD3,hrw,h12,gr.same t7,.inr (.inr ⟨hd,fun u8 H8 s8 f8 h8=>?_⟩)⟩
   have k8:=(sk.trans s3).trans (k7.trans s8)
   refine ⟨_,rfl,pr,rs,rfl,⟨xr,k8 _ _ er1,aK wr k8⟩,allw,h12,fun u9 H9 s9 f9 h9=>?_⟩
   have cl:=zK rs
   exact ⟨u8,u9,wG rs,rfl,s9 _ _ h8,h9,by lia,q _ (t7.trans (s8.trans s9))⟩
end
noncomputable def BA (K:FD) (T T2 D:Fe):Sp:=fun vs H Q _=>∃ (a:Fe) (ns:List Int),vs=[.ref a]/\av K H a (ns.map V.int)/\ns.length<=63/\(∃ oD,tw T T2 D #[] #[] oD pQ H)/\∀ H',af H H'->Q (.bl true) H'
theorem xn {P:List AC->Prop} (h:P []):∀ us:List AC,us.length=0->P us
 | [],_=>h
 | _::_,e=>nomatch e
theorem mI {n:Nat} {P:List AC->Prop} (h:∀ (a:AC) (us:List AC),us.length=n->P (a::us)):∀ us:List AC,us.length=n+1->P us
 | a::us,e=>h a us (Nat.succ.inj e)
 | [],e=>nomatch e
theorem gy {P:List AC->Prop} (h:P []):∀ us:List AC,us.length=0->P us:=xn h
theorem aW {P:List AC->Prop} (h:∀ a0:AC,P [a0]):∀ us:List AC,us.length=1->P us:=mI fun a0=>xn (h a0)
theorem fH {P:List AC->Prop} (h:∀ a0 a1:AC,P [a0,a1]):∀ us:List AC,us.length=2->P us:=mI fun a0=>mI fun a1=>xn (h a0 a1)
theorem ua {P:List AC->Prop} (h:∀ a0 a1 a2:AC,P [a0,a1,a2]):∀ us:List AC,us.length=3->P us:=mI fun a0=>mI fun a1=>mI fun a2=>xn (h a0 a1 a2)
theorem Ak {P:List AC->Prop} (h:∀ a0 a1 a2 a3:AC,P [a0,a1,a2,a3]):∀ us:List AC,us.length=4->P us:=mI fun a0=>mI fun a1=>mI fun a2=>mI fun a3=>xn (h a0 a1 a2 a3)
theorem all_mk {l:W.OpenLaw} {w:FU} {K:FD} {h:GG} {mg:Str->Option AC} {fa:Fe} (X:K.In h) (G:h.Ns mainGlobals mg) (hfa:mg "law" = some (.ref fa)) {aG:Fe} {aP:Fe} {a7:Fe} {bw:Fe} {bp:Fe} {aZ:Fe} {bu:Fe} {cf:Fe} {fW:Fe} {bo:Fe} {br:Fe} {bI:Fe} {cE:Fe} {eC:Fe} {eD:Fe} {eG:Fe} {eJ:Fe} {eo:Fe} {eS:Fe} {da:Fe} {cZ:Fe} {cw:Fe} {cy:Fe} {cq:Fe} {cn:Fe} {cF:Fe} {cG:Fe} {cA:Fe} {cu:Fe} {bX:Fe} {bV:Fe} {gB:Fe} {kA:Fe} {dO:Fe} {dG:Fe} {cV:Fe} {fN:Fe} {dF:Fe} {gu:Fe} {eF:Fe} {eO:Fe} {eL:Fe} {fA:Fe} {cQ:Fe} {eA:Fe} {ft:Fe} {dE:Fe} {eE:Fe} {dH:Fe} {eI:Fe} {eN:Fe} {dM:Fe} {fq:Fe} {dv:Fe} {fu:Fe} {dN:Fe} {fw:Fe} {fB:Fe} {dY:Fe} {fO:Fe} {d6:Fe} {dz:Fe} {fF:Fe} {dC:Fe} {dj:Fe} {dZ:Fe} {cM:Fe} {cD:Fe} {cW:Fe}
 {f1 f2 f3 f4 f5 f6 f7 f8 f9 f10 f11 f12 f13 f14 f15 f16 f17 f18 f19 f20 f21 f22 f23 f24 f25 f26 f27 f28 f29 f30 f31 f32 f33 f34 f35 f36 f37 f38 f39 f40 f41 f42 f43 f44 f45 f46 f47 f48 f49:Fe} {od1 an1 od2 an2 od3 an3 od4 an4 od5 an5 od6 an6 od7 an7 od8 an8 od9 an9 od10 an10 od11 an11 od12 an12 od13 an13 od14 an14 od15 an15 od16 an16 od17 an17 od18 an18 od19 an19 od20 an20 od21 an21 od22 an22 od23 an23 od24 an24 od25 an25 od26 an26 od27 an27 od28 an28 od29 an29 od30 an30 od31 an31 od32 an32 od33 an33 od34 an34 od35 an35 od36 an36 od37 an37 od38 an38 od39 an39 od40 an40 od41 an41 od42 an42 od43 an43 od44 an44 od45 an45 od46 an46 od47 an47 od48 an48 od49 an49:Option Fe} {sl1 sl2 sl3 sl4 sl5 sl6 sl7 sl8 sl9 sl10 sl11 sl12 sl13 sl14 sl15 sl16 sl17 sl18 sl19 sl20 sl21 sl22 sl23 sl24 sl25 sl26 sl27 sl28 sl29 sl30 sl31 sl32 sl33 sl34 sl35 sl36 sl37 sl38 sl39 sl40 sl41 sl42 sl43 sl44 sl45 sl46 sl47 sl48 sl49:Array (Option AC)} {oc1 kV1 dc1 pm1 cd1 ct1 oc2 kV2 dc2 pm2 cd2 ct2 oc3 kV3 dc3 pm3 cd3 ct3 oc4 kV4 dc4 pm4 cd4 ct4 oc5 kV5 dc5 pm5 cd5 ct5 oc6 kV6 dc6 pm6 cd6 ct6 oc7 kV7 dc7 pm7 cd7 ct7 oc8 kV8 dc8 pm8 cd8 ct8 oc9 kV9 dc9 pm9 cd9 ct9 oc10 kV10 dc10 pm10 cd10 ct10 oc11 kV11 dc11 pm11 cd11 ct11 oc12 kV12 dc12 pm12 cd12 ct12 oc13 kV13 dc13 pm13 cd13 ct13 oc14 kV14 dc14 pm14 cd14 ct14 oc15 kV15 dc15 pm15 cd15 ct15 oc16 kV16 dc16 pm16 cd16 ct16 oc17 kV17 dc17 pm17 cd17 ct17 oc18 kV18 dc18 pm18 cd18 ct18 oc19 kV19 dc19 pm19 cd19 ct19 oc20 kV20 dc20 pm20 ct20 oc21 kV21 dc21 pm21 cd21 ct21 oc22 kV22 dc22 pm22 cd22 ct22 oc23 kV23 dc23 pm23 cd23 ct23 oc24 kV24 dc24 pm24 cd24 ct24 oc25 kV25 dc25 pm25 cd25 ct25 oc26 kV26 dc26 pm26 cd26 ct26 oc27 kV27 dc27 pm27 ct27 oc28 kV28 dc28 pm28 cd28 ct28 oc29 kV29 dc29 pm29 cd29 ct29 oc30 kV30 dc30 pm30 cd30 ct30 oc31 kV31 dc31 pm31 cd31 ct31 oc32 kV32 dc32 pm32 cd32 ct32 oc33 kV33 dc33 pm33 cd33 ct33 oc34 kV34 dc34 pm34 cd34 ct34 oc35 kV35 dc35 pm35 cd35 ct35 oc36 kV36 dc36 pm36 cd36 ct36 oc37 kV37 dc37 pm37 cd37 ct37 oc38 kV38 dc38 pm38 cd38 ct38 oc39 kV39 dc39 pm39 cd39 ct39 oc40 kV40 dc40 pm40 cd40 ct40 oc41 kV41 dc41 pm41 cd41 ct41 oc42 kV42 dc42 pm42 cd42 ct42 oc43 kV43 dc43 pm43 cd43 ct43 oc44 kV44 dc44 pm44 cd44 ct44 oc45 kV45 dc45 pm45 cd45 ct45 oc46 kV46 dc46 pm46 cd46 ct46 oc47 kV47 dc47 pm47 cd47 ct47 oc48 kV48 dc48 pm48 cd48 ct48 oc49 kV49 dc49 pm49 cd49 ct49:AC}
  {cc T cc2 T2 D bm:Fe} {slB:Array (Option AC)} {odC:Option Fe} {vsC:Array AC} {slC:Array (Option AC)} {odC2:Option Fe} {vsC2:Array AC} {slC2:Array (Option AC)} {M_MARKS_ORDER:Fe} {sl_MARKS_ORDER:Array (Option AC)} {qK:Nat} {t0_MARKS_ORDER t1_MARKS_ORDER t2_MARKS_ORDER t3_MARKS_ORDER t4_MARKS_ORDER:Tok}
  (iY:Fs K mainGlobals "Brackets" = some (some (.ref aG)))
  (j7:Fs K mainGlobals "Stairs" = some (some (.ref aP)))
  (mW:Fs K mainGlobals "Twins" = some (some (.ref a7)))
  (pS:Fs K mainGlobals "Bows" = some (some (.ref bw)))
  (mQ:Fs K mainGlobals "Rooms" = some (some (.ref bp)))
  (kq:Fs K mainGlobals "Floors" = some (some (.ref aZ)))
  (ng:Fs K mainGlobals "Turns" = some (some (.ref bu)))
  (gK:Fs K mainGlobals "SplitFamily" = some (some (.ref cf)))
  (ki:Fs K mainGlobals "Family" = some (some (.ref fW)))
  (mR:Fs K mainGlobals "Codes" = some (some (.ref bo)))
  (m9:Fs K mainGlobals "Trees" = some (some (.ref br)))
  (oC:Fs K mainGlobals "Cars" = some (some (.ref bI)))
  (hJ:Fs K mainGlobals "RingFamily" = some (some (.ref cE)))
  {qQ:Fe} {c_way:Fe} {jy:Fe}
  (vp:Fs K mainGlobals "KinError" = some (some (.ref qQ)))
  (wt:Fs K mainGlobals "NoWay" = some (some (.ref c_way)))
  (mT:Fs K mainGlobals "Broken" = some (some (.ref jy)))
  (AL:FT K (.ref jy) "__init__" = some (some (.ref f7)))
  (ja:FT K (.ref aG) "__init__" = some (some (.ref f11)))
  (kM:FT K (.ref aP) "__init__" = some (some (.ref f12)))
  (m5:FT K (.ref a7) "__init__" = some (some (.ref f13)))
  (pW:FT K (.ref bw) "__init__" = some (some (.ref f14)))
  (nc:FT K (.ref bp) "__init__" = some (some (.ref f15)))
  (kN:FT K (.ref aZ) "__init__" = some (some (.ref f16)))
  (mX:FT K (.ref bu) "__init__" = some (some (.ref f17)))
  (m8:FT K (.ref bo) "__init__" = some (some (.ref f33)))
  (nj:FT K (.ref br) "__init__" = some (some (.ref f34)))
  (pP:FT K (.ref bI) "__init__" = some (some (.ref f35)))
  (cS:Jz K (.ref cf) (.type "type") "__init__" = some (.val (.ref f10)))
  (cR:Jj K (.ref cf) "__getattribute__" = some (some (.builtin "type.__getattribute__")))
  (cT:JX K cf (.type "type")=true)
  (fb:Jz K (.ref fW) (.type "type") "__init__" = some (.val (.ref f9)))
  (fj:Jj K (.ref fW) "__getattribute__" = some (some (.builtin "type.__getattribute__")))
  (fc:JX K fW (.type "type")=true)
  (dc:Jz K (.ref cE) (.type "type") "__init__" = some (.val (.ref f32)))
  (cU:Jj K (.ref cE) "__getattribute__" = some (some (.builtin "type.__getattribute__")))
  (cY:JX K cE (.type "type")=true)
  (a1:Fs K mainGlobals "_law_there_and_back" = some (some (.ref f1)))
  (l1:K.lookup f1=some ⟨oc1,od1,.func (Gm "_law_there_and_back" "_law_there_and_back" (aw pY) (au pY) (ag pY) .none kV1 dc1 pm1 an1 cd1 ct1),sl1⟩)
  (c1:FM K cd1 "_law_there_and_back" = true)
  (k1:FE K (.ref f1)=true)
  (a2:Fs K mainGlobals "_law_ways" = some (some (.ref f2)))
  (l2:K.lookup f2=some ⟨oc2,od2,.func (Gm "_law_ways" "_law_ways" (aw lX) (au lX) (ag lX) .none kV2 dc2 pm2 an2 cd2 ct2),sl2⟩)
  (c2:FM K cd2 "_law_ways" = true)
  (k2:FE K (.ref f2)=true)
  (a3:Fs K mainGlobals "_law_mix" = some (some (.ref f3)))
  (l3:K.lookup f3=some ⟨oc3,od3,.func (Gm "_law_mix" "_law_mix" (aw lC) (au lC) (ag lC) .none kV3 dc3 pm3 an3 cd3 ct3),sl3⟩)
  (c3:FM K cd3 "_law_mix" = true)
  (k3:FE K (.ref f3)=true)
  (a4:Fs K mainGlobals "_law_draws" = some (some (.ref f4)))
  (l4:K.lookup f4=some ⟨oc4,od4,.func (Gm "_law_draws" "_law_draws" (aw lO) (au lO) (ag lO) .none kV4 dc4 pm4 an4 cd4 ct4),sl4⟩)
  (c4:FM K cd4 "_law_draws" = true)
  (k4:FE K (.ref f4)=true)
  (a5:Fs K mainGlobals "_law_drawn" = some (some (.ref f5)))
  (l5:K.lookup f5=some ⟨oc5,od5,.func (Gm "_law_drawn" "_law_drawn" (aw lA) (au lA) (ag lA) .none kV5 dc5 pm5 an5 cd5 ct5),sl5⟩)
  (c5:FM K cd5 "_law_drawn" = true)
  (k5:FE K (.ref f5)=true)
  (a6:Fs K mainGlobals "_law_due" = some (some (.ref f6)))
  (l6:K.lookup f6=some ⟨oc6,od6,.func (Gm "_law_due" "_law_due" (aw lU) (au lU) (ag lU) .none kV6 dc6 pm6 an6 cd6 ct6),sl6⟩)
  (c6:FM K cd6 "_law_due" = true)
  (k6:FE K (.ref f6)=true)
  (l7:K.lookup f7=some ⟨oc7,od7,.func (Gm "__init__" "Broken.__init__" (aw pX) (au pX) (ag pX) .none kV7 dc7 pm7 an7 cd7 ct7),sl7⟩)
  (c7:FM K cd7 "Broken.__init__" = true)
  (k7:FE K (.ref f7)=true)
  (i7:IT K (.ref f7)=true)
  (a8:Fs K mainGlobals "direct_ways" = some (some (.ref f8)))
  (l8:K.lookup f8=some ⟨oc8,od8,.func (Gm "direct_ways" "direct_ways" (aw iV) (au iV) (ag iV) .none kV8 dc8 pm8 an8 cd8 ct8),sl8⟩)
  (c8:FM K cd8 "direct_ways" = true)
  (k8:FE K (.ref f8)=true)
  (l9:K.lookup f9=some ⟨oc9,od9,.func (Gm "__init__" "Family.__init__" (aw oG) (au oG) (ag oG) .none kV9 dc9 pm9 an9 cd9 ct9),sl9⟩)
  (c9:FM K cd9 "Family.__init__" = true)
  (k9:FE K (.ref f9)=true)
  (i9:IT K (.ref f9)=true)
  (l10:K.lookup f10=some ⟨oc10,od10,.func (Gm "__init__" "SplitFamily.__init__" (aw oN) (au oN) (ag oN) .none kV10 dc10 pm10 an10 cd10 ct10),sl10⟩)
  (c10:FM K cd10 "SplitFamily.__init__" = true)
  (k10:FE K (.ref f10)=true)
  (i10:IT K (.ref f10)=true)
  (l11:K.lookup f11=some ⟨oc11,od11,.func (Gm "__init__" "Brackets.__init__" (aw oP) (au oP) (ag oP) .none kV11 dc11 pm11 an11 cd11 ct11),sl11⟩)
  (c11:FM K cd11 "Brackets.__init__" = true)
  (k11:FE K (.ref f11)=true)
  (i11:IT K (.ref f11)=true)
  (l12:K.lookup f12=some ⟨oc12,od12,.func (Gm "__init__" "Stairs.__init__" (aw pk) (au pk) (ag pk) .none kV12 dc12 pm12 an12 cd12 ct12),sl12⟩)
  (c12:FM K cd12 "Stairs.__init__" = true)
  (k12:FE K (.ref f12)=true)
  (i12:IT K (.ref f12)=true)
  (l13:K.lookup f13=some ⟨oc13,od13,.func (Gm "__init__" "Twins.__init__" (aw pM) (au pM) (ag pM) .none kV13 dc13 pm13 an13 cd13 ct13),sl13⟩)
  (c13:FM K cd13 "Twins.__init__" = true)
  (k13:FE K (.ref f13)=true)
  (i13:IT K (.ref f13)=true)
  (l14:K.lookup f14=some ⟨oc14,od14,.func (Gm "__init__" "Bows.__init__" (aw lJ) (au lJ) (ag lJ) .none kV14 dc14 pm14 an14 cd14 ct14),sl14⟩)
  (c14:FM K cd14 "Bows.__init__" = true)
  (k14:FE K (.ref f14)=true)
  (i14:IT K (.ref f14)=true)
  (l15:K.lookup f15=some ⟨oc15,od15,.func (Gm "__init__" "Rooms.__init__" (aw lY) (au lY) (ag lY) .none kV15 dc15 pm15 an15 cd15 ct15),sl15⟩)
  (c15:FM K cd15 "Rooms.__init__" = true)
  (k15:FE K (.ref f15)=true)
  (i15:IT K (.ref f15)=true)
  (l16:K.lookup f16=some ⟨oc16,od16,.func (Gm "__init__" "Floors.__init__" (aw oH) (au oH) (ag oH) .none kV16 dc16 pm16 an16 cd16 ct16),sl16⟩)
  (c16:FM K cd16 "Floors.__init__" = true)
  (k16:FE K (.ref f16)=true)
  (i16:IT K (.ref f16)=true)
  (l17:K.lookup f17=some ⟨oc17,od17,.func (Gm "__init__" "Turns.__init__" (aw md) (au md) (ag md) .none kV17 dc17 pm17 an17 cd17 ct17),sl17⟩)
  (c17:FM K cd17 "Turns.__init__" = true)
  (k17:FE K (.ref f17)=true)
  (i17:IT K (.ref f17)=true)
  (a18:Fs K mainGlobals "split_families" = some (some (.ref f18)))
  (l18:K.lookup f18=some ⟨oc18,od18,.func (Gm "split_families" "split_families" (aw lT) (au lT) (ag lT) .none kV18 dc18 pm18 an18 cd18 ct18),sl18⟩)
  (c18:FM K cd18 "split_families" = true)
  (k18:FE K (.ref f18)=true)
  (a19:Fs K mainGlobals "parts_name" = some (some (.ref f19)))
  (l19:K.lookup f19=some ⟨oc19,od19,.func (Gm "parts_name" "parts_name" (aw kS) (au kS) (ag kS) .none kV19 dc19 pm19 an19 cd19 ct19),sl19⟩)
  (c19:FM K cd19 "parts_name" = true)
  (k19:FE K (.ref f19)=true)
  (a20:Fs K mainGlobals "parts_way" = some (some (.ref f20)))
  (l20:K.lookup f20=some ⟨oc20,od20,.func (Gm "parts_way" "parts_way" (aw jI) (au jI) (ag jI) .none kV20 dc20 pm20 an20 (Fv cc) ct20),sl20⟩)
  (c20:FM K (Fv cc) "parts_way" = true)
  (k20:FE K (.ref f20)=true)
  (a21:Fs K mainGlobals "parts_ways" = some (some (.ref f21)))
  (l21:K.lookup f21=some ⟨oc21,od21,.func (Gm "parts_ways" "parts_ways" (aw mj) (au mj) (ag mj) .none kV21 dc21 pm21 an21 cd21 ct21),sl21⟩)
  (c21:FM K cd21 "parts_ways" = true)
  (k21:FE K (.ref f21)=true)
  (a22:Fs K mainGlobals "turning_ways" = some (some (.ref f22)))
  (l22:K.lookup f22=some ⟨oc22,od22,.func (Gm "turning_ways" "turning_ways" (aw iQ) (au iQ) (ag iQ) .none kV22 dc22 pm22 an22 cd22 ct22),sl22⟩)
  (c22:FM K cd22 "turning_ways" = true)
  (k22:FE K (.ref f22)=true)
  (a23:Fs K mainGlobals "all_ways" = some (some (.ref f23)))
  (l23:K.lookup f23=some ⟨oc23,od23,.func (Gm "all_ways" "all_ways" (aw kY) (au kY) (ag kY) .none kV23 dc23 pm23 an23 cd23 ct23),sl23⟩)
  (c23:FM K cd23 "all_ways" = true)
  (k23:FE K (.ref f23)=true)
  (a24:Fs K mainGlobals "way_of" = some (some (.ref f24)))
  (l24:K.lookup f24=some ⟨oc24,od24,.func (Gm "way_of" "way_of" (aw lH) (au lH) (ag lH) .none kV24 dc24 pm24 an24 cd24 ct24),sl24⟩)
  (c24:FM K cd24 "way_of" = true)
  (k24:FE K (.ref f24)=true)
  (a25:Fs K mainGlobals "ends" = some (some (.ref f25)))
  (l25:K.lookup f25=some ⟨oc25,od25,.func (Gm "ends" "ends" (aw lQ) (au lQ) (ag lQ) .none kV25 dc25 pm25 an25 cd25 ct25),sl25⟩)
  (c25:FM K cd25 "ends" = true)
  (k25:FE K (.ref f25)=true)
  (a26:Fs K mainGlobals "chain_ends" = some (some (.ref f26)))
  (l26:K.lookup f26=some ⟨oc26,od26,.func (Gm "chain_ends" "chain_ends" (aw kT) (au kT) (ag kT) .none kV26 dc26 pm26 an26 cd26 ct26),sl26⟩)
  (c26:FM K cd26 "chain_ends" = true)
  (k26:FE K (.ref f26)=true)
  (a27:Fs K mainGlobals "chain" = some (some (.ref f27)))
  (l27:K.lookup f27=some ⟨oc27,od27,.func (Gm "chain" "chain" (aw jO) (au jO) (ag jO) .none kV27 dc27 pm27 an27 (Fv cc2) ct27),sl27⟩)
  (c27:FM K (Fv cc2) "chain" = true)
  (k27:FE K (.ref f27)=true)
  (a28:Fs K mainGlobals "manner_of" = some (some (.ref f28)))
  (l28:K.lookup f28=some ⟨oc28,od28,.func (Gm "manner_of" "manner_of" (aw lG) (au lG) (ag lG) .none kV28 dc28 pm28 an28 cd28 ct28),sl28⟩)
  (c28:FM K cd28 "manner_of" = true)
  (k28:FE K (.ref f28)=true)
  (a29:Fs K mainGlobals "back_of" = some (some (.ref f29)))
  (l29:K.lookup f29=some ⟨oc29,od29,.func (Gm "back_of" "back_of" (aw lI) (au lI) (ag lI) .none kV29 dc29 pm29 an29 cd29 ct29),sl29⟩)
  (c29:FM K cd29 "back_of" = true)
  (k29:FE K (.ref f29)=true)
  (a30:Fs K mainGlobals "chain_back" = some (some (.ref f30)))
  (l30:K.lookup f30=some ⟨oc30,od30,.func (Gm "chain_back" "chain_back" (aw mm) (au mm) (ag mm) .none kV30 dc30 pm30 an30 cd30 ct30),sl30⟩)
  (c30:FM K cd30 "chain_back" = true)
  (k30:FE K (.ref f30)=true)
  (a31:Fs K mainGlobals "carries" = some (some (.ref f31)))
  (l31:K.lookup f31=some ⟨oc31,od31,.func (Gm "carries" "carries" (aw me) (au me) (ag me) .none kV31 dc31 pm31 an31 cd31 ct31),sl31⟩)
  (c31:FM K cd31 "carries" = true)
  (k31:FE K (.ref f31)=true)
  (l32:K.lookup f32=some ⟨oc32,od32,.func (Gm "__init__" "RingFamily.__init__" (aw pC) (au pC) (ag pC) .none kV32 dc32 pm32 an32 cd32 ct32),sl32⟩)
  (c32:FM K cd32 "RingFamily.__init__" = true)
  (k32:FE K (.ref f32)=true)
  (i32:IT K (.ref f32)=true)
  (l33:K.lookup f33=some ⟨oc33,od33,.func (Gm "__init__" "Codes.__init__" (aw lW) (au lW) (ag lW) .none kV33 dc33 pm33 an33 cd33 ct33),sl33⟩)
  (c33:FM K cd33 "Codes.__init__" = true)
  (k33:FE K (.ref f33)=true)
  (i33:IT K (.ref f33)=true)
  (l34:K.lookup f34=some ⟨oc34,od34,.func (Gm "__init__" "Trees.__init__" (aw lN) (au lN) (ag lN) .none kV34 dc34 pm34 an34 cd34 ct34),sl34⟩)
  (c34:FM K cd34 "Trees.__init__" = true)
  (k34:FE K (.ref f34)=true)
  (i34:IT K (.ref f34)=true)
  (l35:K.lookup f35=some ⟨oc35,od35,.func (Gm "__init__" "Cars.__init__" (aw kQ) (au kQ) (ag kQ) .none kV35 dc35 pm35 an35 cd35 ct35),sl35⟩)
  (c35:FM K cd35 "Cars.__init__" = true)
  (k35:FE K (.ref f35)=true)
  (i35:IT K (.ref f35)=true)
  (a36:Fs K mainGlobals "ring_families" = some (some (.ref f36)))
  (l36:K.lookup f36=some ⟨oc36,od36,.func (Gm "ring_families" "ring_families" (aw lV) (au lV) (ag lV) .none kV36 dc36 pm36 an36 cd36 ct36),sl36⟩)
  (c36:FM K cd36 "ring_families" = true)
  (k36:FE K (.ref f36)=true)
  (a37:Fs K mainGlobals "family_of" = some (some (.ref f37)))
  (l37:K.lookup f37=some ⟨oc37,od37,.func (Gm "family_of" "family_of" (aw mi) (au mi) (ag mi) .none kV37 dc37 pm37 an37 cd37 ct37),sl37⟩)
  (c37:FM K cd37 "family_of" = true)
  (k37:FE K (.ref f37)=true)
  (a38:Fs K mainGlobals "all_measures" = some (some (.ref f38)))
  (l38:K.lookup f38=some ⟨oc38,od38,.func (Gm "all_measures" "all_measures" (aw iO) (au iO) (ag iO) .none kV38 dc38 pm38 an38 cd38 ct38),sl38⟩)
  (c38:FM K cd38 "all_measures" = true)
  (k38:FE K (.ref f38)=true)
  (a39:Fs K mainGlobals "marks_of" = some (some (.ref f39)))
  (l39:K.lookup f39=some ⟨oc39,od39,.func (Gm "marks_of" "marks_of" (aw lF) (au lF) (ag lF) .none kV39 dc39 pm39 an39 cd39 ct39),sl39⟩)
  (c39:FM K cd39 "marks_of" = true)
  (k39:FE K (.ref f39)=true)
  (a40:Fs K mainGlobals "carried_by" = some (some (.ref f40)))
  (l40:K.lookup f40=some ⟨oc40,od40,.func (Gm "carried_by" "carried_by" (aw my) (au my) (ag my) .none kV40 dc40 pm40 an40 cd40 ct40),sl40⟩)
  (c40:FM K cd40 "carried_by" = true)
  (k40:FE K (.ref f40)=true)
  (a41:Fs K mainGlobals "carried" = some (some (.ref f41)))
  (l41:K.lookup f41=some ⟨oc41,od41,.func (Gm "carried" "carried" (aw lS) (au lS) (ag lS) .none kV41 dc41 pm41 an41 cd41 ct41),sl41⟩)
  (c41:FM K cd41 "carried" = true)
  (k41:FE K (.ref f41)=true)
  (a42:Fs K mainGlobals "_law_asked" = some (some (.ref f42)))
  (l42:K.lookup f42=some ⟨oc42,od42,.func (Gm "_law_asked" "_law_asked" (aw mn) (au mn) (ag mn) .none kV42 dc42 pm42 an42 cd42 ct42),sl42⟩)
  (c42:FM K cd42 "_law_asked" = true)
  (k42:FE K (.ref f42)=true)
  (a43:Fs K mainGlobals "_law_whole" = some (some (.ref f43)))
  (l43:K.lookup f43=some ⟨oc43,od43,.func (Gm "_law_whole" "_law_whole" (aw mr) (au mr) (ag mr) .none kV43 dc43 pm43 an43 cd43 ct43),sl43⟩)
  (c43:FM K cd43 "_law_whole" = true)
  (k43:FE K (.ref f43)=true)
  (a44:Fs K mainGlobals "_law_refusal" = some (some (.ref f44)))
  (l44:K.lookup f44=some ⟨oc44,od44,.func (Gm "_law_refusal" "_law_refusal" (aw lg) (au lg) (ag lg) .none kV44 dc44 pm44 an44 cd44 ct44),sl44⟩)
  (c44:FM K cd44 "_law_refusal" = true)
  (k44:FE K (.ref f44)=true)
  (a45:Fs K mainGlobals "_law_texts" = some (some (.ref f45)))
  (l45:K.lookup f45=some ⟨oc45,od45,.func (Gm "_law_texts" "_law_texts" (aw kX) (au kX) (ag kX) .none kV45 dc45 pm45 an45 cd45 ct45),sl45⟩)
  (c45:FM K cd45 "_law_texts" = true)
  (k45:FE K (.ref f45)=true)
  (a46:Fs K mainGlobals "_law_marks" = some (some (.ref f46)))
  (l46:K.lookup f46=some ⟨oc46,od46,.func (Gm "_law_marks" "_law_marks" (aw ma) (au ma) (ag ma) .none kV46 dc46 pm46 an46 cd46 ct46),sl46⟩)
  (c46:FM K cd46 "_law_marks" = true)
  (k46:FE K (.ref f46)=true)
  (a47:Fs K mainGlobals "_law_carried" = some (some (.ref f47)))
  (l47:K.lookup f47=some ⟨oc47,od47,.func (Gm "_law_carried" "_law_carried" (aw lj) (au lj) (ag lj) .none kV47 dc47 pm47 an47 cd47 ct47),sl47⟩)
  (c47:FM K cd47 "_law_carried" = true)
  (k47:FE K (.ref f47)=true)
  (a48:Fs K mainGlobals "_law_marks_of_all" = some (some (.ref f48)))
  (l48:K.lookup f48=some ⟨oc48,od48,.func (Gm "_law_marks_of_all" "_law_marks_of_all" (aw oE) (au oE) (ag oE) .none kV48 dc48 pm48 an48 cd48 ct48),sl48⟩)
  (c48:FM K cd48 "_law_marks_of_all" = true)
  (k48:FE K (.ref f48)=true)
  (a49:Fs K mainGlobals "law" = some (some (.ref f49)))
  (l49:K.lookup f49=some ⟨oc49,od49,.func (Gm "law" "law" (aw il) (au il) (ag il) .none kV49 dc49 pm49 an49 cd49 ct49),sl49⟩)
  (c49:FM K cd49 "law" = true)
  (k49:FE K (.ref f49)=true)
  (pg_Brackets:HE K aG GQ=true)
  (hd_Brackets:GZ K aG=true)
  (po_Brackets:Hs K aG=true)
  (sa_Brackets:FT K (.ref aG) "__setattr__" = some (some (.builtin "object.__setattr__")))
  (pg_Stairs:HE K aP GQ=true)
  (hd_Stairs:GZ K aP=true)
  (po_Stairs:Hs K aP=true)
  (sa_Stairs:FT K (.ref aP) "__setattr__" = some (some (.builtin "object.__setattr__")))
  (pg_Twins:HE K a7 GQ=true)
  (hd_Twins:GZ K a7=true)
  (po_Twins:Hs K a7=true)
  (sa_Twins:FT K (.ref a7) "__setattr__" = some (some (.builtin "object.__setattr__")))
  (pg_Bows:HE K bw GQ=true)
  (hd_Bows:GZ K bw=true)
  (po_Bows:Hs K bw=true)
  (sa_Bows:FT K (.ref bw) "__setattr__" = some (some (.builtin "object.__setattr__")))
  (pg_Rooms:HE K bp GQ=true)
  (hd_Rooms:GZ K bp=true)
  (po_Rooms:Hs K bp=true)
  (sa_Rooms:FT K (.ref bp) "__setattr__" = some (some (.builtin "object.__setattr__")))
  (pg_Floors:HE K aZ GQ=true)
  (hd_Floors:GZ K aZ=true)
  (po_Floors:Hs K aZ=true)
  (sa_Floors:FT K (.ref aZ) "__setattr__" = some (some (.builtin "object.__setattr__")))
  (pg_Turns:HE K bu GQ=true)
  (hd_Turns:GZ K bu=true)
  (po_Turns:Hs K bu=true)
  (sa_Turns:FT K (.ref bu) "__setattr__" = some (some (.builtin "object.__setattr__")))
  (pg_Codes:HE K bo GQ=true)
  (hd_Codes:GZ K bo=true)
  (po_Codes:Hs K bo=true)
  (sa_Codes:FT K (.ref bo) "__setattr__" = some (some (.builtin "object.__setattr__")))
  (pg_Trees:HE K br GQ=true)
  (hd_Trees:GZ K br=true)
  (po_Trees:Hs K br=true)
  (sa_Trees:FT K (.ref br) "__setattr__" = some (some (.builtin "object.__setattr__")))
  (pg_Cars:HE K bI GQ=true)
  (hd_Cars:GZ K bI=true)
  (po_Cars:Hs K bI=true)
  (sa_Cars:FT K (.ref bI) "__setattr__" = some (some (.builtin "object.__setattr__")))
  (mk_Brackets:Ia K aG=true)
  (kc_Brackets:FE K (.ref aG)=true)
  (mk_Stairs:Ia K aP=true)
  (kc_Stairs:FE K (.ref aP)=true)
  (mk_Twins:Ia K a7=true)
  (kc_Twins:FE K (.ref a7)=true)
  (mk_Bows:Ia K bw=true)
  (kc_Bows:FE K (.ref bw)=true)
  (mk_Rooms:Ia K bp=true)
  (kc_Rooms:FE K (.ref bp)=true)
  (mk_Floors:Ia K aZ=true)
  (kc_Floors:FE K (.ref aZ)=true)
  (mk_Turns:Ia K bu=true)
  (kc_Turns:FE K (.ref bu)=true)
  (mk_Codes:Ia K bo=true)
  (kc_Codes:FE K (.ref bo)=true)
  (mk_Trees:Ia K br=true)
  (kc_Trees:FE K (.ref br)=true)
  (mk_Cars:Ia K bI=true)
  (kc_Cars:FE K (.ref bI)=true)
  (bG:FT K (.ref aG) "word" = some none)
  (bQ:FT K (.ref aP) "word" = some none)
  (cm:FT K (.ref a7) "word" = some none)
  (cC:FT K (.ref bw) "word" = some none)
  (cg:FT K (.ref bp) "word" = some none)
  (bR:FT K (.ref aZ) "word" = some none)
  (bZ:FT K (.ref bu) "word" = some none)
  (cP:FT K (.ref aG) "least" = some none)
  (dJ:FT K (.ref aP) "least" = some none)
  (eK:FT K (.ref a7) "least" = some none)
  (fo:FT K (.ref bw) "least" = some none)
  (dX:FT K (.ref bp) "least" = some none)
  (dI:FT K (.ref aZ) "least" = some none)
  (eM:FT K (.ref bu) "least" = some none)
  (cL:FT K (.ref bo) "word" = some none)
  (cK:FT K (.ref br) "word" = some none)
  (dk:FT K (.ref bI) "word" = some none)
  (eR:FT K (.ref bo) "least" = some none)
  (d9:FT K (.ref br) "least" = some none)
  (fE:FT K (.ref bI) "least" = some none)
  (nf_code_to_cars:Fs K mainGlobals "code_to_cars" = some (some (.ref eC)))
  (nf_cars_to_code:Fs K mainGlobals "cars_to_code" = some (some (.ref eD)))
  (nf_cars_to_tree:Fs K mainGlobals "cars_to_tree" = some (some (.ref eG)))
  (nf_tree_to_cars:Fs K mainGlobals "tree_to_cars" = some (some (.ref eJ)))
  (nf_code_to_tree:Fs K mainGlobals "code_to_tree" = some (some (.ref eo)))
  (nf_tree_to_code:Fs K mainGlobals "tree_to_code" = some (some (.ref eS)))
  (nf_floor_to_twins:Fs K mainGlobals "floor_to_twins" = some (some (.ref da)))
  (nf_twins_to_floor:Fs K mainGlobals "twins_to_floor" = some (some (.ref cZ)))
  (nf_turns_to_brackets:Fs K mainGlobals "turns_to_brackets" = some (some (.ref cw)))
  (nf_brackets_to_turns:Fs K mainGlobals "brackets_to_turns" = some (some (.ref cy)))
  (nf_rooms_to_brackets:Fs K mainGlobals "rooms_to_brackets" = some (some (.ref cq)))
  (nf_brackets_to_rooms:Fs K mainGlobals "brackets_to_rooms" = some (some (.ref cn)))
  (nf_bows_to_brackets:Fs K mainGlobals "bows_to_brackets" = some (some (.ref cF)))
  (nf_brackets_to_bows:Fs K mainGlobals "brackets_to_bows" = some (some (.ref cG)))
  (nf_twins_to_brackets:Fs K mainGlobals "twins_to_brackets" = some (some (.ref cA)))
  (nf_brackets_to_twins:Fs K mainGlobals "brackets_to_twins" = some (some (.ref cu)))
  (nf_stairs_to_brackets:Fs K mainGlobals "stairs_to_brackets" = some (some (.ref bX)))
  (nf_brackets_to_stairs:Fs K mainGlobals "brackets_to_stairs" = some (some (.ref bV)))
  (nf_gapsback:Fs K mainGlobals "gapsback" = some (some (.ref gB)))
  (nf_gaps:Fs K mainGlobals "gaps" = some (some (.ref kA)))
  (nf_feet_to_rooms:Fs K mainGlobals "feet_to_rooms" = some (some (.ref dO)))
  (nf_rooms_to_feet:Fs K mainGlobals "rooms_to_feet" = some (some (.ref dG)))
  (nf_floor_turnback:Fs K mainGlobals "floor_turnback" = some (some (.ref cV)))
  (nf_floor_turn:Fs K mainGlobals "floor_turn" = some (some (.ref fN)))
  (nf_bows_turnback:Fs K mainGlobals "bows_turnback" = some (some (.ref dF)))
  (nf_bows_turn:Fs K mainGlobals "bows_turn" = some (some (.ref gu)))
  (nf_turns_mirror:Fs K mainGlobals "turns_mirror" = some (some (.ref eF)))
  (nf_floor_mirror:Fs K mainGlobals "floor_mirror" = some (some (.ref eO)))
  (nf_twins_mirror:Fs K mainGlobals "twins_mirror" = some (some (.ref eL)))
  (nf_bows_mirror:Fs K mainGlobals "bows_mirror" = some (some (.ref fA)))
  (nf_brackets_mirror:Fs K mainGlobals "brackets_mirror" = some (some (.ref cQ)))
  (nf_cars_rootage:Fs K mainGlobals "cars_rootage" = some (some (.ref eA)))
  (nf_cars_leaves:Fs K mainGlobals "cars_leaves" = some (some (.ref ft)))
  (nf_trees_rootage:Fs K mainGlobals "trees_rootage" = some (some (.ref dE)))
  (nf_trees_leaves:Fs K mainGlobals "trees_leaves" = some (some (.ref eE)))
  (nf_codes_rootage:Fs K mainGlobals "codes_rootage" = some (some (.ref dH)))
  (nf_codes_leaves:Fs K mainGlobals "codes_leaves" = some (some (.ref eI)))
  (nf_turns_height:Fs K mainGlobals "turns_height" = some (some (.ref eN)))
  (nf_turns_returns:Fs K mainGlobals "turns_returns" = some (some (.ref dM)))
  (nf_turns_peaks:Fs K mainGlobals "turns_peaks" = some (some (.ref fq)))
  (nf_floor_returns:Fs K mainGlobals "floor_returns" = some (some (.ref dv)))
  (nf_floor_peaks:Fs K mainGlobals "floor_peaks" = some (some (.ref fu)))
  (nf_rooms_returns:Fs K mainGlobals "rooms_returns" = some (some (.ref dN)))
  (nf_rooms_peaks:Fs K mainGlobals "rooms_peaks" = some (some (.ref fw)))
  (nf_bows_height:Fs K mainGlobals "bows_height" = some (some (.ref fB)))
  (nf_bows_returns:Fs K mainGlobals "bows_returns" = some (some (.ref dY)))
  (nf_bows_peaks:Fs K mainGlobals "bows_peaks" = some (some (.ref fO)))
  (nf_twins_height:Fs K mainGlobals "twins_height" = some (some (.ref d6)))
  (nf_twins_returns:Fs K mainGlobals "twins_returns" = some (some (.ref dz)))
  (nf_twins_peaks:Fs K mainGlobals "twins_peaks" = some (some (.ref fF)))
  (nf_stairs_height:Fs K mainGlobals "stairs_height" = some (some (.ref dC)))
  (nf_stairs_returns:Fs K mainGlobals "stairs_returns" = some (some (.ref dj)))
  (nf_stairs_peaks:Fs K mainGlobals "stairs_peaks" = some (some (.ref dZ)))
  (nf_brackets_height:Fs K mainGlobals "brackets_height" = some (some (.ref cM)))
  (nf_brackets_returns:Fs K mainGlobals "brackets_returns" = some (some (.ref cD)))
  (nf_brackets_peaks:Fs K mainGlobals "brackets_peaks" = some (some (.ref cW)))
  (lcC:K.lookup cc=some ⟨.type "code",odC,.fields vsC,slC⟩)
  (tC:lq vsC=some T)
  (nC:cc≠T)
  (lcC2:K.lookup cc2=some ⟨.type "code",odC2,.fields vsC2,slC2⟩)
  (tC2:lq vsC2=some T2)
  (nC2:cc2≠T2)
  (nB:Fs K mainGlobals "__builtins__" = some (some (.ref bm)))
  (lB:K.lookup bm=some ⟨.type "module",some builtinsNs,.plain,slB⟩)
  (neB:bm≠builtinsNs)
  (nDD:Fs K mainGlobals "OTHER_MANNERS" = some (some (.ref D)))
  (nM_MARKS_ORDER:Fs K mainGlobals "MARKS_ORDER" = some (some (.ref M_MARKS_ORDER)))
  (lM_MARKS_ORDER:K.lookup M_MARKS_ORDER=some ⟨.type "tuple",none,.seq #[.str "peaks" t0_MARKS_ORDER,.str "returns" t1_MARKS_ORDER,.str "height" t2_MARKS_ORDER,.str "leaves" t3_MARKS_ORDER,.str "rootage" t4_MARKS_ORDER] qK,sl_MARKS_ORDER⟩)
  (z_range:Fs K mainGlobals "range" = some none)
  (z_len:Fs K mainGlobals "len" = some none)
  (z_enumerate:Fs K mainGlobals "enumerate" = some none)
  (z_reversed:Fs K mainGlobals "reversed" = some none)
  (z_list:Fs K mainGlobals "list" = some none)
  (z_all:Fs K mainGlobals "all" = some none)
  (z_isinstance:Fs K mainGlobals "isinstance" = some none)
  (z_int:Fs K mainGlobals "int" = some none)
  (z_bool:Fs K mainGlobals "bool" = some none)
  (z_ValueError:Fs K mainGlobals "ValueError" = some none)
  (z_str:Fs K mainGlobals "str" = some none)
  (t_err:pA K ⟨qQ,c_way,jy,f7⟩=true)
  (tG:Jz K (.ref qQ) (.type "type") "__init__" = some (.val (.builtin "ValueError.__init__"))) :
  ∃ fd:Fh,(∀ (s:Do) (v:AC),Jv s fd ⟨[v],[]⟩ [("_law_script",v)])/\∀ base:GG,K.In base->base.Ns mainGlobals mg->aF l.prog w K mg base bC 16 fa fd ["_law_script"] (BA K T T2 D):=by
 have e:=hfa.symm.trans (Fn X G a49)
 cases e
 have EO:vX K mg ⟨qQ,c_way,jy,f7⟩:=A0 t_err tG (Fn X G vp) (Fn X G wt) (Fn X G mT)
 have CA:AB K mg ⟨aG,aP,a7,bw,bp,aZ,bu,cf,fW,bo,br,bI,cE,f9,f10,f11,f12,f13,f14,f15,f16,f17,f32,f33,f34,f35,eC,eD,eG,eJ,eo,eS,da,cZ,cw,cy,cq,cn,cF,cG,cA,cu,bX,bV,gB,kA,dO,dG,cV,fN,dF,gu,eF,eO,eL,fA,cQ,eA,ft,dE,eE,dH,eI,eN,dM,fq,dv,fu,dN,fw,fB,dY,fO,d6,dz,fF,dC,dj,dZ,cM,cD,cW,cc,T,cc2,T2,D,M_MARKS_ORDER⟩:=⟨Fn X G iY,Fn X G j7,Fn X G mW,Fn X G pS,Fn X G mQ,Fn X G kq,Fn X G ng,Fn X G gK,Fn X G ki,Fn X G mR,Fn X G m9,Fn X G oC,Fn X G hJ,⟨pg_Brackets,hd_Brackets,po_Brackets,sa_Brackets⟩,⟨pg_Stairs,hd_Stairs,po_Stairs,sa_Stairs⟩,⟨pg_Twins,hd_Twins,po_Twins,sa_Twins⟩,⟨pg_Bows,hd_Bows,po_Bows,sa_Bows⟩,⟨pg_Rooms,hd_Rooms,po_Rooms,sa_Rooms⟩,⟨pg_Floors,hd_Floors,po_Floors,sa_Floors⟩,⟨pg_Turns,hd_Turns,po_Turns,sa_Turns⟩,⟨pg_Codes,hd_Codes,po_Codes,sa_Codes⟩,⟨pg_Trees,hd_Trees,po_Trees,sa_Trees⟩,⟨pg_Cars,hd_Cars,po_Cars,sa_Cars⟩,⟨mk_Brackets,ja,i11,kc_Brackets⟩,⟨mk_Stairs,kM,i12,kc_Stairs⟩,⟨mk_Twins,m5,i13,kc_Twins⟩,⟨mk_Bows,pW,i14,kc_Bows⟩,⟨mk_Rooms,nc,i15,kc_Rooms⟩,⟨mk_Floors,kN,i16,kc_Floors⟩,⟨mk_Turns,mX,i17,kc_Turns⟩,⟨mk_Codes,m8,i33,kc_Codes⟩,⟨mk_Trees,nj,i34,kc_Trees⟩,⟨mk_Cars,pP,i35,kc_Cars⟩,⟨cR,cT,cS,k10⟩,⟨fj,fc,fb,k9⟩,⟨cU,cY,dc,k32⟩,bG,bQ,cm,cC,cg,bR,bZ,cP,dJ,eK,fo,dX,dI,eM,cL,cK,dk,eR,d9,fE,Fn X G nf_code_to_cars,Fn X G nf_cars_to_code,Fn X G nf_cars_to_tree,Fn X G nf_tree_to_cars,Fn X G nf_code_to_tree,Fn X G nf_tree_to_code,Fn X G nf_floor_to_twins,Fn X G nf_twins_to_floor,Fn X G nf_turns_to_brackets,Fn X G nf_brackets_to_turns,Fn X G nf_rooms_to_brackets,Fn X G nf_brackets_to_rooms,Fn X G nf_bows_to_brackets,Fn X G nf_brackets_to_bows,Fn X G nf_twins_to_brackets,Fn X G nf_brackets_to_twins,Fn X G nf_stairs_to_brackets,Fn X G nf_brackets_to_stairs,Fn X G nf_gapsback,Fn X G nf_gaps,Fn X G nf_feet_to_rooms,Fn X G nf_rooms_to_feet,Fn X G nf_floor_turnback,Fn X G nf_floor_turn,Fn X G nf_bows_turnback,Fn X G nf_bows_turn,Fn X G nf_turns_mirror,Fn X G nf_floor_mirror,Fn X G nf_twins_mirror,Fn X G nf_bows_mirror,Fn X G nf_brackets_mirror,Fn X G nf_cars_rootage,Fn X G nf_cars_leaves,Fn X G nf_trees_rootage,Fn X G nf_trees_leaves,Fn X G nf_codes_rootage,Fn X G nf_codes_leaves,Fn X G nf_turns_height,Fn X G nf_turns_returns,Fn X G nf_turns_peaks,Fn X G nf_floor_returns,Fn X G nf_floor_peaks,Fn X G nf_rooms_returns,Fn X G nf_rooms_peaks,Fn X G nf_bows_height,Fn X G nf_bows_returns,Fn X G nf_bows_peaks,Fn X G nf_twins_height,Fn X G nf_twins_returns,Fn X G nf_twins_peaks,Fn X G nf_stairs_height,Fn X G nf_stairs_returns,Fn X G nf_stairs_peaks,Fn X G nf_brackets_height,Fn X G nf_brackets_returns,Fn X G nf_brackets_peaks,codeHd_of lcC tC nC,codeHd_of lcC2 tC2 nC2,Fn X G nDD,Fn X G nM_MARKS_ORDER,fun _=>.inr ⟨_,_,_,lM_MARKS_ORDER,rfl,rfl,by show 5<=sizeLine; decide,.cons ⟨_,rfl⟩ (.cons ⟨_,rfl⟩ (.cons ⟨_,rfl⟩ (.cons ⟨_,rfl⟩ (.cons ⟨_,rfl⟩ (.nil)))))⟩⟩
 have F1:=aE (st:=pY) l1 c1 k1
 have b1:=F1.binds (ps:=["_law_first","_law_last","_law_how","_law_back"]) fun _ _ _ _ _ _=>Ak (fun _ _ _ _=>rfl)
 have F2:=aE (st:=lX) l2 c2 k2
 have b2:=F2.binds (ps:=[]) fun _ _ _ _ _ _=>gy rfl
 have F3:=aE (st:=lC) l3 c3 k3
 have b3:=F3.binds (ps:=["_law_cell","_law_turn"]) fun _ _ _ _ _ _=>fH (fun _ _=>rfl)
 have F4:=aE (st:=lO) l4 c4 k4
 have b4:=F4.binds (ps:=["_law_script","_law_turn","_law_many"]) fun _ _ _ _ _ _=>ua (fun _ _ _=>rfl)
 have F5:=aE (st:=lA) l5 c5 k5
 have b5:=F5.binds (ps:=["_law_script"]) fun _ _ _ _ _ _=>aW (fun _=>rfl)
 have F6:=aE (st:=lU) l6 c6 k6
 have b6:=F6.binds (ps:=["_law_rows"]) fun _ _ _ _ _ _=>aW (fun _=>rfl)
 have F7:=aE (st:=pX) l7 c7 k7
 have b7:=F7.binds (ps:=["self","place"]) fun _ _ _ _ _ _=>fH (fun _ _=>rfl)
 have F8:=aE (st:=iV) l8 c8 k8
 have b8:=F8.binds (ps:=[]) fun _ _ _ _ _ _=>gy rfl
 have F9:=aE (st:=oG) l9 c9 k9
 have b9:=F9.binds (ps:=["self","word","least"]) fun _ _ _ _ _ _=>ua (fun _ _ _=>rfl)
 have F10:=aE (st:=oN) l10 c10 k10
 have b10:=F10.binds (ps:=["self","word"]) fun _ _ _ _ _ _=>fH (fun _ _=>rfl)
 have F11:=aE (st:=oP) l11 c11 k11
 have b11:=F11.binds (ps:=["self"]) fun _ _ _ _ _ _=>aW (fun _=>rfl)
 have F12:=aE (st:=pk) l12 c12 k12
 have b12:=F12.binds (ps:=["self"]) fun _ _ _ _ _ _=>aW (fun _=>rfl)
 have F13:=aE (st:=pM) l13 c13 k13
 have b13:=F13.binds (ps:=["self"]) fun _ _ _ _ _ _=>aW (fun _=>rfl)
 have F14:=aE (st:=lJ) l14 c14 k14
 have b14:=F14.binds (ps:=["self"]) fun _ _ _ _ _ _=>aW (fun _=>rfl)
 have F15:=aE (st:=lY) l15 c15 k15
 have b15:=F15.binds (ps:=["self"]) fun _ _ _ _ _ _=>aW (fun _=>rfl)
 have F16:=aE (st:=oH) l16 c16 k16
 have b16:=F16.binds (ps:=["self"]) fun _ _ _ _ _ _=>aW (fun _=>rfl)
 have F17:=aE (st:=md) l17 c17 k17
 have b17:=F17.binds (ps:=["self"]) fun _ _ _ _ _ _=>aW (fun _=>rfl)
 have F18:=aE (st:=lT) l18 c18 k18
 have b18:=F18.binds (ps:=[]) fun _ _ _ _ _ _=>gy rfl
 have F19:=aE (st:=kS) l19 c19 k19
 have b19:=F19.binds (ps:=["one","other"]) fun _ _ _ _ _ _=>fH (fun _ _=>rfl)
 have F20:=aE (st:=jI) l20 c20 k20
 have b20:=F20.binds (ps:=["one","other"]) fun _ _ _ _ _ _=>fH (fun _ _=>rfl)
 have F21:=aE (st:=mj) l21 c21 k21
 have b21:=F21.binds (ps:=[]) fun _ _ _ _ _ _=>gy rfl
 have F22:=aE (st:=iQ) l22 c22 k22
 have b22:=F22.binds (ps:=[]) fun _ _ _ _ _ _=>gy rfl
 have F23:=aE (st:=kY) l23 c23 k23
 have b23:=F23.binds (ps:=[]) fun _ _ _ _ _ _=>gy rfl
 have F24:=aE (st:=lH) l24 c24 k24
 have b24:=F24.binds (ps:=["name"]) fun _ _ _ _ _ _=>aW (fun _=>rfl)
 have F25:=aE (st:=lQ) l25 c25 k25
 have b25:=F25.binds (ps:=["name"]) fun _ _ _ _ _ _=>aW (fun _=>rfl)
 have F26:=aE (st:=kT) l26 c26 k26
 have b26:=F26.binds (ps:=["names"]) fun _ _ _ _ _ _=>aW (fun _=>rfl)
 have F27:=aE (st:=jO) l27 c27 k27
 have b27:=F27.binds (ps:=["names"]) fun _ _ _ _ _ _=>aW (fun _=>rfl)
 have F28:=aE (st:=lG) l28 c28 k28
 have b28:=F28.binds (ps:=["name"]) fun _ _ _ _ _ _=>aW (fun _=>rfl)
 have F29:=aE (st:=lI) l29 c29 k29
 have b29:=F29.binds (ps:=["name"]) fun _ _ _ _ _ _=>aW (fun _=>rfl)
 have F30:=aE (st:=mm) l30 c30 k30
 have b30:=F30.binds (ps:=["names"]) fun _ _ _ _ _ _=>aW (fun _=>rfl)
 have F31:=aE (st:=me) l31 c31 k31
 have b31:=F31.binds (ps:=["words","manner"]) fun _ _ _ _ _ _=>fH (fun _ _=>rfl)
 have F32:=aE (st:=pC) l32 c32 k32
 have b32:=F32.binds (ps:=["self","word"]) fun _ _ _ _ _ _=>fH (fun _ _=>rfl)
 have F33:=aE (st:=lW) l33 c33 k33
 have b33:=F33.binds (ps:=["self"]) fun _ _ _ _ _ _=>aW (fun _=>rfl)
 have F34:=aE (st:=lN) l34 c34 k34
 have b34:=F34.binds (ps:=["self"]) fun _ _ _ _ _ _=>aW (fun _=>rfl)
 have F35:=aE (st:=kQ) l35 c35 k35
 have b35:=F35.binds (ps:=["self"]) fun _ _ _ _ _ _=>aW (fun _=>rfl)
 have F36:=aE (st:=lV) l36 c36 k36
 have b36:=F36.binds (ps:=[]) fun _ _ _ _ _ _=>gy rfl
 have F37:=aE (st:=mi) l37 c37 k37
 have b37:=F37.binds (ps:=["word"]) fun _ _ _ _ _ _=>aW (fun _=>rfl)
 have F38:=aE (st:=iO) l38 c38 k38
 have b38:=F38.binds (ps:=[]) fun _ _ _ _ _ _=>gy rfl
 have F39:=aE (st:=lF) l39 c39 k39
 have b39:=F39.binds (ps:=["word"]) fun _ _ _ _ _ _=>aW (fun _=>rfl)
 have F40:=aE (st:=my) l40 c40 k40
 have b40:=F40.binds (ps:=["name"]) fun _ _ _ _ _ _=>aW (fun _=>rfl)
 have F41:=aE (st:=lS) l41 c41 k41
 have b41:=F41.binds (ps:=["names"]) fun _ _ _ _ _ _=>aW (fun _=>rfl)
 have F42:=aE (st:=mn) l42 c42 k42
 have b42:=F42.binds (ps:=["_law_kind","_law_names"]) fun _ _ _ _ _ _=>fH (fun _ _=>rfl)
 have F43:=aE (st:=mr) l43 c43 k43
 have b43:=F43.binds (ps:=["_law_found"]) fun _ _ _ _ _ _=>aW (fun _=>rfl)
 have F44:=aE (st:=lg) l44 c44 k44
 have b44:=F44.binds (ps:=["_law_kind","_law_names"]) fun _ _ _ _ _ _=>fH (fun _ _=>rfl)
 have F45:=aE (st:=kX) l45 c45 k45
 have b45:=F45.binds (ps:=["_law_found","_law_due_here"]) fun _ _ _ _ _ _=>fH (fun _ _=>rfl)
 have F46:=aE (st:=ma) l46 c46 k46
 have b46:=F46.binds (ps:=["_law_word"]) fun _ _ _ _ _ _=>aW (fun _=>rfl)
 have F47:=aE (st:=lj) l47 c47 k47
 have b47:=F47.binds (ps:=["_law_row"]) fun _ _ _ _ _ _=>aW (fun _=>rfl)
 have F48:=aE (st:=oE) l48 c48 k48
 have b48:=F48.binds (ps:=["_law_rows"]) fun _ _ _ _ _ _=>aW (fun _=>rfl)
 have F49:=aE (st:=il) l49 c49 k49
 have bP:=GT X G z_range
 have fh:=GT X G z_len
 have i4:=GT X G z_enumerate
 have fX:=GT X G z_reversed
 have gH:=GT X G z_list
 have vC:=GT X G z_all
 have aY:=GT X G z_isinstance
 have wd:=GT X G z_int
 have tm:=GT X G z_bool
 have iE:=GT X G z_ValueError
 have wb:=GT X G z_str
 refine ⟨Gm "law" "law" (aw il) (au il) (ag il) .none kV49 dc49 pm49 an49 cd49 ct49,fun s v=>.of_eq rfl,fun base kb _=>?_⟩
 have gM:Def l.prog w K mg base "_law_there_and_back" ["_law_first","_law_last","_law_how","_law_back"] 1 (vx K _) f1 _:=⟨(DD (P:=l.prog) (w:=w) (base:=base) EO CA F1).up,b1,k1,Fn X G a1⟩
 have v5:Def l.prog w K mg base "_law_ways" [] 2 (rX K _) f2 _:=⟨(Ax (P:=l.prog) (w:=w) (base:=base) EO CA F2 gM bP).up,b2,k2,Fn X G a2⟩
 have vq:Def l.prog w K mg base "_law_mix" ["_law_cell","_law_turn"] 1 (su K _) f3 _:=⟨(AU (P:=l.prog) (w:=w) (base:=base) EO CA F3).up,b3,k3,Fn X G a3⟩
 have vA:Def l.prog w K mg base "_law_draws" ["_law_script","_law_turn","_law_many"] 2 (r6 K _) f4 _:=⟨(BE (P:=l.prog) (w:=w) (base:=base) EO CA F4 vq bP fh).up,b4,k4,Fn X G a4⟩
 have v8:Def l.prog w K mg base "_law_drawn" ["_law_script"] 3 (sE K _) f5 _:=⟨(Bx (P:=l.prog) (w:=w) (base:=base) EO CA F5 v5 vA fh).up,b5,k5,Fn X G a5⟩
 have uM:Def l.prog w K mg base "_law_due" ["_law_rows"] 1 (sO K _) f6 _:=⟨(BS (P:=l.prog) (w:=w) (base:=base) EO CA F6 bP fh).up,b6,k6,Fn X G a6⟩
 have vy:bq l.prog w K mg base ["self","place"] 1 (uY K _ _) f7 _:=⟨(CZ (P:=l.prog) (w:=w) (base:=base) EO CA F7).up,b7⟩
 have vV:Def l.prog w K mg base "direct_ways" [] 1 (rU K _) f8 _:=⟨(Av (P:=l.prog) (w:=w) (base:=base) EO CA F8).up,b8,k8,Fn X G a8⟩
 have pL:bq l.prog w K mg base ["self","word","least"] 1 (qV K _) f9 _:=⟨(DG (P:=l.prog) (w:=w) (base:=base) EO CA F9).up,b9⟩
 have dQ:bq l.prog w K mg base ["self","word"] 3 (ie K _) f10 _:=⟨(DC (P:=l.prog) (w:=w) (base:=base) EO CA F10 pL).up,b10⟩
 have yU:bq l.prog w K mg base ["self"] 5 (vn K _) f11 _:=⟨(DF (P:=l.prog) (w:=w) (base:=base) EO CA F11 dQ).up,b11⟩
 have yB:bq l.prog w K mg base ["self"] 5 (vQ K _) f12 _:=⟨(Dt (P:=l.prog) (w:=w) (base:=base) EO CA F12 dQ).up,b12⟩
 have x9:bq l.prog w K mg base ["self"] 5 (vI K _) f13 _:=⟨(Dy (P:=l.prog) (w:=w) (base:=base) EO CA F13 dQ).up,b13⟩
 have vj:bq l.prog w K mg base ["self"] 5 (sV K _) f14 _:=⟨(BF (P:=l.prog) (w:=w) (base:=base) EO CA F14 dQ).up,b14⟩
 have vP:bq l.prog w K mg base ["self"] 5 (tL K _) f15 _:=⟨(Co (P:=l.prog) (w:=w) (base:=base) EO CA F15 dQ).up,b15⟩
 have yN:bq l.prog w K mg base ["self"] 5 (uP K _) f16 _:=⟨(DA (P:=l.prog) (w:=w) (base:=base) EO CA F16 dQ).up,b16⟩
 have vc:bq l.prog w K mg base ["self"] 5 (rR K _) f17 _:=⟨(A4 (P:=l.prog) (w:=w) (base:=base) EO CA F17 dQ).up,b17⟩
 have jR:Def l.prog w K mg base "split_families" [] 7 (nX K _) f18 _:=⟨(AY (P:=l.prog) (w:=w) (base:=base) EO CA F18 yU yB x9 vj vP yN vc).up,b18,k18,Fn X G a18⟩
 have u4:Def l.prog w K mg base "parts_name" ["one","other"] 1 (tq K _) f19 _:=⟨(B8 (P:=l.prog) (w:=w) (base:=base) EO CA F19).up,b19,k19,Fn X G a19⟩
 have vK:Def l.prog w K mg base "parts_way" ["one","other"] 1 (rQ K _) f20 _:=⟨(Bf (P:=l.prog) (w:=w) (base:=base) EO CA F20 rfl (zd (Fn X G nB) lB neB base kb)).up,b20,k20,Fn X G a20⟩
 have vt:Def l.prog w K mg base "parts_ways" [] 8 (rC K _) f21 _:=⟨(BU (P:=l.prog) (w:=w) (base:=base) EO CA F21 jR u4 vK).up,b21,k21,Fn X G a21⟩
 have vg:Def l.prog w K mg base "turning_ways" [] 1 (sP K _) f22 _:=⟨(CI (P:=l.prog) (w:=w) (base:=base) EO CA F22).up,b22,k22,Fn X G a22⟩
 have ve:Def l.prog w K mg base "all_ways" [] 9 (sZ K _) f23 _:=⟨(BI (P:=l.prog) (w:=w) (base:=base) EO CA F23 vV vt vg).up,b23,k23,Fn X G a23⟩
 have lR:Def l.prog w K mg base "way_of" ["name"] 10 (om K _ _) f24 _:=⟨(CD (P:=l.prog) (w:=w) (base:=base) EO CA F24 ve),b24,k24,Fn X G a24⟩
 have gU:Def l.prog w K mg base "ends" ["name"] 11 (km K _ _) f25 _:=⟨(Cs (P:=l.prog) (w:=w) (base:=base) EO CA F25 lR),b25,k25,Fn X G a25⟩
 have ip:Def l.prog w K mg base "chain_ends" ["names"] 12 (kL K _ _) f26 _:=⟨(BQ (P:=l.prog) (w:=w) (base:=base) EO CA F26 vy gU i4),b26,k26,Fn X G a26⟩
 have vT:Def l.prog w K mg base "chain" ["names"] 13 (rW K _ _) f27 _:=⟨(Bl (P:=l.prog) (w:=w) (base:=base) EO CA F27 ip lR rfl (zd (Fn X G nB) lB neB base kb)),b27,k27,Fn X G a27⟩
 have lZ:Def l.prog w K mg base "manner_of" ["name"] 1 (nF K _) f28 _:=⟨(BC (P:=l.prog) (w:=w) (base:=base) EO CA F28).up,b28,k28,Fn X G a28⟩
 have wu:Def l.prog w K mg base "back_of" ["name"] 12 (rE K _ _) f29 _:=⟨(BO (P:=l.prog) (w:=w) (base:=base) EO CA F29 gU lZ),b29,k29,Fn X G a29⟩
 have mB:Def l.prog w K mg base "chain_back" ["names"] 13 (nL K _ _) f30 _:=⟨(AD (P:=l.prog) (w:=w) (base:=base) EO CA F30 ip wu fX),b30,k30,Fn X G a30⟩
 have uO:Def l.prog w K mg base "carries" ["words","manner"] 1 (rp K _) f31 _:=⟨(Bk (P:=l.prog) (w:=w) (base:=base) EO CA F31).up,b31,k31,Fn X G a31⟩
 have jK:bq l.prog w K mg base ["self","word"] 3 (nJ K _) f32 _:=⟨(C0 (P:=l.prog) (w:=w) (base:=base) EO CA F32 pL).up,b32⟩
 have v3:bq l.prog w K mg base ["self"] 5 (rT K _) f33 _:=⟨(Cc (P:=l.prog) (w:=w) (base:=base) EO CA F33 jK).up,b33⟩
 have uK:bq l.prog w K mg base ["self"] 5 (tK K _) f34 _:=⟨(CB (P:=l.prog) (w:=w) (base:=base) EO CA F34 jK).up,b34⟩
 have wa:bq l.prog w K mg base ["self"] 5 (rg K _) f35 _:=⟨(Au (P:=l.prog) (w:=w) (base:=base) EO CA F35 jK).up,b35⟩
 have uW:Def l.prog w K mg base "ring_families" [] 7 (si K _) f36 _:=⟨(CG (P:=l.prog) (w:=w) (base:=base) EO CA F36 v3 uK wa).up,b36,k36,Fn X G a36⟩
 have uU:Def l.prog w K mg base "family_of" ["word"] 8 (sf K _) f37 _:=⟨(AW (P:=l.prog) (w:=w) (base:=base) EO CA F37 jR uW).up,b37,k37,Fn X G a37⟩
 have wz:Def l.prog w K mg base "all_measures" [] 1 (so K _) f38 _:=⟨(B2 (P:=l.prog) (w:=w) (base:=base) EO CA F38).up,b38,k38,Fn X G a38⟩
 have qZ:Def l.prog w K mg base "marks_of" ["word"] 9 (tJ K _) f39 _:=⟨(BN (P:=l.prog) (w:=w) (base:=base) EO CA F39 uU wz gH).up,b39,k39,Fn X G a39⟩
 have vh:Def l.prog w K mg base "carried_by" ["name"] 12 (sC K _ _) f40 _:=⟨(BG (P:=l.prog) (w:=w) (base:=base) EO CA F40 gU uO lZ qZ),b40,k40,Fn X G a40⟩
 have mf:Def l.prog w K mg base "carried" ["names"] 13 (nN K _ _) f41 _:=⟨(Ca (P:=l.prog) (w:=w) (base:=base) EO CA F41 ip vh vC),b41,k41,Fn X G a41⟩
 have we:Def l.prog w K mg base "_law_asked" ["_law_kind","_law_names"] 14 (sD K _ _) f42 _:=⟨(Cj (P:=l.prog) (w:=w) (base:=base) EO CA F42 vT mB mf),b42,k42,Fn X G a42⟩
 have v9:Def l.prog w K mg base "_law_whole" ["_law_found"] 1 (tE K _) f43 _:=⟨(AF (P:=l.prog) (w:=w) (base:=base) EO CA F43 aY wd tm).up,b43,k43,Fn X G a43⟩
 have uL:Def l.prog w K mg base "_law_refusal" ["_law_kind","_law_names"] 15 (sT K _ _) f44 _:=⟨(BW (P:=l.prog) (w:=w) (base:=base) EO CA F44 we v9 aY iE).up,b44,k44,Fn X G a44⟩
 have qS:Def l.prog w K mg base "_law_texts" ["_law_found","_law_due_here"] 1 (rq K _) f45 _:=⟨(AG (P:=l.prog) (w:=w) (base:=base) EO CA F45 aY gH fh bP wb).up,b45,k45,Fn X G a45⟩
 have qR:Def l.prog w K mg base "_law_marks" ["_law_word"] 1 (rP K _) f46 _:=⟨(Cm (P:=l.prog) (w:=w) (base:=base) EO CA F46).up,b46,k46,Fn X G a46⟩
 have vw:Def l.prog w K mg base "_law_carried" ["_law_row"] 2 (tF K _) f47 _:=⟨(Ci (P:=l.prog) (w:=w) (base:=base) EO CA F47 qR).up,b47,k47,Fn X G a47⟩
 have yh:Def l.prog w K mg base "_law_marks_of_all" ["_law_rows"] 3 (uZ K _) f48 _:=⟨(Dw (P:=l.prog) (w:=w) (base:=base) EO CA F48 vw).up,b48,k48,Fn X G a48⟩
 exact AV (P:=l.prog) (w:=w) (base:=base) EO CA F49 v8 uM uL qS mB yh mf bP gH fX
theorem walk {l:W.OpenLaw} {q:FG} {loose:List Str} {XP:(Str->Option AC)->GG->Prop} {YP:FU->GG->Prop} {d:DefRec} {K:Gc->FD} {c c2 T T2 D:Fe} {oD:Gc->Obj} (hn:l.most=some 63) (hdf:d.params.defaults=[])
  (hY:∀ (w:FU) (h:GG),YP w h->(K w.params).In h/\h.TableAt c T #[]/\h.TableAt c2 T2 #[]/\ h.get? D=some (oD w.params)) (hTK:∀ w:FU,(K w.params).lookup T=none) (hTK2:∀ w:FU,(K w.params).lookup T2=none) (TU:T≠T2) (hDK:∀ w:FU,(K w.params).lookup D=none)
  (okD:∀ (w:FU) (h:GG) (H:Hp),h.get? D=some (oD w.params)->aJ l.prog w H h D (.dK pQ)) (D1:D≠mainGlobals) (D2:D≠builtinsNs) (D3:D≠cStatics)
  (F:∀ (w:FU) (mg:Str->Option AC) (fa:Fe) (h:GG),(K w.params).In h->h.Ns mainGlobals mg->mg d.name=some (.ref fa) ->
   ∃ fd:Fh,(∀ (s:Do) (u:AC),Jv s fd ⟨[u],[]⟩ [("_law_script",u)])/\∀ base:GG,(K w.params).In base->base.Ns mainGlobals mg->aF l.prog w (K w.params) mg base bC 16 fa fd ["_law_script"] (BA (K w.params) T T2 D)) :
  W.WalkO q loose XP YP l.row.toRowW d [] (fun f vs=>J5 f vs) :=
 L2.walk_ofT2 (n:=63) (k:=16) (x:="_law_script") (CX:=fun _=>bC) (sp:=fun w=>BA (K w.params) T T2 D) hn (by decide) hdf ⟨rfl,by decide,by decide⟩ hY hTK hTK2 TU hDK trivial trivial okD D1 D2 D3 F (fun _ _ a ns hl hS g=>⟨a,ns,rfl,hS,hl,⟨_,g⟩,fun _ s=>⟨rfl,s _ _ g.tab,s _ _ g.tab2⟩⟩) fun _ _ _ _ _ z=>z
end Ck
open L2
namespace Ck
open PySem PySem.W PySem.Calls PyProof.Rows
noncomputable def hB:List Hc:=behindTheImports PySem.Challenge.pw_countkin_k54_chains_looked_at
noncomputable def hE:Env:={ scope:=PySem.Challenge.pw_countkin_k54_chains_looked_at.main.scope,locals:=mainNs,globals:=mainNs,cells:=[],code:=(.ref 13),frame:=some 14 }
noncomputable def hC:Code:=.body hB hE
noncomputable def kU:Obj:=⟨.type "tuple",none,.seq #[] 0,#[]⟩
noncomputable def kV (a:Array AC):Obj:=⟨.type "tuple",none,.seq a 0,#[]⟩
noncomputable def kW:Obj:=⟨.none,none,.fields #[],#[]⟩
noncomputable def kG (a b:Str) (s:Hc):Obj:=⟨.none,none,.func { (fnOf a b (aw s) (au s) (ag s) .none .none .none .none none .none .none) with globals:=0 },#[]⟩
noncomputable def kB (a:String) (n:Fe):Obj:=⟨.type "builtin_function_or_method",none,.fields #[.builtin a,.ref n],#[]⟩
noncomputable def kD (P:Gc) (x:Str) (n:Tok) (v:AC):Gn:=⟨PyData.keyHash P x,.str x n,v⟩
noncomputable def kF (a b:Str) (s:Hc) (m:Str) (n:Tok) (c:Fe):Obj:=⟨.type "function",none,.func (fnOf a b (aw s) (au s) (ag s) .none .none .none (.str m n) none (.ref c) .none),#[]⟩
noncomputable def kC (a b:Str) (t:Nat) (l n:Int) (r q x y z w:AC) (e:Nat):Obj:=⟨.type "code",none,.fields #[.str a t,.str b (t+1),.str "/claim/cut.py" (t+2),.int l 0,.int n 0,.int 0 0,.int 0 0,.int 3 0,r,.bool true,.int 181 0,q,x,y,z,w,.int (Int.ofNat e) 0,.int l 0,.str "/claim/cut.py" (e+1)],#[]⟩
noncomputable def hTree (P:Gc):BT:=(.node (boot_o_0 P) (.node (boot_o_1 P) (.node (boot_o_3 P) (.node (boot_o_7 P) .nil .nil) (.node ⟨(.type "tuple"),none,(.seq #[] 0),#[]⟩ .nil .nil)) (.node (boot_o_5 P) (.node (boot_o_9 P) .nil .nil) (.node ⟨(.type "code"),none,(.fields #[(.str "<module>" 182),(.str "<module>" 183),(.str "/claim/cut.py" 184),(.int 1 0),(.int 0 0),(.int 0 0),(.int 0 0),(.int 0 0),(.ref 11),(.bool false),(.int 181 0),(.ref 12),.none,.none,.none,.none,(.int 185 0),(.int 1 0),(.str "/claim/cut.py" 186)]),#[]⟩ .nil .nil))) (.node (boot_o_2 P) (.node (boot_o_4 P) (.node (boot_o_8 P) .nil .nil) (.node ⟨.none,none,(.fields #[]),#[]⟩ .nil .nil)) (.node (boot_o_6 P) (.node (boot_o_10 P) .nil .nil) (.node ⟨(.type "frame"),none,.plain,#[(some (.ref 13)),(some (.ref 3)),(some (.ref 3)),none,(some (.str "__main__" 164)),none,(some (.ref 0))]⟩ .nil .nil))))
noncomputable def hS (w:FU) (os:HG):SharedT:=⟨hTree w.params,15,({}:Life),Array.mk [],⟨0,0,0,0⟩,187,os⟩
noncomputable def hQ:FG:={ PySem.Challenge.pw_countkin_k54_chains_looked_at with main:={ PySem.Challenge.pw_countkin_k54_chains_looked_at.main with body:=[top 169] } }
noncomputable def Em:List Str:=tz "_law_due"::tz "_law_asked"::tz "_law_refusal"::tz "_law_marks_of_all"::[]
noncomputable def Ea:List Str:=tz "carried"::tz "_law_whole"::tz "_law_mix"::tz "_law_there_and_back"::tz "_law_ways"::tz "_law_marks"::tz "_law_carried"::tz "_law_texts"::tz "_law_draws"::tz "_law_drawn"::Em
noncomputable def Ep:List Str:=tz "way_of"::tz "manner_of"::tz "ends"::tz "back_of"::tz "carried_by"::tz "carries"::tz "chain_ends"::tz "chain"::tz "led_along"::tz "chain_back"::Ea
noncomputable def D8:List Str:=tz "rooms_to_brackets"::tz "brackets_to_turns"::tz "turns_to_brackets"::tz "OTHER_MANNERS"::tz "direct_ways"::tz "turning_ways"::tz "parts_name"::tz "parts_way"::tz "parts_ways"::tz "all_ways"::Ep
noncomputable def Eb:List Str:=tz "feet_to_rooms"::tz "room_from"::tz "gaps"::tz "gapsback"::tz "brackets_to_stairs"::tz "stairs_to_brackets"::tz "brackets_to_bows"::tz "bows_to_brackets"::tz "closed_in_runs"::tz "brackets_to_rooms"::D8
noncomputable def EM:List Str:=tz "turns_mirror"::tz "knots_with"::tz "tree_to_cars"::tz "cars_to_tree"::tz "turned_pairs"::tz "bows_turn"::tz "bows_turnback"::tz "floor_turn"::tz "floor_turnback"::tz "rooms_to_feet"::Eb
noncomputable def E6:List Str:=tz "turns_height"::tz "MARKS_ORDER"::tz "all_measures"::tz "marks_of"::tz "brackets_mirror"::tz "bows_mirror"::tz "mirrored_pairs"::tz "twins_mirror"::tz "mirrored_twins"::tz "floor_mirror"::EM
noncomputable def ET:List Str:=tz "rooms_returns"::tz "triangles"::tz "floor_peaks"::tz "floor_returns"::tz "turns_peaks"::tz "turns_returns"::tz "brackets_height"::tz "stairs_height"::tz "twins_height"::tz "bows_height"::E6
noncomputable def qc:List Str:=tz "brackets_returns"::tz "stairs_peaks"::tz "stairs_returns"::tz "twins_peaks"::tz "twins_returns"::tz "bows_peaks"::tz "bows_over"::tz "bows_returns"::tz "rooms_peaks"::tz "rooms_around"::ET
noncomputable def EA:List Str:=tz "family_of"::tz "missing"::tz "trees_leaves"::tz "trees_rootage"::tz "codes_leaves"::tz "codes_rootage"::tz "cars_leaves"::tz "cars_rootage"::tz "brackets_peaks"::tz "depths"::qc
noncomputable def EZ:List Str:=tz "comes_to_0"::tz "tree_to_code"::tz "code_to_tree"::tz "Bows"::tz "Rooms"::tz "neighbours"::tz "Turns"::tz "comes_off_a_stack"::tz "split_families"::tz "ring_families"::EA
noncomputable def EF:List Str:=tz "first_close"::tz "Stairs"::tz "right_begin"::tz "Twins"::tz "brackets_to_twins"::tz "twins_to_brackets"::tz "twins_to_floor"::tz "lines_over"::tz "floor_to_twins"::tz "Trees"::EZ
noncomputable def wX:List Str:=tz "pairs_raised_by"::tz "flat"::tz "each_once"::tz "any_cross"::tz "pairs_anew"::tz "Floors"::tz "may_be_cut"::tz "third_corner"::tz "closes"::tz "Brackets"::EF
noncomputable def AS:List Str:=tz "Family"::tz "SplitFamily"::tz "by_parts"::tz "led_by_parts"::tz "RingFamily"::tz "Codes"::tz "Cars"::tz "cars_to_code"::tz "code_to_cars"::tz "raised_by"::wX
noncomputable def EL:List Str:=tz "_wall"::tz "GREATEST_SIZE"::tz "by_rule"::tz "ring_many"::tz "KinError"::tz "NoSize"::tz "NoThing"::tz "NoFamily"::tz "NoWay"::tz "Broken"::AS
noncomputable def hL:List Str:=EL
noncomputable def hK:Gc->JY:=fun P=>(nat_lit 2,⟨.none,none,(.dict #[] 0),#[]⟩)::(nat_lit 3,⟨(.type "dict"),none,(.dict (JF (kD P "__name__" 165 (.str "law_countkin_k54_chains_looked_at" 2052)::kD P "__doc__" 166 .none::kD P "__package__" 167 .none::kD P "__loader__" 168 (.builtin "__main__.__loader__#opaque")::kD P "__spec__" 169 .none::kD P "__annotations__" 170 (.ref 6)::kD P "__builtins__" 171 (.ref 4)::kD P "__file__" 173 (.str "/claim/cut.py" 172)::kD P "__cached__" 174 .none::kD P "_wall" 193 (.ref 21)::kD P "GREATEST_SIZE" 197 (.int 40 196)::kD P "by_rule" 206 (.ref 28)::kD P "ring_many" 215 (.ref 35)::kD P "KinError" 235 (.ref 45)::kD P "NoSize" 251 (.ref 58)::kD P "NoThing" 267 (.ref 70)::kD P "NoFamily" 283 (.ref 82)::kD P "NoWay" 299 (.ref 94)::kD P "Broken" 324 (.ref 113)::kD P "Family" 439 (.ref 202)::kD P "SplitFamily" 531 (.ref 279)::kD P "by_parts" 540 (.ref 288)::kD P "led_by_parts" 552 (.ref 295)::kD P "RingFamily" 619 (.ref 347)::kD P "Codes" 672 (.ref 392)::kD P "Cars" 723 (.ref 433)::kD P "cars_to_code" 730 (.ref 442)::kD P "code_to_cars" 737 (.ref 449)::kD P "raised_by" 745 (.ref 454)::kD P "pairs_raised_by" 751 (.ref 459)::kD P "flat" 760 (.ref 466)::kD P "each_once" 767 (.ref 473)::kD P "any_cross" 778 (.ref 480)::kD P "pairs_anew" 784 (.ref 485)::kD P "Floors" 848 (.ref 533)::kD P "may_be_cut" 857 (.ref 542)::kD P "third_corner" 863 (.ref 547)::kD P "closes" 874 (.ref 554)::kD P "Brackets" 940 (.ref 606)::kD P "first_close" 949 (.ref 615)::kD P "Stairs" 1016 (.ref 667)::kD P "right_begin" 1024 (.ref 676)::kD P "Twins" 1092 (.ref 728)::kD P "brackets_to_twins" 1104 (.ref 737)::kD P "twins_to_brackets" 1114 (.ref 744)::kD P "twins_to_floor" 1123 (.ref 751)::kD P "lines_over" 1134 (.ref 758)::kD P "floor_to_twins" 1140 (.ref 763)::kD P "Trees" 1191 (.ref 802)::kD P "comes_to_0" 1201 (.ref 811)::kD P "tree_to_code" 1208 (.ref 818)::kD P "code_to_tree" 1215 (.ref 825)::kD P "Bows" 1282 (.ref 875)::kD P "Rooms" 1336 (.ref 921)::kD P "neighbours" 1342 (.ref 928)::kD P "Turns" 1408 (.ref 980)::kD P "comes_off_a_stack" 1418 (.ref 989)::kD P "split_families" 1426 (.ref 996)::kD P "ring_families" 1432 (.ref 1003)::kD P "family_of" 1440 (.ref 1010)::kD P "missing" 1448 (.ref 1015)::kD P "trees_leaves" 1455 (.ref 1022)::kD P "trees_rootage" 1462 (.ref 1029)::kD P "codes_leaves" 1469 (.ref 1036)::kD P "codes_rootage" 1476 (.ref 1043)::kD P "cars_leaves" 1483 (.ref 1050)::kD P "cars_rootage" 1490 (.ref 1057)::kD P "brackets_peaks" 1499 (.ref 1064)::kD P "depths" 1509 (.ref 1071)::kD P "brackets_returns" 1516 (.ref 1078)::kD P "stairs_peaks" 1523 (.ref 1085)::kD P "stairs_returns" 1529 (.ref 1090)::kD P "twins_peaks" 1539 (.ref 1097)::kD P "twins_returns" 1548 (.ref 1104)::kD P "bows_peaks" 1554 (.ref 1109)::kD P "bows_over" 1560 (.ref 1114)::kD P "bows_returns" 1566 (.ref 1119)::kD P "rooms_peaks" 1573 (.ref 1126)::kD P "rooms_around" 1579 (.ref 1131)::kD P "rooms_returns" 1585 (.ref 1136)::kD P "triangles" 1591 (.ref 1141)::kD P "floor_peaks" 1597 (.ref 1146)::kD P "floor_returns" 1603 (.ref 1151)::kD P "turns_peaks" 1609 (.ref 1156)::kD P "turns_returns" 1615 (.ref 1161)::kD P "brackets_height" 1624 (.ref 1168)::kD P "stairs_height" 1630 (.ref 1173)::kD P "twins_height" 1637 (.ref 1180)::kD P "bows_height" 1643 (.ref 1185)::kD P "turns_height" 1649 (.ref 1190)::kD P "MARKS_ORDER" 1657 (.ref 1191)::kD P "all_measures" 1663 (.ref 1198)::kD P "marks_of" 1671 (.ref 1205)::kD P "brackets_mirror" 1679 (.ref 1210)::kD P "bows_mirror" 1686 (.ref 1217)::kD P "mirrored_pairs" 1692 (.ref 1222)::kD P "twins_mirror" 1699 (.ref 1229)::kD P "mirrored_twins" 1706 (.ref 1236)::kD P "floor_mirror" 1713 (.ref 1243)::kD P "turns_mirror" 1724 (.ref 1250)::kD P "knots_with" 1732 (.ref 1255)::kD P "tree_to_cars" 1738 (.ref 1260)::kD P "cars_to_tree" 1744 (.ref 1265)::kD P "turned_pairs" 1752 (.ref 1270)::kD P "bows_turn" 1759 (.ref 1277)::kD P "bows_turnback" 1766 (.ref 1284)::kD P "floor_turn" 1773 (.ref 1291)::kD P "floor_turnback" 1780 (.ref 1298)::kD P "rooms_to_feet" 1786 (.ref 1303)::kD P "feet_to_rooms" 1792 (.ref 1308)::kD P "room_from" 1801 (.ref 1315)::kD P "gaps" 1808 (.ref 1322)::kD P "gapsback" 1815 (.ref 1329)::kD P "brackets_to_stairs" 1827 (.ref 1336)::kD P "stairs_to_brackets" 1837 (.ref 1343)::kD P "brackets_to_bows" 1848 (.ref 1350)::kD P "bows_to_brackets" 1858 (.ref 1357)::kD P "closed_in_runs" 1870 (.ref 1364)::kD P "brackets_to_rooms" 1876 (.ref 1369)::kD P "rooms_to_brackets" 1885 (.ref 1376)::kD P "brackets_to_turns" 1892 (.ref 1383)::kD P "turns_to_brackets" 1902 (.ref 1390)::kD P "OTHER_MANNERS" 1917 (.ref 1391)::kD P "direct_ways" 1923 (.ref 1398)::kD P "turning_ways" 1929 (.ref 1405)::kD P "parts_name" 1937 (.ref 1412)::kD P "parts_way" 1947 (.ref 1419)::kD P "parts_ways" 1956 (.ref 1426)::kD P "all_ways" 1963 (.ref 1433)::kD P "way_of" 1971 (.ref 1440)::kD P "manner_of" 1978 (.ref 1447)::kD P "ends" 1986 (.ref 1454)::kD P "back_of" 1998 (.ref 1461)::kD P "carried_by" 2004 (.ref 1466)::kD P "carries" 2012 (.ref 1473)::kD P "chain_ends" 2023 (.ref 1480)::kD P "chain" 2029 (.ref 1485)::kD P "led_along" 2039 (.ref 1492)::kD P "chain_back" 2045 (.ref 1497)::kD P "carried" 2051 (.ref 1502)::kD P "_law_whole" 2060 (.ref 1509)::kD P "_law_mix" 2069 (.ref 1516)::kD P "_law_there_and_back" 2081 (.ref 1523)::kD P "_law_ways" 2092 (.ref 1530)::kD P "_law_marks" 2099 (.ref 1537)::kD P "_law_carried" 2105 (.ref 1542)::kD P "_law_texts" 2114 (.ref 1549)::kD P "_law_draws" 2120 (.ref 1554)::kD P "_law_drawn" 2126 (.ref 1559)::kD P "_law_due" 2134 (.ref 1566)::kD P "_law_asked" 2142 (.ref 1573)::kD P "_law_refusal" 2153 (.ref 1580)::kD P "_law_marks_of_all" 2159 (.ref 1585)::kD P "law" 2165 (.ref 1590)::[])) 154),#[]⟩)::(nat_lit 4,⟨(.type "module"),(some 0),.plain,#[]⟩)::(nat_lit 44,⟨(.type "dict"),none,(.dict #[kD P "__module__" 225 (.str "countkin.errors" 216),kD P "__firstlineno__" 229 (.int 17 228),kD P "__static_attributes__" 230 (.ref 43),kD P "__weakref__" 232 (.ref 46),kD P "__doc__" 233 .none] 3),#[]⟩)::(nat_lit 45,⟨(.type "type"),none,(.cls ⟨"KinError",[(.type "ValueError")],[(.ref 45),(.type "ValueError"),(.type "Exception"),(.type "BaseException"),(.type "object")],44,"KinError",true,[],[(.ref 58),(.ref 70),(.ref 82),(.ref 94),(.ref 113)],false,none,false⟩),#[(some (.ref 36)),none,(some (.str "KinError" 218)),(some (.str "KinError" 226)),(some (.builtin "ValueError.__new__")),(some (.bool true))]⟩)::(nat_lit 46,⟨(.type "getset_descriptor"),none,(.fields #[(.str "__weakref__" 231),(.ref 45),(.builtin "ExceptionGroup.__weakref__"),.none]),#[]⟩)::(nat_lit 57,⟨(.type "dict"),none,(.dict #[kD P "__module__" 243 (.str "countkin.errors" 216),kD P "__firstlineno__" 247 (.int 19 246),kD P "__static_attributes__" 248 (.ref 56),kD P "__doc__" 249 .none] 2),#[]⟩)::(nat_lit 58,⟨(.type "type"),none,(.cls ⟨"NoSize",[(.ref 45)],[(.ref 58),(.ref 45),(.type "ValueError"),(.type "Exception"),(.type "BaseException"),(.type "object")],57,"NoSize",true,[],[],false,none,false⟩),#[(some (.ref 49)),none,(some (.str "NoSize" 236)),(some (.str "NoSize" 244)),(some (.builtin "ValueError.__new__")),(some (.bool true))]⟩)::(nat_lit 69,⟨(.type "dict"),none,(.dict #[kD P "__module__" 259 (.str "countkin.errors" 216),kD P "__firstlineno__" 263 (.int 21 262),kD P "__static_attributes__" 264 (.ref 68),kD P "__doc__" 265 .none] 2),#[]⟩)::(nat_lit 70,⟨(.type "type"),none,(.cls ⟨"NoThing",[(.ref 45)],[(.ref 70),(.ref 45),(.type "ValueError"),(.type "Exception"),(.type "BaseException"),(.type "object")],69,"NoThing",true,[],[],false,none,false⟩),#[(some (.ref 61)),none,(some (.str "NoThing" 252)),(some (.str "NoThing" 260)),(some (.builtin "ValueError.__new__")),(some (.bool true))]⟩)::(nat_lit 81,⟨(.type "dict"),none,(.dict #[kD P "__module__" 275 (.str "countkin.errors" 216),kD P "__firstlineno__" 279 (.int 23 278),kD P "__static_attributes__" 280 (.ref 80),kD P "__doc__" 281 .none] 2),#[]⟩)::(nat_lit 82,⟨(.type "type"),none,(.cls ⟨"NoFamily",[(.ref 45)],[(.ref 82),(.ref 45),(.type "ValueError"),(.type "Exception"),(.type "BaseException"),(.type "object")],81,"NoFamily",true,[],[],false,none,false⟩),#[(some (.ref 73)),none,(some (.str "NoFamily" 268)),(some (.str "NoFamily" 276)),(some (.builtin "ValueError.__new__")),(some (.bool true))]⟩)::(nat_lit 93,⟨(.type "dict"),none,(.dict #[kD P "__module__" 291 (.str "countkin.errors" 216),kD P "__firstlineno__" 295 (.int 25 294),kD P "__static_attributes__" 296 (.ref 92),kD P "__doc__" 297 .none] 2),#[]⟩)::(nat_lit 94,⟨(.type "type"),none,(.cls ⟨"NoWay",[(.ref 45)],[(.ref 94),(.ref 45),(.type "ValueError"),(.type "Exception"),(.type "BaseException"),(.type "object")],93,"NoWay",true,[],[],false,none,false⟩),#[(some (.ref 85)),none,(some (.str "NoWay" 284)),(some (.str "NoWay" 292)),(some (.builtin "ValueError.__new__")),(some (.bool true))]⟩)::(nat_lit 109,(kC "__init__" "Broken.__init__" 312 29 2 (.ref 104) (.ref 105) .none (.ref 106) (.ref 107) (.ref 108) 317))::(nat_lit 110,(kF "__init__" "Broken.__init__" (inClass (top 11) 0) "countkin.errors" 216 109))::(nat_lit 112,⟨(.type "dict"),none,(.dict #[kD P "__module__" 307 (.str "countkin.errors" 216),kD P "__firstlineno__" 311 (.int 27 310),kD P "__init__" 319 (.ref 110),kD P "__static_attributes__" 321 (.ref 111),kD P "__doc__" 322 .none] 2),#[]⟩)::(nat_lit 113,⟨(.type "type"),none,(.cls ⟨"Broken",[(.ref 45)],[(.ref 113),(.ref 45),(.type "ValueError"),(.type "Exception"),(.type "BaseException"),(.type "object")],112,"Broken",true,[],[],false,none,false⟩),#[(some (.ref 97)),none,(some (.str "Broken" 300)),(some (.str "Broken" 308)),(some (.builtin "ValueError.__new__")),(some (.bool true))]⟩)::(nat_lit 128,(kC "__init__" "Family.__init__" 339 35 3 (.ref 123) (.ref 124) .none (.ref 125) (.ref 126) (.ref 127) 345))::(nat_lit 129,(kF "__init__" "Family.__init__" (inClass (top 13) 0) "countkin.kin" 325 128))::(nat_lit 201,⟨(.type "dict"),none,(.dict #[kD P "__module__" 334 (.str "countkin.kin" 325),kD P "__firstlineno__" 338 (.int 33 337),kD P "__init__" 347 (.ref 129),kD P "size_of" 355 (.ref 136),kD P "is_one" 363 (.ref 143),kD P "unchecked_many" 371 (.ref 150),kD P "unchecked_number" 379 (.ref 157),kD P "unchecked_thing" 388 (.ref 164),kD P "many" 396 (.ref 171),kD P "refuse_other" 404 (.ref 178),kD P "number_of" 412 (.ref 185),kD P "thing_of" 421 (.ref 192),kD P "next_of" 429 (.ref 199),kD P "__static_attributes__" 432 (.ref 200),kD P "__dict__" 434 (.ref 203),kD P "__weakref__" 436 (.ref 204),kD P "__doc__" 437 .none] 4),#[]⟩)::(nat_lit 202,⟨(.type "type"),none,(.cls ⟨"Family",[(.type "object")],[(.ref 202),(.type "object")],201,"Family",true,[],[(.ref 279),(.ref 347)],false,none,false⟩),#[none,none,(some (.str "Family" 327)),(some (.str "Family" 335)),(some (.builtin "object.__new__")),(some (.bool true))]⟩)::(nat_lit 203,⟨(.type "getset_descriptor"),none,(.fields #[(.str "__dict__" 433),(.ref 202),(.builtin "function.__dict__"),(.builtin "function.__dict__#set")]),#[]⟩)::(nat_lit 204,⟨(.type "getset_descriptor"),none,(.fields #[(.str "__weakref__" 435),(.ref 202),(.builtin "ExceptionGroup.__weakref__"),.none]),#[]⟩)::(nat_lit 219,(kC "__init__" "SplitFamily.__init__" 452 73 2 (.ref 214) (.ref 215) .none (.ref 216) (.ref 217) (.ref 218) 457))::(nat_lit 220,(kF "__init__" "SplitFamily.__init__" (inClass (top 14) 0) "countkin.kin" 325 219))::(nat_lit 278,⟨(.type "dict"),none,(.dict #[kD P "__module__" 447 (.str "countkin.kin" 325),kD P "__firstlineno__" 451 (.int 71 450),kD P "__init__" 459 (.ref 220),kD P "bare" 466 (.ref 227),kD P "parted" 474 (.ref 234),kD P "joined" 483 (.ref 241),kD P "unchecked_many" 491 (.ref 248),kD P "unchecked_number" 499 (.ref 255),kD P "unchecked_thing" 508 (.ref 262),kD P "number_by_parts" 517 (.ref 269),kD P "thing_by_parts" 527 (.ref 276),kD P "__static_attributes__" 528 (.ref 277),kD P "__doc__" 529 .none] 2),#[]⟩)::(nat_lit 279,⟨(.type "type"),none,(.cls ⟨"SplitFamily",[(.ref 202)],[(.ref 279),(.ref 202),(.type "object")],278,"SplitFamily",true,[],[(.ref 533),(.ref 606),(.ref 667),(.ref 728),(.ref 875),(.ref 921),(.ref 980)],false,none,false⟩),#[(some (.ref 207)),none,(some (.str "SplitFamily" 440)),(some (.str "SplitFamily" 448)),(some (.builtin "object.__new__")),(some (.bool true))]⟩)::(nat_lit 308,(kC "__init__" "RingFamily.__init__" 567 112 2 (.ref 303) (.ref 304) .none (.ref 305) (.ref 306) (.ref 307) 572))::(nat_lit 309,(kF "__init__" "RingFamily.__init__" (inClass (top 18) 0) "countkin.ring" 553 308))::(nat_lit 346,⟨(.type "dict"),none,(.dict #[kD P "__module__" 562 (.str "countkin.ring" 553),kD P "__firstlineno__" 566 (.int 110 565),kD P "__init__" 574 (.ref 309),kD P "code_of" 582 (.ref 316),kD P "of_code" 590 (.ref 323),kD P "unchecked_many" 598 (.ref 330),kD P "unchecked_number" 606 (.ref 337),kD P "unchecked_thing" 615 (.ref 344),kD P "__static_attributes__" 616 (.ref 345),kD P "__doc__" 617 .none] 2),#[]⟩)::(nat_lit 347,⟨(.type "type"),none,(.cls ⟨"RingFamily",[(.ref 202)],[(.ref 347),(.ref 202),(.type "object")],346,"RingFamily",true,[],[(.ref 392),(.ref 433),(.ref 802)],false,none,false⟩),#[(some (.ref 296)),none,(some (.str "RingFamily" 555)),(some (.str "RingFamily" 563)),(some (.builtin "object.__new__")),(some (.bool true))]⟩)::(nat_lit 362,(kC "__init__" "Codes.__init__" 632 131 1 (.ref 357) (.ref 358) .none (.ref 359) (.ref 360) (.ref 361) 636))::(nat_lit 363,(kF "__init__" "Codes.__init__" (inClass (top 19) 0) "countkin.ring" 553 362))::(nat_lit 391,⟨(.type "dict"),none,(.dict #[kD P "__module__" 627 (.str "countkin.ring" 553),kD P "__firstlineno__" 631 (.int 129 630),kD P "__init__" 638 (.ref 363),kD P "size_of" 646 (.ref 370),kD P "is_one" 652 (.ref 375),kD P "code_of" 660 (.ref 382),kD P "of_code" 668 (.ref 389),kD P "__static_attributes__" 669 (.ref 390),kD P "__doc__" 670 .none] 2),#[]⟩)::(nat_lit 392,⟨(.type "type"),none,(.cls ⟨"Codes",[(.ref 347)],[(.ref 392),(.ref 347),(.ref 202),(.type "object")],391,"Codes",true,[],[],false,none,false⟩),#[(some (.ref 350)),none,(some (.str "Codes" 620)),(some (.str "Codes" 628)),(some (.builtin "object.__new__")),(some (.bool true))]⟩)::(nat_lit 407,(kC "__init__" "Cars.__init__" 687 149 1 (.ref 402) (.ref 403) .none (.ref 404) (.ref 405) (.ref 406) 691))::(nat_lit 408,(kF "__init__" "Cars.__init__" (inClass (top 21) 0) "countkin.cars" 673 407))::(nat_lit 432,⟨(.type "dict"),none,(.dict #[kD P "__module__" 682 (.str "countkin.cars" 673),kD P "__firstlineno__" 686 (.int 147 685),kD P "__init__" 693 (.ref 408),kD P "size_of" 701 (.ref 415),kD P "is_one" 707 (.ref 420),kD P "code_of" 713 (.ref 425),kD P "of_code" 719 (.ref 430),kD P "__static_attributes__" 720 (.ref 431),kD P "__doc__" 721 .none] 2),#[]⟩)::(nat_lit 433,⟨(.type "type"),none,(.cls ⟨"Cars",[(.ref 347)],[(.ref 433),(.ref 347),(.ref 202),(.type "object")],432,"Cars",true,[],[],false,none,false⟩),#[(some (.ref 395)),none,(some (.str "Cars" 675)),(some (.str "Cars" 683)),(some (.builtin "object.__new__")),(some (.bool true))]⟩)::(nat_lit 498,(kC "__init__" "Floors.__init__" 799 201 1 (.ref 493) (.ref 494) .none (.ref 495) (.ref 496) (.ref 497) 803))::(nat_lit 499,(kF "__init__" "Floors.__init__" (inClass (top 32) 0) "countkin.floors" 785 498))::(nat_lit 532,⟨(.type "dict"),none,(.dict #[kD P "__module__" 794 (.str "countkin.floors" 785),kD P "__firstlineno__" 798 (.int 199 797),kD P "__init__" 805 (.ref 499),kD P "size_of" 813 (.ref 506),kD P "is_one" 819 (.ref 511),kD P "bare" 826 (.ref 518),kD P "parted" 832 (.ref 523),kD P "joined" 844 (.ref 530),kD P "__static_attributes__" 845 (.ref 531),kD P "__doc__" 846 .none] 2),#[]⟩)::(nat_lit 533,⟨(.type "type"),none,(.cls ⟨"Floors",[(.ref 279)],[(.ref 533),(.ref 279),(.ref 202),(.type "object")],532,"Floors",true,[],[],false,none,false⟩),#[(some (.ref 486)),none,(some (.str "Floors" 787)),(some (.str "Floors" 795)),(some (.builtin "object.__new__")),(some (.bool true))]⟩)::(nat_lit 567,(kC "__init__" "Brackets.__init__" 889 254 1 (.ref 562) (.ref 563) .none (.ref 564) (.ref 565) (.ref 566) 893))::(nat_lit 568,(kF "__init__" "Brackets.__init__" (inClass (top 38) 0) "countkin.signs" 875 567))::(nat_lit 605,⟨(.type "dict"),none,(.dict #[kD P "__module__" 884 (.str "countkin.signs" 875),kD P "__firstlineno__" 888 (.int 252 887),kD P "__init__" 895 (.ref 568),kD P "size_of" 903 (.ref 575),kD P "is_one" 911 (.ref 582),kD P "bare" 918 (.ref 589),kD P "parted" 927 (.ref 596),kD P "joined" 936 (.ref 603),kD P "__static_attributes__" 937 (.ref 604),kD P "__doc__" 938 .none] 2),#[]⟩)::(nat_lit 606,⟨(.type "type"),none,(.cls ⟨"Brackets",[(.ref 279)],[(.ref 606),(.ref 279),(.ref 202),(.type "object")],605,"Brackets",true,[],[],false,none,false⟩),#[(some (.ref 555)),none,(some (.str "Brackets" 877)),(some (.str "Brackets" 885)),(some (.builtin "object.__new__")),(some (.bool true))]⟩)::(nat_lit 628,(kC "__init__" "Stairs.__init__" 962 284 1 (.ref 623) (.ref 624) .none (.ref 625) (.ref 626) (.ref 627) 966))::(nat_lit 629,(kF "__init__" "Stairs.__init__" (inClass (top 40) 0) "countkin.signs" 875 628))::(nat_lit 666,⟨(.type "dict"),none,(.dict #[kD P "__module__" 957 (.str "countkin.signs" 875),kD P "__firstlineno__" 961 (.int 282 960),kD P "__init__" 968 (.ref 629),kD P "size_of" 976 (.ref 636),kD P "is_one" 987 (.ref 643),kD P "bare" 994 (.ref 650),kD P "parted" 1003 (.ref 657),kD P "joined" 1012 (.ref 664),kD P "__static_attributes__" 1013 (.ref 665),kD P "__doc__" 1014 .none] 2),#[]⟩)::(nat_lit 667,⟨(.type "type"),none,(.cls ⟨"Stairs",[(.ref 279)],[(.ref 667),(.ref 279),(.ref 202),(.type "object")],666,"Stairs",true,[],[],false,none,false⟩),#[(some (.ref 616)),none,(some (.str "Stairs" 950)),(some (.str "Stairs" 958)),(some (.builtin "object.__new__")),(some (.bool true))]⟩)::(nat_lit 689,(kC "__init__" "Twins.__init__" 1039 315 1 (.ref 684) (.ref 685) .none (.ref 686) (.ref 687) (.ref 688) 1043))::(nat_lit 690,(kF "__init__" "Twins.__init__" (inClass (top 43) 0) "countkin.twigs" 1025 689))::(nat_lit 727,⟨(.type "dict"),none,(.dict #[kD P "__module__" 1034 (.str "countkin.twigs" 1025),kD P "__firstlineno__" 1038 (.int 313 1037),kD P "__init__" 1045 (.ref 690),kD P "size_of" 1056 (.ref 697),kD P "is_one" 1064 (.ref 704),kD P "bare" 1071 (.ref 711),kD P "parted" 1079 (.ref 718),kD P "joined" 1088 (.ref 725),kD P "__static_attributes__" 1089 (.ref 726),kD P "__doc__" 1090 .none] 2),#[]⟩)::(nat_lit 728,⟨(.type "type"),none,(.cls ⟨"Twins",[(.ref 279)],[(.ref 728),(.ref 279),(.ref 202),(.type "object")],727,"Twins",true,[],[],false,none,false⟩),#[(some (.ref 677)),none,(some (.str "Twins" 1027)),(some (.str "Twins" 1035)),(some (.builtin "object.__new__")),(some (.bool true))]⟩)::(nat_lit 776,(kC "__init__" "Trees.__init__" 1155 391 1 (.ref 771) (.ref 772) .none (.ref 773) (.ref 774) (.ref 775) 1159))::(nat_lit 777,(kF "__init__" "Trees.__init__" (inClass (top 51) 0) "countkin.elders" 1141 776))::(nat_lit 801,⟨(.type "dict"),none,(.dict #[kD P "__module__" 1150 (.str "countkin.elders" 1141),kD P "__firstlineno__" 1154 (.int 389 1153),kD P "__init__" 1161 (.ref 777),kD P "size_of" 1169 (.ref 784),kD P "is_one" 1175 (.ref 789),kD P "code_of" 1181 (.ref 794),kD P "of_code" 1187 (.ref 799),kD P "__static_attributes__" 1188 (.ref 800),kD P "__doc__" 1189 .none] 2),#[]⟩)::(nat_lit 802,⟨(.type "type"),none,(.cls ⟨"Trees",[(.ref 347)],[(.ref 802),(.ref 347),(.ref 202),(.type "object")],801,"Trees",true,[],[],false,none,false⟩),#[(some (.ref 764)),none,(some (.str "Trees" 1143)),(some (.str "Trees" 1151)),(some (.builtin "object.__new__")),(some (.bool true))]⟩)::(nat_lit 838,(kC "__init__" "Bows.__init__" 1230 437 1 (.ref 833) (.ref 834) .none (.ref 835) (.ref 836) (.ref 837) 1234))::(nat_lit 839,(kF "__init__" "Bows.__init__" (inClass (top 56) 0) "countkin.bends" 1216 838))::(nat_lit 874,⟨(.type "dict"),none,(.dict #[kD P "__module__" 1225 (.str "countkin.bends" 1216),kD P "__firstlineno__" 1229 (.int 435 1228),kD P "__init__" 1236 (.ref 839),kD P "size_of" 1244 (.ref 846),kD P "is_one" 1250 (.ref 851),kD P "bare" 1257 (.ref 858),kD P "parted" 1268 (.ref 865),kD P "joined" 1278 (.ref 872),kD P "__static_attributes__" 1279 (.ref 873),kD P "__doc__" 1280 .none] 2),#[]⟩)::(nat_lit 875,⟨(.type "type"),none,(.cls ⟨"Bows",[(.ref 279)],[(.ref 875),(.ref 279),(.ref 202),(.type "object")],874,"Bows",true,[],[],false,none,false⟩),#[(some (.ref 826)),none,(some (.str "Bows" 1218)),(some (.str "Bows" 1226)),(some (.builtin "object.__new__")),(some (.bool true))]⟩)::(nat_lit 890,(kC "__init__" "Rooms.__init__" 1295 462 1 (.ref 885) (.ref 886) .none (.ref 887) (.ref 888) (.ref 889) 1299))::(nat_lit 891,(kF "__init__" "Rooms.__init__" (inClass (top 57) 0) "countkin.bends" 1216 890))::(nat_lit 920,⟨(.type "dict"),none,(.dict #[kD P "__module__" 1290 (.str "countkin.bends" 1216),kD P "__firstlineno__" 1294 (.int 460 1293),kD P "__init__" 1301 (.ref 891),kD P "size_of" 1307 (.ref 896),kD P "is_one" 1313 (.ref 901),kD P "bare" 1320 (.ref 908),kD P "parted" 1326 (.ref 913),kD P "joined" 1332 (.ref 918),kD P "__static_attributes__" 1333 (.ref 919),kD P "__doc__" 1334 .none] 2),#[]⟩)::(nat_lit 921,⟨(.type "type"),none,(.cls ⟨"Rooms",[(.ref 279)],[(.ref 921),(.ref 279),(.ref 202),(.type "object")],920,"Rooms",true,[],[],false,none,false⟩),#[(some (.ref 878)),none,(some (.str "Rooms" 1283)),(some (.str "Rooms" 1291)),(some (.builtin "object.__new__")),(some (.bool true))]⟩)::(nat_lit 941,(kC "__init__" "Turns.__init__" 1357 499 1 (.ref 936) (.ref 937) .none (.ref 938) (.ref 939) (.ref 940) 1361))::(nat_lit 942,(kF "__init__" "Turns.__init__" (inClass (top 60) 0) "countkin.rows" 1343 941))::(nat_lit 979,⟨(.type "dict"),none,(.dict #[kD P "__module__" 1352 (.str "countkin.rows" 1343),kD P "__firstlineno__" 1356 (.int 497 1355),kD P "__init__" 1363 (.ref 942),kD P "size_of" 1371 (.ref 949),kD P "is_one" 1379 (.ref 956),kD P "bare" 1386 (.ref 963),kD P "parted" 1395 (.ref 970),kD P "joined" 1404 (.ref 977),kD P "__static_attributes__" 1405 (.ref 978),kD P "__doc__" 1406 .none] 2),#[]⟩)::(nat_lit 980,⟨(.type "type"),none,(.cls ⟨"Turns",[(.ref 279)],[(.ref 980),(.ref 279),(.ref 202),(.type "object")],979,"Turns",true,[],[],false,none,false⟩),#[(some (.ref 929)),none,(some (.str "Turns" 1345)),(some (.str "Turns" 1353)),(some (.builtin "object.__new__")),(some (.bool true))]⟩)::(nat_lit 995,(kC "split_families" "split_families" 1421 528 0 (.ref 990) (.ref 991) .none (.ref 992) (.ref 993) (.ref 994) 1424))::(nat_lit 996,(kF "split_families" "split_families" (top 63) "countkin.names" 1419 995))::(nat_lit 1002,(kC "ring_families" "ring_families" 1427 530 0 (.ref 997) (.ref 998) .none (.ref 999) (.ref 1000) (.ref 1001) 1430))::(nat_lit 1003,(kF "ring_families" "ring_families" (top 64) "countkin.names" 1419 1002))::(nat_lit 1009,(kC "family_of" "family_of" 1433 532 1 (.ref 1004) (.ref 1005) .none (.ref 1006) (.ref 1007) (.ref 1008) 1438))::(nat_lit 1010,(kF "family_of" "family_of" (top 65) "countkin.names" 1419 1009))::(nat_lit 1191,(kV #[(.str "peaks" 1652),(.str "returns" 1653),(.str "height" 1654),(.str "leaves" 1655),(.str "rootage" 1656)]))::(nat_lit 1197,(kC "all_measures" "all_measures" 1658 632 0 (.ref 1192) (.ref 1193) .none (.ref 1194) (.ref 1195) (.ref 1196) 1661))::(nat_lit 1198,(kF "all_measures" "all_measures" (top 101) "countkin.marks" 1650 1197))::(nat_lit 1204,(kC "marks_of" "marks_of" 1664 634 1 (.ref 1199) (.ref 1200) .none (.ref 1201) (.ref 1202) (.ref 1203) 1669))::(nat_lit 1205,(kF "marks_of" "marks_of" (top 102) "countkin.marks" 1650 1204))::(nat_lit 1397,(kC "direct_ways" "direct_ways" 1918 786 0 (.ref 1392) (.ref 1393) .none (.ref 1394) (.ref 1395) (.ref 1396) 1921))::(nat_lit 1398,(kF "direct_ways" "direct_ways" (top 138) "countkin.chains" 1903 1397))::(nat_lit 1404,(kC "turning_ways" "turning_ways" 1924 788 0 (.ref 1399) (.ref 1400) .none (.ref 1401) (.ref 1402) (.ref 1403) 1927))::(nat_lit 1405,(kF "turning_ways" "turning_ways" (top 139) "countkin.chains" 1903 1404))::(nat_lit 1411,(kC "parts_name" "parts_name" 1930 790 2 (.ref 1406) (.ref 1407) .none (.ref 1408) (.ref 1409) (.ref 1410) 1935))::(nat_lit 1412,(kF "parts_name" "parts_name" (top 140) "countkin.chains" 1903 1411))::(nat_lit 1418,(kC "parts_way" "parts_way" 1938 792 2 (.ref 1413) (.ref 1414) .none (.ref 1415) (.ref 1416) (.ref 1417) 1945))::(nat_lit 1419,(kF "parts_way" "parts_way" (top 141) "countkin.chains" 1903 1418))::(nat_lit 1425,(kC "parts_ways" "parts_ways" 1948 794 0 (.ref 1420) (.ref 1421) .none (.ref 1422) (.ref 1423) (.ref 1424) 1954))::(nat_lit 1426,(kF "parts_ways" "parts_ways" (top 142) "countkin.chains" 1903 1425))::(nat_lit 1432,(kC "all_ways" "all_ways" 1957 801 0 (.ref 1427) (.ref 1428) .none (.ref 1429) (.ref 1430) (.ref 1431) 1961))::(nat_lit 1433,(kF "all_ways" "all_ways" (top 143) "countkin.chains" 1903 1432))::(nat_lit 1439,(kC "way_of" "way_of" 1964 806 1 (.ref 1434) (.ref 1435) .none (.ref 1436) (.ref 1437) (.ref 1438) 1969))::(nat_lit 1440,(kF "way_of" "way_of" (top 144) "countkin.chains" 1903 1439))::(nat_lit 1446,(kC "manner_of" "manner_of" 1972 811 1 (.ref 1441) (.ref 1442) .none (.ref 1443) (.ref 1444) (.ref 1445) 1976))::(nat_lit 1447,(kF "manner_of" "manner_of" (top 145) "countkin.chains" 1903 1446))::(nat_lit 1453,(kC "ends" "ends" 1979 813 1 (.ref 1448) (.ref 1449) .none (.ref 1450) (.ref 1451) (.ref 1452) 1984))::(nat_lit 1454,(kF "ends" "ends" (top 146) "countkin.chains" 1903 1453))::(nat_lit 1460,(kC "back_of" "back_of" 1987 817 1 (.ref 1455) (.ref 1456) .none (.ref 1457) (.ref 1458) (.ref 1459) 1996))::(nat_lit 1461,(kF "back_of" "back_of" (top 147) "countkin.chains" 1903 1460))::(nat_lit 1465,(kC "carried_by" "carried_by" 1999 826 1 (.ref 1462) (.ref 1463) .none .none .none (.ref 1464) 2002))::(nat_lit 1466,(kF "carried_by" "carried_by" (top 148) "countkin.chains" 1903 1465))::(nat_lit 1472,(kC "carries" "carries" 2005 832 2 (.ref 1467) (.ref 1468) .none (.ref 1469) (.ref 1470) (.ref 1471) 2010))::(nat_lit 1473,(kF "carries" "carries" (top 149) "countkin.chains" 1903 1472))::(nat_lit 1479,(kC "chain_ends" "chain_ends" 2013 838 1 (.ref 1474) (.ref 1475) .none (.ref 1476) (.ref 1477) (.ref 1478) 2021))::(nat_lit 1480,(kF "chain_ends" "chain_ends" (top 150) "countkin.chains" 1903 1479))::(nat_lit 1484,(kC "chain" "chain" 2024 848 1 (.ref 1481) (.ref 1482) .none .none .none (.ref 1483) 2027))::(nat_lit 1485,(kF "chain" "chain" (top 151) "countkin.chains" 1903 1484))::(nat_lit 1496,(kC "chain_back" "chain_back" 2040 857 1 (.ref 1493) (.ref 1494) .none .none .none (.ref 1495) 2043))::(nat_lit 1497,(kF "chain_back" "chain_back" (top 153) "countkin.chains" 1903 1496))::(nat_lit 1501,(kC "carried" "carried" 2046 860 1 (.ref 1498) (.ref 1499) .none .none .none (.ref 1500) 2049))::(nat_lit 1502,(kF "carried" "carried" (top 154) "countkin.chains" 1903 1501))::(nat_lit 1508,(kC "_law_whole" "_law_whole" 2054 865 1 (.ref 1503) (.ref 1504) .none (.ref 1505) (.ref 1506) (.ref 1507) 2058))::(nat_lit 1509,(kF "_law_whole" "_law_whole" (top 156) "law_countkin_k54_chains_looked_at" 2052 1508))::(nat_lit 1515,(kC "_law_mix" "_law_mix" 2061 867 2 (.ref 1510) (.ref 1511) .none (.ref 1512) (.ref 1513) (.ref 1514) 2067))::(nat_lit 1516,(kF "_law_mix" "_law_mix" (top 157) "law_countkin_k54_chains_looked_at" 2052 1515))::(nat_lit 1522,(kC "_law_there_and_back" "_law_there_and_back" 2070 870 4 (.ref 1517) (.ref 1518) .none (.ref 1519) (.ref 1520) (.ref 1521) 2079))::(nat_lit 1523,(kF "_law_there_and_back" "_law_there_and_back" (top 158) "law_countkin_k54_chains_looked_at" 2052 1522))::(nat_lit 1529,(kC "_law_ways" "_law_ways" 2082 874 0 (.ref 1524) (.ref 1525) .none (.ref 1526) (.ref 1527) (.ref 1528) 2090))::(nat_lit 1530,(kF "_law_ways" "_law_ways" (top 159) "law_countkin_k54_chains_looked_at" 2052 1529))::(nat_lit 1536,(kC "_law_marks" "_law_marks" 2093 891 1 (.ref 1531) (.ref 1532) .none (.ref 1533) (.ref 1534) (.ref 1535) 2097))::(nat_lit 1537,(kF "_law_marks" "_law_marks" (top 160) "law_countkin_k54_chains_looked_at" 2052 1536))::(nat_lit 1541,(kC "_law_carried" "_law_carried" 2100 897 1 (.ref 1538) (.ref 1539) .none .none .none (.ref 1540) 2103))::(nat_lit 1542,(kF "_law_carried" "_law_carried" (top 161) "law_countkin_k54_chains_looked_at" 2052 1541))::(nat_lit 1548,(kC "_law_texts" "_law_texts" 2106 904 2 (.ref 1543) (.ref 1544) .none (.ref 1545) (.ref 1546) (.ref 1547) 2112))::(nat_lit 1549,(kF "_law_texts" "_law_texts" (top 162) "law_countkin_k54_chains_looked_at" 2052 1548))::(nat_lit 1553,(kC "_law_draws" "_law_draws" 2115 911 3 (.ref 1550) (.ref 1551) .none .none .none (.ref 1552) 2118))::(nat_lit 1554,(kF "_law_draws" "_law_draws" (top 163) "law_countkin_k54_chains_looked_at" 2052 1553))::(nat_lit 1558,(kC "_law_drawn" "_law_drawn" 2121 925 1 (.ref 1555) (.ref 1556) .none .none .none (.ref 1557) 2124))::(nat_lit 1559,(kF "_law_drawn" "_law_drawn" (top 164) "law_countkin_k54_chains_looked_at" 2052 1558))::(nat_lit 1565,(kC "_law_due" "_law_due" 2127 938 1 (.ref 1560) (.ref 1561) .none (.ref 1562) (.ref 1563) (.ref 1564) 2132))::(nat_lit 1566,(kF "_law_due" "_law_due" (top 165) "law_countkin_k54_chains_looked_at" 2052 1565))::(nat_lit 1572,(kC "_law_asked" "_law_asked" 2135 947 2 (.ref 1567) (.ref 1568) .none (.ref 1569) (.ref 1570) (.ref 1571) 2140))::(nat_lit 1573,(kF "_law_asked" "_law_asked" (top 166) "law_countkin_k54_chains_looked_at" 2052 1572))::(nat_lit 1579,(kC "_law_refusal" "_law_refusal" 2143 953 2 (.ref 1574) (.ref 1575) .none (.ref 1576) (.ref 1577) (.ref 1578) 2151))::(nat_lit 1580,(kF "_law_refusal" "_law_refusal" (top 167) "law_countkin_k54_chains_looked_at" 2052 1579))::(nat_lit 1584,(kC "_law_marks_of_all" "_law_marks_of_all" 2154 974 1 (.ref 1581) (.ref 1582) .none .none .none (.ref 1583) 2157))::(nat_lit 1585,(kF "_law_marks_of_all" "_law_marks_of_all" (top 168) "law_countkin_k54_chains_looked_at" 2052 1584))::(nat_lit 1589,(kC "law" "law" 2160 979 1 (.ref 1586) (.ref 1587) .none .none .none (.ref 1588) 2163))::(nat_lit 1590,(kF "law" "law" (top 169) "law_countkin_k54_chains_looked_at" 2052 1589))::[]
noncomputable def zz (P:Gc):List Gn:=kD P "_law_asked" 2142 (.ref 1573)::kD P "_law_refusal" 2153 (.ref 1580)::kD P "_law_marks_of_all" 2159 (.ref 1585)::kD P "law" 2165 (.ref 1590)::[]
noncomputable def Af (P:Gc):List Gn:=kD P "_law_whole" 2060 (.ref 1509)::kD P "_law_mix" 2069 (.ref 1516)::kD P "_law_there_and_back" 2081 (.ref 1523)::kD P "_law_ways" 2092 (.ref 1530)::kD P "_law_marks" 2099 (.ref 1537)::kD P "_law_carried" 2105 (.ref 1542)::kD P "_law_texts" 2114 (.ref 1549)::kD P "_law_draws" 2120 (.ref 1554)::kD P "_law_drawn" 2126 (.ref 1559)::kD P "_law_due" 2134 (.ref 1566)::zz P
noncomputable def Ag (P:Gc):List Gn:=kD P "manner_of" 1978 (.ref 1447)::kD P "ends" 1986 (.ref 1454)::kD P "back_of" 1998 (.ref 1461)::kD P "carried_by" 2004 (.ref 1466)::kD P "carries" 2012 (.ref 1473)::kD P "chain_ends" 2023 (.ref 1480)::kD P "chain" 2029 (.ref 1485)::kD P "led_along" 2039 (.ref 1492)::kD P "chain_back" 2045 (.ref 1497)::kD P "carried" 2051 (.ref 1502)::Af P
noncomputable def Al (P:Gc):List Gn:=kD P "brackets_to_turns" 1892 (.ref 1383)::kD P "turns_to_brackets" 1902 (.ref 1390)::kD P "OTHER_MANNERS" 1917 (.ref 1391)::kD P "direct_ways" 1923 (.ref 1398)::kD P "turning_ways" 1929 (.ref 1405)::kD P "parts_name" 1937 (.ref 1412)::kD P "parts_way" 1947 (.ref 1419)::kD P "parts_ways" 1956 (.ref 1426)::kD P "all_ways" 1963 (.ref 1433)::kD P "way_of" 1971 (.ref 1440)::Ag P
noncomputable def z0 (P:Gc):List Gn:=kD P "room_from" 1801 (.ref 1315)::kD P "gaps" 1808 (.ref 1322)::kD P "gapsback" 1815 (.ref 1329)::kD P "brackets_to_stairs" 1827 (.ref 1336)::kD P "stairs_to_brackets" 1837 (.ref 1343)::kD P "brackets_to_bows" 1848 (.ref 1350)::kD P "bows_to_brackets" 1858 (.ref 1357)::kD P "closed_in_runs" 1870 (.ref 1364)::kD P "brackets_to_rooms" 1876 (.ref 1369)::kD P "rooms_to_brackets" 1885 (.ref 1376)::Al P
noncomputable def zQ (P:Gc):List Gn:=kD P "knots_with" 1732 (.ref 1255)::kD P "tree_to_cars" 1738 (.ref 1260)::kD P "cars_to_tree" 1744 (.ref 1265)::kD P "turned_pairs" 1752 (.ref 1270)::kD P "bows_turn" 1759 (.ref 1277)::kD P "bows_turnback" 1766 (.ref 1284)::kD P "floor_turn" 1773 (.ref 1291)::kD P "floor_turnback" 1780 (.ref 1298)::kD P "rooms_to_feet" 1786 (.ref 1303)::kD P "feet_to_rooms" 1792 (.ref 1308)::z0 P
noncomputable def Cf (P:Gc):List Gn:=kD P "MARKS_ORDER" 1657 (.ref 1191)::kD P "all_measures" 1663 (.ref 1198)::kD P "marks_of" 1671 (.ref 1205)::kD P "brackets_mirror" 1679 (.ref 1210)::kD P "bows_mirror" 1686 (.ref 1217)::kD P "mirrored_pairs" 1692 (.ref 1222)::kD P "twins_mirror" 1699 (.ref 1229)::kD P "mirrored_twins" 1706 (.ref 1236)::kD P "floor_mirror" 1713 (.ref 1243)::kD P "turns_mirror" 1724 (.ref 1250)::zQ P
noncomputable def CC (P:Gc):List Gn:=kD P "triangles" 1591 (.ref 1141)::kD P "floor_peaks" 1597 (.ref 1146)::kD P "floor_returns" 1603 (.ref 1151)::kD P "turns_peaks" 1609 (.ref 1156)::kD P "turns_returns" 1615 (.ref 1161)::kD P "brackets_height" 1624 (.ref 1168)::kD P "stairs_height" 1630 (.ref 1173)::kD P "twins_height" 1637 (.ref 1180)::kD P "bows_height" 1643 (.ref 1185)::kD P "turns_height" 1649 (.ref 1190)::Cf P
noncomputable def Cg (P:Gc):List Gn:=kD P "stairs_peaks" 1523 (.ref 1085)::kD P "stairs_returns" 1529 (.ref 1090)::kD P "twins_peaks" 1539 (.ref 1097)::kD P "twins_returns" 1548 (.ref 1104)::kD P "bows_peaks" 1554 (.ref 1109)::kD P "bows_over" 1560 (.ref 1114)::kD P "bows_returns" 1566 (.ref 1119)::kD P "rooms_peaks" 1573 (.ref 1126)::kD P "rooms_around" 1579 (.ref 1131)::kD P "rooms_returns" 1585 (.ref 1136)::CC P
noncomputable def AM (P:Gc):List Gn:=kD P "missing" 1448 (.ref 1015)::kD P "trees_leaves" 1455 (.ref 1022)::kD P "trees_rootage" 1462 (.ref 1029)::kD P "codes_leaves" 1469 (.ref 1036)::kD P "codes_rootage" 1476 (.ref 1043)::kD P "cars_leaves" 1483 (.ref 1050)::kD P "cars_rootage" 1490 (.ref 1057)::kD P "brackets_peaks" 1499 (.ref 1064)::kD P "depths" 1509 (.ref 1071)::kD P "brackets_returns" 1516 (.ref 1078)::Cg P
noncomputable def Ct (P:Gc):List Gn:=kD P "tree_to_code" 1208 (.ref 818)::kD P "code_to_tree" 1215 (.ref 825)::kD P "Bows" 1282 (.ref 875)::kD P "Rooms" 1336 (.ref 921)::kD P "neighbours" 1342 (.ref 928)::kD P "Turns" 1408 (.ref 980)::kD P "comes_off_a_stack" 1418 (.ref 989)::kD P "split_families" 1426 (.ref 996)::kD P "ring_families" 1432 (.ref 1003)::kD P "family_of" 1440 (.ref 1010)::AM P
noncomputable def CN (P:Gc):List Gn:=kD P "Stairs" 1016 (.ref 667)::kD P "right_begin" 1024 (.ref 676)::kD P "Twins" 1092 (.ref 728)::kD P "brackets_to_twins" 1104 (.ref 737)::kD P "twins_to_brackets" 1114 (.ref 744)::kD P "twins_to_floor" 1123 (.ref 751)::kD P "lines_over" 1134 (.ref 758)::kD P "floor_to_twins" 1140 (.ref 763)::kD P "Trees" 1191 (.ref 802)::kD P "comes_to_0" 1201 (.ref 811)::Ct P
noncomputable def CP (P:Gc):List Gn:=kD P "flat" 760 (.ref 466)::kD P "each_once" 767 (.ref 473)::kD P "any_cross" 778 (.ref 480)::kD P "pairs_anew" 784 (.ref 485)::kD P "Floors" 848 (.ref 533)::kD P "may_be_cut" 857 (.ref 542)::kD P "third_corner" 863 (.ref 547)::kD P "closes" 874 (.ref 554)::kD P "Brackets" 940 (.ref 606)::kD P "first_close" 949 (.ref 615)::CN P
noncomputable def Bu (P:Gc):List Gn:=kD P "SplitFamily" 531 (.ref 279)::kD P "by_parts" 540 (.ref 288)::kD P "led_by_parts" 552 (.ref 295)::kD P "RingFamily" 619 (.ref 347)::kD P "Codes" 672 (.ref 392)::kD P "Cars" 723 (.ref 433)::kD P "cars_to_code" 730 (.ref 442)::kD P "code_to_cars" 737 (.ref 449)::kD P "raised_by" 745 (.ref 454)::kD P "pairs_raised_by" 751 (.ref 459)::CP P
noncomputable def Bs (P:Gc):List Gn:=kD P "GREATEST_SIZE" 197 (.int 40 196)::kD P "by_rule" 206 (.ref 28)::kD P "ring_many" 215 (.ref 35)::kD P "KinError" 235 (.ref 45)::kD P "NoSize" 251 (.ref 58)::kD P "NoThing" 267 (.ref 70)::kD P "NoFamily" 283 (.ref 82)::kD P "NoWay" 299 (.ref 94)::kD P "Broken" 324 (.ref 113)::kD P "Family" 439 (.ref 202)::Bu P
noncomputable def BB (P:Gc):List Gn:=kD P "__name__" 165 (.str "law_countkin_k54_chains_looked_at" 2052)::kD P "__doc__" 166 .none::kD P "__package__" 167 .none::kD P "__loader__" 168 (.builtin "__main__.__loader__#opaque")::kD P "__spec__" 169 .none::kD P "__annotations__" 170 (.ref 6)::kD P "__builtins__" 171 (.ref 4)::kD P "__file__" 173 (.str "/claim/cut.py" 172)::kD P "__cached__" 174 .none::kD P "_wall" 193 (.ref 21)::Bs P
noncomputable def Ed (P:Gc):JY:=(nat_lit 1585,(kF "_law_marks_of_all" "_law_marks_of_all" (top 168) "law_countkin_k54_chains_looked_at" 2052 1584))::(nat_lit 1589,(kC "law" "law" 2160 979 1 (.ref 1586) (.ref 1587) .none .none .none (.ref 1588) 2163))::(nat_lit 1590,(kF "law" "law" (top 169) "law_countkin_k54_chains_looked_at" 2052 1589))::[]
noncomputable def D9 (P:Gc):JY:=(nat_lit 1554,(kF "_law_draws" "_law_draws" (top 163) "law_countkin_k54_chains_looked_at" 2052 1553))::(nat_lit 1558,(kC "_law_drawn" "_law_drawn" 2121 925 1 (.ref 1555) (.ref 1556) .none .none .none (.ref 1557) 2124))::(nat_lit 1559,(kF "_law_drawn" "_law_drawn" (top 164) "law_countkin_k54_chains_looked_at" 2052 1558))::(nat_lit 1565,(kC "_law_due" "_law_due" 2127 938 1 (.ref 1560) (.ref 1561) .none (.ref 1562) (.ref 1563) (.ref 1564) 2132))::(nat_lit 1566,(kF "_law_due" "_law_due" (top 165) "law_countkin_k54_chains_looked_at" 2052 1565))::(nat_lit 1572,(kC "_law_asked" "_law_asked" 2135 947 2 (.ref 1567) (.ref 1568) .none (.ref 1569) (.ref 1570) (.ref 1571) 2140))::(nat_lit 1573,(kF "_law_asked" "_law_asked" (top 166) "law_countkin_k54_chains_looked_at" 2052 1572))::(nat_lit 1579,(kC "_law_refusal" "_law_refusal" 2143 953 2 (.ref 1574) (.ref 1575) .none (.ref 1576) (.ref 1577) (.ref 1578) 2151))::(nat_lit 1580,(kF "_law_refusal" "_law_refusal" (top 167) "law_countkin_k54_chains_looked_at" 2052 1579))::(nat_lit 1584,(kC "_law_marks_of_all" "_law_marks_of_all" 2154 974 1 (.ref 1581) (.ref 1582) .none .none .none (.ref 1583) 2157))::Ed P
noncomputable def Ei (P:Gc):JY:=(nat_lit 1523,(kF "_law_there_and_back" "_law_there_and_back" (top 158) "law_countkin_k54_chains_looked_at" 2052 1522))::(nat_lit 1529,(kC "_law_ways" "_law_ways" 2082 874 0 (.ref 1524) (.ref 1525) .none (.ref 1526) (.ref 1527) (.ref 1528) 2090))::(nat_lit 1530,(kF "_law_ways" "_law_ways" (top 159) "law_countkin_k54_chains_looked_at" 2052 1529))::(nat_lit 1536,(kC "_law_marks" "_law_marks" 2093 891 1 (.ref 1531) (.ref 1532) .none (.ref 1533) (.ref 1534) (.ref 1535) 2097))::(nat_lit 1537,(kF "_law_marks" "_law_marks" (top 160) "law_countkin_k54_chains_looked_at" 2052 1536))::(nat_lit 1541,(kC "_law_carried" "_law_carried" 2100 897 1 (.ref 1538) (.ref 1539) .none .none .none (.ref 1540) 2103))::(nat_lit 1542,(kF "_law_carried" "_law_carried" (top 161) "law_countkin_k54_chains_looked_at" 2052 1541))::(nat_lit 1548,(kC "_law_texts" "_law_texts" 2106 904 2 (.ref 1543) (.ref 1544) .none (.ref 1545) (.ref 1546) (.ref 1547) 2112))::(nat_lit 1549,(kF "_law_texts" "_law_texts" (top 162) "law_countkin_k54_chains_looked_at" 2052 1548))::(nat_lit 1553,(kC "_law_draws" "_law_draws" 2115 911 3 (.ref 1550) (.ref 1551) .none .none .none (.ref 1552) 2118))::D9 P
noncomputable def D7 (P:Gc):JY:=(nat_lit 1485,(kF "chain" "chain" (top 151) "countkin.chains" 1903 1484))::(nat_lit 1496,(kC "chain_back" "chain_back" 2040 857 1 (.ref 1493) (.ref 1494) .none .none .none (.ref 1495) 2043))::(nat_lit 1497,(kF "chain_back" "chain_back" (top 153) "countkin.chains" 1903 1496))::(nat_lit 1501,(kC "carried" "carried" 2046 860 1 (.ref 1498) (.ref 1499) .none .none .none (.ref 1500) 2049))::(nat_lit 1502,(kF "carried" "carried" (top 154) "countkin.chains" 1903 1501))::(nat_lit 1508,(kC "_law_whole" "_law_whole" 2054 865 1 (.ref 1503) (.ref 1504) .none (.ref 1505) (.ref 1506) (.ref 1507) 2058))::(nat_lit 1509,(kF "_law_whole" "_law_whole" (top 156) "law_countkin_k54_chains_looked_at" 2052 1508))::(nat_lit 1515,(kC "_law_mix" "_law_mix" 2061 867 2 (.ref 1510) (.ref 1511) .none (.ref 1512) (.ref 1513) (.ref 1514) 2067))::(nat_lit 1516,(kF "_law_mix" "_law_mix" (top 157) "law_countkin_k54_chains_looked_at" 2052 1515))::(nat_lit 1522,(kC "_law_there_and_back" "_law_there_and_back" 2070 870 4 (.ref 1517) (.ref 1518) .none (.ref 1519) (.ref 1520) (.ref 1521) 2079))::Ei P
noncomputable def El (P:Gc):JY:=(nat_lit 1454,(kF "ends" "ends" (top 146) "countkin.chains" 1903 1453))::(nat_lit 1460,(kC "back_of" "back_of" 1987 817 1 (.ref 1455) (.ref 1456) .none (.ref 1457) (.ref 1458) (.ref 1459) 1996))::(nat_lit 1461,(kF "back_of" "back_of" (top 147) "countkin.chains" 1903 1460))::(nat_lit 1465,(kC "carried_by" "carried_by" 1999 826 1 (.ref 1462) (.ref 1463) .none .none .none (.ref 1464) 2002))::(nat_lit 1466,(kF "carried_by" "carried_by" (top 148) "countkin.chains" 1903 1465))::(nat_lit 1472,(kC "carries" "carries" 2005 832 2 (.ref 1467) (.ref 1468) .none (.ref 1469) (.ref 1470) (.ref 1471) 2010))::(nat_lit 1473,(kF "carries" "carries" (top 149) "countkin.chains" 1903 1472))::(nat_lit 1479,(kC "chain_ends" "chain_ends" 2013 838 1 (.ref 1474) (.ref 1475) .none (.ref 1476) (.ref 1477) (.ref 1478) 2021))::(nat_lit 1480,(kF "chain_ends" "chain_ends" (top 150) "countkin.chains" 1903 1479))::(nat_lit 1484,(kC "chain" "chain" 2024 848 1 (.ref 1481) (.ref 1482) .none .none .none (.ref 1483) 2027))::D7 P
noncomputable def ER (P:Gc):JY:=(nat_lit 1419,(kF "parts_way" "parts_way" (top 141) "countkin.chains" 1903 1418))::(nat_lit 1425,(kC "parts_ways" "parts_ways" 1948 794 0 (.ref 1420) (.ref 1421) .none (.ref 1422) (.ref 1423) (.ref 1424) 1954))::(nat_lit 1426,(kF "parts_ways" "parts_ways" (top 142) "countkin.chains" 1903 1425))::(nat_lit 1432,(kC "all_ways" "all_ways" 1957 801 0 (.ref 1427) (.ref 1428) .none (.ref 1429) (.ref 1430) (.ref 1431) 1961))::(nat_lit 1433,(kF "all_ways" "all_ways" (top 143) "countkin.chains" 1903 1432))::(nat_lit 1439,(kC "way_of" "way_of" 1964 806 1 (.ref 1434) (.ref 1435) .none (.ref 1436) (.ref 1437) (.ref 1438) 1969))::(nat_lit 1440,(kF "way_of" "way_of" (top 144) "countkin.chains" 1903 1439))::(nat_lit 1446,(kC "manner_of" "manner_of" 1972 811 1 (.ref 1441) (.ref 1442) .none (.ref 1443) (.ref 1444) (.ref 1445) 1976))::(nat_lit 1447,(kF "manner_of" "manner_of" (top 145) "countkin.chains" 1903 1446))::(nat_lit 1453,(kC "ends" "ends" 1979 813 1 (.ref 1448) (.ref 1449) .none (.ref 1450) (.ref 1451) (.ref 1452) 1984))::El P
noncomputable def EU (P:Gc):JY:=(nat_lit 1198,(kF "all_measures" "all_measures" (top 101) "countkin.marks" 1650 1197))::(nat_lit 1204,(kC "marks_of" "marks_of" 1664 634 1 (.ref 1199) (.ref 1200) .none (.ref 1201) (.ref 1202) (.ref 1203) 1669))::(nat_lit 1205,(kF "marks_of" "marks_of" (top 102) "countkin.marks" 1650 1204))::(nat_lit 1397,(kC "direct_ways" "direct_ways" 1918 786 0 (.ref 1392) (.ref 1393) .none (.ref 1394) (.ref 1395) (.ref 1396) 1921))::(nat_lit 1398,(kF "direct_ways" "direct_ways" (top 138) "countkin.chains" 1903 1397))::(nat_lit 1404,(kC "turning_ways" "turning_ways" 1924 788 0 (.ref 1399) (.ref 1400) .none (.ref 1401) (.ref 1402) (.ref 1403) 1927))::(nat_lit 1405,(kF "turning_ways" "turning_ways" (top 139) "countkin.chains" 1903 1404))::(nat_lit 1411,(kC "parts_name" "parts_name" 1930 790 2 (.ref 1406) (.ref 1407) .none (.ref 1408) (.ref 1409) (.ref 1410) 1935))::(nat_lit 1412,(kF "parts_name" "parts_name" (top 140) "countkin.chains" 1903 1411))::(nat_lit 1418,(kC "parts_way" "parts_way" 1938 792 2 (.ref 1413) (.ref 1414) .none (.ref 1415) (.ref 1416) (.ref 1417) 1945))::ER P
noncomputable def EI (P:Gc):JY:=(nat_lit 979,⟨(.type "dict"),none,(.dict #[kD P "__module__" 1352 (.str "countkin.rows" 1343),kD P "__firstlineno__" 1356 (.int 497 1355),kD P "__init__" 1363 (.ref 942),kD P "size_of" 1371 (.ref 949),kD P "is_one" 1379 (.ref 956),kD P "bare" 1386 (.ref 963),kD P "parted" 1395 (.ref 970),kD P "joined" 1404 (.ref 977),kD P "__static_attributes__" 1405 (.ref 978),kD P "__doc__" 1406 .none] 2),#[]⟩)::(nat_lit 980,⟨(.type "type"),none,(.cls ⟨"Turns",[(.ref 279)],[(.ref 980),(.ref 279),(.ref 202),(.type "object")],979,"Turns",true,[],[],false,none,false⟩),#[(some (.ref 929)),none,(some (.str "Turns" 1345)),(some (.str "Turns" 1353)),(some (.builtin "object.__new__")),(some (.bool true))]⟩)::(nat_lit 995,(kC "split_families" "split_families" 1421 528 0 (.ref 990) (.ref 991) .none (.ref 992) (.ref 993) (.ref 994) 1424))::(nat_lit 996,(kF "split_families" "split_families" (top 63) "countkin.names" 1419 995))::(nat_lit 1002,(kC "ring_families" "ring_families" 1427 530 0 (.ref 997) (.ref 998) .none (.ref 999) (.ref 1000) (.ref 1001) 1430))::(nat_lit 1003,(kF "ring_families" "ring_families" (top 64) "countkin.names" 1419 1002))::(nat_lit 1009,(kC "family_of" "family_of" 1433 532 1 (.ref 1004) (.ref 1005) .none (.ref 1006) (.ref 1007) (.ref 1008) 1438))::(nat_lit 1010,(kF "family_of" "family_of" (top 65) "countkin.names" 1419 1009))::(nat_lit 1191,(kV #[(.str "peaks" 1652),(.str "returns" 1653),(.str "height" 1654),(.str "leaves" 1655),(.str "rootage" 1656)]))::(nat_lit 1197,(kC "all_measures" "all_measures" 1658 632 0 (.ref 1192) (.ref 1193) .none (.ref 1194) (.ref 1195) (.ref 1196) 1661))::EU P
noncomputable def DL (P:Gc):JY:=(nat_lit 838,(kC "__init__" "Bows.__init__" 1230 437 1 (.ref 833) (.ref 834) .none (.ref 835) (.ref 836) (.ref 837) 1234))::(nat_lit 839,(kF "__init__" "Bows.__init__" (inClass (top 56) 0) "countkin.bends" 1216 838))::(nat_lit 874,⟨(.type "dict"),none,(.dict #[kD P "__module__" 1225 (.str "countkin.bends" 1216),kD P "__firstlineno__" 1229 (.int 435 1228),kD P "__init__" 1236 (.ref 839),kD P "size_of" 1244 (.ref 846),kD P "is_one" 1250 (.ref 851),kD P "bare" 1257 (.ref 858),kD P "parted" 1268 (.ref 865),kD P "joined" 1278 (.ref 872),kD P "__static_attributes__" 1279 (.ref 873),kD P "__doc__" 1280 .none] 2),#[]⟩)::(nat_lit 875,⟨(.type "type"),none,(.cls ⟨"Bows",[(.ref 279)],[(.ref 875),(.ref 279),(.ref 202),(.type "object")],874,"Bows",true,[],[],false,none,false⟩),#[(some (.ref 826)),none,(some (.str "Bows" 1218)),(some (.str "Bows" 1226)),(some (.builtin "object.__new__")),(some (.bool true))]⟩)::(nat_lit 890,(kC "__init__" "Rooms.__init__" 1295 462 1 (.ref 885) (.ref 886) .none (.ref 887) (.ref 888) (.ref 889) 1299))::(nat_lit 891,(kF "__init__" "Rooms.__init__" (inClass (top 57) 0) "countkin.bends" 1216 890))::(nat_lit 920,⟨(.type "dict"),none,(.dict #[kD P "__module__" 1290 (.str "countkin.bends" 1216),kD P "__firstlineno__" 1294 (.int 460 1293),kD P "__init__" 1301 (.ref 891),kD P "size_of" 1307 (.ref 896),kD P "is_one" 1313 (.ref 901),kD P "bare" 1320 (.ref 908),kD P "parted" 1326 (.ref 913),kD P "joined" 1332 (.ref 918),kD P "__static_attributes__" 1333 (.ref 919),kD P "__doc__" 1334 .none] 2),#[]⟩)::(nat_lit 921,⟨(.type "type"),none,(.cls ⟨"Rooms",[(.ref 279)],[(.ref 921),(.ref 279),(.ref 202),(.type "object")],920,"Rooms",true,[],[],false,none,false⟩),#[(some (.ref 878)),none,(some (.str "Rooms" 1283)),(some (.str "Rooms" 1291)),(some (.builtin "object.__new__")),(some (.bool true))]⟩)::(nat_lit 941,(kC "__init__" "Turns.__init__" 1357 499 1 (.ref 936) (.ref 937) .none (.ref 938) (.ref 939) (.ref 940) 1361))::(nat_lit 942,(kF "__init__" "Turns.__init__" (inClass (top 60) 0) "countkin.rows" 1343 941))::EI P
noncomputable def DR (P:Gc):JY:=(nat_lit 666,⟨(.type "dict"),none,(.dict #[kD P "__module__" 957 (.str "countkin.signs" 875),kD P "__firstlineno__" 961 (.int 282 960),kD P "__init__" 968 (.ref 629),kD P "size_of" 976 (.ref 636),kD P "is_one" 987 (.ref 643),kD P "bare" 994 (.ref 650),kD P "parted" 1003 (.ref 657),kD P "joined" 1012 (.ref 664),kD P "__static_attributes__" 1013 (.ref 665),kD P "__doc__" 1014 .none] 2),#[]⟩)::(nat_lit 667,⟨(.type "type"),none,(.cls ⟨"Stairs",[(.ref 279)],[(.ref 667),(.ref 279),(.ref 202),(.type "object")],666,"Stairs",true,[],[],false,none,false⟩),#[(some (.ref 616)),none,(some (.str "Stairs" 950)),(some (.str "Stairs" 958)),(some (.builtin "object.__new__")),(some (.bool true))]⟩)::(nat_lit 689,(kC "__init__" "Twins.__init__" 1039 315 1 (.ref 684) (.ref 685) .none (.ref 686) (.ref 687) (.ref 688) 1043))::(nat_lit 690,(kF "__init__" "Twins.__init__" (inClass (top 43) 0) "countkin.twigs" 1025 689))::(nat_lit 727,⟨(.type "dict"),none,(.dict #[kD P "__module__" 1034 (.str "countkin.twigs" 1025),kD P "__firstlineno__" 1038 (.int 313 1037),kD P "__init__" 1045 (.ref 690),kD P "size_of" 1056 (.ref 697),kD P "is_one" 1064 (.ref 704),kD P "bare" 1071 (.ref 711),kD P "parted" 1079 (.ref 718),kD P "joined" 1088 (.ref 725),kD P "__static_attributes__" 1089 (.ref 726),kD P "__doc__" 1090 .none] 2),#[]⟩)::(nat_lit 728,⟨(.type "type"),none,(.cls ⟨"Twins",[(.ref 279)],[(.ref 728),(.ref 279),(.ref 202),(.type "object")],727,"Twins",true,[],[],false,none,false⟩),#[(some (.ref 677)),none,(some (.str "Twins" 1027)),(some (.str "Twins" 1035)),(some (.builtin "object.__new__")),(some (.bool true))]⟩)::(nat_lit 776,(kC "__init__" "Trees.__init__" 1155 391 1 (.ref 771) (.ref 772) .none (.ref 773) (.ref 774) (.ref 775) 1159))::(nat_lit 777,(kF "__init__" "Trees.__init__" (inClass (top 51) 0) "countkin.elders" 1141 776))::(nat_lit 801,⟨(.type "dict"),none,(.dict #[kD P "__module__" 1150 (.str "countkin.elders" 1141),kD P "__firstlineno__" 1154 (.int 389 1153),kD P "__init__" 1161 (.ref 777),kD P "size_of" 1169 (.ref 784),kD P "is_one" 1175 (.ref 789),kD P "code_of" 1181 (.ref 794),kD P "of_code" 1187 (.ref 799),kD P "__static_attributes__" 1188 (.ref 800),kD P "__doc__" 1189 .none] 2),#[]⟩)::(nat_lit 802,⟨(.type "type"),none,(.cls ⟨"Trees",[(.ref 347)],[(.ref 802),(.ref 347),(.ref 202),(.type "object")],801,"Trees",true,[],[],false,none,false⟩),#[(some (.ref 764)),none,(some (.str "Trees" 1143)),(some (.str "Trees" 1151)),(some (.builtin "object.__new__")),(some (.bool true))]⟩)::DL P
noncomputable def ES (P:Gc):JY:=(nat_lit 498,(kC "__init__" "Floors.__init__" 799 201 1 (.ref 493) (.ref 494) .none (.ref 495) (.ref 496) (.ref 497) 803))::(nat_lit 499,(kF "__init__" "Floors.__init__" (inClass (top 32) 0) "countkin.floors" 785 498))::(nat_lit 532,⟨(.type "dict"),none,(.dict #[kD P "__module__" 794 (.str "countkin.floors" 785),kD P "__firstlineno__" 798 (.int 199 797),kD P "__init__" 805 (.ref 499),kD P "size_of" 813 (.ref 506),kD P "is_one" 819 (.ref 511),kD P "bare" 826 (.ref 518),kD P "parted" 832 (.ref 523),kD P "joined" 844 (.ref 530),kD P "__static_attributes__" 845 (.ref 531),kD P "__doc__" 846 .none] 2),#[]⟩)::(nat_lit 533,⟨(.type "type"),none,(.cls ⟨"Floors",[(.ref 279)],[(.ref 533),(.ref 279),(.ref 202),(.type "object")],532,"Floors",true,[],[],false,none,false⟩),#[(some (.ref 486)),none,(some (.str "Floors" 787)),(some (.str "Floors" 795)),(some (.builtin "object.__new__")),(some (.bool true))]⟩)::(nat_lit 567,(kC "__init__" "Brackets.__init__" 889 254 1 (.ref 562) (.ref 563) .none (.ref 564) (.ref 565) (.ref 566) 893))::(nat_lit 568,(kF "__init__" "Brackets.__init__" (inClass (top 38) 0) "countkin.signs" 875 567))::(nat_lit 605,⟨(.type "dict"),none,(.dict #[kD P "__module__" 884 (.str "countkin.signs" 875),kD P "__firstlineno__" 888 (.int 252 887),kD P "__init__" 895 (.ref 568),kD P "size_of" 903 (.ref 575),kD P "is_one" 911 (.ref 582),kD P "bare" 918 (.ref 589),kD P "parted" 927 (.ref 596),kD P "joined" 936 (.ref 603),kD P "__static_attributes__" 937 (.ref 604),kD P "__doc__" 938 .none] 2),#[]⟩)::(nat_lit 606,⟨(.type "type"),none,(.cls ⟨"Brackets",[(.ref 279)],[(.ref 606),(.ref 279),(.ref 202),(.type "object")],605,"Brackets",true,[],[],false,none,false⟩),#[(some (.ref 555)),none,(some (.str "Brackets" 877)),(some (.str "Brackets" 885)),(some (.builtin "object.__new__")),(some (.bool true))]⟩)::(nat_lit 628,(kC "__init__" "Stairs.__init__" 962 284 1 (.ref 623) (.ref 624) .none (.ref 625) (.ref 626) (.ref 627) 966))::(nat_lit 629,(kF "__init__" "Stairs.__init__" (inClass (top 40) 0) "countkin.signs" 875 628))::DR P
noncomputable def EG (P:Gc):JY:=(nat_lit 346,⟨(.type "dict"),none,(.dict #[kD P "__module__" 562 (.str "countkin.ring" 553),kD P "__firstlineno__" 566 (.int 110 565),kD P "__init__" 574 (.ref 309),kD P "code_of" 582 (.ref 316),kD P "of_code" 590 (.ref 323),kD P "unchecked_many" 598 (.ref 330),kD P "unchecked_number" 606 (.ref 337),kD P "unchecked_thing" 615 (.ref 344),kD P "__static_attributes__" 616 (.ref 345),kD P "__doc__" 617 .none] 2),#[]⟩)::(nat_lit 347,⟨(.type "type"),none,(.cls ⟨"RingFamily",[(.ref 202)],[(.ref 347),(.ref 202),(.type "object")],346,"RingFamily",true,[],[(.ref 392),(.ref 433),(.ref 802)],false,none,false⟩),#[(some (.ref 296)),none,(some (.str "RingFamily" 555)),(some (.str "RingFamily" 563)),(some (.builtin "object.__new__")),(some (.bool true))]⟩)::(nat_lit 362,(kC "__init__" "Codes.__init__" 632 131 1 (.ref 357) (.ref 358) .none (.ref 359) (.ref 360) (.ref 361) 636))::(nat_lit 363,(kF "__init__" "Codes.__init__" (inClass (top 19) 0) "countkin.ring" 553 362))::(nat_lit 391,⟨(.type "dict"),none,(.dict #[kD P "__module__" 627 (.str "countkin.ring" 553),kD P "__firstlineno__" 631 (.int 129 630),kD P "__init__" 638 (.ref 363),kD P "size_of" 646 (.ref 370),kD P "is_one" 652 (.ref 375),kD P "code_of" 660 (.ref 382),kD P "of_code" 668 (.ref 389),kD P "__static_attributes__" 669 (.ref 390),kD P "__doc__" 670 .none] 2),#[]⟩)::(nat_lit 392,⟨(.type "type"),none,(.cls ⟨"Codes",[(.ref 347)],[(.ref 392),(.ref 347),(.ref 202),(.type "object")],391,"Codes",true,[],[],false,none,false⟩),#[(some (.ref 350)),none,(some (.str "Codes" 620)),(some (.str "Codes" 628)),(some (.builtin "object.__new__")),(some (.bool true))]⟩)::(nat_lit 407,(kC "__init__" "Cars.__init__" 687 149 1 (.ref 402) (.ref 403) .none (.ref 404) (.ref 405) (.ref 406) 691))::(nat_lit 408,(kF "__init__" "Cars.__init__" (inClass (top 21) 0) "countkin.cars" 673 407))::(nat_lit 432,⟨(.type "dict"),none,(.dict #[kD P "__module__" 682 (.str "countkin.cars" 673),kD P "__firstlineno__" 686 (.int 147 685),kD P "__init__" 693 (.ref 408),kD P "size_of" 701 (.ref 415),kD P "is_one" 707 (.ref 420),kD P "code_of" 713 (.ref 425),kD P "of_code" 719 (.ref 430),kD P "__static_attributes__" 720 (.ref 431),kD P "__doc__" 721 .none] 2),#[]⟩)::(nat_lit 433,⟨(.type "type"),none,(.cls ⟨"Cars",[(.ref 347)],[(.ref 433),(.ref 347),(.ref 202),(.type "object")],432,"Cars",true,[],[],false,none,false⟩),#[(some (.ref 395)),none,(some (.str "Cars" 675)),(some (.str "Cars" 683)),(some (.builtin "object.__new__")),(some (.bool true))]⟩)::ES P
noncomputable def EY (P:Gc):JY:=(nat_lit 201,⟨(.type "dict"),none,(.dict #[kD P "__module__" 334 (.str "countkin.kin" 325),kD P "__firstlineno__" 338 (.int 33 337),kD P "__init__" 347 (.ref 129),kD P "size_of" 355 (.ref 136),kD P "is_one" 363 (.ref 143),kD P "unchecked_many" 371 (.ref 150),kD P "unchecked_number" 379 (.ref 157),kD P "unchecked_thing" 388 (.ref 164),kD P "many" 396 (.ref 171),kD P "refuse_other" 404 (.ref 178),kD P "number_of" 412 (.ref 185),kD P "thing_of" 421 (.ref 192),kD P "next_of" 429 (.ref 199),kD P "__static_attributes__" 432 (.ref 200),kD P "__dict__" 434 (.ref 203),kD P "__weakref__" 436 (.ref 204),kD P "__doc__" 437 .none] 4),#[]⟩)::(nat_lit 202,⟨(.type "type"),none,(.cls ⟨"Family",[(.type "object")],[(.ref 202),(.type "object")],201,"Family",true,[],[(.ref 279),(.ref 347)],false,none,false⟩),#[none,none,(some (.str "Family" 327)),(some (.str "Family" 335)),(some (.builtin "object.__new__")),(some (.bool true))]⟩)::(nat_lit 203,⟨(.type "getset_descriptor"),none,(.fields #[(.str "__dict__" 433),(.ref 202),(.builtin "function.__dict__"),(.builtin "function.__dict__#set")]),#[]⟩)::(nat_lit 204,⟨(.type "getset_descriptor"),none,(.fields #[(.str "__weakref__" 435),(.ref 202),(.builtin "ExceptionGroup.__weakref__"),.none]),#[]⟩)::(nat_lit 219,(kC "__init__" "SplitFamily.__init__" 452 73 2 (.ref 214) (.ref 215) .none (.ref 216) (.ref 217) (.ref 218) 457))::(nat_lit 220,(kF "__init__" "SplitFamily.__init__" (inClass (top 14) 0) "countkin.kin" 325 219))::(nat_lit 278,⟨(.type "dict"),none,(.dict #[kD P "__module__" 447 (.str "countkin.kin" 325),kD P "__firstlineno__" 451 (.int 71 450),kD P "__init__" 459 (.ref 220),kD P "bare" 466 (.ref 227),kD P "parted" 474 (.ref 234),kD P "joined" 483 (.ref 241),kD P "unchecked_many" 491 (.ref 248),kD P "unchecked_number" 499 (.ref 255),kD P "unchecked_thing" 508 (.ref 262),kD P "number_by_parts" 517 (.ref 269),kD P "thing_by_parts" 527 (.ref 276),kD P "__static_attributes__" 528 (.ref 277),kD P "__doc__" 529 .none] 2),#[]⟩)::(nat_lit 279,⟨(.type "type"),none,(.cls ⟨"SplitFamily",[(.ref 202)],[(.ref 279),(.ref 202),(.type "object")],278,"SplitFamily",true,[],[(.ref 533),(.ref 606),(.ref 667),(.ref 728),(.ref 875),(.ref 921),(.ref 980)],false,none,false⟩),#[(some (.ref 207)),none,(some (.str "SplitFamily" 440)),(some (.str "SplitFamily" 448)),(some (.builtin "object.__new__")),(some (.bool true))]⟩)::(nat_lit 308,(kC "__init__" "RingFamily.__init__" 567 112 2 (.ref 303) (.ref 304) .none (.ref 305) (.ref 306) (.ref 307) 572))::(nat_lit 309,(kF "__init__" "RingFamily.__init__" (inClass (top 18) 0) "countkin.ring" 553 308))::EG P
noncomputable def hW (P:Gc):JY:=(nat_lit 81,⟨(.type "dict"),none,(.dict #[kD P "__module__" 275 (.str "countkin.errors" 216),kD P "__firstlineno__" 279 (.int 23 278),kD P "__static_attributes__" 280 (.ref 80),kD P "__doc__" 281 .none] 2),#[]⟩)::(nat_lit 82,⟨(.type "type"),none,(.cls ⟨"NoFamily",[(.ref 45)],[(.ref 82),(.ref 45),(.type "ValueError"),(.type "Exception"),(.type "BaseException"),(.type "object")],81,"NoFamily",true,[],[],false,none,false⟩),#[(some (.ref 73)),none,(some (.str "NoFamily" 268)),(some (.str "NoFamily" 276)),(some (.builtin "ValueError.__new__")),(some (.bool true))]⟩)::(nat_lit 93,⟨(.type "dict"),none,(.dict #[kD P "__module__" 291 (.str "countkin.errors" 216),kD P "__firstlineno__" 295 (.int 25 294),kD P "__static_attributes__" 296 (.ref 92),kD P "__doc__" 297 .none] 2),#[]⟩)::(nat_lit 94,⟨(.type "type"),none,(.cls ⟨"NoWay",[(.ref 45)],[(.ref 94),(.ref 45),(.type "ValueError"),(.type "Exception"),(.type "BaseException"),(.type "object")],93,"NoWay",true,[],[],false,none,false⟩),#[(some (.ref 85)),none,(some (.str "NoWay" 284)),(some (.str "NoWay" 292)),(some (.builtin "ValueError.__new__")),(some (.bool true))]⟩)::(nat_lit 109,(kC "__init__" "Broken.__init__" 312 29 2 (.ref 104) (.ref 105) .none (.ref 106) (.ref 107) (.ref 108) 317))::(nat_lit 110,(kF "__init__" "Broken.__init__" (inClass (top 11) 0) "countkin.errors" 216 109))::(nat_lit 112,⟨(.type "dict"),none,(.dict #[kD P "__module__" 307 (.str "countkin.errors" 216),kD P "__firstlineno__" 311 (.int 27 310),kD P "__init__" 319 (.ref 110),kD P "__static_attributes__" 321 (.ref 111),kD P "__doc__" 322 .none] 2),#[]⟩)::(nat_lit 113,⟨(.type "type"),none,(.cls ⟨"Broken",[(.ref 45)],[(.ref 113),(.ref 45),(.type "ValueError"),(.type "Exception"),(.type "BaseException"),(.type "object")],112,"Broken",true,[],[],false,none,false⟩),#[(some (.ref 97)),none,(some (.str "Broken" 300)),(some (.str "Broken" 308)),(some (.builtin "ValueError.__new__")),(some (.bool true))]⟩)::(nat_lit 128,(kC "__init__" "Family.__init__" 339 35 3 (.ref 123) (.ref 124) .none (.ref 125) (.ref 126) (.ref 127) 345))::(nat_lit 129,(kF "__init__" "Family.__init__" (inClass (top 13) 0) "countkin.kin" 325 128))::EY P
noncomputable def EW (P:Gc):JY:=(nat_lit 2,⟨.none,none,(.dict #[] 0),#[]⟩)::(nat_lit 3,⟨(.type "dict"),none,(.dict (JF (BB P)) 154),#[]⟩)::(nat_lit 4,⟨(.type "module"),(some 0),.plain,#[]⟩)::(nat_lit 44,⟨(.type "dict"),none,(.dict #[kD P "__module__" 225 (.str "countkin.errors" 216),kD P "__firstlineno__" 229 (.int 17 228),kD P "__static_attributes__" 230 (.ref 43),kD P "__weakref__" 232 (.ref 46),kD P "__doc__" 233 .none] 3),#[]⟩)::(nat_lit 45,⟨(.type "type"),none,(.cls ⟨"KinError",[(.type "ValueError")],[(.ref 45),(.type "ValueError"),(.type "Exception"),(.type "BaseException"),(.type "object")],44,"KinError",true,[],[(.ref 58),(.ref 70),(.ref 82),(.ref 94),(.ref 113)],false,none,false⟩),#[(some (.ref 36)),none,(some (.str "KinError" 218)),(some (.str "KinError" 226)),(some (.builtin "ValueError.__new__")),(some (.bool true))]⟩)::(nat_lit 46,⟨(.type "getset_descriptor"),none,(.fields #[(.str "__weakref__" 231),(.ref 45),(.builtin "ExceptionGroup.__weakref__"),.none]),#[]⟩)::(nat_lit 57,⟨(.type "dict"),none,(.dict #[kD P "__module__" 243 (.str "countkin.errors" 216),kD P "__firstlineno__" 247 (.int 19 246),kD P "__static_attributes__" 248 (.ref 56),kD P "__doc__" 249 .none] 2),#[]⟩)::(nat_lit 58,⟨(.type "type"),none,(.cls ⟨"NoSize",[(.ref 45)],[(.ref 58),(.ref 45),(.type "ValueError"),(.type "Exception"),(.type "BaseException"),(.type "object")],57,"NoSize",true,[],[],false,none,false⟩),#[(some (.ref 49)),none,(some (.str "NoSize" 236)),(some (.str "NoSize" 244)),(some (.builtin "ValueError.__new__")),(some (.bool true))]⟩)::(nat_lit 69,⟨(.type "dict"),none,(.dict #[kD P "__module__" 259 (.str "countkin.errors" 216),kD P "__firstlineno__" 263 (.int 21 262),kD P "__static_attributes__" 264 (.ref 68),kD P "__doc__" 265 .none] 2),#[]⟩)::(nat_lit 70,⟨(.type "type"),none,(.cls ⟨"NoThing",[(.ref 45)],[(.ref 70),(.ref 45),(.type "ValueError"),(.type "Exception"),(.type "BaseException"),(.type "object")],69,"NoThing",true,[],[],false,none,false⟩),#[(some (.ref 61)),none,(some (.str "NoThing" 252)),(some (.str "NoThing" 260)),(some (.builtin "ValueError.__new__")),(some (.bool true))]⟩)::hW P
noncomputable def hKs:Gc->JY:=fun P=>EW P
noncomputable def hT:Gc->Obj:=fun _=>⟨.none,none,(.fields #[]),#[]⟩
noncomputable def hT2:Gc->Obj:=fun _=>⟨.none,none,(.fields #[]),#[]⟩
noncomputable def hD:Gc->Obj:=fun P=>⟨(.type "dict"),none,(.dict #[kD P "turn" 1905 (.str "turnback" 1906),kD P "turnback" 1907 (.str "turn" 1908),kD P "gaps" 1909 (.str "gapsback" 1910),kD P "gapsback" 1911 (.str "gaps" 1912)] 4),#[]⟩
noncomputable def hKall:Gc->JY:=fun P=>(hK P).take 83++(nat_lit 1391,hD P)::(((hK P).drop 83).take 6++(nat_lit 1414,hT P)::((((hK P).drop 83).drop 6).take 20++(nat_lit 1482,hT2 P)::((((hK P).drop 83).drop 6).drop 20)))
noncomputable def hKalls:Gc->JY:=fun P=>(hKs P).take 83++(nat_lit 1391,hD P)::(((hKs P).drop 83).take 6++(nat_lit 1414,hT P)::((((hKs P).drop 83).drop 6).take 20++(nat_lit 1482,hT2 P)::((((hKs P).drop 83).drop 6).drop 20)))
noncomputable def bT:Bool:=true
noncomputable def bF:Bool:=false
noncomputable def hM:List Bool:=(bF::bF::bT::bT::bT::bF::bF::bF::bF::bF::bF::bF::bF::bF::bF::bF::bF::bF::bF::bF::bF::bF::bF::bF::bF::bF::bF::bF::bF::bF::bF::bF::bF::bF::bF::bF::bF::bF::bF::bF::bF::bF::bF::bF::bT::bT::bT::bF::bF::bF::bF::bF::bF::bF::bF::bF::bF::bT::bT::bF::bF::bF::bF::bF::bF::bF::bF::bF::bF::bT::bT::bF::bF::bF::bF::bF::bF::bF::bF::bF::bF::bT::bT::bF::bF::bF::bF::bF::bF::bF::bF::bF::bF::bT::bT::bF::bF::bF::bF::bF::bF::bF::bF::bF::bF::bF::bF::bF::bF::bT::bT::bF::bT::bT::bF::bF::bF::bF::bF::bF::bF::bF::bF::bF::bF::bF::bF::bF::bT::bT::bF::bF::bF::bF::bF::bF::bF::bF::bF::bF::bF::bF::bF::bF::bF::bF::bF::bF::bF::bF::bF::bF::bF::bF::bF::bF::bF::bF::bF::bF::bF::bF::bF::bF::bF::bF::bF::bF::bF::bF::bF::bF::bF::bF::bF::bF::bF::bF::bF::bF::bF::bF::bF::bF::bF::bF::bF::bF::bF::bF::bF::bF::bF::bF::bF::bF::bF::bF::bF::bF::bF::bT::bT::bT::bT::bF::bF::bF::bF::bF::bF::bF::bF::bF::bF::bF::bF::bF::bF::bT::bT::bF::bF::bF::bF::bF::bF::bF::bF::bF::bF::bF::bF::bF::bF::bF::bF::bF::bF::bF::bF::bF::bF::bF::bF::bF::bF::bF::bF::bF::bF::bF::bF::bF::bF::bF::bF::bF::bF::bF::bF::bF::bF::bF::bF::bF::bF::bF::bF::bF::bF::bF::bF::bF::bF::bF::bF::bF::bT::bT::bF::bF::bF::bF::bF::bF::bF::bF::bF::bF::bF::bF::bF::bF::bF::bF::bF::bF::bF::bF::bF::bF::bF::bF::bF::bF::bF::bF::bT::bT::bF::bF::bF::bF::bF::bF::bF::bF::bF::bF::bF::bF::bF::bF::bF::bF::bF::bF::bF::bF::bF::bF::bF::bF::bF::bF::bF::bF::bF::bF::bF::bF::bF::bF::bF::bF::bT::bT::bF::bF::bF::bF::bF::bF::bF::bF::bF::bF::bF::bF::bF::bF::bT::bT::bF::bF::bF::bF::bF::bF::bF::bF::bF::bF::bF::bF::bF::bF::bF::bF::bF::bF::bF::bF::bF::bF::bF::bF::bF::bF::bF::bT::bT::bF::bF::bF::bF::bF::bF::bF::bF::bF::bF::bF::bF::bF::bF::bT::bT::bF::bF::bF::bF::bF::bF::bF::bF::bF::bF::bF::bF::bF::bF::bF::bF::bF::bF::bF::bF::bF::bF::bF::bT::bT::bF::bF::bF::bF::bF::bF::bF::bF::bF::bF::bF::bF::bF::bF::bF::bF::bF::bF::bF::bF::bF::bF::bF::bF::bF::bF::bF::bF::bF::bF::bF::bF::bF::bF::bF::bF::bF::bF::bF::bF::bF::bF::bF::bF::bF::bF::bF::bF::bF::bF::bF::bF::bF::bF::bF::bF::bF::bF::bF::bF::bF::bF::bF::bF::bT::bT::bF::bF::bF::bF::bF::bF::bF::bF::bF::bF::bF::bF::bF::bF::bF::bF::bF::bF::bF::bF::bF::bF::bF::bF::bF::bF::bF::bF::bF::bF::bF::bF::bT::bT::bF::bF::bF::bF::bF::bF::bF::bF::bF::bF::bF::bF::bF::bF::bF::bF::bF::bF::bF::bF::bF::bF::bF::bF::bF::bF::bF::bF::bF::bF::bF::bF::bF::bT::bT::bF::bF::bF::bF::bF::bF::bF::bF::bF::bF::bF::bF::bF::bF::bF::bF::bF::bF::bF::bF::bF::bF::bF::bF::bF::bF::bF::bF::bF::bF::bF::bF::bF::bF::bF::bF::bT::bT::bF::bF::bF::bF::bF::bF::bF::bF::bF::bF::bF::bF::bF::bF::bF::bF::bF::bF::bF::bF::bF::bT::bT::bF::bF::bF::bF::bF::bF::bF::bF::bF::bF::bF::bF::bF::bF::bF::bF::bF::bF::bF::bF::bF::bF::bF::bF::bF::bF::bF::bF::bF::bF::bF::bF::bF::bF::bF::bF::bT::bT::bF::bF::bF::bF::bF::bF::bF::bF::bF::bF::bF::bF::bF::bF::bF::bF::bF::bF::bF::bF::bF::bT::bT::bF::bF::bF::bF::bF::bF::bF::bF::bF::bF::bF::bF::bF::bF::bF::bF::bF::bF::bF::bF::bF::bF::bF::bF::bF::bF::bF::bF::bF::bF::bF::bF::bF::bF::bF::bF::bT::bT::bF::bF::bF::bF::bF::bF::bF::bF::bF::bF::bF::bF::bF::bF::bF::bF::bF::bF::bF::bF::bF::bF::bF::bF::bF::bF::bF::bF::bF::bF::bF::bF::bF::bF::bF::bF::bF::bF::bF::bF::bF::bF::bF::bF::bF::bF::bF::bT::bT::bF::bF::bF::bF::bF::bF::bF::bF::bF::bF::bF::bF::bF::bF::bF::bF::bF::bF::bF::bF::bF::bF::bF::bT::bT::bF::bF::bF::bF::bF::bF::bF::bF::bF::bF::bF::bF::bF::bF::bF::bF::bF::bF::bF::bF::bF::bF::bF::bF::bF::bF::bF::bF::bF::bF::bF::bF::bF::bF::bF::bT::bT::bF::bF::bF::bF::bF::bF::bF::bF::bF::bF::bF::bF::bF::bF::bF::bF::bF::bF::bF::bF::bF::bF::bF::bF::bF::bF::bF::bF::bF::bF::bF::bF::bF::bF::bT::bT::bF::bF::bF::bF::bF::bF::bF::bF::bF::bF::bF::bF::bF::bF::bT::bT::bF::bF::bF::bF::bF::bF::bF::bF::bF::bF::bF::bF::bF::bF::bF::bF::bF::bF::bF::bF::bF::bF::bF::bF::bF::bF::bF::bF::bT::bT::bF::bF::bF::bF::bF::bF::bF::bF::bF::bF::bF::bF::bF::bF::bF::bF::bF::bF::bF::bT::bT::bF::bF::bF::bF::bF::bF::bF::bF::bF::bF::bF::bF::bF::bF::bF::bF::bF::bF::bF::bF::bF::bF::bF::bF::bF::bF::bF::bF::bF::bF::bF::bF::bF::bF::bF::bF::bT::bT::bF::bF::bF::bF::bF::bF::bF::bF::bF::bF::bF::bF::bF::bF::bT::bT::bF::bF::bF::bF::bF::bT::bT::bF::bF::bF::bF::bF::bT::bT::bF::bF::bF::bF::bF::bF::bF::bF::bF::bF::bF::bF::bF::bF::bF::bF::bF::bF::bF::bF::bF::bF::bF::bF::bF::bF::bF::bF::bF::bF::bF::bF::bF::bF::bF::bF::bF::bF::bF::bF::bF::bF::bF::bF::bF::bF::bF::bF::bF::bF::bF::bF::bF::bF::bF::bF::bF::bF::bF::bF::bF::bF::bF::bF::bF::bF::bF::bF::bF::bF::bF::bF::bF::bF::bF::bF::bF::bF::bF::bF::bF::bF::bF::bF::bF::bF::bF::bF::bF::bF::bF::bF::bF::bF::bF::bF::bF::bF::bF::bF::bF::bF::bF::bF::bF::bF::bF::bF::bF::bF::bF::bF::bF::bF::bF::bF::bF::bF::bF::bF::bF::bF::bF::bF::bF::bF::bF::bF::bF::bF::bF::bF::bF::bF::bF::bF::bF::bF::bF::bF::bF::bF::bF::bF::bF::bF::bF::bF::bF::bF::bF::bF::bF::bF::bF::bF::bF::bF::bF::bF::bF::bF::bF::bF::bF::bF::bF::bF::bF::bF::bF::bF::bF::bF::bF::bF::bF::bF::bF::bF::bT::bF::bF::bF::bF::bF::bT::bT::bF::bF::bF::bF::bF::bT::bT::bF::bF::bF::bF::bF::bF::bF::bF::bF::bF::bF::bF::bF::bF::bF::bF::bF::bF::bF::bF::bF::bF::bF::bF::bF::bF::bF::bF::bF::bF::bF::bF::bF::bF::bF::bF::bF::bF::bF::bF::bF::bF::bF::bF::bF::bF::bF::bF::bF::bF::bF::bF::bF::bF::bF::bF::bF::bF::bF::bF::bF::bF::bF::bF::bF::bF::bF::bF::bF::bF::bF::bF::bF::bF::bF::bF::bF::bF::bF::bF::bF::bF::bF::bF::bF::bF::bF::bF::bF::bF::bF::bF::bF::bF::bF::bF::bF::bF::bF::bF::bF::bF::bF::bF::bF::bF::bF::bF::bF::bF::bF::bF::bF::bF::bF::bF::bF::bF::bF::bF::bF::bF::bF::bF::bF::bF::bF::bF::bF::bF::bF::bF::bF::bF::bF::bF::bF::bF::bF::bF::bF::bF::bF::bF::bF::bF::bF::bF::bF::bF::bF::bF::bF::bF::bF::bF::bF::bF::bF::bF::bF::bF::bF::bF::bF::bF::bF::bF::bF::bF::bF::bF::bF::bF::bF::bF::bF::bF::bF::bF::bF::bF::bF::bF::bF::bT::bF::bF::bF::bF::bF::bT::bT::bF::bF::bF::bF::bF::bT::bT::bF::bF::bF::bF::bF::bT::bT::bF::bT::bF::bF::bF::bT::bT::bF::bF::bF::bF::bF::bT::bT::bF::bF::bF::bF::bF::bT::bT::bF::bF::bF::bF::bF::bT::bT::bF::bF::bF::bF::bF::bT::bT::bF::bF::bF::bF::bF::bT::bT::bF::bF::bF::bF::bF::bT::bT::bF::bF::bF::bT::bT::bF::bF::bF::bF::bF::bT::bT::bF::bF::bF::bF::bF::bT::bT::bF::bT::bF::bT::bT::bF::bF::bF::bF::bF::bF::bF::bF::bF::bF::bT::bT::bF::bF::bF::bT::bT::bF::bF::bF::bF::bF::bT::bT::bF::bF::bF::bF::bF::bT::bT::bF::bF::bF::bF::bF::bT::bT::bF::bF::bF::bF::bF::bT::bT::bF::bF::bF::bF::bF::bT::bT::bF::bF::bF::bT::bT::bF::bF::bF::bF::bF::bT::bT::bF::bF::bF::bT::bT::bF::bF::bF::bT::bT::bF::bF::bF::bF::bF::bT::bT::bF::bF::bF::bF::bF::bT::bT::bF::bF::bF::bF::bF::bT::bT::bF::bF::bF::bT::bT::bF::bF::bF::bT::bT::[])
noncomputable def hA:List Fe:=j9 hM 0
theorem hAM:hA=j9 hM 0:=rfl
noncomputable abbrev hX:Do->Bool:=(fun s=>xlAt hQ [] s&&recOk (RowW.records (OpenRow.toRowW (OpenLaw.row PySem.Challenge.rw_countkin_k54_chains_looked_at))) s)
theorem hKA:∀ P:Gc,hA=(hKall P).map (·.1):=fun _=>by kernel_rfl
noncomputable abbrev hH:Hook:=kHook hKall hA hKA
noncomputable def hLook (P:Gc) (s:Do):=((staticsOk (importedModules PySem.Challenge.pw_countkin_k54_chains_looked_at.main.body) (JG P) s.heap&&namesBound PySem.Challenge.pw_countkin_k54_chains_looked_at s.heap&&gensDone s&&laidKept (JG P) s.heap),openSeen hQ hL (importedModules PySem.Challenge.pw_countkin_k54_chains_looked_at.main.body) hX true s,gS s.heap.objs.toList hM)
noncomputable def hPreF (w:FU) (os:HG):=topGo treeTable PySem.Challenge.pw_countkin_k54_chains_looked_at w 11 (some (.ref 6)) 12 ⟨JG w.params,Array.mk [],boot_drawn,boot_toks,os⟩ (topStub PySem.Challenge.pw_countkin_k54_chains_looked_at)
noncomputable def hPreG (w:FU) (os:HG):Option (Do × Thread):=some ((hS w os).abs,⟨denote treeTable hC,hC,⟨0,0,0,0⟩,[topFrame ⟨0,0,0,0⟩]⟩)
noncomputable def hBlkF (w:FU) (os:HG):=segRun treeTable PySem.Challenge.pw_countkin_k54_chains_looked_at w 11 (some (.ref 6)) 1 1 (hS w os).abs (blockOf hB hE hC ⟨0,0,0,0⟩ [topFrame ⟨0,0,0,0⟩])
noncomputable def hBlkG (w:FU) (os:HG):Option (Flow × Do × Code × Pos):=some (.next,(hS w os).abs,hC,⟨0,0,0,0⟩)
noncomputable def AK (P:Gc):List Gn:=kD P "missing" 1448 (.ref 1015)::kD P "trees_leaves" 1455 (.ref 1022)::kD P "trees_rootage" 1462 (.ref 1029)::kD P "codes_leaves" 1469 (.ref 1036)::kD P "codes_rootage" 1476 (.ref 1043)::kD P "cars_leaves" 1483 (.ref 1050)::kD P "cars_rootage" 1490 (.ref 1057)::kD P "brackets_peaks" 1499 (.ref 1064)::[]
noncomputable def AN (P:Gc):List Gn:=kD P "tree_to_code" 1208 (.ref 818)::kD P "code_to_tree" 1215 (.ref 825)::kD P "Bows" 1282 (.ref 875)::kD P "Rooms" 1336 (.ref 921)::kD P "neighbours" 1342 (.ref 928)::kD P "Turns" 1408 (.ref 980)::kD P "comes_off_a_stack" 1418 (.ref 989)::kD P "split_families" 1426 (.ref 996)::kD P "ring_families" 1432 (.ref 1003)::kD P "family_of" 1440 (.ref 1010)::AK P
noncomputable def AE (P:Gc):List Gn:=kD P "Stairs" 1016 (.ref 667)::kD P "right_begin" 1024 (.ref 676)::kD P "Twins" 1092 (.ref 728)::kD P "brackets_to_twins" 1104 (.ref 737)::kD P "twins_to_brackets" 1114 (.ref 744)::kD P "twins_to_floor" 1123 (.ref 751)::kD P "lines_over" 1134 (.ref 758)::kD P "floor_to_twins" 1140 (.ref 763)::kD P "Trees" 1191 (.ref 802)::kD P "comes_to_0" 1201 (.ref 811)::AN P
noncomputable def CF (P:Gc):List Gn:=kD P "flat" 760 (.ref 466)::kD P "each_once" 767 (.ref 473)::kD P "any_cross" 778 (.ref 480)::kD P "pairs_anew" 784 (.ref 485)::kD P "Floors" 848 (.ref 533)::kD P "may_be_cut" 857 (.ref 542)::kD P "third_corner" 863 (.ref 547)::kD P "closes" 874 (.ref 554)::kD P "Brackets" 940 (.ref 606)::kD P "first_close" 949 (.ref 615)::AE P
noncomputable def Bo (P:Gc):List Gn:=kD P "SplitFamily" 531 (.ref 279)::kD P "by_parts" 540 (.ref 288)::kD P "led_by_parts" 552 (.ref 295)::kD P "RingFamily" 619 (.ref 347)::kD P "Codes" 672 (.ref 392)::kD P "Cars" 723 (.ref 433)::kD P "cars_to_code" 730 (.ref 442)::kD P "code_to_cars" 737 (.ref 449)::kD P "raised_by" 745 (.ref 454)::kD P "pairs_raised_by" 751 (.ref 459)::CF P
noncomputable def CU (P:Gc):List Gn:=kD P "GREATEST_SIZE" 197 (.int 40 196)::kD P "by_rule" 206 (.ref 28)::kD P "ring_many" 215 (.ref 35)::kD P "KinError" 235 (.ref 45)::kD P "NoSize" 251 (.ref 58)::kD P "NoThing" 267 (.ref 70)::kD P "NoFamily" 283 (.ref 82)::kD P "NoWay" 299 (.ref 94)::kD P "Broken" 324 (.ref 113)::kD P "Family" 439 (.ref 202)::Bo P
noncomputable def Cv (P:Gc):List Gn:=kD P "__name__" 165 (.str "countkin.splitmarks" 1491)::kD P "__doc__" 166 .none::kD P "__package__" 167 .none::kD P "__loader__" 168 (.builtin "__main__.__loader__#opaque")::kD P "__spec__" 169 .none::kD P "__annotations__" 170 (.ref 6)::kD P "__builtins__" 171 (.ref 4)::kD P "__file__" 173 (.str "/claim/cut.py" 172)::kD P "__cached__" 174 .none::kD P "_wall" 193 (.ref 21)::CU P
noncomputable def hTree2 (P:Gc):BT:=(.node (boot_o_0 P) (.node (boot_o_1 P) (.node ⟨(.type "dict"),none,(.dict (JF (Cv P)) 68),#[]⟩ (.node (boot_o_7 P) (.node kU (.node (kV #[(.str "size" 210),(.str "product" 211),(.str "factor" 212)]) (.node ⟨(.type "dict"),none,(.dict #[kD P "__module__" 259 (.str "countkin.errors" 216),kD P "__qualname__" 261 (.str "NoThing" 260),kD P "__firstlineno__" 263 (.int 21 262),kD P "__static_attributes__" 264 (.ref 68)] 4),#[]⟩ (.node (kG "__init__" "Family.__init__" (inClass (top 13) 0)) (.node (kF "unchecked_number" "SplitFamily.unchecked_number" (inClass (top 14) 5) "countkin.kin" 325 254) (.node (kF "is_one" "Floors.is_one" (inClass (top 32) 2) "countkin.floors" 785 510) (.node kU .nil .nil) .nil) (.node kU .nil .nil)) (.node kU (.node (kV #[(.str "self" 980),(.str "thing" 981),(.str "ahead" 982),(.str "place" 983),(.str "number" 984)]) .nil .nil) (.node (kC "size_of" "Rooms.size_of" 1302 465 2 (.ref 892) (.ref 893) .none .none .none (.ref 894) 1305) .nil .nil))) (.node (kC "thing_of" "Family.thing_of" 413 66 3 (.ref 186) (.ref 187) .none (.ref 188) (.ref 189) (.ref 190) 419) (.node (kV #[(.str "self" 586),(.str "code" 587)]) (.node (kF "size_of" "Brackets.size_of" (inClass (top 38) 1) "countkin.signs" 875 574) .nil .nil) (.node ⟨(.type "code"),none,(.fields #[(.str "Bows" 1220),(.str "Bows" 1221),(.str "/claim/cut.py" 1222),(.int 435 0),(.int 0 0),(.int 0 0),(.int 0 0),(.int 0 0),(.ref 829),(.bool false),(.int 181 0),(.ref 830),.none,.none,.none,.none,(.int 1223 0),(.int 435 0),(.str "/claim/cut.py" 1224)]),#[]⟩ .nil .nil)) (.node (kG "code_to_cars" "code_to_cars" (top 23)) (.node (kC "is_one" "Twins.is_one" 1057 328 2 (.ref 698) (.ref 699) .none (.ref 700) (.ref 701) (.ref 702) 1062) .nil .nil) (.node (kV #[(.str "self" 1383)]) .nil .nil)))) (.node ⟨(.type "super"),none,(.fields #[(.ref 94),(.ref 94),(.ref 94)]),#[]⟩ (.node kW (.node (kC "by_parts" "by_parts" 532 99 3 (.ref 282) (.ref 283) .none (.ref 284) (.ref 285) (.ref 286) 538) (.node kU (.node (kG "cars_rootage" "cars_rootage" (top 73)) .nil .nil) .nil) (.node (kF "of_code" "Trees.of_code" (inClass (top 51) 4) "countkin.elders" 1141 798) .nil .nil)) (.node (kF "size_of" "Cars.size_of" (inClass (top 21) 1) "countkin.cars" 673 414) (.node kW .nil .nil) (.node (kC "neighbours" "neighbours" 1337 494 1 (.ref 924) (.ref 925) .none .none .none (.ref 926) 1340) .nil .nil))) (.node (kV #[(.str "self" 463)]) (.node ⟨(.type "builtin_function_or_method"),none,(.fields #[(.builtin "type.__prepare__"),(.type "type")]),#[]⟩ (.node ⟨(.type "super"),none,(.fields #[(.ref 606),(.ref 606),(.ref 606)]),#[]⟩ .nil .nil) (.node (kG "parted" "Bows.parted" (inClass (top 56) 4)) .nil .nil)) (.node (kC "any_cross" "any_cross" 768 190 1 (.ref 474) (.ref 475) .none (.ref 476) (.ref 477) (.ref 478) 776) (.node (kG "brackets_to_twins" "brackets_to_twins" (top 45)) .nil .nil) (.node kW .nil .nil))))) (.node ⟨(.type "super"),none,(.fields #[(.ref 45),(.ref 45),(.ref 45)]),#[]⟩ (.node ⟨(.type "frame"),none,.plain,#[(some (.ref 78)),(some (.ref 3)),(some (.ref 75)),none,(some (.str "countkin.errors" 216)),none,(some (.ref 0))]⟩ (.node (kF "is_one" "Family.is_one" (inClass (top 13) 2) "countkin.kin" 325 142) (.node kW (.node kU (.node (kV #[(.str "thing" 1473)]) .nil .nil) .nil) (.node (kC "size_of" "Trees.size_of" 1162 394 2 (.ref 778) (.ref 779) .none (.ref 780) (.ref 781) (.ref 782) 1167) .nil .nil)) (.node ⟨.none,none,(.fields #[(.int 149 0),(.int 4 0),(.ref 407),(.int 152 0),(.int 4 0),(.ref 414),(.int 155 0),(.int 4 0),(.ref 419),(.int 160 0),(.int 4 0),(.ref 424),(.int 164 0),(.int 4 0),(.ref 429)]),#[]⟩ (.node (kG "parted" "Stairs.parted" (inClass (top 40) 4)) .nil .nil) (.node (kG "parted" "Rooms.parted" (inClass (top 57) 4)) .nil .nil))) (.node (kV #[(.ref 202)]) (.node (kG "unchecked_number" "RingFamily.unchecked_number" (inClass (top 18) 4)) (.node kW .nil .nil) (.node kU .nil .nil)) (.node kU (.node kU .nil .nil) (.node (kG "joined" "Turns.joined" (inClass (top 60) 5)) .nil .nil)))) (.node (kV #[(.str "place" 320)]) (.node kU (.node kU (.node ⟨.none,none,(.fields #[(.int 254 0),(.int 4 0),(.ref 567),(.int 257 0),(.int 4 0),(.ref 574),(.int 260 0),(.int 4 0),(.ref 581),(.int 263 0),(.int 4 0),(.ref 588),(.int 266 0),(.int 4 0),(.ref 595),(.int 270 0),(.int 4 0),(.ref 602)]),#[]⟩ .nil .nil) (.node kU .nil .nil)) (.node kU (.node kU .nil .nil) (.node kU .nil .nil))) (.node (kG "joined" "SplitFamily.joined" (inClass (top 14) 3)) (.node kU (.node kU .nil .nil) (.node ⟨(.type "builtin_function_or_method"),none,(.fields #[(.builtin "type.__prepare__"),(.type "type")]),#[]⟩ .nil .nil)) (.node (kV #[(.str "self" 802)]) (.node (kF "twins_to_floor" "twins_to_floor" (top 47) "countkin.cuts" 1093 750) .nil .nil) (.node kU .nil .nil)))))) (.node kW (.node kU (.node ⟨(.type "super"),none,(.fields #[(.ref 70),(.ref 70),(.ref 70)]),#[]⟩ (.node (kC "size_of" "Family.size_of" 348 39 2 (.ref 130) (.ref 131) .none (.ref 132) (.ref 133) (.ref 134) 353) (.node kU (.node kU (.node kW .nil .nil) .nil) (.node (kG "__init__" "Trees.__init__" (inClass (top 51) 0)) .nil .nil)) (.node ⟨(.type "dict"),none,(.dict #[kD P "__module__" 627 (.str "countkin.ring" 553),kD P "__firstlineno__" 631 (.int 129 630),kD P "__init__" 638 (.ref 363),kD P "size_of" 646 (.ref 370),kD P "is_one" 652 (.ref 375),kD P "code_of" 660 (.ref 382),kD P "of_code" 668 (.ref 389),kD P "__static_attributes__" 669 (.ref 390),kD P "__doc__" 670 .none] 2),#[]⟩ (.node kU .nil .nil) (.node kW .nil .nil))) (.node (kF "next_of" "Family.next_of" (inClass (top 13) 10) "countkin.kin" 325 198) (.node kU (.node kU .nil .nil) (.node (kF "__init__" "Bows.__init__" (inClass (top 56) 0) "countkin.bends" 1216 838) .nil .nil)) (.node kU (.node (kF "bare" "Twins.bare" (inClass (top 43) 3) "countkin.twigs" 1025 710) .nil .nil) (.node kU .nil .nil)))) (.node ⟨(.type "frame"),none,.plain,#[(some (.ref 102)),(some (.ref 3)),(some (.ref 99)),none,(some (.str "countkin.errors" 216)),none,(some (.ref 0))]⟩ (.node (kV #[(.str "self" 392),(.str "size" 393)]) (.node (kF "led_by_parts" "led_by_parts" (top 16) "countkin.kin" 325 294) (.node kU (.node (kC "brackets_peaks" "brackets_peaks" 1493 553 1 (.ref 1058) (.ref 1059) .none (.ref 1060) (.ref 1061) (.ref 1062) 1497) .nil .nil) .nil) (.node (kV #[(.str "elders" 1195),(.str "knot" 1196),(.str "reached" 1197),(.str "step" 1198)]) .nil .nil)) (.node (kG "code_of" "Cars.code_of" (inClass (top 21) 3)) (.node ⟨(.type "dict"),none,(.dict #[kD P "__module__" 1034 (.str "countkin.twigs" 1025),kD P "__qualname__" 1036 (.str "Twins" 1035),kD P "__firstlineno__" 1038 (.int 313 1037),kD P "__init__" 1045 (.ref 690),kD P "size_of" 1056 (.ref 697),kD P "is_one" 1064 (.ref 704),kD P "bare" 1071 (.ref 711),kD P "parted" 1079 (.ref 718),kD P "joined" 1088 (.ref 725),kD P "__static_attributes__" 1089 (.ref 726)] 10),#[]⟩ .nil .nil) (.node ⟨(.type "frame"),none,.plain,#[(some (.ref 934)),(some (.ref 3)),(some (.ref 931)),none,(some (.str "countkin.rows" 1343)),none,(some (.ref 0))]⟩ .nil .nil))) (.node kU (.node (kV #[(.str "self" 635)]) (.node (kF "first_close" "first_close" (top 39) "countkin.signs" 875 614) .nil .nil) (.node (kC "joined" "Bows.joined" 1269 457 3 (.ref 866) (.ref 867) .none (.ref 868) (.ref 869) (.ref 870) 1276) .nil .nil)) (.node ⟨(.type "builtin_function_or_method"),none,(.fields #[(.builtin "type.__prepare__"),(.type "type")]),#[]⟩ (.node (kC "twins_to_brackets" "twins_to_brackets" 1105 351 1 (.ref 738) (.ref 739) .none (.ref 740) (.ref 741) (.ref 742) 1112) .nil .nil) (.node kU .nil .nil))))) (.node ⟨(.type "frame"),none,.plain,#[(some (.ref 54)),(some (.ref 3)),(some (.ref 51)),none,(some (.str "countkin.errors" 216)),none,(some (.ref 0))]⟩ (.node ⟨(.type "dict"),none,(.dict #[kD P "__module__" 291 (.str "countkin.errors" 216),kD P "__qualname__" 293 (.str "NoWay" 292),kD P "__firstlineno__" 295 (.int 25 294),kD P "__static_attributes__" 296 (.ref 92)] 4),#[]⟩ (.node kU (.node ⟨(.type "type"),none,(.cls ⟨"SplitFamily",[(.ref 202)],[(.ref 279),(.ref 202),(.type "object")],278,"SplitFamily",true,[],[(.ref 533),(.ref 606),(.ref 667),(.ref 728),(.ref 875),(.ref 921),(.ref 980)],false,none,false⟩),#[(some (.ref 207)),none,(some (.str "SplitFamily" 440)),(some (.str "SplitFamily" 448)),(some (.builtin "object.__new__")),(some (.bool true))]⟩ (.node (kB "object.__init_subclass__" 533) (.node kU .nil .nil) .nil) (.node kW .nil .nil)) (.node (kC "__init__" "Cars.__init__" 687 149 1 (.ref 402) (.ref 403) .none (.ref 404) (.ref 405) (.ref 406) 691) (.node (kC "joined" "Stairs.joined" 1004 305 3 (.ref 658) (.ref 659) .none (.ref 660) (.ref 661) (.ref 662) 1010) .nil .nil) (.node kU .nil .nil))) (.node kW (.node (kC "unchecked_thing" "RingFamily.unchecked_thing" 607 127 3 (.ref 338) (.ref 339) .none (.ref 340) (.ref 341) (.ref 342) 613) (.node (kV #[(.str "self" 931),(.str "left" 932),(.str "right" 933)]) .nil .nil) (.node kU .nil .nil)) (.node (kG "each_once" "each_once" (top 28)) (.node ⟨(.type "dict"),none,(.dict #[kD P "__module__" 1034 (.str "countkin.twigs" 1025),kD P "__firstlineno__" 1038 (.int 313 1037),kD P "__init__" 1045 (.ref 690),kD P "size_of" 1056 (.ref 697),kD P "is_one" 1064 (.ref 704),kD P "bare" 1071 (.ref 711),kD P "parted" 1079 (.ref 718),kD P "joined" 1088 (.ref 725),kD P "__static_attributes__" 1089 (.ref 726),kD P "__doc__" 1090 .none] 2),#[]⟩ .nil .nil) (.node kU .nil .nil)))) (.node kU (.node (kG "number_of" "Family.number_of" (inClass (top 13) 8)) (.node kW (.node (kC "__init__" "Brackets.__init__" 889 254 1 (.ref 562) (.ref 563) .none (.ref 564) (.ref 565) (.ref 566) 893) .nil .nil) (.node (kG "code_to_tree" "code_to_tree" (top 54)) .nil .nil)) (.node kU (.node (kG "size_of" "Twins.size_of" (inClass (top 43) 1)) .nil .nil) (.node kW .nil .nil))) (.node (kC "unchecked_many" "SplitFamily.unchecked_many" 484 85 2 (.ref 242) (.ref 243) .none (.ref 244) (.ref 245) (.ref 246) 489) (.node (kF "is_one" "Codes.is_one" (inClass (top 19) 2) "countkin.ring" 553 374) (.node kW .nil .nil) (.node (kV #[(.str "self" 1298)]) .nil .nil)) (.node kU (.node kU .nil .nil) (.node (kF "missing" "missing" (top 67) "countkin.ringmarks" 1441 1014) .nil .nil))))))) (.node kU (.node (kG "_wall" "_wall" (top 0)) (.node (kF "ring_many" "ring_many" (top 4) "countkin.counts" 194 34) (.node ⟨(.type "frame"),none,.plain,#[(some (.ref 66)),(some (.ref 3)),(some (.ref 63)),none,(some (.str "countkin.errors" 216)),none,(some (.ref 0))]⟩ (.node kW (.node kU (.node kU (.node (kG "trees_rootage" "trees_rootage" (top 69)) .nil .nil) .nil) (.node kU .nil .nil)) (.node (kG "of_code" "Codes.of_code" (inClass (top 19) 4)) (.node (kF "is_one" "Stairs.is_one" (inClass (top 40) 2) "countkin.signs" 875 642) .nil .nil) (.node (kG "is_one" "Rooms.is_one" (inClass (top 57) 2)) .nil .nil))) (.node (kV #[(.str "self" 425),(.str "thing" 426)]) (.node (kF "of_code" "RingFamily.of_code" (inClass (top 18) 2) "countkin.ring" 553 322) (.node kU .nil .nil) (.node (kV #[(.str "self" 1233)]) .nil .nil)) (.node kW (.node (kV #[(.str "self" 1068)]) .nil .nil) (.node (kF "bare" "Turns.bare" (inClass (top 60) 3) "countkin.rows" 1343 962) .nil .nil)))) (.node ⟨(.type "dict"),none,(.dict #[kD P "__module__" 307 (.str "countkin.errors" 216),kD P "__qualname__" 309 (.str "Broken" 308),kD P "__firstlineno__" 311 (.int 27 310),kD P "__init__" 319 (.ref 110),kD P "__static_attributes__" 321 (.ref 111)] 5),#[]⟩ (.node (kC "unchecked_thing" "Family.unchecked_thing" 380 51 3 (.ref 158) (.ref 159) .none (.ref 160) (.ref 161) (.ref 162) 386) (.node (kV #[(.str "one" 544),(.str "other" 545),(.str "thing" 546),(.str "parts" 547),(.str "left" 548),(.str "right" 549)]) (.node (kF "third_corner" "third_corner" (top 34) "countkin.floors" 785 546) (.node kW .nil .nil) .nil) (.node ⟨(.type "super"),none,(.fields #[(.ref 802),(.ref 802),(.ref 802)]),#[]⟩ .nil .nil)) (.node (kC "is_one" "Cars.is_one" 702 155 2 (.ref 416) (.ref 417) .none .none .none (.ref 418) 705) (.node (kC "right_begin" "right_begin" 1017 307 1 (.ref 670) (.ref 671) .none (.ref 672) (.ref 673) (.ref 674) 1022) .nil .nil) (.node ⟨(.type "dict"),none,(.dict #[kD P "__module__" 1352 (.str "countkin.rows" 1343),kD P "__qualname__" 1354 (.str "Turns" 1353),kD P "__firstlineno__" 1356 (.int 497 1355),kD P "__init__" 1363 (.ref 942),kD P "size_of" 1371 (.ref 949),kD P "is_one" 1379 (.ref 956),kD P "bare" 1386 (.ref 963),kD P "parted" 1395 (.ref 970),kD P "joined" 1404 (.ref 977),kD P "__static_attributes__" 1405 (.ref 978)] 10),#[]⟩ .nil .nil))) (.node (kF "bare" "SplitFamily.bare" (inClass (top 14) 1) "countkin.kin" 325 226) (.node ⟨(.type "code"),none,(.fields #[(.str "Codes" 622),(.str "Codes" 623),(.str "/claim/cut.py" 624),(.int 129 0),(.int 0 0),(.int 0 0),(.int 0 0),(.int 0 0),(.ref 353),(.bool false),(.int 181 0),(.ref 354),.none,.none,.none,.none,(.int 625 0),(.int 129 0),(.str "/claim/cut.py" 626)]),#[]⟩ (.node (kV #[(.str "text" 944),(.str "depth" 945),(.str "place" 946)]) .nil .nil) (.node kW .nil .nil)) (.node (kG "pairs_anew" "pairs_anew" (top 30)) (.node kW .nil .nil) (.node (kC "split_families" "split_families" 1421 528 0 (.ref 990) (.ref 991) .none (.ref 992) (.ref 993) (.ref 994) 1424) .nil .nil))))) (.node ⟨(.type "dict"),none,(.dict #[kD P "__module__" 243 (.str "countkin.errors" 216),kD P "__qualname__" 245 (.str "NoSize" 244),kD P "__firstlineno__" 247 (.int 19 246),kD P "__static_attributes__" 248 (.ref 56)] 4),#[]⟩ (.node ⟨(.type "super"),none,(.fields #[(.ref 82),(.ref 82),(.ref 82)]),#[]⟩ (.node kU (.node (kC "thing_by_parts" "SplitFamily.thing_by_parts" 518 97 4 (.ref 270) (.ref 271) .none (.ref 272) (.ref 273) (.ref 274) 525) (.node kU (.node (kF "codes_rootage" "codes_rootage" (top 71) "countkin.ringmarks" 1441 1042) .nil .nil) .nil) (.node (kG "is_one" "Trees.is_one" (inClass (top 51) 2)) .nil .nil)) (.node kW (.node kW .nil .nil) (.node kW .nil .nil))) (.node ⟨.none,none,(.fields #[(.int 73 0),(.int 4 0),(.ref 219),(.int 76 0),(.int 4 0),(.ref 226),(.int 79 0),(.int 4 0),(.ref 233),(.int 82 0),(.int 4 0),(.ref 240),(.int 85 0),(.int 4 0),(.ref 247),(.int 88 0),(.int 4 0),(.ref 254),(.int 91 0),(.int 4 0),(.ref 261),(.int 94 0),(.int 4 0),(.ref 268),(.int 97 0),(.int 4 0),(.ref 275)]),#[]⟩ (.node kW (.node (kC "parted" "Brackets.parted" 919 266 2 (.ref 590) (.ref 591) .none (.ref 592) (.ref 593) (.ref 594) 925) .nil .nil) (.node (kF "is_one" "Bows.is_one" (inClass (top 56) 2) "countkin.bends" 1216 850) .nil .nil)) (.node kU (.node (kG "joined" "Twins.joined" (inClass (top 43) 5)) .nil .nil) (.node ⟨(.type "dict"),none,(.dict #[kD P "__module__" 1352 (.str "countkin.rows" 1343),kD P "__firstlineno__" 1356 (.int 497 1355),kD P "__init__" 1363 (.ref 942),kD P "size_of" 1371 (.ref 949),kD P "is_one" 1379 (.ref 956),kD P "bare" 1386 (.ref 963),kD P "parted" 1395 (.ref 970),kD P "joined" 1404 (.ref 977),kD P "__static_attributes__" 1405 (.ref 978),kD P "__doc__" 1406 .none] 2),#[]⟩ .nil .nil)))) (.node (kB "object.__init_subclass__" 113) (.node kU (.node (kG "__init__" "RingFamily.__init__" (inClass (top 18) 0)) (.node kW .nil .nil) (.node kU .nil .nil)) (.node (kB "object.__init_subclass__" 433) (.node kU .nil .nil) (.node (kG "size_of" "Turns.size_of" (inClass (top 60) 1)) .nil .nil))) (.node kW (.node kU (.node (kG "__init__" "Stairs.__init__" (inClass (top 40) 0)) .nil .nil) (.node ⟨(.type "code"),none,(.fields #[(.str "Rooms" 1285),(.str "Rooms" 1286),(.str "/claim/cut.py" 1287),(.int 460 0),(.int 0 0),(.int 0 0),(.int 0 0),(.int 0 0),(.ref 881),(.bool false),(.int 181 0),(.ref 882),.none,.none,.none,.none,(.int 1288 0),(.int 460 0),(.str "/claim/cut.py" 1289)]),#[]⟩ .nil .nil)) (.node (kF "__init__" "Floors.__init__" (inClass (top 32) 0) "countkin.floors" 785 498) (.node kU .nil .nil) (.node kU .nil .nil)))))) (.node (kC "by_rule" "by_rule" 198 6 1 (.ref 22) (.ref 23) .none (.ref 24) (.ref 25) (.ref 26) 204) (.node kU (.node ⟨(.type "dict"),none,(.dict #[kD P "__module__" 275 (.str "countkin.errors" 216),kD P "__qualname__" 277 (.str "NoFamily" 276),kD P "__firstlineno__" 279 (.int 23 278),kD P "__static_attributes__" 280 (.ref 80)] 4),#[]⟩ (.node (kV #[(.str "self" 359),(.str "thing" 360)]) (.node (kG "number_by_parts" "SplitFamily.number_by_parts" (inClass (top 14) 7)) (.node (kF "parted" "Floors.parted" (inClass (top 32) 4) "countkin.floors" 785 522) (.node (kC "codes_leaves" "codes_leaves" 1463 544 1 (.ref 1030) (.ref 1031) .none (.ref 1032) (.ref 1033) (.ref 1034) 1467) .nil .nil) .nil) (.node kW .nil .nil)) (.node (kV #[(.ref 347)]) (.node kU .nil .nil) (.node (kC "bare" "Rooms.bare" 1314 473 1 (.ref 902) (.ref 903) .none (.ref 904) (.ref 905) (.ref 906) 1318) .nil .nil))) (.node ⟨(.type "getset_descriptor"),none,(.fields #[(.str "__dict__" 433),(.ref 202),(.builtin "function.__dict__"),(.builtin "function.__dict__#set")]),#[]⟩ (.node kU (.node (kG "bare" "Brackets.bare" (inClass (top 38) 3)) .nil .nil) (.node kU .nil .nil)) (.node (kF "pairs_raised_by" "pairs_raised_by" (top 26) "countkin.common" 738 458) (.node kU .nil .nil) (.node kU .nil .nil)))) (.node kU (.node (kF "many" "Family.many" (inClass (top 13) 6) "countkin.kin" 325 170) (.node kU (.node (kV #[(.ref 279)]) .nil .nil) (.node (kF "comes_to_0" "comes_to_0" (top 52) "countkin.elders" 1141 810) .nil .nil)) (.node kW (.node ⟨(.type "frame"),none,.plain,#[(some (.ref 682)),(some (.ref 3)),(some (.ref 679)),none,(some (.str "countkin.twigs" 1025)),none,(some (.ref 0))]⟩ .nil .nil) (.node kU .nil .nil))) (.node kU (.node (kF "__init__" "Codes.__init__" (inClass (top 19) 0) "countkin.ring" 553 362) (.node kU .nil .nil) (.node ⟨(.type "type"),none,(.cls ⟨"Bows",[(.ref 279)],[(.ref 875),(.ref 279),(.ref 202),(.type "object")],874,"Bows",true,[],[],false,none,false⟩),#[(some (.ref 826)),none,(some (.str "Bows" 1218)),(some (.str "Bows" 1226)),(some (.builtin "object.__new__")),(some (.bool true))]⟩ .nil .nil)) (.node ⟨(.type "code"),none,(.fields #[(.str "Floors" 789),(.str "Floors" 790),(.str "/claim/cut.py" 791),(.int 199 0),(.int 0 0),(.int 0 0),(.int 0 0),(.int 0 0),(.ref 489),(.bool false),(.int 181 0),(.ref 490),.none,.none,.none,.none,(.int 792 0),(.int 199 0),(.str "/claim/cut.py" 793)]),#[]⟩ (.node (kV #[(.str "thing" 1118),(.str "lines" 1119),(.str "last" 1120)]) .nil .nil) (.node (kF "ring_families" "ring_families" (top 64) "countkin.names" 1419 1002) .nil .nil))))) (.node ⟨(.type "super"),none,(.fields #[(.ref 58),(.ref 58),(.ref 58)]),#[]⟩ (.node ⟨(.type "frame"),none,.plain,#[(some (.ref 90)),(some (.ref 3)),(some (.ref 87)),none,(some (.str "countkin.errors" 216)),none,(some (.ref 0))]⟩ (.node (kG "unchecked_number" "Family.unchecked_number" (inClass (top 13) 4)) (.node kW (.node kU (.node kU .nil .nil) .nil) (.node kU .nil .nil)) (.node (kV #[(.str "self" 697),(.str "thing" 698)]) (.node ⟨(.type "type"),none,(.cls ⟨"Stairs",[(.ref 279)],[(.ref 667),(.ref 279),(.ref 202),(.type "object")],666,"Stairs",true,[],[],false,none,false⟩),#[(some (.ref 616)),none,(some (.str "Stairs" 950)),(some (.str "Stairs" 958)),(some (.builtin "object.__new__")),(some (.bool true))]⟩ .nil .nil) (.node (kB "object.__init_subclass__" 921) .nil .nil))) (.node (kC "__init__" "SplitFamily.__init__" 452 73 2 (.ref 214) (.ref 215) .none (.ref 216) (.ref 217) (.ref 218) 457) (.node ⟨(.type "type"),none,(.cls ⟨"RingFamily",[(.ref 202)],[(.ref 347),(.ref 202),(.type "object")],346,"RingFamily",true,[],[(.ref 392),(.ref 433),(.ref 802)],false,none,false⟩),#[(some (.ref 296)),none,(some (.str "RingFamily" 555)),(some (.str "RingFamily" 563)),(some (.builtin "object.__new__")),(some (.bool true))]⟩ (.node (kF "joined" "Brackets.joined" (inClass (top 38) 5) "countkin.signs" 875 602) .nil .nil) (.node kU .nil .nil)) (.node kW (.node kU .nil .nil) (.node (kG "comes_off_a_stack" "comes_off_a_stack" (top 61)) .nil .nil)))) (.node kU (.node kW (.node (kC "code_of" "RingFamily.code_of" 575 115 2 (.ref 310) (.ref 311) .none (.ref 312) (.ref 313) (.ref 314) 580) (.node (kV #[(.str "self" 899),(.str "thing" 900)]) .nil .nil) (.node ⟨(.type "builtin_function_or_method"),none,(.fields #[(.builtin "type.__prepare__"),(.type "type")]),#[]⟩ .nil .nil)) (.node kU (.node kW .nil .nil) (.node (kC "is_one" "Turns.is_one" 1372 505 2 (.ref 950) (.ref 951) .none (.ref 952) (.ref 953) (.ref 954) 1377) .nil .nil))) (.node (kV #[(.str "self" 495),(.str "thing" 496)]) (.node kU (.node (kC "size_of" "Stairs.size_of" 969 287 2 (.ref 630) (.ref 631) .none (.ref 632) (.ref 633) (.ref 634) 974) .nil .nil) (.node (kF "__init__" "Rooms.__init__" (inClass (top 57) 0) "countkin.bends" 1216 890) .nil .nil)) (.node kU (.node (kF "floor_to_twins" "floor_to_twins" (top 49) "countkin.cuts" 1093 762) .nil .nil) (.node kU .nil .nil)))))))) (.node (boot_o_5 P) (.node (boot_o_9 P) (.node (kV #[(.str "k" 190)]) (.node (kG "ring_many" "ring_many" (top 4)) (.node kW (.node (kF "__init__" "Family.__init__" (inClass (top 13) 0) "countkin.kin" 325 128) (.node kW (.node kW (.node (kV #[(.str "thing" 1459)]) .nil .nil) .nil) (.node ⟨(.type "code"),none,(.fields #[(.str "Trees" 1145),(.str "Trees" 1146),(.str "/claim/cut.py" 1147),(.int 389 0),(.int 0 0),(.int 0 0),(.int 0 0),(.int 0 0),(.ref 767),(.bool false),(.int 181 0),(.ref 768),.none,.none,.none,.none,(.int 1148 0),(.int 389 0),(.str "/claim/cut.py" 1149)]),#[]⟩ .nil .nil)) (.node (kV #[(.str "self" 664),(.str "code" 665)]) (.node (kG "is_one" "Stairs.is_one" (inClass (top 40) 2)) .nil .nil) (.node kU .nil .nil))) (.node kU (.node (kG "of_code" "RingFamily.of_code" (inClass (top 18) 2)) (.node kW .nil .nil) (.node kU .nil .nil)) (.node (kF "code_to_cars" "code_to_cars" (top 23) "countkin.cars" 673 448) (.node kU .nil .nil) (.node (kG "bare" "Turns.bare" (inClass (top 60) 3)) .nil .nil)))) (.node (kV #[(.ref 45)]) (.node kU (.node kU (.node (kG "third_corner" "third_corner" (top 34)) (.node (kF "cars_rootage" "cars_rootage" (top 73) "countkin.ringmarks" 1441 1056) .nil .nil) .nil) (.node ⟨(.type "dict"),none,(.dict #[kD P "__module__" 1150 (.str "countkin.elders" 1141),kD P "__firstlineno__" 1154 (.int 389 1153),kD P "__init__" 1161 (.ref 777),kD P "size_of" 1169 (.ref 784),kD P "is_one" 1175 (.ref 789),kD P "code_of" 1181 (.ref 794),kD P "of_code" 1187 (.ref 799),kD P "__static_attributes__" 1188 (.ref 800),kD P "__doc__" 1189 .none] 2),#[]⟩ .nil .nil)) (.node kW (.node kU .nil .nil) (.node (kV #[(.ref 279)]) .nil .nil))) (.node (kG "bare" "SplitFamily.bare" (inClass (top 14) 1)) (.node kU (.node kU .nil .nil) (.node (kF "parted" "Bows.parted" (inClass (top 56) 4) "countkin.bends" 1216 864) .nil .nil)) (.node kU (.node (kF "brackets_to_twins" "brackets_to_twins" (top 45) "countkin.cuts" 1093 736) .nil .nil) (.node kU .nil .nil))))) (.node (kV #[(.ref 45)]) (.node ⟨(.type "dict"),none,(.dict #[kD P "__module__" 275 (.str "countkin.errors" 216),kD P "__firstlineno__" 279 (.int 23 278),kD P "__static_attributes__" 280 (.ref 80),kD P "__doc__" 281 .none] 2),#[]⟩ (.node kW (.node kU (.node (kC "joined" "Floors.joined" 833 227 3 (.ref 524) (.ref 525) .none (.ref 526) (.ref 527) (.ref 528) 842) (.node (kG "codes_rootage" "codes_rootage" (top 71)) .nil .nil) .nil) (.node kU .nil .nil)) (.node ⟨(.type "frame"),none,.plain,#[(some (.ref 400)),(some (.ref 3)),(some (.ref 397)),none,(some (.str "countkin.cars" 673)),none,(some (.ref 0))]⟩ (.node (kF "parted" "Stairs.parted" (inClass (top 40) 4) "countkin.signs" 875 656) .nil .nil) (.node (kF "parted" "Rooms.parted" (inClass (top 57) 4) "countkin.bends" 1216 912) .nil .nil))) (.node ⟨(.type "dict"),none,(.dict #[kD P "__module__" 447 (.str "countkin.kin" 325),kD P "__qualname__" 449 (.str "SplitFamily" 448),kD P "__firstlineno__" 451 (.int 71 450),kD P "__init__" 459 (.ref 220),kD P "bare" 466 (.ref 227),kD P "parted" 474 (.ref 234),kD P "joined" 483 (.ref 241),kD P "unchecked_many" 491 (.ref 248),kD P "unchecked_number" 499 (.ref 255),kD P "unchecked_thing" 508 (.ref 262),kD P "number_by_parts" 517 (.ref 269),kD P "thing_by_parts" 527 (.ref 276),kD P "__static_attributes__" 528 (.ref 277)] 13),#[]⟩ (.node (kF "unchecked_number" "RingFamily.unchecked_number" (inClass (top 18) 4) "countkin.ring" 553 336) (.node kU .nil .nil) (.node (kG "is_one" "Bows.is_one" (inClass (top 56) 2)) .nil .nil)) (.node (kC "flat" "flat" 752 183 1 (.ref 460) (.ref 461) .none (.ref 462) (.ref 463) (.ref 464) 758) (.node (kV #[(.str "self" 1083),(.str "left" 1084),(.str "right" 1085)]) .nil .nil) (.node (kF "joined" "Turns.joined" (inClass (top 60) 5) "countkin.rows" 1343 976) .nil .nil)))) (.node ⟨(.type "type"),none,(.cls ⟨"Broken",[(.ref 45)],[(.ref 113),(.ref 45),(.type "ValueError"),(.type "Exception"),(.type "BaseException"),(.type "object")],112,"Broken",true,[],[],false,none,false⟩),#[(some (.ref 97)),none,(some (.str "Broken" 300)),(some (.str "Broken" 308)),(some (.builtin "ValueError.__new__")),(some (.bool true))]⟩ (.node (kC "refuse_other" "Family.refuse_other" 397 59 2 (.ref 172) (.ref 173) .none (.ref 174) (.ref 175) (.ref 176) 402) (.node (kV #[(.str "self" 570),(.str "word" 571)]) (.node ⟨(.type "frame"),none,.plain,#[(some (.ref 560)),(some (.ref 3)),(some (.ref 557)),none,(some (.str "countkin.signs" 875)),none,(some (.ref 0))]⟩ .nil .nil) (.node (kC "tree_to_code" "tree_to_code" 1202 428 1 (.ref 812) (.ref 813) .none (.ref 814) (.ref 815) (.ref 816) 1206) .nil .nil)) (.node ⟨(.type "type"),none,(.cls ⟨"Cars",[(.ref 347)],[(.ref 433),(.ref 347),(.ref 202),(.type "object")],432,"Cars",true,[],[],false,none,false⟩),#[(some (.ref 395)),none,(some (.str "Cars" 675)),(some (.str "Cars" 683)),(some (.builtin "object.__new__")),(some (.bool true))]⟩ (.node (kC "__init__" "Twins.__init__" 1039 315 1 (.ref 684) (.ref 685) .none (.ref 686) (.ref 687) (.ref 688) 1043) .nil .nil) (.node (kV #[(.str "self" 1367),(.str "thing" 1368)]) .nil .nil))) (.node (kF "joined" "SplitFamily.joined" (inClass (top 14) 3) "countkin.kin" 325 240) (.node (kC "size_of" "Codes.size_of" 639 134 2 (.ref 364) (.ref 365) .none (.ref 366) (.ref 367) (.ref 368) 644) (.node (kV #[(.str "self" 965)]) .nil .nil) (.node kU .nil .nil)) (.node (kG "__init__" "Floors.__init__" (inClass (top 32) 0)) (.node kW .nil .nil) (.node (kC "family_of" "family_of" 1433 532 1 (.ref 1004) (.ref 1005) .none (.ref 1006) (.ref 1007) (.ref 1008) 1438) .nil .nil)))))) (.node kU (.node ⟨(.type "code"),none,(.fields #[(.str "KinError" 220),(.str "KinError" 221),(.str "/claim/cut.py" 222),(.int 17 0),(.int 0 0),(.int 0 0),(.int 0 0),(.int 0 0),(.ref 39),(.bool false),(.int 181 0),(.ref 40),.none,.none,.none,.none,(.int 223 0),(.int 17 0),(.str "/claim/cut.py" 224)]),#[]⟩ (.node (kV #[(.ref 45)]) (.node kU (.node (kV #[(.str "self" 512),(.str "counts" 513),(.str "thing" 514)]) (.node (kG "parted" "Floors.parted" (inClass (top 32) 4)) (.node kU .nil .nil) .nil) (.node (kF "__init__" "Trees.__init__" (inClass (top 51) 0) "countkin.elders" 1141 776) .nil .nil)) (.node ⟨(.type "super"),none,(.fields #[(.ref 392),(.ref 392),(.ref 392)]),#[]⟩ (.node (kC "bare" "Stairs.bare" 988 298 1 (.ref 644) (.ref 645) .none (.ref 646) (.ref 647) (.ref 648) 992) .nil .nil) (.node kU .nil .nil))) (.node ⟨(.type "dict"),none,(.dict #[kD P "__module__" 334 (.str "countkin.kin" 325),kD P "__firstlineno__" 338 (.int 33 337),kD P "__init__" 347 (.ref 129),kD P "size_of" 355 (.ref 136),kD P "is_one" 363 (.ref 143),kD P "unchecked_many" 371 (.ref 150),kD P "unchecked_number" 379 (.ref 157),kD P "unchecked_thing" 388 (.ref 164),kD P "many" 396 (.ref 171),kD P "refuse_other" 404 (.ref 178),kD P "number_of" 412 (.ref 185),kD P "thing_of" 421 (.ref 192),kD P "next_of" 429 (.ref 199),kD P "__static_attributes__" 432 (.ref 200),kD P "__dict__" 434 (.ref 203),kD P "__weakref__" 436 (.ref 204),kD P "__doc__" 437 .none] 4),#[]⟩ (.node (kC "unchecked_many" "RingFamily.unchecked_many" 591 121 2 (.ref 324) (.ref 325) .none (.ref 326) (.ref 327) (.ref 328) 596) (.node (kV #[(.str "self" 915)]) .nil .nil) (.node kW .nil .nil)) (.node (kG "pairs_raised_by" "pairs_raised_by" (top 26)) (.node kW .nil .nil) (.node (kC "parted" "Turns.parted" 1387 511 2 (.ref 964) (.ref 965) .none (.ref 966) (.ref 967) (.ref 968) 1393) .nil .nil)))) (.node kW (.node (kG "many" "Family.many" (inClass (top 13) 6)) (.node ⟨(.type "builtin_function_or_method"),none,(.fields #[(.builtin "type.__prepare__"),(.type "type")]),#[]⟩ (.node (kC "closes" "closes" 866 241 1 (.ref 548) (.ref 549) .none (.ref 550) (.ref 551) (.ref 552) 872) .nil .nil) (.node (kG "comes_to_0" "comes_to_0" (top 52)) .nil .nil)) (.node (kF "code_of" "Cars.code_of" (inClass (top 21) 3) "countkin.cars" 673 424) (.node ⟨.none,none,(.fields #[(.int 315 0),(.int 4 0),(.ref 689),(.int 318 0),(.int 4 0),(.ref 696),(.int 328 0),(.int 4 0),(.ref 703),(.int 331 0),(.int 4 0),(.ref 710),(.int 334 0),(.int 4 0),(.ref 717),(.int 337 0),(.int 4 0),(.ref 724)]),#[]⟩ .nil .nil) (.node kW .nil .nil))) (.node (kC "parted" "SplitFamily.parted" 467 79 2 (.ref 228) (.ref 229) .none (.ref 230) (.ref 231) (.ref 232) 472) (.node (kG "__init__" "Codes.__init__" (inClass (top 19) 0)) (.node ⟨(.type "builtin_function_or_method"),none,(.fields #[(.builtin "type.__prepare__"),(.type "type")]),#[]⟩ .nil .nil) (.node kU .nil .nil)) (.node kU (.node kU .nil .nil) (.node (kG "ring_families" "ring_families" (top 64)) .nil .nil))))) (.node ⟨(.type "dict"),none,(.dict #[kD P "__module__" 243 (.str "countkin.errors" 216),kD P "__firstlineno__" 247 (.int 19 246),kD P "__static_attributes__" 248 (.ref 56),kD P "__doc__" 249 .none] 2),#[]⟩ (.node kW (.node (kV #[(.str "self" 375),(.str "thing" 376)]) (.node (kB "object.__init_subclass__" 279) (.node kW (.node (kC "cars_leaves" "cars_leaves" 1477 548 1 (.ref 1044) (.ref 1045) .none (.ref 1046) (.ref 1047) (.ref 1048) 1481) .nil .nil) .nil) (.node (kC "code_of" "Trees.code_of" 1176 403 2 (.ref 790) (.ref 791) .none .none .none (.ref 792) 1179) .nil .nil)) (.node kU (.node kU .nil .nil) (.node ⟨(.type "type"),none,(.cls ⟨"Rooms",[(.ref 279)],[(.ref 921),(.ref 279),(.ref 202),(.type "object")],920,"Rooms",true,[],[],false,none,false⟩),#[(some (.ref 878)),none,(some (.str "Rooms" 1283)),(some (.str "Rooms" 1291)),(some (.builtin "object.__new__")),(some (.bool true))]⟩ .nil .nil))) (.node kU (.node kU (.node (kG "joined" "Brackets.joined" (inClass (top 38) 5)) .nil .nil) (.node (kC "bare" "Bows.bare" 1251 448 1 (.ref 852) (.ref 853) .none (.ref 854) (.ref 855) (.ref 856) 1255) .nil .nil)) (.node (kF "each_once" "each_once" (top 28) "countkin.common" 738 472) (.node ⟨(.type "super"),none,(.fields #[(.ref 728),(.ref 728),(.ref 728)]),#[]⟩ .nil .nil) (.node (kV #[(.str "numbers" 1412),(.str "stack" 1413),(.str "put" 1414),(.str "number" 1415)]) .nil .nil)))) (.node ⟨(.type "code"),none,(.fields #[(.str "Family" 329),(.str "Family" 330),(.str "/claim/cut.py" 331),(.int 33 0),(.int 0 0),(.int 0 0),(.int 0 0),(.int 0 0),(.ref 119),(.bool false),(.int 181 0),(.ref 120),.none,.none,.none,.none,(.int 332 0),(.int 33 0),(.str "/claim/cut.py" 333)]),#[]⟩ (.node (kF "number_of" "Family.number_of" (inClass (top 13) 8) "countkin.kin" 325 184) (.node kU (.node kU .nil .nil) (.node (kF "code_to_tree" "code_to_tree" (top 54) "countkin.elders" 1141 824) .nil .nil)) (.node (kC "cars_to_code" "cars_to_code" 724 172 1 (.ref 436) (.ref 437) .none (.ref 438) (.ref 439) (.ref 440) 728) (.node (kF "size_of" "Twins.size_of" (inClass (top 43) 1) "countkin.twigs" 1025 696) .nil .nil) (.node kU .nil .nil))) (.node kU (.node kW (.node kU .nil .nil) (.node (kG "__init__" "Rooms.__init__" (inClass (top 57) 0)) .nil .nil)) (.node (kC "size_of" "Floors.size_of" 806 204 2 (.ref 500) (.ref 501) .none (.ref 502) (.ref 503) (.ref 504) 811) (.node (kG "floor_to_twins" "floor_to_twins" (top 49)) .nil .nil) (.node kW .nil .nil))))))) (.node ⟨(.type "code"),none,(.fields #[(.str "<module>" 182),(.str "<module>" 183),(.str "/claim/cut.py" 184),(.int 1 0),(.int 0 0),(.int 0 0),(.int 0 0),(.int 0 0),(.ref 11),(.bool false),(.int 181 0),(.ref 12),.none,.none,.none,.none,(.int 185 0),(.int 1 0),(.str "/claim/cut.py" 186)]),#[]⟩ (.node (kF "_wall" "_wall" (top 0) "__main__" 164 20) (.node ⟨(.type "builtin_function_or_method"),none,(.fields #[(.builtin "type.__prepare__"),(.type "type")]),#[]⟩ (.node ⟨(.type "dict"),none,(.dict #[kD P "__module__" 259 (.str "countkin.errors" 216),kD P "__firstlineno__" 263 (.int 21 262),kD P "__static_attributes__" 264 (.ref 68),kD P "__doc__" 265 .none] 2),#[]⟩ (.node kU (.node (kC "unchecked_thing" "SplitFamily.unchecked_thing" 500 91 3 (.ref 256) (.ref 257) .none (.ref 258) (.ref 259) (.ref 260) 506) (.node (kC "bare" "Floors.bare" 820 216 1 (.ref 512) (.ref 513) .none (.ref 514) (.ref 515) (.ref 516) 824) (.node (kF "trees_rootage" "trees_rootage" (top 69) "countkin.ringmarks" 1441 1028) .nil .nil) .nil) (.node (kV #[(.str "self" 1158)]) .nil .nil)) (.node (kF "of_code" "Codes.of_code" (inClass (top 19) 4) "countkin.ring" 553 388) (.node kW .nil .nil) (.node (kF "is_one" "Rooms.is_one" (inClass (top 57) 2) "countkin.bends" 1216 900) .nil .nil))) (.node (kG "next_of" "Family.next_of" (inClass (top 13) 10)) (.node kW (.node (kC "is_one" "Brackets.is_one" 904 260 2 (.ref 576) (.ref 577) .none (.ref 578) (.ref 579) (.ref 580) 909) .nil .nil) (.node (kG "__init__" "Bows.__init__" (inClass (top 56) 0)) .nil .nil)) (.node (kC "raised_by" "raised_by" 740 179 2 (.ref 450) (.ref 451) .none .none .none (.ref 452) 743) (.node (kG "bare" "Twins.bare" (inClass (top 43) 3)) .nil .nil) (.node kW .nil .nil)))) (.node ⟨.none,none,(.fields #[(.int 29 0),(.int 4 0),(.ref 109)]),#[]⟩ (.node kU (.node (kG "led_by_parts" "led_by_parts" (top 16)) (.node kW (.node kU .nil .nil) .nil) (.node kU .nil .nil)) (.node kU (.node (kV #[(.ref 279)]) .nil .nil) (.node ⟨.none,none,(.fields #[(.int 499 0),(.int 4 0),(.ref 941),(.int 502 0),(.int 4 0),(.ref 948),(.int 505 0),(.int 4 0),(.ref 955),(.int 508 0),(.int 4 0),(.ref 962),(.int 511 0),(.int 4 0),(.ref 969),(.int 515 0),(.int 4 0),(.ref 976)]),#[]⟩ .nil .nil))) (.node kW (.node kU (.node (kG "first_close" "first_close" (top 39)) .nil .nil) (.node kU .nil .nil)) (.node (kF "pairs_anew" "pairs_anew" (top 30) "countkin.common" 738 484) (.node kU .nil .nil) (.node kU .nil .nil))))) (.node kW (.node (kV #[(.ref 45)]) (.node (kC "unchecked_many" "Family.unchecked_many" 364 45 2 (.ref 144) (.ref 145) .none (.ref 146) (.ref 147) (.ref 148) 369) (.node kU (.node ⟨(.type "type"),none,(.cls ⟨"Floors",[(.ref 279)],[(.ref 533),(.ref 279),(.ref 202),(.type "object")],532,"Floors",true,[],[],false,none,false⟩),#[(some (.ref 486)),none,(some (.str "Floors" 787)),(some (.str "Floors" 795)),(some (.builtin "object.__new__")),(some (.bool true))]⟩ (.node kW .nil .nil) .nil) (.node (kF "is_one" "Trees.is_one" (inClass (top 51) 2) "countkin.elders" 1141 788) .nil .nil)) (.node kU (.node kU .nil .nil) (.node (kC "joined" "Rooms.joined" 1327 484 3 (.ref 914) (.ref 915) .none .none .none (.ref 916) 1330) .nil .nil))) (.node ⟨(.type "frame"),none,.plain,#[(some (.ref 212)),(some (.ref 3)),(some (.ref 209)),none,(some (.str "countkin.kin" 325)),none,(some (.ref 0))]⟩ (.node kU (.node kU .nil .nil) (.node kW .nil .nil)) (.node (kV #[(.str "numbers" 764)]) (.node (kF "joined" "Twins.joined" (inClass (top 43) 5) "countkin.twigs" 1025 724) .nil .nil) (.node ⟨(.type "super"),none,(.fields #[(.ref 980),(.ref 980),(.ref 980)]),#[]⟩ .nil .nil)))) (.node ⟨(.type "builtin_function_or_method"),none,(.fields #[(.builtin "type.__prepare__"),(.type "type")]),#[]⟩ (.node (kV #[(.str "self" 408),(.str "thing" 409)]) (.node (kF "__init__" "RingFamily.__init__" (inClass (top 18) 0) "countkin.ring" 553 308) (.node kU .nil .nil) (.node (kV #[(.str "thing" 1212)]) .nil .nil)) (.node kW (.node (kV #[(.str "self" 1049),(.str "thing" 1050),(.str "pairs" 1051),(.str "row" 1052),(.str "twin" 1053)]) .nil .nil) (.node (kF "size_of" "Turns.size_of" (inClass (top 60) 1) "countkin.rows" 1343 948) .nil .nil))) (.node kU (.node (kG "is_one" "Codes.is_one" (inClass (top 19) 2)) (.node (kF "__init__" "Stairs.__init__" (inClass (top 40) 0) "countkin.signs" 875 628) .nil .nil) (.node kU .nil .nil)) (.node kW (.node (kC "lines_over" "lines_over" 1124 368 3 (.ref 752) (.ref 753) .none (.ref 754) (.ref 755) (.ref 756) 1132) .nil .nil) (.node (kG "missing" "missing" (top 67)) .nil .nil)))))) (.node kU (.node ⟨(.type "type"),none,(.cls ⟨"KinError",[(.type "ValueError")],[(.ref 45),(.type "ValueError"),(.type "Exception"),(.type "BaseException"),(.type "object")],44,"KinError",true,[],[(.ref 58),(.ref 70),(.ref 82),(.ref 94),(.ref 113)],false,none,false⟩),#[(some (.ref 36)),none,(some (.str "KinError" 218)),(some (.str "KinError" 226)),(some (.builtin "ValueError.__new__")),(some (.bool true))]⟩ (.node kW (.node (kG "is_one" "Family.is_one" (inClass (top 13) 2)) (.node (kF "number_by_parts" "SplitFamily.number_by_parts" (inClass (top 14) 7) "countkin.kin" 325 268) (.node kW (.node kU .nil .nil) .nil) (.node kU .nil .nil)) (.node ⟨(.type "dict"),none,(.dict #[kD P "__module__" 682 (.str "countkin.cars" 673),kD P "__qualname__" 684 (.str "Cars" 683),kD P "__firstlineno__" 686 (.int 147 685),kD P "__init__" 693 (.ref 408),kD P "size_of" 701 (.ref 415),kD P "is_one" 707 (.ref 420),kD P "code_of" 713 (.ref 425),kD P "of_code" 719 (.ref 430),kD P "__static_attributes__" 720 (.ref 431)] 9),#[]⟩ (.node (kV #[(.str "self" 998),(.str "thing" 999),(.str "begin" 1000)]) .nil .nil) (.node kU .nil .nil))) (.node ⟨(.type "super"),none,(.fields #[(.ref 202),(.ref 202),(.ref 202)]),#[]⟩ (.node (kV #[(.str "self" 602),(.str "thing" 603)]) (.node (kF "bare" "Brackets.bare" (inClass (top 38) 3) "countkin.signs" 875 588) .nil .nil) (.node (kC "size_of" "Bows.size_of" 1237 440 2 (.ref 840) (.ref 841) .none (.ref 842) (.ref 843) (.ref 844) 1242) .nil .nil)) (.node kW (.node (kC "parted" "Twins.parted" 1072 334 2 (.ref 712) (.ref 713) .none (.ref 714) (.ref 715) (.ref 716) 1077) .nil .nil) (.node (kV #[(.str "self" 1399),(.str "left" 1400),(.str "right" 1401)]) .nil .nil)))) (.node (kC "__init__" "Broken.__init__" 312 29 2 (.ref 104) (.ref 105) .none (.ref 106) (.ref 107) (.ref 108) 317) (.node kW (.node ⟨(.type "code"),none,(.fields #[(.str "RingFamily" 557),(.str "RingFamily" 558),(.str "/claim/cut.py" 559),(.int 110 0),(.int 0 0),(.int 0 0),(.int 0 0),(.int 0 0),(.ref 299),(.bool false),(.int 181 0),(.ref 300),.none,.none,.none,.none,(.int 560 0),(.int 110 0),(.str "/claim/cut.py" 561)]),#[]⟩ (.node ⟨(.type "dict"),none,(.dict #[kD P "__module__" 884 (.str "countkin.signs" 875),kD P "__qualname__" 886 (.str "Brackets" 885),kD P "__firstlineno__" 888 (.int 252 887),kD P "__init__" 895 (.ref 568),kD P "size_of" 903 (.ref 575),kD P "is_one" 911 (.ref 582),kD P "bare" 918 (.ref 589),kD P "parted" 927 (.ref 596),kD P "joined" 936 (.ref 603),kD P "__static_attributes__" 937 (.ref 604)] 10),#[]⟩ .nil .nil) (.node kW .nil .nil)) (.node (kC "of_code" "Cars.of_code" 714 164 2 (.ref 426) (.ref 427) .none .none .none (.ref 428) 717) (.node kW .nil .nil) (.node (kC "__init__" "Turns.__init__" 1357 499 1 (.ref 936) (.ref 937) .none (.ref 938) (.ref 939) (.ref 940) 1361) .nil .nil))) (.node (kV #[(.str "self" 478),(.str "left" 479),(.str "right" 480)]) (.node kW (.node ⟨(.type "code"),none,(.fields #[(.str "Stairs" 952),(.str "Stairs" 953),(.str "/claim/cut.py" 954),(.int 282 0),(.int 0 0),(.int 0 0),(.int 0 0),(.int 0 0),(.ref 619),(.bool false),(.int 181 0),(.ref 620),.none,.none,.none,.none,(.int 955 0),(.int 282 0),(.str "/claim/cut.py" 956)]),#[]⟩ .nil .nil) (.node (kB "object.__init_subclass__" 875) .nil .nil)) (.node kU (.node (kG "twins_to_floor" "twins_to_floor" (top 47)) .nil .nil) (.node kW .nil .nil))))) (.node (kV #[(.ref 45)]) (.node ⟨(.type "dict"),none,(.dict #[kD P "__module__" 291 (.str "countkin.errors" 216),kD P "__firstlineno__" 295 (.int 25 294),kD P "__static_attributes__" 296 (.ref 92),kD P "__doc__" 297 .none] 2),#[]⟩ (.node (kF "unchecked_number" "Family.unchecked_number" (inClass (top 13) 4) "countkin.kin" 325 156) (.node kU (.node (kC "may_be_cut" "may_be_cut" 849 236 3 (.ref 536) (.ref 537) .none (.ref 538) (.ref 539) (.ref 540) 855) (.node (kV #[(.str "thing" 1487)]) .nil .nil) .nil) (.node (kG "of_code" "Trees.of_code" (inClass (top 51) 4)) .nil .nil)) (.node (kG "size_of" "Cars.size_of" (inClass (top 21) 1)) (.node (kB "object.__init_subclass__" 667) .nil .nil) (.node kW .nil .nil))) (.node kU (.node (kB "object.__init_subclass__" 347) (.node ⟨(.type "dict"),none,(.dict #[kD P "__module__" 884 (.str "countkin.signs" 875),kD P "__firstlineno__" 888 (.int 252 887),kD P "__init__" 895 (.ref 568),kD P "size_of" 903 (.ref 575),kD P "is_one" 911 (.ref 582),kD P "bare" 918 (.ref 589),kD P "parted" 927 (.ref 596),kD P "joined" 936 (.ref 603),kD P "__static_attributes__" 937 (.ref 604),kD P "__doc__" 938 .none] 2),#[]⟩ .nil .nil) (.node (kV #[(.str "self" 1261),(.str "thing" 1262),(.str "left_size" 1263),(.str "left" 1264),(.str "right" 1265)]) .nil .nil)) (.node kU (.node (kV #[(.str "thing" 1098),(.str "waiting" 1099),(.str "twin" 1100),(.str "place" 1101)]) .nil .nil) (.node (kF "comes_off_a_stack" "comes_off_a_stack" (top 61) "countkin.rows" 1343 988) .nil .nil)))) (.node (kV #[(.str "self" 342),(.str "word" 343),(.str "least" 344)]) (.node kU (.node kU (.node (kG "size_of" "Brackets.size_of" (inClass (top 38) 1)) .nil .nil) (.node kU .nil .nil)) (.node (kV #[(.str "thing" 734)]) (.node kU .nil .nil) (.node kU .nil .nil))) (.node (kG "unchecked_number" "SplitFamily.unchecked_number" (inClass (top 14) 5)) (.node (kC "code_of" "Codes.code_of" 653 141 2 (.ref 376) (.ref 377) .none (.ref 378) (.ref 379) (.ref 380) 658) (.node kU .nil .nil) (.node kW .nil .nil)) (.node (kG "is_one" "Floors.is_one" (inClass (top 32) 2)) (.node ⟨(.type "builtin_function_or_method"),none,(.fields #[(.builtin "type.__prepare__"),(.type "type")]),#[]⟩ .nil .nil) (.node (kC "trees_leaves" "trees_leaves" 1449 540 1 (.ref 1016) (.ref 1017) .none (.ref 1018) (.ref 1019) (.ref 1020) 1453) .nil .nil))))))))) (.node (boot_o_2 P) (.node (boot_o_4 P) (.node (boot_o_8 P) (.node kW (.node kU (.node kU (.node (kC "__init__" "Family.__init__" 339 35 3 (.ref 123) (.ref 124) .none (.ref 125) (.ref 126) (.ref 127) 345) (.node kU (.node kU (.node kW .nil .nil) .nil) (.node ⟨.none,none,(.fields #[(.int 391 0),(.int 4 0),(.ref 776),(.int 394 0),(.int 4 0),(.ref 783),(.int 397 0),(.int 4 0),(.ref 788),(.int 403 0),(.int 4 0),(.ref 793),(.int 413 0),(.int 4 0),(.ref 798)]),#[]⟩ .nil .nil)) (.node kW (.node kU .nil .nil) (.node (kF "size_of" "Rooms.size_of" (inClass (top 57) 1) "countkin.bends" 1216 895) .nil .nil))) (.node (kF "thing_of" "Family.thing_of" (inClass (top 13) 9) "countkin.kin" 325 191) (.node kU (.node kU .nil .nil) (.node ⟨(.type "frame"),none,.plain,#[(some (.ref 831)),(some (.ref 3)),(some (.ref 828)),none,(some (.str "countkin.bends" 1216)),none,(some (.ref 0))]⟩ .nil .nil)) (.node (kC "code_to_cars" "code_to_cars" 731 175 1 (.ref 443) (.ref 444) .none (.ref 445) (.ref 446) (.ref 447) 735) (.node (kF "is_one" "Twins.is_one" (inClass (top 43) 2) "countkin.twigs" 1025 703) .nil .nil) (.node kU .nil .nil)))) (.node (kB "object.__init_subclass__" 94) (.node (kV #[(.str "self" 383),(.str "size" 384),(.str "number" 385)]) (.node (kF "by_parts" "by_parts" (top 15) "countkin.kin" 325 287) (.node kW (.node (kC "cars_rootage" "cars_rootage" 1484 550 1 (.ref 1051) (.ref 1052) .none (.ref 1053) (.ref 1054) (.ref 1055) 1488) .nil .nil) .nil) (.node kU .nil .nil)) (.node kU (.node (kV #[(.str "stairs" 1020),(.str "place" 1021)]) .nil .nil) (.node (kF "neighbours" "neighbours" (top 58) "countkin.bends" 1216 927) .nil .nil))) (.node kU (.node ⟨(.type "dict"),none,(.dict #[kD P "__module__" 627 (.str "countkin.ring" 553),kD P "__qualname__" 629 (.str "Codes" 628),kD P "__firstlineno__" 631 (.int 129 630),kD P "__init__" 638 (.ref 363),kD P "size_of" 646 (.ref 370),kD P "is_one" 652 (.ref 375),kD P "code_of" 660 (.ref 382),kD P "of_code" 668 (.ref 389),kD P "__static_attributes__" 669 (.ref 390)] 9),#[]⟩ (.node (kB "object.__init_subclass__" 606) .nil .nil) (.node (kC "parted" "Bows.parted" 1258 451 2 (.ref 859) (.ref 860) .none (.ref 861) (.ref 862) (.ref 863) 1266) .nil .nil)) (.node (kF "any_cross" "any_cross" (top 29) "countkin.common" 738 479) (.node (kC "brackets_to_twins" "brackets_to_twins" 1095 340 1 (.ref 731) (.ref 732) .none (.ref 733) (.ref 734) (.ref 735) 1102) .nil .nil) (.node kU .nil .nil))))) (.node (kB "object.__init_subclass__" 45) (.node kU (.node kU (.node (kV #[(.str "self" 521),(.str "counts" 522),(.str "size" 523),(.str "number" 524)]) (.node (kG "joined" "Floors.joined" (inClass (top 32) 5)) (.node kU .nil .nil) .nil) (.node (kF "size_of" "Trees.size_of" (inClass (top 51) 1) "countkin.elders" 1141 783) .nil .nil)) (.node ⟨(.type "code"),none,(.fields #[(.str "Cars" 677),(.str "Cars" 678),(.str "/claim/cut.py" 679),(.int 147 0),(.int 0 0),(.int 0 0),(.int 0 0),(.int 0 0),(.ref 398),(.bool false),(.int 181 0),(.ref 399),.none,.none,.none,.none,(.int 680 0),(.int 147 0),(.str "/claim/cut.py" 681)]),#[]⟩ (.node (kC "parted" "Stairs.parted" 995 301 2 (.ref 651) (.ref 652) .none (.ref 653) (.ref 654) (.ref 655) 1001) .nil .nil) (.node (kC "parted" "Rooms.parted" 1321 476 2 (.ref 909) (.ref 910) .none .none .none (.ref 911) 1324) .nil .nil))) (.node ⟨(.type "builtin_function_or_method"),none,(.fields #[(.builtin "type.__prepare__"),(.type "type")]),#[]⟩ (.node (kC "unchecked_number" "RingFamily.unchecked_number" 599 124 2 (.ref 331) (.ref 332) .none (.ref 333) (.ref 334) (.ref 335) 604) (.node (kV #[(.str "self" 922),(.str "thing" 923),(.str "end" 924)]) .nil .nil) (.node kW .nil .nil)) (.node (kG "flat" "flat" (top 27)) (.node kW .nil .nil) (.node (kC "joined" "Turns.joined" 1396 515 3 (.ref 971) (.ref 972) .none (.ref 973) (.ref 974) (.ref 975) 1402) .nil .nil)))) (.node ⟨(.type "dict"),none,(.dict #[kD P "__module__" 307 (.str "countkin.errors" 216),kD P "__firstlineno__" 311 (.int 27 310),kD P "__init__" 319 (.ref 110),kD P "__static_attributes__" 321 (.ref 111),kD P "__doc__" 322 .none] 2),#[]⟩ (.node (kG "refuse_other" "Family.refuse_other" (inClass (top 13) 7)) (.node kW (.node ⟨(.type "code"),none,(.fields #[(.str "Brackets" 879),(.str "Brackets" 880),(.str "/claim/cut.py" 881),(.int 252 0),(.int 0 0),(.int 0 0),(.int 0 0),(.int 0 0),(.ref 558),(.bool false),(.int 181 0),(.ref 559),.none,.none,.none,.none,(.int 882 0),(.int 252 0),(.str "/claim/cut.py" 883)]),#[]⟩ .nil .nil) (.node (kG "tree_to_code" "tree_to_code" (top 53)) .nil .nil)) (.node ⟨(.type "dict"),none,(.dict #[kD P "__module__" 682 (.str "countkin.cars" 673),kD P "__firstlineno__" 686 (.int 147 685),kD P "__init__" 693 (.ref 408),kD P "size_of" 701 (.ref 415),kD P "is_one" 707 (.ref 420),kD P "code_of" 713 (.ref 425),kD P "of_code" 719 (.ref 430),kD P "__static_attributes__" 720 (.ref 431),kD P "__doc__" 721 .none] 2),#[]⟩ (.node (kG "__init__" "Twins.__init__" (inClass (top 43) 0)) .nil .nil) (.node kW .nil .nil))) (.node (kC "joined" "SplitFamily.joined" 475 82 3 (.ref 235) (.ref 236) .none (.ref 237) (.ref 238) (.ref 239) 481) (.node (kG "size_of" "Codes.size_of" (inClass (top 19) 1)) (.node kW .nil .nil) (.node ⟨(.type "dict"),none,(.dict #[kD P "__module__" 1290 (.str "countkin.bends" 1216),kD P "__qualname__" 1292 (.str "Rooms" 1291),kD P "__firstlineno__" 1294 (.int 460 1293),kD P "__init__" 1301 (.ref 891),kD P "size_of" 1307 (.ref 896),kD P "is_one" 1313 (.ref 901),kD P "bare" 1320 (.ref 908),kD P "parted" 1326 (.ref 913),kD P "joined" 1332 (.ref 918),kD P "__static_attributes__" 1333 (.ref 919)] 10),#[]⟩ .nil .nil)) (.node kU (.node kU .nil .nil) (.node (kG "family_of" "family_of" (top 65)) .nil .nil)))))) (.node (kV #[(.str "size" 201),(.str "share" 202),(.str "k" 203)]) (.node kW (.node (kB "object.__init_subclass__" 70) (.node (kF "size_of" "Family.size_of" (inClass (top 13) 1) "countkin.kin" 325 135) (.node kW (.node kW (.node (kV #[(.str "thing" 1466)]) .nil .nil) .nil) (.node (kC "__init__" "Trees.__init__" 1155 391 1 (.ref 771) (.ref 772) .none (.ref 773) (.ref 774) (.ref 775) 1159) .nil .nil)) (.node ⟨(.type "type"),none,(.cls ⟨"Codes",[(.ref 347)],[(.ref 392),(.ref 347),(.ref 202),(.type "object")],391,"Codes",true,[],[],false,none,false⟩),#[(some (.ref 350)),none,(some (.str "Codes" 620)),(some (.str "Codes" 628)),(some (.builtin "object.__new__")),(some (.bool true))]⟩ (.node (kG "bare" "Stairs.bare" (inClass (top 40) 3)) .nil .nil) (.node (kV #[(.str "self" 1317)]) .nil .nil))) (.node (kV #[(.str "least" 430),(.str "word" 431)]) (.node (kG "unchecked_many" "RingFamily.unchecked_many" (inClass (top 18) 3)) (.node kW .nil .nil) (.node kU .nil .nil)) (.node kW (.node kU .nil .nil) (.node (kG "parted" "Turns.parted" (inClass (top 60) 4)) .nil .nil)))) (.node kU (.node kU (.node (kV #[(.ref 202)]) (.node (kG "closes" "closes" (top 36)) (.node (kF "brackets_peaks" "brackets_peaks" (top 75) "countkin.splitmarks" 1491 1063) .nil .nil) .nil) (.node kU .nil .nil)) (.node (kC "code_of" "Cars.code_of" 708 160 2 (.ref 421) (.ref 422) .none .none .none (.ref 423) 711) (.node kU .nil .nil) (.node kU .nil .nil))) (.node (kG "parted" "SplitFamily.parted" (inClass (top 14) 2)) (.node kU (.node (kV #[(.ref 279)]) .nil .nil) (.node (kF "joined" "Bows.joined" (inClass (top 56) 5) "countkin.bends" 1216 871) .nil .nil)) (.node ⟨(.type "dict"),none,(.dict #[kD P "__module__" 794 (.str "countkin.floors" 785),kD P "__qualname__" 796 (.str "Floors" 795),kD P "__firstlineno__" 798 (.int 199 797),kD P "__init__" 805 (.ref 499),kD P "size_of" 813 (.ref 506),kD P "is_one" 819 (.ref 511),kD P "bare" 826 (.ref 518),kD P "parted" 832 (.ref 523),kD P "joined" 844 (.ref 530),kD P "__static_attributes__" 845 (.ref 531)] 10),#[]⟩ (.node (kF "twins_to_brackets" "twins_to_brackets" (top 46) "countkin.cuts" 1093 743) .nil .nil) (.node kU .nil .nil))))) (.node kU (.node kU (.node kW (.node ⟨(.type "super"),none,(.fields #[(.ref 279),(.ref 279),(.ref 279)]),#[]⟩ (.node kU (.node (kG "cars_leaves" "cars_leaves" (top 72)) .nil .nil) .nil) (.node (kG "code_of" "Trees.code_of" (inClass (top 51) 3)) .nil .nil)) (.node (kF "__init__" "Cars.__init__" (inClass (top 21) 0) "countkin.cars" 673 407) (.node (kF "joined" "Stairs.joined" (inClass (top 40) 5) "countkin.signs" 875 663) .nil .nil) (.node ⟨(.type "dict"),none,(.dict #[kD P "__module__" 1290 (.str "countkin.bends" 1216),kD P "__firstlineno__" 1294 (.int 460 1293),kD P "__init__" 1301 (.ref 891),kD P "size_of" 1307 (.ref 896),kD P "is_one" 1313 (.ref 901),kD P "bare" 1320 (.ref 908),kD P "parted" 1326 (.ref 913),kD P "joined" 1332 (.ref 918),kD P "__static_attributes__" 1333 (.ref 919),kD P "__doc__" 1334 .none] 2),#[]⟩ .nil .nil))) (.node (kV #[(.str "self" 455),(.str "word" 456)]) (.node (kF "unchecked_thing" "RingFamily.unchecked_thing" (inClass (top 18) 5) "countkin.ring" 553 343) (.node kU .nil .nil) (.node (kG "bare" "Bows.bare" (inClass (top 56) 3)) .nil .nil)) (.node (kC "each_once" "each_once" 761 188 1 (.ref 467) (.ref 468) .none (.ref 469) (.ref 470) (.ref 471) 765) (.node ⟨(.type "type"),none,(.cls ⟨"Twins",[(.ref 279)],[(.ref 728),(.ref 279),(.ref 202),(.type "object")],727,"Twins",true,[],[],false,none,false⟩),#[(some (.ref 677)),none,(some (.str "Twins" 1027)),(some (.str "Twins" 1035)),(some (.builtin "object.__new__")),(some (.bool true))]⟩ .nil .nil) (.node kW .nil .nil)))) (.node ⟨.none,none,(.fields #[(.int 35 0),(.int 4 0),(.ref 128),(.int 39 0),(.int 4 0),(.ref 135),(.int 42 0),(.int 4 0),(.ref 142),(.int 45 0),(.int 4 0),(.ref 149),(.int 48 0),(.int 4 0),(.ref 156),(.int 51 0),(.int 4 0),(.ref 163),(.int 54 0),(.int 4 0),(.ref 170),(.int 59 0),(.int 4 0),(.ref 177),(.int 63 0),(.int 4 0),(.ref 184),(.int 66 0),(.int 4 0),(.ref 191),(.int 69 0),(.int 4 0),(.ref 198)]),#[]⟩ (.node (kC "number_of" "Family.number_of" 405 63 2 (.ref 179) (.ref 180) .none (.ref 181) (.ref 182) (.ref 183) 410) (.node (kV #[(.str "self" 578),(.str "thing" 579)]) (.node (kF "__init__" "Brackets.__init__" (inClass (top 38) 0) "countkin.signs" 875 567) .nil .nil) (.node (kC "code_to_tree" "code_to_tree" 1209 431 1 (.ref 819) (.ref 820) .none (.ref 821) (.ref 822) (.ref 823) 1213) .nil .nil)) (.node (kG "cars_to_code" "cars_to_code" (top 22)) (.node (kC "size_of" "Twins.size_of" 1046 318 2 (.ref 691) (.ref 692) .none (.ref 693) (.ref 694) (.ref 695) 1054) .nil .nil) (.node (kV #[(.str "self" 1375),(.str "thing" 1376)]) .nil .nil))) (.node (kF "unchecked_many" "SplitFamily.unchecked_many" (inClass (top 14) 4) "countkin.kin" 325 247) (.node kU (.node (kV #[(.str "self" 972),(.str "thing" 973)]) .nil .nil) (.node kU .nil .nil)) (.node (kG "size_of" "Floors.size_of" (inClass (top 32) 1)) (.node kW .nil .nil) (.node kU .nil .nil))))))) (.node ⟨.none,none,(.fields (JF ((.int 1 0)::(.int 0 0)::(.ref 20)::(.int 6 0)::(.int 0 0)::(.ref 27)::(.int 11 0)::(.int 0 0)::(.ref 34)::(.int 17 0)::(.int 0 0)::(.ref 41)::(.int 19 0)::(.int 0 0)::(.ref 54)::(.int 21 0)::(.int 0 0)::(.ref 66)::(.int 23 0)::(.int 0 0)::(.ref 78)::(.int 25 0)::(.int 0 0)::(.ref 90)::(.int 27 0)::(.int 0 0)::(.ref 102)::(.int 33 0)::(.int 0 0)::(.ref 121)::(.int 71 0)::(.int 0 0)::(.ref 212)::(.int 99 0)::(.int 0 0)::(.ref 287)::(.int 102 0)::(.int 0 0)::(.ref 294)::(.int 110 0)::(.int 0 0)::(.ref 301)::(.int 129 0)::(.int 0 0)::(.ref 355)::(.int 147 0)::(.int 0 0)::(.ref 400)::(.int 172 0)::(.int 0 0)::(.ref 441)::(.int 175 0)::(.int 0 0)::(.ref 448)::(.int 179 0)::(.int 0 0)::(.ref 453)::(.int 181 0)::(.int 0 0)::(.ref 458)::(.int 183 0)::(.int 0 0)::(.ref 465)::(.int 188 0)::(.int 0 0)::(.ref 472)::(.int 190 0)::(.int 0 0)::(.ref 479)::(.int 196 0)::(.int 0 0)::(.ref 484)::(.int 199 0)::(.int 0 0)::(.ref 491)::(.int 236 0)::(.int 0 0)::(.ref 541)::(.int 238 0)::(.int 0 0)::(.ref 546)::(.int 241 0)::(.int 0 0)::(.ref 553)::(.int 252 0)::(.int 0 0)::(.ref 560)::(.int 272 0)::(.int 0 0)::(.ref 614)::(.int 282 0)::(.int 0 0)::(.ref 621)::(.int 307 0)::(.int 0 0)::(.ref 675)::(.int 313 0)::(.int 0 0)::(.ref 682)::(.int 340 0)::(.int 0 0)::(.ref 736)::(.int 351 0)::(.int 0 0)::(.ref 743)::(.int 363 0)::(.int 0 0)::(.ref 750)::(.int 368 0)::(.int 0 0)::(.ref 757)::(.int 375 0)::(.int 0 0)::(.ref 762)::(.int 389 0)::(.int 0 0)::(.ref 769)::(.int 422 0)::(.int 0 0)::(.ref 810)::(.int 428 0)::(.int 0 0)::(.ref 817)::(.int 431 0)::(.int 0 0)::(.ref 824)::(.int 435 0)::(.int 0 0)::(.ref 831)::(.int 460 0)::(.int 0 0)::(.ref 883)::(.int 494 0)::(.int 0 0)::(.ref 927)::(.int 497 0)::(.int 0 0)::(.ref 934)::(.int 517 0)::(.int 0 0)::(.ref 988)::(.int 528 0)::(.int 0 0)::(.ref 995)::(.int 530 0)::(.int 0 0)::(.ref 1002)::(.int 532 0)::(.int 0 0)::(.ref 1009)::(.int 538 0)::(.int 0 0)::(.ref 1014)::(.int 540 0)::(.int 0 0)::(.ref 1021)::(.int 542 0)::(.int 0 0)::(.ref 1028)::(.int 544 0)::(.int 0 0)::(.ref 1035)::(.int 546 0)::(.int 0 0)::(.ref 1042)::(.int 548 0)::(.int 0 0)::(.ref 1049)::(.int 550 0)::(.int 0 0)::(.ref 1056)::(.int 553 0)::(.int 0 0)::(.ref 1063)::[]))),#[]⟩ (.node (kC "_wall" "_wall" 187 1 1 (.ref 15) (.ref 16) .none (.ref 17) (.ref 18) (.ref 19) 191) (.node (kV #[(.type "ValueError")]) (.node kU (.node (kV #[(.str "self" 351),(.str "thing" 352)]) (.node (kG "unchecked_thing" "SplitFamily.unchecked_thing" (inClass (top 14) 6)) (.node (kG "bare" "Floors.bare" (inClass (top 32) 3)) (.node (kC "trees_rootage" "trees_rootage" 1456 542 1 (.ref 1023) (.ref 1024) .none (.ref 1025) (.ref 1026) (.ref 1027) 1460) .nil .nil) .nil) (.node kW .nil .nil)) (.node (kC "of_code" "Codes.of_code" 661 144 2 (.ref 383) (.ref 384) .none (.ref 385) (.ref 386) (.ref 387) 666) (.node kU .nil .nil) (.node (kC "is_one" "Rooms.is_one" 1308 468 2 (.ref 897) (.ref 898) .none .none .none (.ref 899) 1311) .nil .nil))) (.node kU (.node kU (.node (kG "is_one" "Brackets.is_one" (inClass (top 38) 2)) .nil .nil) (.node kU .nil .nil)) (.node (kG "raised_by" "raised_by" (top 25)) (.node kU .nil .nil) (.node kU .nil .nil)))) (.node kU (.node (kF "unchecked_thing" "Family.unchecked_thing" (inClass (top 13) 5) "countkin.kin" 325 163) (.node kU (.node kU (.node (kV #[(.str "thing" 1496)]) .nil .nil) .nil) (.node (kB "object.__init_subclass__" 802) .nil .nil)) (.node (kF "is_one" "Cars.is_one" (inClass (top 21) 2) "countkin.cars" 673 419) (.node (kF "right_begin" "right_begin" (top 41) "countkin.signs" 875 675) .nil .nil) (.node kU .nil .nil))) (.node kU (.node ⟨(.type "frame"),none,.plain,#[(some (.ref 355)),(some (.ref 3)),(some (.ref 352)),none,(some (.str "countkin.ring" 553)),none,(some (.ref 0))]⟩ (.node kU .nil .nil) (.node (kV #[(.str "self" 1272),(.str "left" 1273),(.str "right" 1274),(.str "end" 1275)]) .nil .nil)) (.node (kC "pairs_anew" "pairs_anew" 779 196 1 (.ref 481) (.ref 482) .none .none .none (.ref 483) 782) (.node (kV #[(.str "thing" 1108),(.str "signs" 1109),(.str "waiting" 1110),(.str "one" 1111)]) .nil .nil) (.node (kF "split_families" "split_families" (top 63) "countkin.names" 1419 995) .nil .nil))))) (.node kU (.node (kB "object.__init_subclass__" 82) (.node (kG "unchecked_many" "Family.unchecked_many" (inClass (top 13) 3)) (.node (kF "thing_by_parts" "SplitFamily.thing_by_parts" (inClass (top 14) 8) "countkin.kin" 325 275) (.node ⟨(.type "dict"),none,(.dict #[kD P "__module__" 794 (.str "countkin.floors" 785),kD P "__firstlineno__" 798 (.int 199 797),kD P "__init__" 805 (.ref 499),kD P "size_of" 813 (.ref 506),kD P "is_one" 819 (.ref 511),kD P "bare" 826 (.ref 518),kD P "parted" 832 (.ref 523),kD P "joined" 844 (.ref 530),kD P "__static_attributes__" 845 (.ref 531),kD P "__doc__" 846 .none] 2),#[]⟩ (.node kU .nil .nil) .nil) (.node (kC "is_one" "Trees.is_one" 1170 397 2 (.ref 785) (.ref 786) .none .none .none (.ref 787) 1173) .nil .nil)) (.node (kV #[(.str "self" 690)]) (.node (kV #[(.str "self" 1007),(.str "left" 1008),(.str "right" 1009)]) .nil .nil) (.node (kG "joined" "Rooms.joined" (inClass (top 57) 5)) .nil .nil))) (.node ⟨(.type "code"),none,(.fields #[(.str "SplitFamily" 442),(.str "SplitFamily" 443),(.str "/claim/cut.py" 444),(.int 71 0),(.int 0 0),(.int 0 0),(.int 0 0),(.int 0 0),(.ref 210),(.bool false),(.int 181 0),(.ref 211),.none,.none,.none,.none,(.int 445 0),(.int 71 0),(.str "/claim/cut.py" 446)]),#[]⟩ (.node (kV #[(.str "self" 610),(.str "size" 611),(.str "number" 612)]) (.node (kF "parted" "Brackets.parted" (inClass (top 38) 4) "countkin.signs" 875 595) .nil .nil) (.node kU .nil .nil)) (.node kW (.node (kC "joined" "Twins.joined" 1080 337 3 (.ref 719) (.ref 720) .none (.ref 721) (.ref 722) (.ref 723) 1086) .nil .nil) (.node ⟨(.type "type"),none,(.cls ⟨"Turns",[(.ref 279)],[(.ref 980),(.ref 279),(.ref 202),(.type "object")],979,"Turns",true,[],[],false,none,false⟩),#[(some (.ref 929)),none,(some (.str "Turns" 1345)),(some (.str "Turns" 1353)),(some (.builtin "object.__new__")),(some (.bool true))]⟩ .nil .nil)))) (.node kU (.node kW (.node (kC "__init__" "RingFamily.__init__" 567 112 2 (.ref 303) (.ref 304) .none (.ref 305) (.ref 306) (.ref 307) 572) (.node (kV #[(.str "self" 892)]) .nil .nil) (.node kW .nil .nil)) (.node kU (.node kW .nil .nil) (.node (kC "size_of" "Turns.size_of" 1364 502 2 (.ref 943) (.ref 944) .none (.ref 945) (.ref 946) (.ref 947) 1369) .nil .nil))) (.node (kV #[(.str "self" 487),(.str "size" 488)]) (.node kW (.node (kC "__init__" "Stairs.__init__" 962 284 1 (.ref 623) (.ref 624) .none (.ref 625) (.ref 626) (.ref 627) 966) .nil .nil) (.node ⟨(.type "frame"),none,.plain,#[(some (.ref 883)),(some (.ref 3)),(some (.ref 880)),none,(some (.str "countkin.bends" 1216)),none,(some (.ref 0))]⟩ .nil .nil)) (.node kU (.node (kG "lines_over" "lines_over" (top 48)) .nil .nil) (.node kW .nil .nil)))))) (.node (kF "by_rule" "by_rule" (top 3) "countkin.counts" 194 27) (.node ⟨(.type "dict"),none,(.dict #[kD P "__module__" 225 (.str "countkin.errors" 216),kD P "__firstlineno__" 229 (.int 17 228),kD P "__static_attributes__" 230 (.ref 43),kD P "__weakref__" 232 (.ref 46),kD P "__doc__" 233 .none] 3),#[]⟩ (.node kU (.node kU (.node (kC "number_by_parts" "SplitFamily.number_by_parts" 509 94 3 (.ref 263) (.ref 264) .none (.ref 265) (.ref 266) (.ref 267) 515) (.node kU (.node (kF "codes_leaves" "codes_leaves" (top 70) "countkin.ringmarks" 1441 1035) .nil .nil) .nil) (.node (kV #[(.str "self" 1165),(.str "thing" 1166)]) .nil .nil)) (.node ⟨(.type "builtin_function_or_method"),none,(.fields #[(.builtin "type.__prepare__"),(.type "type")]),#[]⟩ (.node kW .nil .nil) (.node (kF "bare" "Rooms.bare" (inClass (top 57) 3) "countkin.bends" 1216 907) .nil .nil))) (.node ⟨(.type "getset_descriptor"),none,(.fields #[(.str "__weakref__" 435),(.ref 202),(.builtin "ExceptionGroup.__weakref__"),.none]),#[]⟩ (.node kW (.node (kC "bare" "Brackets.bare" 912 263 1 (.ref 583) (.ref 584) .none (.ref 585) (.ref 586) (.ref 587) 916) .nil .nil) (.node (kG "size_of" "Bows.size_of" (inClass (top 56) 1)) .nil .nil)) (.node kU (.node (kG "parted" "Twins.parted" (inClass (top 43) 4)) .nil .nil) (.node kW .nil .nil)))) (.node (kG "__init__" "Broken.__init__" (inClass (top 11) 0)) (.node kU (.node ⟨.none,none,(.fields #[(.int 112 0),(.int 4 0),(.ref 308),(.int 115 0),(.int 4 0),(.ref 315),(.int 118 0),(.int 4 0),(.ref 322),(.int 121 0),(.int 4 0),(.ref 329),(.int 124 0),(.int 4 0),(.ref 336),(.int 127 0),(.int 4 0),(.ref 343)]),#[]⟩ (.node ⟨(.type "builtin_function_or_method"),none,(.fields #[(.builtin "type.__prepare__"),(.type "type")]),#[]⟩ .nil .nil) (.node kU .nil .nil)) (.node (kG "of_code" "Cars.of_code" (inClass (top 21) 4)) (.node kU .nil .nil) (.node (kG "__init__" "Turns.__init__" (inClass (top 60) 0)) .nil .nil))) (.node kW (.node kU (.node ⟨.none,none,(.fields #[(.int 284 0),(.int 4 0),(.ref 628),(.int 287 0),(.int 4 0),(.ref 635),(.int 290 0),(.int 4 0),(.ref 642),(.int 298 0),(.int 4 0),(.ref 649),(.int 301 0),(.int 4 0),(.ref 656),(.int 305 0),(.int 4 0),(.ref 663)]),#[]⟩ .nil .nil) (.node ⟨(.type "super"),none,(.fields #[(.ref 875),(.ref 875),(.ref 875)]),#[]⟩ .nil .nil)) (.node ⟨(.type "frame"),none,.plain,#[(some (.ref 491)),(some (.ref 3)),(some (.ref 488)),none,(some (.str "countkin.floors" 785)),none,(some (.ref 0))]⟩ (.node kU .nil .nil) (.node kU .nil .nil))))) (.node (kB "object.__init_subclass__" 58) (.node kU (.node (kC "unchecked_number" "Family.unchecked_number" 372 48 2 (.ref 151) (.ref 152) .none (.ref 153) (.ref 154) (.ref 155) 377) (.node (kV #[(.str "one" 535),(.str "other" 536),(.str "thing" 537)]) (.node (kG "may_be_cut" "may_be_cut" (top 33)) (.node kW .nil .nil) .nil) (.node kW .nil .nil)) (.node kU (.node ⟨(.type "super"),none,(.fields #[(.ref 667),(.ref 667),(.ref 667)]),#[]⟩ .nil .nil) (.node kU .nil .nil))) (.node (kF "__init__" "SplitFamily.__init__" (inClass (top 14) 0) "countkin.kin" 325 219) (.node ⟨(.type "super"),none,(.fields #[(.ref 347),(.ref 347),(.ref 347)]),#[]⟩ (.node kU .nil .nil) (.node kW .nil .nil)) (.node (kV #[(.str "pairs" 771),(.str "a" 772),(.str "b" 773),(.str "c" 774),(.str "d" 775)]) (.node kW .nil .nil) (.node (kC "comes_off_a_stack" "comes_off_a_stack" 1409 517 1 (.ref 983) (.ref 984) .none (.ref 985) (.ref 986) (.ref 987) 1416) .nil .nil)))) (.node kW (.node (kV #[(.str "self" 416),(.str "size" 417),(.str "number" 418)]) (.node (kF "code_of" "RingFamily.code_of" (inClass (top 18) 1) "countkin.ring" 553 315) (.node kU .nil .nil) (.node ⟨(.type "dict"),none,(.dict #[kD P "__module__" 1225 (.str "countkin.bends" 1216),kD P "__qualname__" 1227 (.str "Bows" 1226),kD P "__firstlineno__" 1229 (.int 435 1228),kD P "__init__" 1236 (.ref 839),kD P "size_of" 1244 (.ref 846),kD P "is_one" 1250 (.ref 851),kD P "bare" 1257 (.ref 858),kD P "parted" 1268 (.ref 865),kD P "joined" 1278 (.ref 872),kD P "__static_attributes__" 1279 (.ref 873)] 10),#[]⟩ .nil .nil)) (.node kW (.node (kV #[(.str "self" 1060),(.str "thing" 1061)]) .nil .nil) (.node (kF "is_one" "Turns.is_one" (inClass (top 60) 2) "countkin.rows" 1343 955) .nil .nil))) (.node kU (.node (kG "code_of" "Codes.code_of" (inClass (top 19) 3)) (.node (kF "size_of" "Stairs.size_of" (inClass (top 40) 1) "countkin.signs" 875 635) .nil .nil) (.node kU .nil .nil)) (.node kW (.node (kV #[(.ref 347)]) .nil .nil) (.node (kG "trees_leaves" "trees_leaves" (top 68)) .nil .nil)))))))) (.node (boot_o_6 P) (.node (boot_o_10 P) (.node kU (.node (kC "ring_many" "ring_many" 207 11 1 (.ref 29) (.ref 30) .none (.ref 31) (.ref 32) (.ref 33) 213) (.node ⟨(.type "code"),none,(.fields #[(.str "NoThing" 254),(.str "NoThing" 255),(.str "/claim/cut.py" 256),(.int 21 0),(.int 0 0),(.int 0 0),(.int 0 0),(.int 0 0),(.ref 64),(.bool false),(.int 181 0),(.ref 65),.none,.none,.none,.none,(.int 257 0),(.int 21 0),(.str "/claim/cut.py" 258)]),#[]⟩ (.node kU (.node (kV #[(.str "self" 503),(.str "size" 504),(.str "number" 505)]) (.node (kV #[(.str "self" 823)]) (.node kU .nil .nil) .nil) (.node ⟨(.type "frame"),none,.plain,#[(some (.ref 769)),(some (.ref 3)),(some (.ref 766)),none,(some (.str "countkin.elders" 1141)),none,(some (.ref 0))]⟩ .nil .nil)) (.node kU (.node (kC "is_one" "Stairs.is_one" 977 290 2 (.ref 637) (.ref 638) .none (.ref 639) (.ref 640) (.ref 641) 985) .nil .nil) (.node kW .nil .nil))) (.node kW (.node (kC "of_code" "RingFamily.of_code" 583 118 2 (.ref 317) (.ref 318) .none (.ref 319) (.ref 320) (.ref 321) 588) (.node (kV #[(.str "self" 907),(.str "thing" 908)]) .nil .nil) (.node kW .nil .nil)) (.node kU (.node kW .nil .nil) (.node (kC "bare" "Turns.bare" 1380 508 1 (.ref 957) (.ref 958) .none (.ref 959) (.ref 960) (.ref 961) 1384) .nil .nil)))) (.node ⟨(.type "builtin_function_or_method"),none,(.fields #[(.builtin "type.__prepare__"),(.type "type")]),#[]⟩ (.node (kG "unchecked_thing" "Family.unchecked_thing" (inClass (top 13) 5)) (.node kW (.node (kC "third_corner" "third_corner" 858 238 3 (.ref 543) (.ref 544) .none .none .none (.ref 545) 861) (.node kU .nil .nil) .nil) (.node ⟨(.type "type"),none,(.cls ⟨"Trees",[(.ref 347)],[(.ref 802),(.ref 347),(.ref 202),(.type "object")],801,"Trees",true,[],[],false,none,false⟩),#[(some (.ref 764)),none,(some (.str "Trees" 1143)),(some (.str "Trees" 1151)),(some (.builtin "object.__new__")),(some (.bool true))]⟩ .nil .nil)) (.node (kG "is_one" "Cars.is_one" (inClass (top 21) 2)) (.node (kG "right_begin" "right_begin" (top 41)) .nil .nil) (.node ⟨(.type "builtin_function_or_method"),none,(.fields #[(.builtin "type.__prepare__"),(.type "type")]),#[]⟩ .nil .nil))) (.node (kC "bare" "SplitFamily.bare" 460 76 1 (.ref 221) (.ref 222) .none (.ref 223) (.ref 224) (.ref 225) 464) (.node ⟨.none,none,(.fields #[(.int 131 0),(.int 4 0),(.ref 362),(.int 134 0),(.int 4 0),(.ref 369),(.int 137 0),(.int 4 0),(.ref 374),(.int 141 0),(.int 4 0),(.ref 381),(.int 144 0),(.int 4 0),(.ref 388)]),#[]⟩ (.node kW .nil .nil) (.node kU .nil .nil)) (.node kW (.node kU .nil .nil) (.node (kG "split_families" "split_families" (top 63)) .nil .nil))))) (.node ⟨(.type "builtin_function_or_method"),none,(.fields #[(.builtin "type.__prepare__"),(.type "type")]),#[]⟩ (.node ⟨(.type "type"),none,(.cls ⟨"NoFamily",[(.ref 45)],[(.ref 82),(.ref 45),(.type "ValueError"),(.type "Exception"),(.type "BaseException"),(.type "object")],81,"NoFamily",true,[],[],false,none,false⟩),#[(some (.ref 73)),none,(some (.str "NoFamily" 268)),(some (.str "NoFamily" 276)),(some (.builtin "ValueError.__new__")),(some (.bool true))]⟩ (.node (kV #[(.str "self" 367),(.str "size" 368)]) (.node (kG "thing_by_parts" "SplitFamily.thing_by_parts" (inClass (top 14) 8)) (.node (kF "joined" "Floors.joined" (inClass (top 32) 5) "countkin.floors" 785 529) (.node (kC "codes_rootage" "codes_rootage" 1470 546 1 (.ref 1037) (.ref 1038) .none (.ref 1039) (.ref 1040) (.ref 1041) 1474) .nil .nil) .nil) (.node kW .nil .nil)) (.node kU (.node kU .nil .nil) (.node kU .nil .nil))) (.node kU (.node kU (.node (kG "parted" "Brackets.parted" (inClass (top 38) 4)) .nil .nil) (.node (kC "is_one" "Bows.is_one" 1245 443 2 (.ref 847) (.ref 848) .none .none .none (.ref 849) 1248) .nil .nil)) (.node (kF "flat" "flat" (top 27) "countkin.common" 738 465) (.node kU .nil .nil) (.node kU .nil .nil)))) (.node ⟨(.type "super"),none,(.fields #[(.ref 113),(.ref 113),(.ref 113)]),#[]⟩ (.node (kF "refuse_other" "Family.refuse_other" (inClass (top 13) 7) "countkin.kin" 325 177) (.node kU (.node kU .nil .nil) (.node (kF "tree_to_code" "tree_to_code" (top 53) "countkin.elders" 1141 817) .nil .nil)) (.node ⟨(.type "super"),none,(.fields #[(.ref 433),(.ref 433),(.ref 433)]),#[]⟩ (.node (kF "__init__" "Twins.__init__" (inClass (top 43) 0) "countkin.twigs" 1025 689) .nil .nil) (.node kU .nil .nil))) (.node kU (.node (kF "size_of" "Codes.size_of" (inClass (top 19) 1) "countkin.ring" 553 369) (.node kU .nil .nil) (.node ⟨.none,none,(.fields #[(.int 462 0),(.int 4 0),(.ref 890),(.int 465 0),(.int 4 0),(.ref 895),(.int 468 0),(.int 4 0),(.ref 900),(.int 473 0),(.int 4 0),(.ref 907),(.int 476 0),(.int 4 0),(.ref 912),(.int 484 0),(.int 4 0),(.ref 917)]),#[]⟩ .nil .nil)) (.node (kC "__init__" "Floors.__init__" 799 201 1 (.ref 493) (.ref 494) .none (.ref 495) (.ref 496) (.ref 497) 803) (.node (kV #[(.str "lines" 1127),(.str "twin" 1128),(.str "corner" 1129),(.str "third" 1130),(.str "end" 1131)]) .nil .nil) (.node (kF "family_of" "family_of" (top 65) "countkin.names" 1419 1009) .nil .nil)))))) (.node (kG "by_rule" "by_rule" (top 3)) (.node ⟨(.type "frame"),none,.plain,#[(some (.ref 41)),(some (.ref 3)),(some (.ref 38)),none,(some (.str "countkin.errors" 216)),none,(some (.ref 0))]⟩ (.node ⟨(.type "builtin_function_or_method"),none,(.fields #[(.builtin "type.__prepare__"),(.type "type")]),#[]⟩ (.node kW (.node kU (.node (kC "parted" "Floors.parted" 827 219 2 (.ref 519) (.ref 520) .none .none .none (.ref 521) 830) (.node (kG "codes_leaves" "codes_leaves" (top 70)) .nil .nil) .nil) (.node kU .nil .nil)) (.node (kB "object.__init_subclass__" 392) (.node (kF "bare" "Stairs.bare" (inClass (top 40) 3) "countkin.signs" 875 649) .nil .nil) (.node (kG "bare" "Rooms.bare" (inClass (top 57) 3)) .nil .nil))) (.node ⟨(.type "type"),none,(.cls ⟨"Family",[(.type "object")],[(.ref 202),(.type "object")],201,"Family",true,[],[(.ref 279),(.ref 347)],false,none,false⟩),#[none,none,(some (.str "Family" 327)),(some (.str "Family" 335)),(some (.builtin "object.__new__")),(some (.bool true))]⟩ (.node (kF "unchecked_many" "RingFamily.unchecked_many" (inClass (top 18) 3) "countkin.ring" 553 329) (.node kU .nil .nil) (.node (kV #[(.str "self" 1240),(.str "thing" 1241)]) .nil .nil)) (.node (kC "pairs_raised_by" "pairs_raised_by" 746 181 2 (.ref 455) (.ref 456) .none .none .none (.ref 457) 749) (.node (kV #[(.str "self" 1075),(.str "thing" 1076)]) .nil .nil) (.node (kF "parted" "Turns.parted" (inClass (top 60) 4) "countkin.rows" 1343 969) .nil .nil)))) (.node (kV #[(.str "self" 315),(.str "place" 316)]) (.node (kC "many" "Family.many" 389 54 2 (.ref 165) (.ref 166) .none (.ref 167) (.ref 168) (.ref 169) 394) (.node ⟨(.type "dict"),none,(.dict #[kD P "__module__" 562 (.str "countkin.ring" 553),kD P "__qualname__" 564 (.str "RingFamily" 563),kD P "__firstlineno__" 566 (.int 110 565),kD P "__init__" 574 (.ref 309),kD P "code_of" 582 (.ref 316),kD P "of_code" 590 (.ref 323),kD P "unchecked_many" 598 (.ref 330),kD P "unchecked_number" 606 (.ref 337),kD P "unchecked_thing" 615 (.ref 344),kD P "__static_attributes__" 616 (.ref 345)] 10),#[]⟩ (.node (kF "closes" "closes" (top 36) "countkin.steps" 864 553) .nil .nil) (.node (kC "comes_to_0" "comes_to_0" 1192 422 2 (.ref 805) (.ref 806) .none (.ref 807) (.ref 808) (.ref 809) 1199) .nil .nil)) (.node kU (.node ⟨(.type "code"),none,(.fields #[(.str "Twins" 1029),(.str "Twins" 1030),(.str "/claim/cut.py" 1031),(.int 313 0),(.int 0 0),(.int 0 0),(.int 0 0),(.int 0 0),(.ref 680),(.bool false),(.int 181 0),(.ref 681),.none,.none,.none,.none,(.int 1032 0),(.int 313 0),(.str "/claim/cut.py" 1033)]),#[]⟩ .nil .nil) (.node (kV #[(.str "self" 1360)]) .nil .nil))) (.node (kF "parted" "SplitFamily.parted" (inClass (top 14) 2) "countkin.kin" 325 233) (.node (kC "__init__" "Codes.__init__" 632 131 1 (.ref 357) (.ref 358) .none (.ref 359) (.ref 360) (.ref 361) 636) (.node ⟨(.type "dict"),none,(.dict #[kD P "__module__" 957 (.str "countkin.signs" 875),kD P "__qualname__" 959 (.str "Stairs" 958),kD P "__firstlineno__" 961 (.int 282 960),kD P "__init__" 968 (.ref 629),kD P "size_of" 976 (.ref 636),kD P "is_one" 987 (.ref 643),kD P "bare" 994 (.ref 650),kD P "parted" 1003 (.ref 657),kD P "joined" 1012 (.ref 664),kD P "__static_attributes__" 1013 (.ref 665)] 10),#[]⟩ .nil .nil) (.node ⟨(.type "dict"),none,(.dict #[kD P "__module__" 1225 (.str "countkin.bends" 1216),kD P "__firstlineno__" 1229 (.int 435 1228),kD P "__init__" 1236 (.ref 839),kD P "size_of" 1244 (.ref 846),kD P "is_one" 1250 (.ref 851),kD P "bare" 1257 (.ref 858),kD P "parted" 1268 (.ref 865),kD P "joined" 1278 (.ref 872),kD P "__static_attributes__" 1279 (.ref 873),kD P "__doc__" 1280 .none] 2),#[]⟩ .nil .nil)) (.node ⟨.none,none,(.fields #[(.int 201 0),(.int 4 0),(.ref 498),(.int 204 0),(.int 4 0),(.ref 505),(.int 207 0),(.int 4 0),(.ref 510),(.int 216 0),(.int 4 0),(.ref 517),(.int 219 0),(.int 4 0),(.ref 522),(.int 227 0),(.int 4 0),(.ref 529)]),#[]⟩ (.node kW .nil .nil) (.node (kC "ring_families" "ring_families" 1427 530 0 (.ref 997) (.ref 998) .none (.ref 999) (.ref 1000) (.ref 1001) 1430) .nil .nil))))) (.node ⟨(.type "type"),none,(.cls ⟨"NoSize",[(.ref 45)],[(.ref 58),(.ref 45),(.type "ValueError"),(.type "Exception"),(.type "BaseException"),(.type "object")],57,"NoSize",true,[],[],false,none,false⟩),#[(some (.ref 49)),none,(some (.str "NoSize" 236)),(some (.str "NoSize" 244)),(some (.builtin "ValueError.__new__")),(some (.bool true))]⟩ (.node ⟨(.type "code"),none,(.fields #[(.str "NoWay" 286),(.str "NoWay" 287),(.str "/claim/cut.py" 288),(.int 25 0),(.int 0 0),(.int 0 0),(.int 0 0),(.int 0 0),(.ref 88),(.bool false),(.int 181 0),(.ref 89),.none,.none,.none,.none,(.int 289 0),(.int 25 0),(.str "/claim/cut.py" 290)]),#[]⟩ (.node kU (.node kU (.node (kV #[(.str "corners" 852),(.str "a" 853),(.str "b" 854)]) (.node (kF "cars_leaves" "cars_leaves" (top 72) "countkin.ringmarks" 1441 1049) .nil .nil) .nil) (.node (kF "code_of" "Trees.code_of" (inClass (top 51) 3) "countkin.elders" 1141 793) .nil .nil)) (.node kW (.node ⟨(.type "dict"),none,(.dict #[kD P "__module__" 957 (.str "countkin.signs" 875),kD P "__firstlineno__" 961 (.int 282 960),kD P "__init__" 968 (.ref 629),kD P "size_of" 976 (.ref 636),kD P "is_one" 987 (.ref 643),kD P "bare" 994 (.ref 650),kD P "parted" 1003 (.ref 657),kD P "joined" 1012 (.ref 664),kD P "__static_attributes__" 1013 (.ref 665),kD P "__doc__" 1014 .none] 2),#[]⟩ .nil .nil) (.node ⟨(.type "super"),none,(.fields #[(.ref 921),(.ref 921),(.ref 921)]),#[]⟩ .nil .nil))) (.node (kG "__init__" "SplitFamily.__init__" (inClass (top 14) 0)) (.node ⟨(.type "dict"),none,(.dict #[kD P "__module__" 562 (.str "countkin.ring" 553),kD P "__firstlineno__" 566 (.int 110 565),kD P "__init__" 574 (.ref 309),kD P "code_of" 582 (.ref 316),kD P "of_code" 590 (.ref 323),kD P "unchecked_many" 598 (.ref 330),kD P "unchecked_number" 606 (.ref 337),kD P "unchecked_thing" 615 (.ref 344),kD P "__static_attributes__" 616 (.ref 345),kD P "__doc__" 617 .none] 2),#[]⟩ (.node (kC "joined" "Brackets.joined" 928 270 3 (.ref 597) (.ref 598) .none (.ref 599) (.ref 600) (.ref 601) 934) .nil .nil) (.node (kF "bare" "Bows.bare" (inClass (top 56) 3) "countkin.bends" 1216 857) .nil .nil)) (.node kU (.node (kB "object.__init_subclass__" 728) .nil .nil) (.node kU .nil .nil)))) (.node ⟨(.type "frame"),none,.plain,#[(some (.ref 121)),(some (.ref 3)),(some (.ref 118)),none,(some (.str "countkin.kin" 325)),none,(some (.ref 0))]⟩ (.node kU (.node (kG "code_of" "RingFamily.code_of" (inClass (top 18) 1)) (.node kW .nil .nil) (.node (kV #[(.ref 279)]) .nil .nil)) (.node (kF "cars_to_code" "cars_to_code" (top 22) "countkin.cars" 673 441) (.node kU .nil .nil) (.node (kG "is_one" "Turns.is_one" (inClass (top 60) 2)) .nil .nil))) (.node kW (.node (kV #[(.str "self" 656),(.str "thing" 657)]) (.node (kG "size_of" "Stairs.size_of" (inClass (top 40) 1)) .nil .nil) (.node (kC "__init__" "Rooms.__init__" 1295 462 1 (.ref 885) (.ref 886) .none (.ref 887) (.ref 888) (.ref 889) 1299) .nil .nil)) (.node (kF "size_of" "Floors.size_of" (inClass (top 32) 1) "countkin.floors" 785 505) (.node (kC "floor_to_twins" "floor_to_twins" 1135 375 1 (.ref 759) (.ref 760) .none .none .none (.ref 761) 1138) .nil .nil) (.node (kV #[(.str "thing" 1452)]) .nil .nil))))))) (.node ⟨(.type "frame"),none,.plain,#[(some (.ref 13)),(some (.ref 3)),(some (.ref 3)),none,(some (.str "__main__" 164)),none,(some (.ref 0))]⟩ (.node kU (.node ⟨(.type "dict"),none,(.dict #[kD P "__module__" 225 (.str "countkin.errors" 216),kD P "__qualname__" 227 (.str "KinError" 226),kD P "__firstlineno__" 229 (.int 17 228),kD P "__static_attributes__" 230 (.ref 43)] 4),#[]⟩ (.node ⟨(.type "type"),none,(.cls ⟨"NoThing",[(.ref 45)],[(.ref 70),(.ref 45),(.type "ValueError"),(.type "Exception"),(.type "BaseException"),(.type "object")],69,"NoThing",true,[],[],false,none,false⟩),#[(some (.ref 61)),none,(some (.str "NoThing" 252)),(some (.str "NoThing" 260)),(some (.builtin "ValueError.__new__")),(some (.bool true))]⟩ (.node (kG "size_of" "Family.size_of" (inClass (top 13) 1)) (.node (kF "unchecked_thing" "SplitFamily.unchecked_thing" (inClass (top 14) 6) "countkin.kin" 325 261) (.node (kF "bare" "Floors.bare" (inClass (top 32) 3) "countkin.floors" 785 517) (.node kU .nil .nil) .nil) (.node kU .nil .nil)) (.node kU (.node (kV #[(.str "self" 991)]) .nil .nil) (.node kU .nil .nil))) (.node (kC "next_of" "Family.next_of" 422 69 2 (.ref 193) (.ref 194) .none (.ref 195) (.ref 196) (.ref 197) 427) (.node (kV #[(.str "self" 594),(.str "size" 595)]) (.node (kF "is_one" "Brackets.is_one" (inClass (top 38) 2) "countkin.signs" 875 581) .nil .nil) (.node (kC "__init__" "Bows.__init__" 1230 437 1 (.ref 833) (.ref 834) .none (.ref 835) (.ref 836) (.ref 837) 1234) .nil .nil)) (.node (kF "raised_by" "raised_by" (top 25) "countkin.common" 738 453) (.node (kC "bare" "Twins.bare" 1065 331 1 (.ref 705) (.ref 706) .none (.ref 707) (.ref 708) (.ref 709) 1069) .nil .nil) (.node (kV #[(.str "self" 1390),(.str "thing" 1391),(.str "left_size" 1392)]) .nil .nil)))) (.node ⟨(.type "code"),none,(.fields #[(.str "Broken" 302),(.str "Broken" 303),(.str "/claim/cut.py" 304),(.int 27 0),(.int 0 0),(.int 0 0),(.int 0 0),(.int 0 0),(.ref 100),(.bool false),(.int 181 0),(.ref 101),.none,.none,.none,.none,(.int 305 0),(.int 27 0),(.str "/claim/cut.py" 306)]),#[]⟩ (.node kW (.node (kC "led_by_parts" "led_by_parts" 541 102 3 (.ref 289) (.ref 290) .none (.ref 291) (.ref 292) (.ref 293) 550) (.node (kV #[(.str "text" 869),(.str "depth" 870),(.str "sign" 871)]) (.node (kG "brackets_peaks" "brackets_peaks" (top 75)) .nil .nil) .nil) (.node kW .nil .nil)) (.node kW (.node ⟨(.type "builtin_function_or_method"),none,(.fields #[(.builtin "type.__prepare__"),(.type "type")]),#[]⟩ .nil .nil) (.node ⟨(.type "code"),none,(.fields #[(.str "Turns" 1347),(.str "Turns" 1348),(.str "/claim/cut.py" 1349),(.int 497 0),(.int 0 0),(.int 0 0),(.int 0 0),(.int 0 0),(.ref 932),(.bool false),(.int 181 0),(.ref 933),.none,.none,.none,.none,(.int 1350 0),(.int 497 0),(.str "/claim/cut.py" 1351)]),#[]⟩ .nil .nil))) (.node (kV #[(.str "self" 470),(.str "thing" 471)]) (.node kW (.node (kC "first_close" "first_close" 941 272 1 (.ref 609) (.ref 610) .none (.ref 611) (.ref 612) (.ref 613) 947) .nil .nil) (.node (kG "joined" "Bows.joined" (inClass (top 56) 5)) .nil .nil)) (.node (kV #[(.ref 279)]) (.node (kG "twins_to_brackets" "twins_to_brackets" (top 46)) .nil .nil) (.node kW .nil .nil))))) (.node ⟨(.type "code"),none,(.fields #[(.str "NoSize" 238),(.str "NoSize" 239),(.str "/claim/cut.py" 240),(.int 19 0),(.int 0 0),(.int 0 0),(.int 0 0),(.int 0 0),(.ref 52),(.bool false),(.int 181 0),(.ref 53),.none,.none,.none,.none,(.int 241 0),(.int 19 0),(.str "/claim/cut.py" 242)]),#[]⟩ (.node ⟨(.type "builtin_function_or_method"),none,(.fields #[(.builtin "type.__prepare__"),(.type "type")]),#[]⟩ (.node (kF "unchecked_many" "Family.unchecked_many" (inClass (top 13) 3) "countkin.kin" 325 149) (.node ⟨(.type "dict"),none,(.dict #[kD P "__module__" 447 (.str "countkin.kin" 325),kD P "__firstlineno__" 451 (.int 71 450),kD P "__init__" 459 (.ref 220),kD P "bare" 466 (.ref 227),kD P "parted" 474 (.ref 234),kD P "joined" 483 (.ref 241),kD P "unchecked_many" 491 (.ref 248),kD P "unchecked_number" 499 (.ref 255),kD P "unchecked_thing" 508 (.ref 262),kD P "number_by_parts" 517 (.ref 269),kD P "thing_by_parts" 527 (.ref 276),kD P "__static_attributes__" 528 (.ref 277),kD P "__doc__" 529 .none] 2),#[]⟩ (.node ⟨(.type "super"),none,(.fields #[(.ref 533),(.ref 533),(.ref 533)]),#[]⟩ (.node (kV #[(.str "thing" 1480)]) .nil .nil) .nil) (.node kU .nil .nil)) (.node (kG "__init__" "Cars.__init__" (inClass (top 21) 0)) (.node (kG "joined" "Stairs.joined" (inClass (top 40) 5)) .nil .nil) (.node (kF "joined" "Rooms.joined" (inClass (top 57) 5) "countkin.bends" 1216 917) .nil .nil))) (.node kU (.node (kG "unchecked_thing" "RingFamily.unchecked_thing" (inClass (top 18) 5)) (.node kW .nil .nil) (.node (kV #[(.str "self" 1254)]) .nil .nil)) (.node kU (.node kU .nil .nil) (.node (kB "object.__init_subclass__" 980) .nil .nil)))) (.node ⟨(.type "dict"),none,(.dict #[kD P "__module__" 334 (.str "countkin.kin" 325),kD P "__qualname__" 336 (.str "Family" 335),kD P "__firstlineno__" 338 (.int 33 337),kD P "__init__" 347 (.ref 129),kD P "size_of" 355 (.ref 136),kD P "is_one" 363 (.ref 143),kD P "unchecked_many" 371 (.ref 150),kD P "unchecked_number" 379 (.ref 157),kD P "unchecked_thing" 388 (.ref 164),kD P "many" 396 (.ref 171),kD P "refuse_other" 404 (.ref 178),kD P "number_of" 412 (.ref 185),kD P "thing_of" 421 (.ref 192),kD P "next_of" 429 (.ref 199),kD P "__static_attributes__" 432 (.ref 200)] 15),#[]⟩ (.node kU (.node kU (.node (kG "__init__" "Brackets.__init__" (inClass (top 38) 0)) .nil .nil) (.node kU .nil .nil)) (.node (kV #[(.str "thing" 727)]) (.node kU .nil .nil) (.node kU .nil .nil))) (.node (kG "unchecked_many" "SplitFamily.unchecked_many" (inClass (top 14) 4)) (.node (kC "is_one" "Codes.is_one" 647 137 2 (.ref 371) (.ref 372) .none .none .none (.ref 373) 650) (.node kU .nil .nil) (.node kW .nil .nil)) (.node (kV #[(.str "self" 809),(.str "thing" 810)]) (.node (kF "lines_over" "lines_over" (top 48) "countkin.cuts" 1093 757) .nil .nil) (.node (kC "missing" "missing" 1443 538 2 (.ref 1011) (.ref 1012) .none .none .none (.ref 1013) 1446) .nil .nil)))))) (.node kW (.node ⟨(.type "getset_descriptor"),none,(.fields #[(.str "__weakref__" 231),(.ref 45),(.builtin "ExceptionGroup.__weakref__"),.none]),#[]⟩ (.node ⟨(.type "code"),none,(.fields #[(.str "NoFamily" 270),(.str "NoFamily" 271),(.str "/claim/cut.py" 272),(.int 23 0),(.int 0 0),(.int 0 0),(.int 0 0),(.int 0 0),(.ref 76),(.bool false),(.int 181 0),(.ref 77),.none,.none,.none,.none,(.int 273 0),(.int 23 0),(.str "/claim/cut.py" 274)]),#[]⟩ (.node (kC "is_one" "Family.is_one" 356 42 2 (.ref 137) (.ref 138) .none (.ref 139) (.ref 140) (.ref 141) 361) (.node kU (.node (kV #[(.str "self" 836),(.str "left" 837),(.str "right" 838),(.str "third" 839),(.str "last" 840),(.str "cuts" 841)]) (.node kW .nil .nil) .nil) (.node (kG "size_of" "Trees.size_of" (inClass (top 51) 1)) .nil .nil)) (.node kU (.node kU .nil .nil) (.node kW .nil .nil))) (.node (kB "object.__init_subclass__" 202) (.node kU (.node kU .nil .nil) (.node (kF "size_of" "Bows.size_of" (inClass (top 56) 1) "countkin.bends" 1216 845) .nil .nil)) (.node (kV #[(.str "rows" 755),(.str "found" 756),(.str "row" 757)]) (.node (kF "parted" "Twins.parted" (inClass (top 43) 4) "countkin.twigs" 1025 717) .nil .nil) (.node kU .nil .nil)))) (.node (kF "__init__" "Broken.__init__" (inClass (top 11) 0) "countkin.errors" 216 109) (.node (kV #[(.str "self" 400),(.str "thing" 401)]) (.node ⟨(.type "frame"),none,.plain,#[(some (.ref 301)),(some (.ref 3)),(some (.ref 298)),none,(some (.str "countkin.ring" 553)),none,(some (.ref 0))]⟩ (.node kU .nil .nil) (.node (kV #[(.str "thing" 1205)]) .nil .nil)) (.node (kF "of_code" "Cars.of_code" (inClass (top 21) 4) "countkin.cars" 673 429) (.node (kV #[(.str "self" 1042)]) .nil .nil) (.node (kF "__init__" "Turns.__init__" (inClass (top 60) 0) "countkin.rows" 1343 941) .nil .nil))) (.node kU (.node (kV #[(.str "self" 642),(.str "thing" 643)]) (.node ⟨(.type "frame"),none,.plain,#[(some (.ref 621)),(some (.ref 3)),(some (.ref 618)),none,(some (.str "countkin.signs" 875)),none,(some (.ref 0))]⟩ .nil .nil) (.node (kV #[(.ref 279)]) .nil .nil)) (.node kW (.node (kC "twins_to_floor" "twins_to_floor" 1115 363 1 (.ref 745) (.ref 746) .none (.ref 747) (.ref 748) (.ref 749) 1121) .nil .nil) (.node (kV #[(.str "word" 1436),(.str "family" 1437)]) .nil .nil))))) (.node ⟨(.type "builtin_function_or_method"),none,(.fields #[(.builtin "type.__prepare__"),(.type "type")]),#[]⟩ (.node ⟨(.type "type"),none,(.cls ⟨"NoWay",[(.ref 45)],[(.ref 94),(.ref 45),(.type "ValueError"),(.type "Exception"),(.type "BaseException"),(.type "object")],93,"NoWay",true,[],[],false,none,false⟩),#[(some (.ref 85)),none,(some (.str "NoWay" 284)),(some (.str "NoWay" 292)),(some (.builtin "ValueError.__new__")),(some (.bool true))]⟩ (.node kU (.node (kG "by_parts" "by_parts" (top 15)) (.node (kF "may_be_cut" "may_be_cut" (top 33) "countkin.floors" 785 541) (.node kU .nil .nil) .nil) (.node (kC "of_code" "Trees.of_code" 1182 413 2 (.ref 795) (.ref 796) .none .none .none (.ref 797) 1185) .nil .nil)) (.node (kC "size_of" "Cars.size_of" 694 152 2 (.ref 409) (.ref 410) .none (.ref 411) (.ref 412) (.ref 413) 699) (.node kU .nil .nil) (.node (kG "neighbours" "neighbours" (top 58)) .nil .nil))) (.node kW (.node (kV #[(.ref 347)]) (.node ⟨(.type "type"),none,(.cls ⟨"Brackets",[(.ref 279)],[(.ref 606),(.ref 279),(.ref 202),(.type "object")],605,"Brackets",true,[],[],false,none,false⟩),#[(some (.ref 555)),none,(some (.str "Brackets" 877)),(some (.str "Brackets" 885)),(some (.builtin "object.__new__")),(some (.bool true))]⟩ .nil .nil) (.node kU .nil .nil)) (.node (kG "any_cross" "any_cross" (top 29)) (.node kU .nil .nil) (.node kU .nil .nil)))) (.node kU (.node (kG "thing_of" "Family.thing_of" (inClass (top 13) 9)) (.node kW (.node (kC "size_of" "Brackets.size_of" 896 257 2 (.ref 569) (.ref 570) .none (.ref 571) (.ref 572) (.ref 573) 901) .nil .nil) (.node ⟨.none,none,(.fields #[(.int 437 0),(.int 4 0),(.ref 838),(.int 440 0),(.int 4 0),(.ref 845),(.int 443 0),(.int 4 0),(.ref 850),(.int 448 0),(.int 4 0),(.ref 857),(.int 451 0),(.int 4 0),(.ref 864),(.int 457 0),(.int 4 0),(.ref 871)]),#[]⟩ .nil .nil)) (.node kU (.node (kG "is_one" "Twins.is_one" (inClass (top 43) 2)) .nil .nil) (.node kW .nil .nil))) (.node (kC "unchecked_number" "SplitFamily.unchecked_number" 492 88 2 (.ref 249) (.ref 250) .none (.ref 251) (.ref 252) (.ref 253) 497) (.node (kF "code_of" "Codes.code_of" (inClass (top 19) 3) "countkin.ring" 553 381) (.node kW .nil .nil) (.node (kG "size_of" "Rooms.size_of" (inClass (top 57) 1)) .nil .nil)) (.node (kC "is_one" "Floors.is_one" 814 207 2 (.ref 507) (.ref 508) .none .none .none (.ref 509) 817) (.node ⟨(.type "dict"),none,(.dict #[kD P "__module__" 1150 (.str "countkin.elders" 1141),kD P "__qualname__" 1152 (.str "Trees" 1151),kD P "__firstlineno__" 1154 (.int 389 1153),kD P "__init__" 1161 (.ref 777),kD P "size_of" 1169 (.ref 784),kD P "is_one" 1175 (.ref 789),kD P "code_of" 1181 (.ref 794),kD P "of_code" 1187 (.ref 799),kD P "__static_attributes__" 1188 (.ref 800)] 9),#[]⟩ .nil .nil) (.node (kF "trees_leaves" "trees_leaves" (top 68) "countkin.ringmarks" 1441 1021) .nil .nil))))))))))
noncomputable def hS2 (w:FU) (os:HG):SharedT:=⟨hTree2 w.params,1065,({}:Life),Array.mk [],⟨0,0,0,0⟩,1500,os⟩
noncomputable def hMidF (w:FU) (os:HG):=segRunT treeTable PySem.Challenge.pw_countkin_k54_chains_looked_at w 11 (some (.ref 6)) 1 8085 (hS w os) (piecesOf (hB.take 76) hE hC ⟨0,0,0,0⟩ [topFrame ⟨0,0,0,0⟩])
noncomputable def hMidG (w:FU) (os:HG):Option (Flow × SharedT × Code × Pos):=some (.next,hS2 w os,hC,⟨553,0,554,28⟩)
noncomputable def hRunF (w:FU) (os:HG):=(segRunT treeTable PySem.Challenge.pw_countkin_k54_chains_looked_at w 11 (some (.ref 6)) 1 2573 (hS2 w os) (piecesOf (hB.drop 76) hE hC ⟨553,0,554,28⟩ [topFrame ⟨0,0,0,0⟩])).map (oQ treeTable PySem.Challenge.pw_countkin_k54_chains_looked_at w 11 (some (.ref 6)) ⟨0,0,0,0⟩ hC 2 (hLook w.params))
noncomputable def hRunG (w:FU) (_:HG):=some (Flow.next,hC,some (true,openGood hQ hL,(hKalls w.params).map fun p=>some p.2))
noncomputable def hSizF (w:FU):=((JG w.params).isNs mainGlobals&&(Array.mk []:Array JR).size == 0,(JG w.params).objs.size,(JG w.params).nsMap mainGlobals "__annotations__")
noncomputable def hSizG (_:FU):Bool × Nat × Option AC:=(true,11,(some (.ref 6)))
noncomputable def hRTF (w:FU) (os:HG):=hRunF (w.withFollow "special-get-raises" true) os
noncomputable def hRTG (w:FU) (os:HG):=hRunG (w.withFollow "special-get-raises" true) os
noncomputable def hRXF (w:FU) (os:HG):=hRunF (w.withFollow "special-get-raises" false) os
noncomputable def hRXG (w:FU) (os:HG):=hRunG (w.withFollow "special-get-raises" false) os
theorem hSeed:(fun _ _ _ _ _ _ _ _ _ _ _ _=>true) hPreF hPreG hBlkF hBlkG hRTF hRTG hRXF hRXG hSizF hSizG hMidF hMidG=true:=by k_qdec
theorem hPre:hPreF=hPreG:=Il PySem.W.Fast.te5317814654954331368 (Il (by kernel_rfl) (Eq.symm PySem.W.Fast.te14277440360295502494))
theorem hBlk:hBlkF=hBlkG:=Il PySem.W.Fast.te2033988648308832629 (Il (by kernel_rfl) (Eq.symm PySem.W.Fast.te1798457917166677164))
theorem hMid:hMidF=hMidG:=Il PySem.W.Fast.te3840733706415240168 (Il (by kernel_rfl) (Eq.symm PySem.W.Fast.te18240272836940206031))
theorem hRunT:hRTF=hRTG:=Il PySem.W.Fast.te8891643406707985557 (Il (by kernel_rfl) (Eq.symm PySem.W.Fast.te7486163486653491899))
theorem hRunX:hRXF=hRXG:=Il PySem.W.Fast.te17394655931934810730 (Il (by kernel_rfl) (Eq.symm PySem.W.Fast.te5922984737246698765))
theorem hRun:hRunF=hRunG:=by
 funext w os
 have s:=World.withFollow_self w "special-get-raises"
 cases e:w.params.followText "special-get-raises" with
 | true=>rw [e] at s; rw [<- s]; exact congrFun (congrFun hRunT w) os
 | false=>rw [e] at s; rw [<- s]; exact congrFun (congrFun hRunX w) os
theorem hSiz:hSizF=hSizG:=Il PySem.W.Fast.te13693962943478796877 (by kernel_rfl)
theorem hLeft:LeftO PySem.Challenge.pw_countkin_k54_chains_looked_at hQ hL hX (Hook.obs hH) (Hook.val hH) 21438 :=
 vS (boot_open (by kernel_rfl) (by decide) (fun _=>by kernel_rfl)) (fun w=>congrFun hSiz w)
  (fun w os=>by
   obtain ⟨e,r,l⟩:=Ah (b:=hB) (env:=hE) (L:=hLook w.params) rfl (congrFun (congrFun hPre w) os) (congrFun (congrFun hBlk w) os) (congrFun (congrFun hMid w) os) (congrFun (congrFun hRun w) os)
   exact ⟨e,r,(congrArg (fun z=>(_,_,z)) (z5 hAM e.heap)).trans l⟩) (by decide)
end Ck
open PySem PySem.W PyProof.Rows
set_option maxRecDepth 100000 in
set_option maxHeartbeats 0 in
theorem PySem.Challenge.cw_countkin_k54_chains_looked_at_holds : PySem.Challenge.rw_countkin_k54_chains_looked_at.Holds := by
 w_on; o_law
 refine holds_open (q:=Ck.hQ) (loose:=Ck.hL) (Xt:=Ck.hX) (XP:=XL Ck.hQ []) (Yf:=Hook.obs (kHook Ck.hKall Ck.hA Ck.hKA)) (Ya:=Hook.val (kHook Ck.hKall Ck.hA Ck.hKA)) (YP:=Hook.says (kHook Ck.hKall Ck.hA Ck.hKA)) (N:=21438) Ck.hLeft (Hook.of (kHook Ck.hKall Ck.hA Ck.hKA)) (Hook.keeps (kHook Ck.hKall Ck.hA Ck.hKA))
  (fun s e=>xl_of s (GF.mp e).1) XL.keeps (by rfl) (by rfl) (by rfl) (fun s e=>recFacts_of (GF.mp e).2) (by rfl) (by first | assumption | decide +kernel) (by decide +kernel) ⟨rfl,rfl,rfl,rfl,rfl,by decide +kernel⟩ ?hw ?hc
 case hw=>w_witness2
 refine Ck.walk (l:=PySem.Challenge.rw_countkin_k54_chains_looked_at) (K:=Ck.hK) (c:=1418) (T:=1414) (c2:=1484) (T2:=1482) (D:=1391) (oD:=Ck.hD) rfl rfl ?hY (fun w=>by kernel_rfl) (fun w=>by kernel_rfl) (by decide) (fun w=>by kernel_rfl) ?okD (by decide) (by decide) (by decide) ?F
 case F =>
  k_fill
  intro w mg fa h KX G hmg
  refine' Ck.all_mk KX G hmg ?iY ?j7 ?mW ?pS ?mQ ?kq ?ng ?gK ?ki ?mR ?m9 ?oC ?hJ ?vp ?wt ?mT ?AL ?ja ?kM ?m5 ?pW ?nc ?kN ?mX ?m8 ?nj ?pP ?cS ?cR ?cT ?fb ?fj ?fc ?dc ?cU ?cY ?a1 ?l1 ?c1 ?k1 ?a2 ?l2 ?c2 ?k2 ?a3 ?l3 ?c3 ?k3 ?a4 ?l4 ?c4 ?k4 ?a5 ?l5 ?c5 ?k5 ?a6 ?l6 ?c6 ?k6 ?l7 ?c7 ?k7 ?i7 ?a8 ?l8 ?c8 ?k8 ?l9 ?c9 ?k9 ?i9 ?l10 ?c10 ?k10 ?i10 ?l11 ?c11 ?k11 ?i11 ?l12 ?c12 ?k12 ?i12 ?l13 ?c13 ?k13 ?i13 ?l14 ?c14 ?k14 ?i14 ?l15 ?c15 ?k15 ?i15 ?l16 ?c16 ?k16 ?i16 ?l17 ?c17 ?k17 ?i17 ?a18 ?l18 ?c18 ?k18 ?a19 ?l19 ?c19 ?k19 ?a20 ?l20 ?c20 ?k20 ?a21 ?l21 ?c21 ?k21 ?a22 ?l22 ?c22 ?k22 ?a23 ?l23 ?c23 ?k23 ?a24 ?l24 ?c24 ?k24 ?a25 ?l25 ?c25 ?k25 ?a26 ?l26 ?c26 ?k26 ?a27 ?l27 ?c27 ?k27 ?a28 ?l28 ?c28 ?k28 ?a29 ?l29 ?c29 ?k29 ?a30 ?l30 ?c30 ?k30 ?a31 ?l31 ?c31 ?k31 ?l32 ?c32 ?k32 ?i32 ?l33 ?c33 ?k33 ?i33 ?l34 ?c34 ?k34 ?i34 ?l35 ?c35 ?k35 ?i35 ?a36 ?l36 ?c36 ?k36 ?a37 ?l37 ?c37 ?k37 ?a38 ?l38 ?c38 ?k38 ?a39 ?l39 ?c39 ?k39 ?a40 ?l40 ?c40 ?k40 ?a41 ?l41 ?c41 ?k41 ?a42 ?l42 ?c42 ?k42 ?a43 ?l43 ?c43 ?k43 ?a44 ?l44 ?c44 ?k44 ?a45 ?l45 ?c45 ?k45 ?a46 ?l46 ?c46 ?k46 ?a47 ?l47 ?c47 ?k47 ?a48 ?l48 ?c48 ?k48 ?a49 ?l49 ?c49 ?k49 ?pg_Brackets ?hd_Brackets ?po_Brackets ?sa_Brackets ?pg_Stairs ?hd_Stairs ?po_Stairs ?sa_Stairs ?pg_Twins ?hd_Twins ?po_Twins ?sa_Twins ?pg_Bows ?hd_Bows ?po_Bows ?sa_Bows ?pg_Rooms ?hd_Rooms ?po_Rooms ?sa_Rooms ?pg_Floors ?hd_Floors ?po_Floors ?sa_Floors ?pg_Turns ?hd_Turns ?po_Turns ?sa_Turns ?pg_Codes ?hd_Codes ?po_Codes ?sa_Codes ?pg_Trees ?hd_Trees ?po_Trees ?sa_Trees ?pg_Cars ?hd_Cars ?po_Cars ?sa_Cars ?mk_Brackets ?kc_Brackets ?mk_Stairs ?kc_Stairs ?mk_Twins ?kc_Twins ?mk_Bows ?kc_Bows ?mk_Rooms ?kc_Rooms ?mk_Floors ?kc_Floors ?mk_Turns ?kc_Turns ?mk_Codes ?kc_Codes ?mk_Trees ?kc_Trees ?mk_Cars ?kc_Cars ?bG ?bQ ?cm ?cC ?cg ?bR ?bZ ?cP ?dJ ?eK ?fo ?dX ?dI ?eM ?cL ?cK ?dk ?eR ?d9 ?fE ?nf_code_to_cars ?nf_cars_to_code ?nf_cars_to_tree ?nf_tree_to_cars ?nf_code_to_tree ?nf_tree_to_code ?nf_floor_to_twins ?nf_twins_to_floor ?nf_turns_to_brackets ?nf_brackets_to_turns ?nf_rooms_to_brackets ?nf_brackets_to_rooms ?nf_bows_to_brackets ?nf_brackets_to_bows ?nf_twins_to_brackets ?nf_brackets_to_twins ?nf_stairs_to_brackets ?nf_brackets_to_stairs ?nf_gapsback ?nf_gaps ?nf_feet_to_rooms ?nf_rooms_to_feet ?nf_floor_turnback ?nf_floor_turn ?nf_bows_turnback ?nf_bows_turn ?nf_turns_mirror ?nf_floor_mirror ?nf_twins_mirror ?nf_bows_mirror ?nf_brackets_mirror ?nf_cars_rootage ?nf_cars_leaves ?nf_trees_rootage ?nf_trees_leaves ?nf_codes_rootage ?nf_codes_leaves ?nf_turns_height ?nf_turns_returns ?nf_turns_peaks ?nf_floor_returns ?nf_floor_peaks ?nf_rooms_returns ?nf_rooms_peaks ?nf_bows_height ?nf_bows_returns ?nf_bows_peaks ?nf_twins_height ?nf_twins_returns ?nf_twins_peaks ?nf_stairs_height ?nf_stairs_returns ?nf_stairs_peaks ?nf_brackets_height ?nf_brackets_returns ?nf_brackets_peaks ?lcC ?tC ?nC ?lcC2 ?tC2 ?nC2 ?nB ?lB ?neB ?nDD ?nM_MARKS_ORDER ?lM_MARKS_ORDER ?z_range ?z_len ?z_enumerate ?z_reversed ?z_list ?z_all ?z_isinstance ?z_int ?z_bool ?z_ValueError ?z_str ?t_err ?tG
  (case iY=>k_is)
  (case j7=>k_is)
  (case mW=>k_is)
  (case pS=>k_is)
  (case mQ=>k_is)
  (case kq=>k_is)
  (case ng=>k_is)
  (case gK=>k_is)
  (case ki=>k_is)
  (case mR=>k_is)
  (case m9=>k_is)
  (case oC=>k_is)
  (case hJ=>k_is)
  (case vp=>k_is)
  (case wt=>k_is)
  (case mT=>k_is)
  (case AL=>k_is)
  (case ja=>k_is)
  (case kM=>k_is)
  (case m5=>k_is)
  (case pW=>k_is)
  (case nc=>k_is)
  (case kN=>k_is)
  (case mX=>k_is)
  (case m8=>k_is)
  (case nj=>k_is)
  (case pP=>k_is)
  (case cS=>k_is)
  (case cR=>k_is)
  (case cT=>k_is)
  (case fb=>k_is)
  (case fj=>k_is)
  (case fc=>k_is)
  (case dc=>k_is)
  (case cU=>k_is)
  (case cY=>k_is)
  (case a1=>k_is)
  (case l1=>k_is)
  (case c1=>k_is)
  (case k1=>k_is)
  (case a2=>k_is)
  (case l2=>k_is)
  (case c2=>k_is)
  (case k2=>k_is)
  (case a3=>k_is)
  (case l3=>k_is)
  (case c3=>k_is)
  (case k3=>k_is)
  (case a4=>k_is)
  (case l4=>k_is)
  (case c4=>k_is)
  (case k4=>k_is)
  (case a5=>k_is)
  (case l5=>k_is)
  (case c5=>k_is)
  (case k5=>k_is)
  (case a6=>k_is)
  (case l6=>k_is)
  (case c6=>k_is)
  (case k6=>k_is)
  (case l7=>k_is)
  (case c7=>k_is)
  (case k7=>k_is)
  (case i7=>k_is)
  (case a8=>k_is)
  (case l8=>k_is)
  (case c8=>k_is)
  (case k8=>k_is)
  (case l9=>k_is)
  (case c9=>k_is)
  (case k9=>k_is)
  (case i9=>k_is)
  (case l10=>k_is)
  (case c10=>k_is)
  (case k10=>k_is)
  (case i10=>k_is)
  (case l11=>k_is)
  (case c11=>k_is)
  (case k11=>k_is)
  (case i11=>k_is)
  (case l12=>k_is)
  (case c12=>k_is)
  (case k12=>k_is)
  (case i12=>k_is)
  (case l13=>k_is)
  (case c13=>k_is)
  (case k13=>k_is)
  (case i13=>k_is)
  (case l14=>k_is)
  (case c14=>k_is)
  (case k14=>k_is)
  (case i14=>k_is)
  (case l15=>k_is)
  (case c15=>k_is)
  (case k15=>k_is)
  (case i15=>k_is)
  (case l16=>k_is)
  (case c16=>k_is)
  (case k16=>k_is)
  (case i16=>k_is)
  (case l17=>k_is)
  (case c17=>k_is)
  (case k17=>k_is)
  (case i17=>k_is)
  (case a18=>k_is)
  (case l18=>k_is)
  (case c18=>k_is)
  (case k18=>k_is)
  (case a19=>k_is)
  (case l19=>k_is)
  (case c19=>k_is)
  (case k19=>k_is)
  (case a20=>k_is)
  (case l20=>k_is)
  (case c20=>k_is)
  (case k20=>k_is)
  (case a21=>k_is)
  (case l21=>k_is)
  (case c21=>k_is)
  (case k21=>k_is)
  (case a22=>k_is)
  (case l22=>k_is)
  (case c22=>k_is)
  (case k22=>k_is)
  (case a23=>k_is)
  (case l23=>k_is)
  (case c23=>k_is)
  (case k23=>k_is)
  (case a24=>k_is)
  (case l24=>k_is)
  (case c24=>k_is)
  (case k24=>k_is)
  (case a25=>k_is)
  (case l25=>k_is)
  (case c25=>k_is)
  (case k25=>k_is)
  (case a26=>k_is)
  (case l26=>k_is)
  (case c26=>k_is)
  (case k26=>k_is)
  (case a27=>k_is)
  (case l27=>k_is)
  (case c27=>k_is)
  (case k27=>k_is)
  (case a28=>k_is)
  (case l28=>k_is)
  (case c28=>k_is)
  (case k28=>k_is)
  (case a29=>k_is)
  (case l29=>k_is)
  (case c29=>k_is)
  (case k29=>k_is)
  (case a30=>k_is)
  (case l30=>k_is)
  (case c30=>k_is)
  (case k30=>k_is)
  (case a31=>k_is)
  (case l31=>k_is)
  (case c31=>k_is)
  (case k31=>k_is)
  (case l32=>k_is)
  (case c32=>k_is)
  (case k32=>k_is)
  (case i32=>k_is)
  (case l33=>k_is)
  (case c33=>k_is)
  (case k33=>k_is)
  (case i33=>k_is)
  (case l34=>k_is)
  (case c34=>k_is)
  (case k34=>k_is)
  (case i34=>k_is)
  (case l35=>k_is)
  (case c35=>k_is)
  (case k35=>k_is)
  (case i35=>k_is)
  (case a36=>k_is)
  (case l36=>k_is)
  (case c36=>k_is)
  (case k36=>k_is)
  (case a37=>k_is)
  (case l37=>k_is)
  (case c37=>k_is)
  (case k37=>k_is)
  (case a38=>k_is)
  (case l38=>k_is)
  (case c38=>k_is)
  (case k38=>k_is)
  (case a39=>k_is)
  (case l39=>k_is)
  (case c39=>k_is)
  (case k39=>k_is)
  (case a40=>k_is)
  (case l40=>k_is)
  (case c40=>k_is)
  (case k40=>k_is)
  (case a41=>k_is)
  (case l41=>k_is)
  (case c41=>k_is)
  (case k41=>k_is)
  (case a42=>k_is)
  (case l42=>k_is)
  (case c42=>k_is)
  (case k42=>k_is)
  (case a43=>k_is)
  (case l43=>k_is)
  (case c43=>k_is)
  (case k43=>k_is)
  (case a44=>k_is)
  (case l44=>k_is)
  (case c44=>k_is)
  (case k44=>k_is)
  (case a45=>k_is)
  (case l45=>k_is)
  (case c45=>k_is)
  (case k45=>k_is)
  (case a46=>k_is)
  (case l46=>k_is)
  (case c46=>k_is)
  (case k46=>k_is)
  (case a47=>k_is)
  (case l47=>k_is)
  (case c47=>k_is)
  (case k47=>k_is)
  (case a48=>k_is)
  (case l48=>k_is)
  (case c48=>k_is)
  (case k48=>k_is)
  (case a49=>k_is)
  (case l49=>k_is)
  (case c49=>k_is)
  (case k49=>k_is)
  (case pg_Brackets=>k_is)
  (case hd_Brackets=>k_is)
  (case po_Brackets=>k_is)
  (case sa_Brackets=>k_is)
  (case pg_Stairs=>k_is)
  (case hd_Stairs=>k_is)
  (case po_Stairs=>k_is)
  (case sa_Stairs=>k_is)
  (case pg_Twins=>k_is)
  (case hd_Twins=>k_is)
  (case po_Twins=>k_is)
  (case sa_Twins=>k_is)
  (case pg_Bows=>k_is)
  (case hd_Bows=>k_is)
  (case po_Bows=>k_is)
  (case sa_Bows=>k_is)
  (case pg_Rooms=>k_is)
  (case hd_Rooms=>k_is)
  (case po_Rooms=>k_is)
  (case sa_Rooms=>k_is)
  (case pg_Floors=>k_is)
  (case hd_Floors=>k_is)
  (case po_Floors=>k_is)
  (case sa_Floors=>k_is)
  (case pg_Turns=>k_is)
  (case hd_Turns=>k_is)
  (case po_Turns=>k_is)
  (case sa_Turns=>k_is)
  (case pg_Codes=>k_is)
  (case hd_Codes=>k_is)
  (case po_Codes=>k_is)
  (case sa_Codes=>k_is)
  (case pg_Trees=>k_is)
  (case hd_Trees=>k_is)
  (case po_Trees=>k_is)
  (case sa_Trees=>k_is)
  (case pg_Cars=>k_is)
  (case hd_Cars=>k_is)
  (case po_Cars=>k_is)
  (case sa_Cars=>k_is)
  (case mk_Brackets=>k_is)
  (case kc_Brackets=>k_is)
  (case mk_Stairs=>k_is)
  (case kc_Stairs=>k_is)
  (case mk_Twins=>k_is)
  (case kc_Twins=>k_is)
  (case mk_Bows=>k_is)
  (case kc_Bows=>k_is)
  (case mk_Rooms=>k_is)
  (case kc_Rooms=>k_is)
  (case mk_Floors=>k_is)
  (case kc_Floors=>k_is)
  (case mk_Turns=>k_is)
  (case kc_Turns=>k_is)
  (case mk_Codes=>k_is)
  (case kc_Codes=>k_is)
  (case mk_Trees=>k_is)
  (case kc_Trees=>k_is)
  (case mk_Cars=>k_is)
  (case kc_Cars=>k_is)
  (case bG=>k_is)
  (case bQ=>k_is)
  (case cm=>k_is)
  (case cC=>k_is)
  (case cg=>k_is)
  (case bR=>k_is)
  (case bZ=>k_is)
  (case cP=>k_is)
  (case dJ=>k_is)
  (case eK=>k_is)
  (case fo=>k_is)
  (case dX=>k_is)
  (case dI=>k_is)
  (case eM=>k_is)
  (case cL=>k_is)
  (case cK=>k_is)
  (case dk=>k_is)
  (case eR=>k_is)
  (case d9=>k_is)
  (case fE=>k_is)
  (case nf_code_to_cars=>k_is)
  (case nf_cars_to_code=>k_is)
  (case nf_cars_to_tree=>k_is)
  (case nf_tree_to_cars=>k_is)
  (case nf_code_to_tree=>k_is)
  (case nf_tree_to_code=>k_is)
  (case nf_floor_to_twins=>k_is)
  (case nf_twins_to_floor=>k_is)
  (case nf_turns_to_brackets=>k_is)
  (case nf_brackets_to_turns=>k_is)
  (case nf_rooms_to_brackets=>k_is)
  (case nf_brackets_to_rooms=>k_is)
  (case nf_bows_to_brackets=>k_is)
  (case nf_brackets_to_bows=>k_is)
  (case nf_twins_to_brackets=>k_is)
  (case nf_brackets_to_twins=>k_is)
  (case nf_stairs_to_brackets=>k_is)
  (case nf_brackets_to_stairs=>k_is)
  (case nf_gapsback=>k_is)
  (case nf_gaps=>k_is)
  (case nf_feet_to_rooms=>k_is)
  (case nf_rooms_to_feet=>k_is)
  (case nf_floor_turnback=>k_is)
  (case nf_floor_turn=>k_is)
  (case nf_bows_turnback=>k_is)
  (case nf_bows_turn=>k_is)
  (case nf_turns_mirror=>k_is)
  (case nf_floor_mirror=>k_is)
  (case nf_twins_mirror=>k_is)
  (case nf_bows_mirror=>k_is)
  (case nf_brackets_mirror=>k_is)
  (case nf_cars_rootage=>k_is)
  (case nf_cars_leaves=>k_is)
  (case nf_trees_rootage=>k_is)
  (case nf_trees_leaves=>k_is)
  (case nf_codes_rootage=>k_is)
  (case nf_codes_leaves=>k_is)
  (case nf_turns_height=>k_is)
  (case nf_turns_returns=>k_is)
  (case nf_turns_peaks=>k_is)
  (case nf_floor_returns=>k_is)
  (case nf_floor_peaks=>k_is)
  (case nf_rooms_returns=>k_is)
  (case nf_rooms_peaks=>k_is)
  (case nf_bows_height=>k_is)
  (case nf_bows_returns=>k_is)
  (case nf_bows_peaks=>k_is)
  (case nf_twins_height=>k_is)
  (case nf_twins_returns=>k_is)
  (case nf_twins_peaks=>k_is)
  (case nf_stairs_height=>k_is)
  (case nf_stairs_returns=>k_is)
  (case nf_stairs_peaks=>k_is)
  (case nf_brackets_height=>k_is)
  (case nf_brackets_returns=>k_is)
  (case nf_brackets_peaks=>k_is)
  (case lcC=>k_is)
  (case tC=>exact rfl)
  (case nC=>decide)
  (case lcC2=>k_is)
  (case tC2=>exact rfl)
  (case nC2=>decide)
  (case nB=>k_is)
  (case lB=>k_is)
  (case neB=>decide)
  (case nDD=>k_is)
  (case nM_MARKS_ORDER=>k_is)
  (case lM_MARKS_ORDER=>k_is)
  (case z_range=>k_is)
  (case z_len=>k_is)
  (case z_enumerate=>k_is)
  (case z_reversed=>k_is)
  (case z_list=>k_is)
  (case z_all=>k_is)
  (case z_isinstance=>k_is)
  (case z_int=>k_is)
  (case z_bool=>k_is)
  (case z_ValueError=>k_is)
  (case z_str=>k_is)
  (case t_err=>kernel_rfl)
  (case tG=>kernel_rfl)
 case hY =>
  intro w h Y
  have X:=W.kIn_of Y
  obtain ⟨a1,a2,a3,a4⟩:=L2.in_three (A:=(Ck.hK w.params).take 83) (B:=((Ck.hK w.params).drop 83).take 6) (C:=(((Ck.hK w.params).drop 83).drop 6).take 20) (D:=(((Ck.hK w.params).drop 83).drop 6).drop 20) X (by kernel_rfl) (by kernel_rfl) (by kernel_rfl) (by decide) (by decide) (by decide)
  rw [GM,GM,GM] at a1
  refine' ⟨a1,(L2.codeHd_of (K:=Ck.hK w.params) ?lk ?tk ?nk h a1).tab a3,(L2.codeHd_of (K:=Ck.hK w.params) ?lk2 ?tk2 ?nk2 h a1).tab a4,a2⟩
  (case lk=>k_is)
  (case tk=>exact rfl)
  (case nk=>decide)
  (case lk2=>k_is)
  (case tk2=>exact rfl)
  (case nk2=>decide)
 case okD =>
  intro w h H e
  exact L2.dict_ok [("turn",1905,"turnback",1906),("turnback",1907,"turn",1908),("gaps",1909,"gapsback",1910),("gapsback",1911,"gaps",1912)] e (by decide +kernel) (by decide) (by decide)
